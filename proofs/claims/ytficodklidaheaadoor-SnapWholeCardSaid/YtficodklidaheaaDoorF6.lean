/- package frame, layer 4: Scan. -/
import Derived.Test.YtficodklidaheaaDoorF5
import Derived.ScopeJumps
import Derived.WalkMore
namespace Go.Proofs.YtficodklidaheaaDoor
open Go.RowKit
attribute [local go_sem ↓] Go.wp_at_zero Go.wp_at_succ

theorem infoRow : (Tryd.prog.info? 22).map (fun i => (i.zero, i.size, i.bytes)) = some (some (.slice none 0 0), 1, 24) := by kernel_rfl

/-- The payloads, how many bytes they take with their frames, and the error, that stand in bytes. -/
inductive ScanR : List Nat → List (List Nat) → Nat → Nat → Prop
  | done : ScanR [] [] 0 0
  | bad (l : List Nat) (h : l ≠ []) (he : firstE l ≠ 0) : ScanR l [] 0 (firstE l)
  | more (l : List Nat) (Ls : List (List Nat)) (u e : Nat) (h : firstE l = 0) (hr : ScanR (l.drop (9 + sizeL l)) Ls u e) : ScanR l (payL l :: Ls) (9 + sizeL l + u) e

theorem firstE_nil : firstE [] = 2 := by decide
theorem firstE_size (l : List Nat) (h : firstE l = 0) : 9 + sizeL l ≤ l.length := by
  unfold firstE at h
  by_cases h0 : l.length = 0
  · rw [if_pos h0] at h; omega
  by_cases h1 : l.getD 0 0 ≠ 165
  · rw [if_neg h0, if_pos h1] at h; omega
  by_cases h2 : l.length < 9
  · rw [if_neg h0, if_neg h1, if_pos h2] at h; omega
  by_cases h3 : 65536 < sizeL l
  · rw [if_neg h0, if_neg h1, if_neg h2, if_pos h3] at h; omega
  by_cases h4 : l.length < 9 + sizeL l
  · rw [if_neg h0, if_neg h1, if_neg h2, if_neg h3, if_pos h4] at h; omega
  omega
theorem ScanR.fn {l : List Nat} {L1 L2 : List (List Nat)} {u1 u2 e1 e2 : Nat} (h1 : ScanR l L1 u1 e1) (h2 : ScanR l L2 u2 e2) : L1 = L2 ∧ u1 = u2 ∧ e1 = e2 := by
  induction h1 generalizing L2 u2 e2 with
  | done =>
    cases h2 with
    | done => exact ⟨rfl, rfl, rfl⟩
    | bad _ h => exact absurd rfl h
    | more _ _ _ _ h => rw [firstE_nil] at h; cases h
  | bad l h he =>
    cases h2 with
    | done => exact absurd rfl h
    | bad => exact ⟨rfl, rfl, rfl⟩
    | more _ _ _ _ h2 => exact absurd h2 he
  | more l Ls u e h hr ih =>
    cases h2 with
    | done => rw [firstE_nil] at h; cases h
    | bad _ _ he => exact absurd h he
    | more _ _ _ _ _ hr2 => obtain ⟨rfl, rfl, rfl⟩ := ih hr2; exact ⟨rfl, rfl, rfl⟩

/-- A new row of bytes, in a block from B on. -/
def Own8 (w : World) (B : Nat) (v : Value) (l : List Nat) : Prop := w.ownsRow B 5 1 v l.length (b8 l)
theorem Own8.keptRow {S : Nat → Prop} {w w' : World} {B : Nat} {v : Value} {l : List Nat} (h : Own8 w B v l) (hk : Kept S w w') (hS : ∀ k cur, B ≤ k → w.heap[k]? = some (.cells cur 5 (0, 0)) → ¬ S k) : Own8 w' B v l :=
  hk.owns h fun k e => by obtain ⟨cur, hc⟩ := ownsRow_block h e; exact hS k cur (ownsRow_lt h e).2 hc
/-- Rows of bytes, one by one. -/
inductive Rows8 (w : World) (B : Nat) : List Value → List (List Nat) → Prop
  | nil : Rows8 w B [] []
  | cons (v : Value) (vs : List Value) (l : List Nat) (Ls : List (List Nat)) (h : Own8 w B v l) (hr : Rows8 w B vs Ls) : Rows8 w B (v :: vs) (l :: Ls)
theorem Rows8.keptRow {S : Nat → Prop} {w w' : World} {B : Nat} {vs : List Value} {Ls : List (List Nat)} (h : Rows8 w B vs Ls) (hk : Kept S w w') (hS : ∀ k cur, B ≤ k → w.heap[k]? = some (.cells cur 5 (0, 0)) → ¬ S k) : Rows8 w' B vs Ls := by
  induction h with
  | nil => exact .nil
  | cons v vs l Ls h hr ih => exact .cons _ _ _ _ (h.keptRow hk hS) ih
theorem Rows8.kept {w w' : World} {B : Nat} {vs : List Value} {Ls : List (List Nat)} (h : Rows8 w B vs Ls) (hk : Kept (fun _ => False) w w') : Rows8 w' B vs Ls := h.keptRow hk (fun _ _ _ _ x => x)
theorem Rows8.snoc {w : World} {B : Nat} {vs : List Value} {Ls : List (List Nat)} (h : Rows8 w B vs Ls) {v : Value} {l : List Nat} (hv : Own8 w B v l) : Rows8 w B (vs ++ [v]) (Ls ++ [l]) := by
  induction h with
  | nil => exact .cons _ _ _ _ hv .nil
  | cons v vs l Ls h hr ih => exact .cons _ _ _ _ h ih
theorem Rows8.length {w : World} {B : Nat} {vs : List Value} {Ls : List (List Nat)} (h : Rows8 w B vs Ls) : vs.length = Ls.length := by
  induction h with
  | nil => rfl
  | cons v vs l Ls h hr ih => simp [ih]
theorem Rows8.at_ {w : World} {B : Nat} {vs : List Value} {Ls : List (List Nat)} (h : Rows8 w B vs Ls) : ∀ i, i < Ls.length → ∃ v, vs[i]? = some v ∧ Own8 w B v (Ls.getD i []) := by
  induction h with
  | nil => intro i hi; exact absurd hi (by simp)
  | cons v vs l Ls h hr ih =>
    intro i hi
    cases i with
    | zero => exact ⟨v, rfl, h⟩
    | succ i => obtain ⟨u, h1, h2⟩ := ih i (by simpa using hi); exact ⟨u, by simpa using h1, by simpa using h2⟩

/-- A whole frame's payload was read. -/
def FirstOk (w w' : World) (v : Value) (l : List Nat) : Prop := w'.ownsRow w.heap.size 5 1 v (sizeL l) (b8 (payL l)) ∧ Kept (fun _ => False) w w'
theorem FirstOk.one {w w' : World} {v : Value} {l : List Nat} (h : FirstOk w w' v l) : v.oneCell' = true := by
  obtain ⟨a, c, rfl⟩ := ownsRow_slice h.1
  rfl

/-- What Scan has behind U bytes. -/
structure ScanAt (w : World) (l : List Nat) (U : Nat) (vL : Value) (vs : List Value) (Ls : List (List Nat)) (w' : World) : Prop where
  le : U ≤ l.length
  own : w'.ownsRow w.heap.size 22 1 vL vs.length vs
  rows : Rows8 w' w.heap.size vs Ls
  kept : Kept (fun _ => False) w w'
  len : vs.length ≤ U
  bytes : ∀ x ∈ l, x < 256
  rest : ∀ L u e, ScanR (l.drop U) L u e → ScanR l (Ls ++ L) (U + u) e

/-- What Scan answers. -/
def Scanned (w : World) (l : List Nat) (e : Ending) (w' : World) : Prop :=
  ∃ v vs Ls u n, ScanR l Ls u n ∧ e = .returned (.tuple #[v, .int .i64 ((u : Nat) : Int), .int .i64 ((n : Nat) : Int)]) ∧ w'.ownsRow w.heap.size 22 1 v vs.length vs ∧ Rows8 w' w.heap.size vs Ls ∧ Kept (fun _ => False) w w'

theorem ScanAt.done {w w' : World} {l : List Nat} {U : Nat} {vL : Value} {vs : List Value} {Ls : List (List Nat)} (h : ScanAt w l U vL vs Ls w') (hd : U = l.length) :
    Scanned w l (.returned (.tuple #[vL, .int .i64 (U : Int), .int .i64 0])) w' := by
  have hr := h.rest [] 0 0 (by rw [hd, List.drop_length]; exact .done)
  exact ⟨vL, vs, _, _, _, hr, by simp, h.own, by simpa using h.rows, h.kept⟩
theorem ScanAt.bad {w w' w1 : World} {l R : List Nat} {U : Nat} {vL : Value} {vs : List Value} {Ls : List (List Nat)} (h : ScanAt w l U vL vs Ls w') (hk : Kept (fun _ => False) w' w1) (hd : U < l.length) (hR : R = l.drop U) (he : firstE R ≠ 0) :
    Scanned w l (.returned (.tuple #[vL, .int .i64 (U : Int), .int .i64 ((firstE R : Nat) : Int)])) w1 := by
  have hr := h.rest [] 0 (firstE R) (by
    rw [← hR]
    refine .bad R ?_ he
    intro e
    rw [hR] at e
    have := congrArg List.length e
    rw [List.length_drop] at this
    simp at this
    omega)
  exact ⟨vL, vs, _, _, _, hr, by simp, hk.owns h.own (fun _ _ x => x), by simpa using h.rows.kept hk, h.kept.trans hk⟩
theorem ScanAt.step {w w' w1 w2 : World} {l R : List Nat} {U U2 : Nat} {vL vL2 v1 : Value} {vs : List Value} {Ls : List (List Nat)} (h : ScanAt w l U vL vs Ls w') (h1 : FirstOk w' w1 v1 R) (he : firstE R = 0) (hR : R = l.drop U) (hU2 : U2 = U + (9 + sizeL R)) (hU3 : U2 ≤ l.length)
    (hown : w2.ownsRow w.heap.size 22 1 vL2 (vs.length + 1) (vs ++ [v1])) (hg : (w1.alloc (.cells #[v1] 22)).grownBy w2 vL.ownBlock) : ScanAt w l U2 vL2 (vs ++ [v1]) (Ls ++ [payL R]) w2 := by
  have hpb : ∀ x ∈ payL R, x < 256 := fun x hx => h.bytes x (by rw [hR] at hx; exact List.mem_of_mem_drop (List.mem_of_mem_drop (List.mem_of_mem_take hx)))
  have hk1 : Kept (fun _ => False) w (w1.alloc (.cells #[v1] 22)) := (h.kept.trans h1.2).alloc _
  have hlen : (payL R).length = sizeL R := by have := h1.1.1; rw [b8_len] at this; omega
  have O1 : Own8 w1 w.heap.size v1 (payL R) := by
    have := own_weaken (b1 := w.heap.size) h1.1 h.kept.size
    rw [← hlen] at this
    exact this
  have hk2 : Kept (fun k => some k = vL.ownBlock) (w1.alloc (.cells #[v1] 22)) w2 := ⟨hg.os, hg.tape, hg.output, hg.size, fun k hk hn => hg.block k hk hn⟩
  have hrs := ((h.rows.kept h1.2).kept ((Kept.refl (fun _ => False) w1).alloc (.cells #[v1] 22))).snoc (O1.keptRow ((Kept.refl (fun _ => False) w1).alloc (.cells #[v1] 22)) (fun _ _ _ _ x => x))
  have hoL : (w1.alloc (.cells #[v1] 22)).ownsRow w.heap.size 22 1 vL vs.length vs := (h1.2.alloc _).owns h.own (fun _ _ x => x)
  refine ⟨hU3, by simpa using hown, hrs.keptRow hk2 ?_, hk1.grown hg (fun k e hlt => by have := (ownsRow_lt hoL e).2; omega), by have := h.len; simp; omega, h.bytes, ?_⟩
  · intro k cur _ hc e
    obtain ⟨cur2, hc2⟩ := ownsRow_block hoL e.symm
    rw [hc] at hc2
    simp at hc2
  · intro L u e hr
    have := h.rest (payL R :: L) (9 + sizeL R + u) e (by
      rw [← hR]
      refine .more R L u e he ?_
      rw [hR, List.drop_drop, ← hR, ← hU2]
      exact hr)
    rw [List.append_assoc, hU2, Nat.add_assoc]
    exact this
theorem ScanAt.start (w : World) (l : List Nat) (hb : ∀ x ∈ l, x < 256) : ScanAt w l 0 (.slice none 0 0) [] [] w :=
  ⟨by omega, World.ownsRow_nil _ _ _ _, .nil, Kept.refl _ _, by simp, hb, fun L u e h => by simpa using h⟩

set_option maxHeartbeats 2000000 in
theorem scan_any (ao : Option Addr) (c : Nat) (l : List Nat) (hl : l.length ≤ 1000000000) (hcap : l.length ≤ c) (w : World) (HB : Row8 w (.slice ao l.length c) l) (HN : Nibs w) :
    Calls Tryd.prog 15 #[.slice ao l.length c] w (Scanned w l) := by
  obtain ⟨i0, hi, hz0, hz1, hz2⟩ := info_parts info_u8
  obtain ⟨i1, hi', hz0', hz1', hz2'⟩ := info_parts infoRow
  have hb := HB.lt
  go_enter Tryd.func15, Tryd.ntmps15
  go_wp2
  refine wp_scope_jumps 0 (fun a' w' => ∃ (U : Nat) (vL : Value) (vs : List Value) (Ls : List (List Nat)) (u1 u4 u5 u6 u7 u8 u9 u10 u11 u12 u13 u14 u15 u16 u17 u18 u19 u20 u21 u22 u23 u24 u25 u26 u27 u28 u29 u30 u31 u32 : Value), a' = { tmps := #[.slice ao l.length c, u1, vL, .int .i64 (U : Int), u4, u5, u6, u7, u8, u9, u10, u11, u12, u13, u14, u15, u16, u17, u18, u19, u20, u21, u22, u23, u24, u25, u26, u27, u28, u29, u30, u31, u32], defers := [] } ∧ ScanAt w l U vL vs Ls w') (fun a' _ => l.length - (intOf (a'.tmps.getD 3 undef)).toNat) rfl ?_ ?_
  · clear hb
    have HS := Lib.hid (ScanAt.start w l HB.lt)
    have hU0 : (0 : Nat) ≤ l.length := by omega
    have hK := Kept.refl (fun _ => False) w
    by_cases hd : 0 = l.length
    · have q0 : (0 == (l.length : Int)) = true := beq_iff_eq.2 (by omega)
      have hfin : Hid (Scanned w l (.returned (.tuple #[(.slice none 0 0), .int .i64 0, .int .i64 0])) w) := Lib.hid (HS.out.done hd)
      clear hd HB HN hK hcap
      go_wp2
      go_step3
      go_wp2
      simp only [Exit.jump]
      go_ret3
      exact hfin.out
    have q0 : (0 == (l.length : Int)) = false := beq_eq_false_iff_ne.2 (by omega)
    obtain ⟨A1, hA1⟩ : ∃ A1, A1 = (if c = 0 then ao else ao.map (·.add 0)) := ⟨_, rfl⟩
    obtain ⟨k1, hk1⟩ : ∃ k1, k1 = c - 0 := ⟨_, rfl⟩
    obtain ⟨R, hR⟩ : ∃ R, R = l.drop 0 := ⟨_, rfl⟩
    have hRl : l.length - 0 = R.length := by rw [hR, List.length_drop]
    have s1 : ∀ w, (Instr.slice 22 (.slice ao l.length c) (some (.int .i64 0)) none none).run Tryd.prog w = .ok (.slice A1 R.length k1) w := fun w => by
      rw [hA1, hk1, ← hRl]; exact run_cutL Tryd.underlying22 hi hz1 ao l.length c 0 (by omega) w
    have s2 : ∀ w, (Instr.sliceAt 22 (.slice ao l.length c) (some (.int .i64 0)) none none).run Tryd.prog w = .ok (.slice A1 R.length k1) w := fun w => by
      rw [hA1, hk1, ← hRl]; exact run_cutLAt Tryd.underlying22 hi hz1 ao l.length c 0 (by omega) w
    have R1 := (HB.kept hK).cut (lo := 0) (hi := l.length) (by omega) (by omega) hcap
    rw [← hA1, ← hk1, hRl, ← hR, List.take_of_length_le (by omega)] at R1
    have F1 := first_any A1 k1 R (by omega) (by omega) w R1 (HN.kept hK)
    have M1 := Lib.hid F1
    have HR := Lib.hid hR
    have hd' := Lib.hid hd
    clear F1 R1 hA1 hk1 hR hRl HB HN hd
    by_cases he : firstE R = 0
    · have HF : Hid (∀ e w', Firsted w R e w' → ∃ a1 c1, e = .returned (.tuple #[.slice a1 (sizeL R) c1, .int .i64 ((9 + sizeL R : Nat) : Int), .int .i64 0]) ∧ FirstOk w w' (.slice a1 (sizeL R) c1) R) := Lib.hid fun e w' h => by
        unfold Firsted at h; rw [if_pos he] at h; obtain ⟨v, h1, h2, h3⟩ := h; obtain ⟨a1, c1, rfl⟩ := ownsRow_slice h2; exact ⟨a1, c1, h1, h2, h3⟩
      have HE := Lib.hid he
      have HT : Hid (firstE R = 0 → 9 + sizeL R ≤ R.length) := Lib.hid (firstE_size R)
      have hT := HT.out he
      have hRl2 : l.length - 0 = R.length := by rw [HR.out, List.length_drop]
      obtain ⟨Z, hZ⟩ : ∃ Z, Z = 9 + sizeL R := ⟨_, rfl⟩
      rw [← hZ] at HF hT
      have e1 : IntKind.i64.wrap (0 + (Z : Int)) = ((0 + Z : Nat) : Int) := by rw [IntWalk.i64_in _ ⟨by omega, by omega⟩]; omega
      have e1' : IntKind.i64.wrap (Z : Int) = ((0 + Z : Nat) : Int) := by rw [IntWalk.i64_in _ ⟨by omega, by omega⟩]; omega
      have hZ9 : 9 ≤ Z := by omega
      obtain ⟨U2, hU2⟩ : ∃ U2, U2 = 0 + Z := ⟨_, rfl⟩
      rw [← hU2] at e1 e1'
      have hU3 : U2 ≤ l.length := by omega
      have hlt : l.length - U2 < l.length := by omega
      have HZ := Lib.hid hZ
      have HU2 := Lib.hid hU2
      obtain ⟨Y, hY⟩ : ∃ Y, Y = sizeL R := ⟨_, rfl⟩
      rw [← hY] at HF
      clear hY
      clear he hT hRl2 hZ hU2 hZ9 hcap
      go_wp2
      go_step3
      go_wp2_with (first
        | (go_at_call 13; refine M1.out.mono ?_; intro e w1 h1; obtain ⟨a1, c1, rfl, h2⟩ := HF.out e w1 h1; have HO := Lib.hid h2; clear h1 h2)
        | (at_builtin; refine wpList_append_src _ rfl (.tmp 26) (.tmp 28) 30 30 rfl w.heap.size 22 i1 (.slice none 0 0) 1 24 Tryd.underlying30 hi' hz0' hz1' hz2' rfl (.slice none 0 0) ?n0 ?xs0 rfl ?c0 (.slice (some ⟨w1.heap.size, 0, none⟩) 1 1) 1 [.slice a1 Y c1] rfl ?cs ?c1 ?c2 ?c3 ?_))
      case n0 => exact 0
      case xs0 => exact []
      case c0 => exact (HO.out.2.alloc _).owns HS.out.own (fun _ _ x => x)
      case cs => exact src_one _ Tryd.underlying30 _ HO.out.one
      case c1 => have := HS.out.len; simp [maxLen]
      case c2 => have := HS.out.len; omega
      case c3 => have := (HO.out.2).size; have := HS.out.kept.size; simp; omega
      intro vL2 w2 hown hg _ hat
      have hJ2 := ScanAt.step HS.out HO.out HE.out HR.out (by rw [HU2.out, HZ.out]) hU3 hown hg
      have H2 := Lib.hid hJ2
      clear hJ2 hown hg hat HS HO
      go_wp2
      go_step3
      try simp only [Exit.jump]
      exact ⟨rfl, U2, vL2, _, _, _, _, _, _, _, _, _, _, _, _, _, _, _, _, _, _, _, _, _, _, _, _, _, _, _, _, _, _, _, _, rfl, H2.out⟩
    · have HF : Hid (∀ e w', Firsted w R e w' → e = .returned (.tuple #[.slice none 0 0, .int .i64 0, .int .i64 ((firstE R : Nat) : Int)]) ∧ Kept (fun _ => False) w w') := Lib.hid fun e w' h => by
        unfold Firsted at h; rw [if_neg he] at h; exact h
      have HD := Lib.hid fun w' (h : Kept (fun _ => False) w w') => HS.out.bad (w1 := w') h (by have := hd'.out; omega) HR.out he
      obtain ⟨E1, hE1⟩ : ∃ E1, E1 = firstE R := ⟨_, rfl⟩
      rw [← hE1] at HF HD he
      have q2 : ((E1 : Int) != 0) = true := by simp; omega
      clear hE1 he
      go_wp2
      go_step3
      go_wp2_with (go_at_call 13; refine M1.out.mono ?_; intro e w1 h1; obtain ⟨rfl, h2⟩ := HF.out e w1 h1; have HO := Lib.hid h2; clear h1 h2)
      simp only [Exit.jump]
      go_ret3
      exact HD.out _ HO.out
  · intro a0 w0 hJ
    clear hb
    obtain ⟨U, vL, vs, Ls, u1, u4, u5, u6, u7, u8, u9, u10, u11, u12, u13, u14, u15, u16, u17, u18, u19, u20, u21, u22, u23, u24, u25, u26, u27, u28, u29, u30, u31, u32, rfl, hS⟩ := hJ
    have HS := Lib.hid hS
    have hU0 := hS.le
    have hK := hS.kept
    clear hS
    by_cases hd : U = l.length
    · have q0 : ((U : Int) == (l.length : Int)) = true := beq_iff_eq.2 (by omega)
      have hfin : Hid (Scanned w l (.returned (.tuple #[vL, .int .i64 (U : Int), .int .i64 0])) w0) := Lib.hid (HS.out.done hd)
      clear hd HB HN hK hcap
      go_wp2
      simp only [Exit.jump]
      go_ret3
      exact hfin.out
    have q0 : ((U : Int) == (l.length : Int)) = false := beq_eq_false_iff_ne.2 (by omega)
    obtain ⟨A1, hA1⟩ : ∃ A1, A1 = (if c = U then ao else ao.map (·.add U)) := ⟨_, rfl⟩
    obtain ⟨k1, hk1⟩ : ∃ k1, k1 = c - U := ⟨_, rfl⟩
    obtain ⟨R, hR⟩ : ∃ R, R = l.drop U := ⟨_, rfl⟩
    have hRl : l.length - U = R.length := by rw [hR, List.length_drop]
    have s1 : ∀ w, (Instr.slice 22 (.slice ao l.length c) (some (.int .i64 (U : Int))) none none).run Tryd.prog w = .ok (.slice A1 R.length k1) w := fun w => by
      rw [hA1, hk1, ← hRl]; exact run_cutL Tryd.underlying22 hi hz1 ao l.length c U (by omega) w
    have s2 : ∀ w, (Instr.sliceAt 22 (.slice ao l.length c) (some (.int .i64 (U : Int))) none none).run Tryd.prog w = .ok (.slice A1 R.length k1) w := fun w => by
      rw [hA1, hk1, ← hRl]; exact run_cutLAt Tryd.underlying22 hi hz1 ao l.length c U (by omega) w
    have R1 := (HB.kept hK).cut (lo := U) (hi := l.length) (by omega) (by omega) hcap
    rw [← hA1, ← hk1, hRl, ← hR, List.take_of_length_le (by omega)] at R1
    have F1 := first_any A1 k1 R (by omega) (by omega) w0 R1 (HN.kept hK)
    have M1 := Lib.hid F1
    have HR := Lib.hid hR
    have hd' := Lib.hid hd
    clear F1 R1 hA1 hk1 hR hRl HB HN hd
    by_cases he : firstE R = 0
    · have HF : Hid (∀ e w', Firsted w0 R e w' → ∃ a1 c1, e = .returned (.tuple #[.slice a1 (sizeL R) c1, .int .i64 ((9 + sizeL R : Nat) : Int), .int .i64 0]) ∧ FirstOk w0 w' (.slice a1 (sizeL R) c1) R) := Lib.hid fun e w' h => by
        unfold Firsted at h; rw [if_pos he] at h; obtain ⟨v, h1, h2, h3⟩ := h; obtain ⟨a1, c1, rfl⟩ := ownsRow_slice h2; exact ⟨a1, c1, h1, h2, h3⟩
      have HE := Lib.hid he
      have HT : Hid (firstE R = 0 → 9 + sizeL R ≤ R.length) := Lib.hid (firstE_size R)
      have hT := HT.out he
      have hRl2 : l.length - U = R.length := by rw [HR.out, List.length_drop]
      obtain ⟨Z, hZ⟩ : ∃ Z, Z = 9 + sizeL R := ⟨_, rfl⟩
      rw [← hZ] at HF hT
      have e1 : IntKind.i64.wrap ((U : Int) + (Z : Int)) = ((U + Z : Nat) : Int) := by rw [IntWalk.i64_in _ ⟨by omega, by omega⟩]; omega
      have hZ9 : 9 ≤ Z := by omega
      obtain ⟨U2, hU2⟩ : ∃ U2, U2 = U + Z := ⟨_, rfl⟩
      rw [← hU2] at e1
      have hU3 : U2 ≤ l.length := by omega
      have hlt : l.length - U2 < l.length - U := by omega
      have HZ := Lib.hid hZ
      have HU2 := Lib.hid hU2
      obtain ⟨Y, hY⟩ : ∃ Y, Y = sizeL R := ⟨_, rfl⟩
      rw [← hY] at HF
      clear hY
      clear he hT hRl2 hZ hU2 hZ9 hcap
      go_wp2_with (first
        | (go_at_call 13; refine M1.out.mono ?_; intro e w1 h1; obtain ⟨a1, c1, rfl, h2⟩ := HF.out e w1 h1; have HO := Lib.hid h2; clear h1 h2)
        | (at_builtin; refine wpList_append_src _ rfl (.tmp 26) (.tmp 28) 30 30 rfl w.heap.size 22 i1 (.slice none 0 0) 1 24 Tryd.underlying30 hi' hz0' hz1' hz2' rfl vL ?n0 ?xs0 rfl ?c0 (.slice (some ⟨w1.heap.size, 0, none⟩) 1 1) 1 [.slice a1 Y c1] rfl ?cs ?c1 ?c2 ?c3 ?_))
      case n0 => exact vs.length
      case xs0 => exact vs
      case c0 => exact (HO.out.2.alloc _).owns HS.out.own (fun _ _ x => x)
      case cs => exact src_one _ Tryd.underlying30 _ HO.out.one
      case c1 => have := HS.out.len; simp [maxLen]; omega
      case c2 => have := HS.out.len; omega
      case c3 => have := (HO.out.2).size; have := HS.out.kept.size; simp; omega
      intro vL2 w2 hown hg _ hat
      have hJ2 := ScanAt.step HS.out HO.out HE.out HR.out (by rw [HU2.out, HZ.out]) hU3 hown hg
      have H2 := Lib.hid hJ2
      clear hJ2 hown hg hat HS HO
      go_wp2
      go_step3
      try simp only [Exit.jump]
      exact ⟨rfl, ⟨U2, vL2, _, _, _, _, _, _, _, _, _, _, _, _, _, _, _, _, _, _, _, _, _, _, _, _, _, _, _, _, _, _, _, _, rfl, H2.out⟩, by simpa [intOf] using hlt⟩
    · have HF : Hid (∀ e w', Firsted w0 R e w' → e = .returned (.tuple #[.slice none 0 0, .int .i64 0, .int .i64 ((firstE R : Nat) : Int)]) ∧ Kept (fun _ => False) w0 w') := Lib.hid fun e w' h => by
        unfold Firsted at h; rw [if_neg he] at h; exact h
      have HD := Lib.hid fun w' (h : Kept (fun _ => False) w0 w') => HS.out.bad (w1 := w') h (by have := hd'.out; omega) HR.out he
      obtain ⟨E1, hE1⟩ : ∃ E1, E1 = firstE R := ⟨_, rfl⟩
      rw [← hE1] at HF HD he
      have q2 : ((E1 : Int) != 0) = true := by simp; omega
      clear hE1 he
      go_wp2_with (go_at_call 13; refine M1.out.mono ?_; intro e w1 h1; obtain ⟨rfl, h2⟩ := HF.out e w1 h1; have HO := Lib.hid h2; clear h1 h2)
      simp only [Exit.jump]
      go_ret3
      exact HD.out _ HO.out
end Go.Proofs.YtficodklidaheaaDoor
