/- Texts put together: F6, F7, F13, FX. -/
import Derived.Test.YtficodklidaheaaDoorZz6
import Derived.ScopeJumps
import Derived.WalkMore
import Derived.Lib.ConvBytes
/- package frame, layer 4: Scan. -/
namespace Go.Proofs.YtficodklidaheaaDoor
open Go.RowKit
attribute [local go_sem ↓] Go.wp_at_zero Go.wp_at_succ

theorem infoRow : (Tryd.prog.info? 22).map (fun i => (i.zero, i.size, i.bytes)) = some (some (.slice none 0 0), 1, 24) := by kernel_rfl

/-- The payloads, how many bytes they take with their frames, and the error, that stand in bytes. -/
inductive ScanR : List Nat → List (List Nat) → Nat → Nat → Prop
  | done : ScanR [] [] 0 0
  | bad (l : List Nat) (h : l ≠ []) (he : firstE l ≠ 0) : ScanR l [] 0 (firstE l)
  | more (l : List Nat) (Ls : List (List Nat)) (u e : Nat) (h : firstE l = 0) (hr : ScanR (l.drop (9 + sizeL l)) Ls u e) : ScanR l (payL l :: Ls) (9 + sizeL l + u) e

theorem firstE_nil : firstE [] = 2 := by decide
theorem firstE_size (l : List Nat) (h : firstE l = 0) : 9 + sizeL l ≤ l.length := by
  unfold firstE at h
  by_cases h0 : l.length = 0
  · rw [if_pos h0] at h; omega
  by_cases h1 : l.getD 0 0 ≠ 165
  · rw [if_neg h0, if_pos h1] at h; omega
  by_cases h2 : l.length < 9
  · rw [if_neg h0, if_neg h1, if_pos h2] at h; omega
  by_cases h3 : 65536 < sizeL l
  · rw [if_neg h0, if_neg h1, if_neg h2, if_pos h3] at h; omega
  by_cases h4 : l.length < 9 + sizeL l
  · rw [if_neg h0, if_neg h1, if_neg h2, if_neg h3, if_pos h4] at h; omega
  omega
theorem ScanR.fn {l : List Nat} {L1 L2 : List (List Nat)} {u1 u2 e1 e2 : Nat} (h1 : ScanR l L1 u1 e1) (h2 : ScanR l L2 u2 e2) : L1 = L2 ∧ u1 = u2 ∧ e1 = e2 := by
  induction h1 generalizing L2 u2 e2 with
  | done =>
    cases h2 with
    | done => exact ⟨rfl, rfl, rfl⟩
    | bad _ h => exact absurd rfl h
    | more _ _ _ _ h => rw [firstE_nil] at h; cases h
  | bad l h he =>
    cases h2 with
    | done => exact absurd rfl h
    | bad => exact ⟨rfl, rfl, rfl⟩
    | more _ _ _ _ h2 => exact absurd h2 he
  | more l Ls u e h hr ih =>
    cases h2 with
    | done => rw [firstE_nil] at h; cases h
    | bad _ _ he => exact absurd h he
    | more _ _ _ _ _ hr2 => obtain ⟨rfl, rfl, rfl⟩ := ih hr2; exact ⟨rfl, rfl, rfl⟩

/-- A new row of bytes, in a block from B on. -/
def Own8 (w : World) (B : Nat) (v : Value) (l : List Nat) : Prop := w.ownsRow B 5 1 v l.length (b8 l)
theorem Own8.keptRow {S : Nat → Prop} {w w' : World} {B : Nat} {v : Value} {l : List Nat} (h : Own8 w B v l) (hk : Kept S w w') (hS : ∀ k cur, B ≤ k → w.heap[k]? = some (.cells cur 5 (0, 0)) → ¬ S k) : Own8 w' B v l :=
  hk.owns h fun k e => by obtain ⟨cur, hc⟩ := ownsRow_block h e; exact hS k cur (ownsRow_lt h e).2 hc
/-- Rows of bytes, one by one. -/
inductive Rows8 (w : World) (B : Nat) : List Value → List (List Nat) → Prop
  | nil : Rows8 w B [] []
  | cons (v : Value) (vs : List Value) (l : List Nat) (Ls : List (List Nat)) (h : Own8 w B v l) (hr : Rows8 w B vs Ls) : Rows8 w B (v :: vs) (l :: Ls)
theorem Rows8.keptRow {S : Nat → Prop} {w w' : World} {B : Nat} {vs : List Value} {Ls : List (List Nat)} (h : Rows8 w B vs Ls) (hk : Kept S w w') (hS : ∀ k cur, B ≤ k → w.heap[k]? = some (.cells cur 5 (0, 0)) → ¬ S k) : Rows8 w' B vs Ls := by
  induction h with
  | nil => exact .nil
  | cons v vs l Ls h hr ih => exact .cons _ _ _ _ (h.keptRow hk hS) ih
theorem Rows8.kept {w w' : World} {B : Nat} {vs : List Value} {Ls : List (List Nat)} (h : Rows8 w B vs Ls) (hk : Kept (fun _ => False) w w') : Rows8 w' B vs Ls := h.keptRow hk (fun _ _ _ _ x => x)
theorem Rows8.snoc {w : World} {B : Nat} {vs : List Value} {Ls : List (List Nat)} (h : Rows8 w B vs Ls) {v : Value} {l : List Nat} (hv : Own8 w B v l) : Rows8 w B (vs ++ [v]) (Ls ++ [l]) := by
  induction h with
  | nil => exact .cons _ _ _ _ hv .nil
  | cons v vs l Ls h hr ih => exact .cons _ _ _ _ h ih
theorem Rows8.length {w : World} {B : Nat} {vs : List Value} {Ls : List (List Nat)} (h : Rows8 w B vs Ls) : vs.length = Ls.length := by
  induction h with
  | nil => rfl
  | cons v vs l Ls h hr ih => simp [ih]
theorem Rows8.at_ {w : World} {B : Nat} {vs : List Value} {Ls : List (List Nat)} (h : Rows8 w B vs Ls) : ∀ i, i < Ls.length → ∃ v, vs[i]? = some v ∧ Own8 w B v (Ls.getD i []) := by
  induction h with
  | nil => intro i hi; exact absurd hi (by simp)
  | cons v vs l Ls h hr ih =>
    intro i hi
    cases i with
    | zero => exact ⟨v, rfl, h⟩
    | succ i => obtain ⟨u, h1, h2⟩ := ih i (by simpa using hi); exact ⟨u, by simpa using h1, by simpa using h2⟩

/-- A whole frame's payload was read. -/
def FirstOk (w w' : World) (v : Value) (l : List Nat) : Prop := w'.ownsRow w.heap.size 5 1 v (sizeL l) (b8 (payL l)) ∧ Kept (fun _ => False) w w'
theorem FirstOk.one {w w' : World} {v : Value} {l : List Nat} (h : FirstOk w w' v l) : v.oneCell' = true := by
  obtain ⟨a, c, rfl⟩ := ownsRow_slice h.1
  rfl

/-- What Scan has behind U bytes. -/
structure ScanAt (w : World) (l : List Nat) (U : Nat) (vL : Value) (vs : List Value) (Ls : List (List Nat)) (w' : World) : Prop where
  le : U ≤ l.length
  own : w'.ownsRow w.heap.size 22 1 vL vs.length vs
  rows : Rows8 w' w.heap.size vs Ls
  kept : Kept (fun _ => False) w w'
  len : vs.length ≤ U
  bytes : ∀ x ∈ l, x < 256
  rest : ∀ L u e, ScanR (l.drop U) L u e → ScanR l (Ls ++ L) (U + u) e

/-- What Scan answers. -/
def Scanned (w : World) (l : List Nat) (e : Ending) (w' : World) : Prop :=
  ∃ v vs Ls u n, ScanR l Ls u n ∧ e = .returned (.tuple #[v, .int .i64 ((u : Nat) : Int), .int .i64 ((n : Nat) : Int)]) ∧ w'.ownsRow w.heap.size 22 1 v vs.length vs ∧ Rows8 w' w.heap.size vs Ls ∧ Kept (fun _ => False) w w'

theorem ScanAt.done {w w' : World} {l : List Nat} {U : Nat} {vL : Value} {vs : List Value} {Ls : List (List Nat)} (h : ScanAt w l U vL vs Ls w') (hd : U = l.length) :
    Scanned w l (.returned (.tuple #[vL, .int .i64 (U : Int), .int .i64 0])) w' := by
  have hr := h.rest [] 0 0 (by rw [hd, List.drop_length]; exact .done)
  exact ⟨vL, vs, _, _, _, hr, by simp, h.own, by simpa using h.rows, h.kept⟩
theorem ScanAt.bad {w w' w1 : World} {l R : List Nat} {U : Nat} {vL : Value} {vs : List Value} {Ls : List (List Nat)} (h : ScanAt w l U vL vs Ls w') (hk : Kept (fun _ => False) w' w1) (hd : U < l.length) (hR : R = l.drop U) (he : firstE R ≠ 0) :
    Scanned w l (.returned (.tuple #[vL, .int .i64 (U : Int), .int .i64 ((firstE R : Nat) : Int)])) w1 := by
  have hr := h.rest [] 0 (firstE R) (by
    rw [← hR]
    refine .bad R ?_ he
    intro e
    rw [hR] at e
    have := congrArg List.length e
    rw [List.length_drop] at this
    simp at this
    omega)
  exact ⟨vL, vs, _, _, _, hr, by simp, hk.owns h.own (fun _ _ x => x), by simpa using h.rows.kept hk, h.kept.trans hk⟩
theorem ScanAt.step {w w' w1 w2 : World} {l R : List Nat} {U U2 : Nat} {vL vL2 v1 : Value} {vs : List Value} {Ls : List (List Nat)} (h : ScanAt w l U vL vs Ls w') (h1 : FirstOk w' w1 v1 R) (he : firstE R = 0) (hR : R = l.drop U) (hU2 : U2 = U + (9 + sizeL R)) (hU3 : U2 ≤ l.length)
    (hown : w2.ownsRow w.heap.size 22 1 vL2 (vs.length + 1) (vs ++ [v1])) (hg : (w1.alloc (.cells #[v1] 22)).grownBy w2 vL.ownBlock) : ScanAt w l U2 vL2 (vs ++ [v1]) (Ls ++ [payL R]) w2 := by
  have hpb : ∀ x ∈ payL R, x < 256 := fun x hx => h.bytes x (by rw [hR] at hx; exact List.mem_of_mem_drop (List.mem_of_mem_drop (List.mem_of_mem_take hx)))
  have hk1 : Kept (fun _ => False) w (w1.alloc (.cells #[v1] 22)) := (h.kept.trans h1.2).alloc _
  have hlen : (payL R).length = sizeL R := by have := h1.1.1; rw [b8_len] at this; omega
  have O1 : Own8 w1 w.heap.size v1 (payL R) := by
    have := own_weaken (b1 := w.heap.size) h1.1 h.kept.size
    rw [← hlen] at this
    exact this
  have hk2 : Kept (fun k => some k = vL.ownBlock) (w1.alloc (.cells #[v1] 22)) w2 := ⟨hg.os, hg.tape, hg.output, hg.size, fun k hk hn => hg.block k hk hn⟩
  have hrs := ((h.rows.kept h1.2).kept ((Kept.refl (fun _ => False) w1).alloc (.cells #[v1] 22))).snoc (O1.keptRow ((Kept.refl (fun _ => False) w1).alloc (.cells #[v1] 22)) (fun _ _ _ _ x => x))
  have hoL : (w1.alloc (.cells #[v1] 22)).ownsRow w.heap.size 22 1 vL vs.length vs := (h1.2.alloc _).owns h.own (fun _ _ x => x)
  refine ⟨hU3, by simpa using hown, hrs.keptRow hk2 ?_, hk1.grown hg (fun k e hlt => by have := (ownsRow_lt hoL e).2; omega), by have := h.len; simp; omega, h.bytes, ?_⟩
  · intro k cur _ hc e
    obtain ⟨cur2, hc2⟩ := ownsRow_block hoL e.symm
    rw [hc] at hc2
    simp at hc2
  · intro L u e hr
    have := h.rest (payL R :: L) (9 + sizeL R + u) e (by
      rw [← hR]
      refine .more R L u e he ?_
      rw [hR, List.drop_drop, ← hR, ← hU2]
      exact hr)
    rw [List.append_assoc, hU2, Nat.add_assoc]
    exact this
theorem ScanAt.start (w : World) (l : List Nat) (hb : ∀ x ∈ l, x < 256) : ScanAt w l 0 (.slice none 0 0) [] [] w :=
  ⟨by omega, World.ownsRow_nil _ _ _ _, .nil, Kept.refl _ _, by simp, hb, fun L u e h => by simpa using h⟩

set_option maxHeartbeats 2000000 in
theorem scan_any (ao : Option Addr) (c : Nat) (l : List Nat) (hl : l.length ≤ 1000000000) (hcap : l.length ≤ c) (w : World) (HB : Row8 w (.slice ao l.length c) l) (HN : Nibs w) :
    Calls Tryd.prog 15 #[.slice ao l.length c] w (Scanned w l) := by
  obtain ⟨i0, hi, hz0, hz1, hz2⟩ := info_parts info_u8
  obtain ⟨i1, hi', hz0', hz1', hz2'⟩ := info_parts infoRow
  have hb := HB.lt
  go_enter Tryd.func15, Tryd.ntmps15
  go_wp2
  refine wp_scope_jumps 0 (fun a' w' => ∃ (U : Nat) (vL : Value) (vs : List Value) (Ls : List (List Nat)) (u1 u4 u5 u6 u7 u8 u9 u10 u11 u12 u13 u14 u15 u16 u17 u18 u19 u20 u21 u22 u23 u24 u25 u26 u27 u28 u29 u30 u31 u32 : Value), a' = { tmps := #[.slice ao l.length c, u1, vL, .int .i64 (U : Int), u4, u5, u6, u7, u8, u9, u10, u11, u12, u13, u14, u15, u16, u17, u18, u19, u20, u21, u22, u23, u24, u25, u26, u27, u28, u29, u30, u31, u32], defers := [] } ∧ ScanAt w l U vL vs Ls w') (fun a' _ => l.length - (intOf (a'.tmps.getD 3 undef)).toNat) rfl ?_ ?_
  · clear hb
    have HS := Lib.hid (ScanAt.start w l HB.lt)
    have hU0 : (0 : Nat) ≤ l.length := by omega
    have hK := Kept.refl (fun _ => False) w
    by_cases hd : 0 = l.length
    · have q0 : (0 == (l.length : Int)) = true := beq_iff_eq.2 (by omega)
      have hfin : Hid (Scanned w l (.returned (.tuple #[(.slice none 0 0), .int .i64 0, .int .i64 0])) w) := Lib.hid (HS.out.done hd)
      clear hd HB HN hK hcap
      go_wp2
      go_step3
      go_wp2
      simp only [Exit.jump]
      go_ret3
      exact hfin.out
    have q0 : (0 == (l.length : Int)) = false := beq_eq_false_iff_ne.2 (by omega)
    obtain ⟨A1, hA1⟩ : ∃ A1, A1 = (if c = 0 then ao else ao.map (·.add 0)) := ⟨_, rfl⟩
    obtain ⟨k1, hk1⟩ : ∃ k1, k1 = c - 0 := ⟨_, rfl⟩
    obtain ⟨R, hR⟩ : ∃ R, R = l.drop 0 := ⟨_, rfl⟩
    have hRl : l.length - 0 = R.length := by rw [hR, List.length_drop]
    have s1 : ∀ w, (Instr.slice 22 (.slice ao l.length c) (some (.int .i64 0)) none none).run Tryd.prog w = .ok (.slice A1 R.length k1) w := fun w => by
      rw [hA1, hk1, ← hRl]; exact run_cutL Tryd.underlying22 hi hz1 ao l.length c 0 (by omega) w
    have s2 : ∀ w, (Instr.sliceAt 22 (.slice ao l.length c) (some (.int .i64 0)) none none).run Tryd.prog w = .ok (.slice A1 R.length k1) w := fun w => by
      rw [hA1, hk1, ← hRl]; exact run_cutLAt Tryd.underlying22 hi hz1 ao l.length c 0 (by omega) w
    have R1 := (HB.kept hK).cut (lo := 0) (hi := l.length) (by omega) (by omega) hcap
    rw [← hA1, ← hk1, hRl, ← hR, List.take_of_length_le (by omega)] at R1
    have F1 := first_any A1 k1 R (by omega) (by omega) w R1 (HN.kept hK)
    have M1 := Lib.hid F1
    have HR := Lib.hid hR
    have hd' := Lib.hid hd
    clear F1 R1 hA1 hk1 hR hRl HB HN hd
    by_cases he : firstE R = 0
    · have HF : Hid (∀ e w', Firsted w R e w' → ∃ a1 c1, e = .returned (.tuple #[.slice a1 (sizeL R) c1, .int .i64 ((9 + sizeL R : Nat) : Int), .int .i64 0]) ∧ FirstOk w w' (.slice a1 (sizeL R) c1) R) := Lib.hid fun e w' h => by
        unfold Firsted at h; rw [if_pos he] at h; obtain ⟨v, h1, h2, h3⟩ := h; obtain ⟨a1, c1, rfl⟩ := ownsRow_slice h2; exact ⟨a1, c1, h1, h2, h3⟩
      have HE := Lib.hid he
      have HT : Hid (firstE R = 0 → 9 + sizeL R ≤ R.length) := Lib.hid (firstE_size R)
      have hT := HT.out he
      have hRl2 : l.length - 0 = R.length := by rw [HR.out, List.length_drop]
      obtain ⟨Z, hZ⟩ : ∃ Z, Z = 9 + sizeL R := ⟨_, rfl⟩
      rw [← hZ] at HF hT
      have e1 : IntKind.i64.wrap (0 + (Z : Int)) = ((0 + Z : Nat) : Int) := by rw [IntWalk.i64_in _ ⟨by omega, by omega⟩]; omega
      have e1' : IntKind.i64.wrap (Z : Int) = ((0 + Z : Nat) : Int) := by rw [IntWalk.i64_in _ ⟨by omega, by omega⟩]; omega
      have hZ9 : 9 ≤ Z := by omega
      obtain ⟨U2, hU2⟩ : ∃ U2, U2 = 0 + Z := ⟨_, rfl⟩
      rw [← hU2] at e1 e1'
      have hU3 : U2 ≤ l.length := by omega
      have hlt : l.length - U2 < l.length := by omega
      have HZ := Lib.hid hZ
      have HU2 := Lib.hid hU2
      obtain ⟨Y, hY⟩ : ∃ Y, Y = sizeL R := ⟨_, rfl⟩
      rw [← hY] at HF
      clear hY
      clear he hT hRl2 hZ hU2 hZ9 hcap
      go_wp2
      go_step3
      go_wp2_with (first
        | (go_at_call 13; refine M1.out.mono ?_; intro e w1 h1; obtain ⟨a1, c1, rfl, h2⟩ := HF.out e w1 h1; have HO := Lib.hid h2; clear h1 h2)
        | (at_builtin; refine wpList_append_src _ rfl (.tmp 26) (.tmp 28) 30 30 rfl w.heap.size 22 i1 (.slice none 0 0) 1 24 Tryd.underlying30 hi' hz0' hz1' hz2' rfl (.slice none 0 0) ?n0 ?xs0 rfl ?c0 (.slice (some ⟨w1.heap.size, 0, none⟩) 1 1) 1 [.slice a1 Y c1] rfl ?cs ?c1 ?c2 ?c3 ?_))
      case n0 => exact 0
      case xs0 => exact []
      case c0 => exact (HO.out.2.alloc _).owns HS.out.own (fun _ _ x => x)
      case cs => exact src_one _ Tryd.underlying30 _ HO.out.one
      case c1 => have := HS.out.len; simp [maxLen]
      case c2 => have := HS.out.len; omega
      case c3 => have := (HO.out.2).size; have := HS.out.kept.size; simp; omega
      intro vL2 w2 hown hg _ hat
      have hJ2 := ScanAt.step HS.out HO.out HE.out HR.out (by rw [HU2.out, HZ.out]) hU3 hown hg
      have H2 := Lib.hid hJ2
      clear hJ2 hown hg hat HS HO
      go_wp2
      go_step3
      try simp only [Exit.jump]
      exact ⟨rfl, U2, vL2, _, _, _, _, _, _, _, _, _, _, _, _, _, _, _, _, _, _, _, _, _, _, _, _, _, _, _, _, _, _, _, _, rfl, H2.out⟩
    · have HF : Hid (∀ e w', Firsted w R e w' → e = .returned (.tuple #[.slice none 0 0, .int .i64 0, .int .i64 ((firstE R : Nat) : Int)]) ∧ Kept (fun _ => False) w w') := Lib.hid fun e w' h => by
        unfold Firsted at h; rw [if_neg he] at h; exact h
      have HD := Lib.hid fun w' (h : Kept (fun _ => False) w w') => HS.out.bad (w1 := w') h (by have := hd'.out; omega) HR.out he
      obtain ⟨E1, hE1⟩ : ∃ E1, E1 = firstE R := ⟨_, rfl⟩
      rw [← hE1] at HF HD he
      have q2 : ((E1 : Int) != 0) = true := by simp; omega
      clear hE1 he
      go_wp2
      go_step3
      go_wp2_with (go_at_call 13; refine M1.out.mono ?_; intro e w1 h1; obtain ⟨rfl, h2⟩ := HF.out e w1 h1; have HO := Lib.hid h2; clear h1 h2)
      simp only [Exit.jump]
      go_ret3
      exact HD.out _ HO.out
  · intro a0 w0 hJ
    clear hb
    obtain ⟨U, vL, vs, Ls, u1, u4, u5, u6, u7, u8, u9, u10, u11, u12, u13, u14, u15, u16, u17, u18, u19, u20, u21, u22, u23, u24, u25, u26, u27, u28, u29, u30, u31, u32, rfl, hS⟩ := hJ
    have HS := Lib.hid hS
    have hU0 := hS.le
    have hK := hS.kept
    clear hS
    by_cases hd : U = l.length
    · have q0 : ((U : Int) == (l.length : Int)) = true := beq_iff_eq.2 (by omega)
      have hfin : Hid (Scanned w l (.returned (.tuple #[vL, .int .i64 (U : Int), .int .i64 0])) w0) := Lib.hid (HS.out.done hd)
      clear hd HB HN hK hcap
      go_wp2
      simp only [Exit.jump]
      go_ret3
      exact hfin.out
    have q0 : ((U : Int) == (l.length : Int)) = false := beq_eq_false_iff_ne.2 (by omega)
    obtain ⟨A1, hA1⟩ : ∃ A1, A1 = (if c = U then ao else ao.map (·.add U)) := ⟨_, rfl⟩
    obtain ⟨k1, hk1⟩ : ∃ k1, k1 = c - U := ⟨_, rfl⟩
    obtain ⟨R, hR⟩ : ∃ R, R = l.drop U := ⟨_, rfl⟩
    have hRl : l.length - U = R.length := by rw [hR, List.length_drop]
    have s1 : ∀ w, (Instr.slice 22 (.slice ao l.length c) (some (.int .i64 (U : Int))) none none).run Tryd.prog w = .ok (.slice A1 R.length k1) w := fun w => by
      rw [hA1, hk1, ← hRl]; exact run_cutL Tryd.underlying22 hi hz1 ao l.length c U (by omega) w
    have s2 : ∀ w, (Instr.sliceAt 22 (.slice ao l.length c) (some (.int .i64 (U : Int))) none none).run Tryd.prog w = .ok (.slice A1 R.length k1) w := fun w => by
      rw [hA1, hk1, ← hRl]; exact run_cutLAt Tryd.underlying22 hi hz1 ao l.length c U (by omega) w
    have R1 := (HB.kept hK).cut (lo := U) (hi := l.length) (by omega) (by omega) hcap
    rw [← hA1, ← hk1, hRl, ← hR, List.take_of_length_le (by omega)] at R1
    have F1 := first_any A1 k1 R (by omega) (by omega) w0 R1 (HN.kept hK)
    have M1 := Lib.hid F1
    have HR := Lib.hid hR
    have hd' := Lib.hid hd
    clear F1 R1 hA1 hk1 hR hRl HB HN hd
    by_cases he : firstE R = 0
    · have HF : Hid (∀ e w', Firsted w0 R e w' → ∃ a1 c1, e = .returned (.tuple #[.slice a1 (sizeL R) c1, .int .i64 ((9 + sizeL R : Nat) : Int), .int .i64 0]) ∧ FirstOk w0 w' (.slice a1 (sizeL R) c1) R) := Lib.hid fun e w' h => by
        unfold Firsted at h; rw [if_pos he] at h; obtain ⟨v, h1, h2, h3⟩ := h; obtain ⟨a1, c1, rfl⟩ := ownsRow_slice h2; exact ⟨a1, c1, h1, h2, h3⟩
      have HE := Lib.hid he
      have HT : Hid (firstE R = 0 → 9 + sizeL R ≤ R.length) := Lib.hid (firstE_size R)
      have hT := HT.out he
      have hRl2 : l.length - U = R.length := by rw [HR.out, List.length_drop]
      obtain ⟨Z, hZ⟩ : ∃ Z, Z = 9 + sizeL R := ⟨_, rfl⟩
      rw [← hZ] at HF hT
      have e1 : IntKind.i64.wrap ((U : Int) + (Z : Int)) = ((U + Z : Nat) : Int) := by rw [IntWalk.i64_in _ ⟨by omega, by omega⟩]; omega
      have hZ9 : 9 ≤ Z := by omega
      obtain ⟨U2, hU2⟩ : ∃ U2, U2 = U + Z := ⟨_, rfl⟩
      rw [← hU2] at e1
      have hU3 : U2 ≤ l.length := by omega
      have hlt : l.length - U2 < l.length - U := by omega
      have HZ := Lib.hid hZ
      have HU2 := Lib.hid hU2
      obtain ⟨Y, hY⟩ : ∃ Y, Y = sizeL R := ⟨_, rfl⟩
      rw [← hY] at HF
      clear hY
      clear he hT hRl2 hZ hU2 hZ9 hcap
      go_wp2_with (first
        | (go_at_call 13; refine M1.out.mono ?_; intro e w1 h1; obtain ⟨a1, c1, rfl, h2⟩ := HF.out e w1 h1; have HO := Lib.hid h2; clear h1 h2)
        | (at_builtin; refine wpList_append_src _ rfl (.tmp 26) (.tmp 28) 30 30 rfl w.heap.size 22 i1 (.slice none 0 0) 1 24 Tryd.underlying30 hi' hz0' hz1' hz2' rfl vL ?n0 ?xs0 rfl ?c0 (.slice (some ⟨w1.heap.size, 0, none⟩) 1 1) 1 [.slice a1 Y c1] rfl ?cs ?c1 ?c2 ?c3 ?_))
      case n0 => exact vs.length
      case xs0 => exact vs
      case c0 => exact (HO.out.2.alloc _).owns HS.out.own (fun _ _ x => x)
      case cs => exact src_one _ Tryd.underlying30 _ HO.out.one
      case c1 => have := HS.out.len; simp [maxLen]; omega
      case c2 => have := HS.out.len; omega
      case c3 => have := (HO.out.2).size; have := HS.out.kept.size; simp; omega
      intro vL2 w2 hown hg _ hat
      have hJ2 := ScanAt.step HS.out HO.out HE.out HR.out (by rw [HU2.out, HZ.out]) hU3 hown hg
      have H2 := Lib.hid hJ2
      clear hJ2 hown hg hat HS HO
      go_wp2
      go_step3
      try simp only [Exit.jump]
      exact ⟨rfl, ⟨U2, vL2, _, _, _, _, _, _, _, _, _, _, _, _, _, _, _, _, _, _, _, _, _, _, _, _, _, _, _, _, _, _, _, _, rfl, H2.out⟩, by simpa [intOf] using hlt⟩
    · have HF : Hid (∀ e w', Firsted w0 R e w' → e = .returned (.tuple #[.slice none 0 0, .int .i64 0, .int .i64 ((firstE R : Nat) : Int)]) ∧ Kept (fun _ => False) w0 w') := Lib.hid fun e w' h => by
        unfold Firsted at h; rw [if_neg he] at h; exact h
      have HD := Lib.hid fun w' (h : Kept (fun _ => False) w0 w') => HS.out.bad (w1 := w') h (by have := hd'.out; omega) HR.out he
      obtain ⟨E1, hE1⟩ : ∃ E1, E1 = firstE R := ⟨_, rfl⟩
      rw [← hE1] at HF HD he
      have q2 : ((E1 : Int) != 0) = true := by simp; omega
      clear hE1 he
      go_wp2_with (go_at_call 13; refine M1.out.mono ?_; intro e w1 h1; obtain ⟨rfl, h2⟩ := HF.out e w1 h1; have HO := Lib.hid h2; clear h1 h2)
      simp only [Exit.jump]
      go_ret3
      exact HD.out _ HO.out
end Go.Proofs.YtficodklidaheaaDoor
/- package frame, layer 4: frames, plainly; what the document tells (awake). -/
namespace Go.Proofs.YtficodklidaheaaDoor
open Go.RowKit
attribute [local go_sem ↓] Go.wp_at_zero Go.wp_at_succ

theorem row8_none (w : World) : Row8 w (.slice none 0 0) [] := ⟨none, 0, rfl, by simp, fun j hj => absurd hj (by simp)⟩
theorem frame_cons (l r : List Nat) : frameL l ++ r = 165 :: (fourL l.length ++ (fourL (sumL l) ++ (l ++ r))) := by simp [frameL, headL]
theorem frame_len (l r : List Nat) : (frameL l ++ r).length = 9 + l.length + r.length := by rw [List.length_append, frameL_len]
theorem frame_drop1 (l r : List Nat) : ((frameL l ++ r).drop 1).take 4 = fourL l.length := by
  rw [frame_cons]
  show ((fourL l.length ++ (fourL (sumL l) ++ (l ++ r)))).take 4 = _
  rw [List.take_append_of_le_length (by rw [fourL_len]; omega)]; rfl
theorem frame_drop5 (l r : List Nat) : ((frameL l ++ r).drop 5).take 4 = fourL (sumL l) := by
  rw [frame_cons]
  show ((fourL (sumL l) ++ (l ++ r))).take 4 = _
  rw [List.take_append_of_le_length (by rw [fourL_len]; omega)]; rfl
theorem frame_drop9 (l r : List Nat) : (frameL l ++ r).drop 9 = l ++ r := by
  rw [frame_cons]; rfl
theorem frame_size (l r : List Nat) (hl : l.length ≤ 65536) : sizeL (frameL l ++ r) = l.length := by
  unfold sizeL; rw [frame_drop1, num_four _ (by omega)]
theorem frame_pay (l r : List Nat) (hl : l.length ≤ 65536) : payL (frameL l ++ r) = l := by
  unfold payL; rw [frame_size l r hl, frame_drop9]; simp
theorem frame_take5 (l r : List Nat) : (frameL l ++ r).take 5 = headL l := by
  rw [frame_cons]; rfl
theorem frame_want (l r : List Nat) : wantL (frameL l ++ r) = sumL l := by
  unfold wantL; rw [frame_drop5, num_four _ (sumL_lt l)]
theorem frame_first (l r : List Nat) (hl : l.length ≤ 65536) : firstE (frameL l ++ r) = 0 := by
  unfold firstE
  have h1 : (frameL l ++ r).getD 0 0 = 165 := by rw [frame_cons]; rfl
  rw [frame_len, frame_size l r hl, frame_pay l r hl, frame_take5, frame_want, h1, if_neg (by omega), if_neg (by omega), if_neg (by omega), if_neg (by omega), if_neg (by omega)]
  have : crcMore (crcMore 0 (headL l)) l = sumL l := rfl
  rw [this]; simp
theorem frame_rest (l r : List Nat) (hl : l.length ≤ 65536) : (frameL l ++ r).drop (9 + sizeL (frameL l ++ r)) = r := by
  rw [frame_size l r hl, ← List.drop_drop, frame_drop9]; simp
theorem ScanR.frame {l r : List Nat} (hl : l.length ≤ 65536) {Ls : List (List Nat)} {u e : Nat} (h : ScanR r Ls u e) : ScanR (frameL l ++ r) (l :: Ls) (9 + l.length + u) e := by
  have := ScanR.more (frameL l ++ r) Ls u e (frame_first l r hl) (by rw [frame_rest l r hl]; exact h)
  rwa [frame_pay l r hl, frame_size l r hl] at this
theorem scan_awake : ScanR (frameL [] ++ [165]) [[]] 9 2 := ScanR.frame (l := []) (by simp) (ScanR.bad [165] (by simp) (by decide))

/-- A row that has something begins at a block's start. -/
theorem own_at {w : World} {base : Nat} {E : TypeId} {v : Value} {n : Nat} {xs : List Value} (ho : w.ownsRow base E 1 v n xs) (hn : 0 < n) : ∃ g cap, v = .slice (some ⟨g, 0, none⟩) n cap ∧ base ≤ g ∧ n ≤ cap := by
  rcases ho.2 with ⟨_, h⟩ | ⟨g, cap, cur, rfl, hg, _, hc, _⟩
  · omega
  · exact ⟨g, cap, rfl, hg, hc⟩

set_option maxHeartbeats 1000000 in
theorem awake_any (w : World) (HN : Nibs w) :
    Calls Tryd.prog 12 #[] w fun e w' => e = .returned (.bool true) ∧ Kept (fun _ => False) w w' := by
  obtain ⟨i0, hi, hz0, hz1, hz2⟩ := info_parts info_u8
  have HW := Lib.hid (wrap_any (.slice none 0 0) [] (by simp) w (row8_none w) HN)
  have HN' := Lib.hid HN
  clear HN
  go_enter Tryd.func12, Tryd.ntmps12
  go_wp2_with (first
    | (go_at_call 19; refine HW.out.mono ?_; intro e w1 h1; obtain ⟨v1, rfl, ho, hk⟩ := h1; obtain ⟨g, cap, rfl, hg, hcap⟩ := own_at ho (by omega); have HO := Lib.hid ho; have HK := Lib.hid hk; clear ho hk)
    | (at_builtin; refine wpList_append_src _ rfl (.tmp 11) (.tmp 12) 22 22 rfl w1.heap.size 5 i0 (.int .u8 0) 1 1 Tryd.underlying22 hi hz0 hz1 hz2 rfl (.slice (some ⟨w1.heap.size, 0, none⟩) 0 0) 0 (b8 []) rfl ?c0 (.slice (some ⟨g, 0, none⟩) 9 cap) 9 (b8 (frameL [])) rfl ?cs ?c1 ?c2 ?c3 ?_))
  case c0 => exact own_new w1 w1.heap.size [] (by simp [maxLen]) rfl 0 rfl
  case cs =>
    have := ((row8_own (frameL_lt [] (by simp)) HO.out).kept ((Kept.refl _ w1).alloc (.cells #[] 5))).src'
    exact this
  case c1 => simp [maxLen]
  case c2 => omega
  case c3 => simp
  intro v2 w2 hown hgr _ hat
  have K2 : Kept (fun _ => False) w1 w2 := ((Kept.refl _ w1).alloc _).grown hgr (fun k e hlt => by simp [Value.ownBlock] at e; omega)
  have O2 : w2.ownsRow w1.heap.size 5 1 v2 9 (b8 (frameL [])) := by simpa [b8] using hown
  have HO2 := Lib.hid O2
  have HK2 := Lib.hid K2
  clear hown hgr hat O2 K2
  go_wp2_with (at_builtin; refine wpList_append_src _ rfl (.tmp 13) (.tmp 14) 22 22 rfl w1.heap.size 5 i0 (.int .u8 0) 1 1 Tryd.underlying22 hi hz0 hz1 hz2 rfl v2 9 (b8 (frameL [])) rfl ?c0 (.slice (some ⟨w2.heap.size, 0, none⟩) 1 1) 1 [.int .u8 165] rfl ?cs ?c1 ?c2 ?c3 ?_)
  case c0 => exact ((Kept.refl (fun _ => False) w2).alloc _).owns HO2.out (fun _ _ x => x)
  case cs => exact src_one _ Tryd.underlying22 _ rfl
  case c1 => simp [maxLen]
  case c2 => omega
  case c3 => have := HK2.out.size; simp; omega
  intro v3 w3 hown hgr _ hat
  have K3 : Kept (fun _ => False) w1 w3 := (HK2.out.alloc _).grown hgr (fun k e hlt => by have := (ownsRow_lt HO2.out e).2; omega)
  have O3 : w3.ownsRow w1.heap.size 5 1 v3 10 (b8 (frameL [] ++ [165])) := by rw [b8_append]; exact hown
  obtain ⟨g3, cap3, rfl, _, hcap3⟩ := own_at O3 (by omega)
  have R3 := row8_own (l := frameL [] ++ [165]) (by intro x hx; rcases List.mem_append.1 hx with h | h; exact frameL_lt [] (by simp) x h; simp at h; omega) O3
  have hl3 : (frameL [] ++ [165]).length = 10 := by simp [frameL_len]
  have S3 := scan_any (some ⟨g3, 0, none⟩) cap3 (frameL [] ++ [165]) (by omega) (by omega) w3 (by rw [hl3]; exact R3) (HN'.out.kept (HK.out.trans K3))
  rw [hl3] at S3
  have HS3 := Lib.hid S3
  have HK3 := Lib.hid K3
  clear S3 K3 R3 O3 hown hgr hat hl3 HO2 HK2
  have HC : Hid (∀ w', Kept (fun _ => False) w3 w' → w'.cell? ⟨g, 0, none⟩ = some (.int .u8 165)) := Lib.hid fun w' hk => by
    have := hk.cell (HK3.out.cell (HO.out.cells (g := g) rfl 0 (.int .u8 165) (by rfl)) (fun x => x)) (fun x => x)
    simpa [Addr.add] using this
  go_wp2_with (go_at_call 15; refine HS3.out.mono ?_; intro e w4 h1; obtain ⟨vl, vs, Ls, u, n, hr, rfl, hown, hrows, hk⟩ := h1; obtain ⟨rfl, rfl, rfl⟩ := hr.fn scan_awake; obtain ⟨al, cl, rfl⟩ := ownsRow_slice hown; have hvl := hrows.length; have hvl1 : vs.length = 1 := hvl; rw [hvl1]; have hcell := HC.out _ hk; have HK4 := Lib.hid hk; clear hrows hown hk hvl hvl1 hr)
  go_ret
  exact ⟨rfl, (HK.out.trans HK3.out).trans HK4.out⟩
end Go.Proofs.YtficodklidaheaaDoor
/- package limnographref04: strings of bytes; four; the document's sum. -/
namespace Go.Proofs.YtficodklidaheaaDoor
open Go.RowKit
attribute [local go_sem ↓] Go.wp_at_zero Go.wp_at_succ

def strN (l : List Nat) : ByteArray := (l.map fun (n : Nat) => (n : Int)).foldl (fun r n => r.push (UInt8.ofNat n.toNat)) ByteArray.empty
theorem strN_fold (l : List Nat) : ∀ b : ByteArray, ((l.map fun (n : Nat) => (n : Int)).foldl (fun r n => r.push (UInt8.ofNat n.toNat)) b).data.toList = b.data.toList ++ l.map UInt8.ofNat := by
  induction l with
  | nil => intro b; simp
  | cons x r ih =>
    intro b
    rw [List.map_cons, List.foldl_cons, ih]
    simp [ByteArray.push]
theorem strN_data (l : List Nat) : (strN l).data.toList = l.map UInt8.ofNat := by
  have := strN_fold l ByteArray.empty
  simpa [strN] using this
theorem byteArray_eq {a b : ByteArray} (h : a.data.toList = b.data.toList) : a = b := by
  cases a; cases b
  simp at h
  rw [h]
theorem strN_size (l : List Nat) : (strN l).size = l.length := by
  have : (strN l).size = (strN l).data.toList.length := by rw [Array.length_toList]; rfl
  rw [this, strN_data, List.length_map]
theorem strN_append (a b : List Nat) : strN (a ++ b) = strN a ++ strN b := by
  apply byteArray_eq
  simp [strN_data]
theorem conv8 {w : World} {v : Value} {l : List Nat} (h : Row8 w v l) : (convert 22 9 v).run Tryd.prog w = .ok (.string (strN l)) w := by
  have h0 := h
  obtain ⟨ao, c, rfl, _, hc⟩ := h
  rw [run_convert_bytes_string w _ _ _ _ _ _ Tryd.underlying22 Tryd.underlying5 Tryd.underlying9]
  cases ao with
  | none =>
    obtain rfl := h0.nil
    simp [Conv.bytesToString, strN]
  | some a =>
    have hl : (loadCells a l.length).run Tryd.prog w = .ok ((l.map fun (n : Nat) => (n : Int)).map (Value.int .u8)).toArray w := by
      have := run_loadCells_list (P := Tryd.prog) w a (b8 l) (fun j v hj => by
        have hjl : j < l.length := by have := (List.getElem?_eq_some_iff.1 hj).1; simpa [b8] using this
        obtain ⟨a', ha, h1⟩ := hc j hjl
        cases ha
        rw [b8_at l j hjl] at hj
        cases hj
        exact h1)
      rw [b8_len] at this
      rw [this]
      simp [b8, List.map_map, Function.comp_def]
    rw [run_bytesToString w a l.length c _ hl]
    rfl
/-- `[]byte(s)` -/
theorem strBytes_run (w : World) (l : List Nat) :
    (convert 9 22 (.string (strN l))).run Tryd.prog w = .ok (.slice (some ⟨w.heap.size, 0, none⟩) l.length (grownCap w l.length 0 5)) (Lib.bytesWorld w 5 (strN l)) := by
  have := Lib.run_convert_string_bytes (P := Tryd.prog) w 9 22 5 (strN l) Tryd.underlying9 Tryd.underlying22 Tryd.underlying5
  rw [strN_size] at this
  exact this
theorem strBytes_kept (w : World) (s : ByteArray) : Kept (fun _ => False) w (Lib.bytesWorld w 5 s) :=
  ⟨rfl, rfl, rfl, by rw [Lib.bytesWorld_size]; omega, fun j hj _ => Lib.bytesWorld_at_old w _ s j hj⟩
theorem strBytes_row (w : World) (l : List Nat) (hb : ∀ x ∈ l, x < 256) (c : Nat) : Row8 (Lib.bytesWorld w 5 (strN l)) (.slice (some ⟨w.heap.size, 0, none⟩) l.length c) l := by
  refine ⟨some ⟨w.heap.size, 0, none⟩, c, rfl, hb, fun j hj => ⟨_, rfl, ?_⟩⟩
  have e : (⟨w.heap.size, 0, none⟩ : Addr).add j = ⟨w.heap.size, j, none⟩ := by unfold Addr.add; split <;> simp_all
  rw [e, Lib.bytesWorld_cell w _ _ j (by rw [strN_size]; exact hj), strN_data]
  have h1 := getD_lt hb hj
  simp only [List.getD_eq_getElem?_getD, List.getElem?_map, List.getElem?_eq_getElem hj, Option.map_some, Option.getD_some] at h1 ⊢
  have : (UInt8.ofNat l[j]).toNat = l[j] := by simp; omega
  rw [this]

set_option maxHeartbeats 1000000 in
theorem refFour_any (n : Nat) (hn : n < 4294967296) (w : World) :
    Calls Tryd.prog 89 #[.int .i64 n] w fun e w' => e = .returned (.string (strN (fourL n))) ∧ Kept (fun _ => False) w w' := by
  have e1 : IntKind.u8.wrap ((n : Int) % 256) = ((n % 256 : Nat) : Int) := by rw [IntKind.wrap_u8]; omega
  have e2 : IntKind.u8.wrap ((n : Int) / 256 % 256) = ((n / 256 % 256 : Nat) : Int) := by rw [IntKind.wrap_u8]; omega
  have e3 : IntKind.u8.wrap ((n : Int) / 65536 % 256) = ((n / 65536 % 256 : Nat) : Int) := by rw [IntKind.wrap_u8]; omega
  have e4 : IntKind.u8.wrap ((n : Int) / 16777216) = ((n / 16777216 % 256 : Nat) : Int) := by rw [IntKind.wrap_u8]; omega
  have h0 : (0 : Int) ≤ (n : Int) := by omega
  have QC := conv8 (row8_new w w.heap.size 4 (fourL n) 5 (0, 0) rfl (fourL_lt n))
  have QC2 : (convert 22 9 (.slice (some ⟨w.heap.size, 0, none⟩) 4 4)).run Tryd.prog (w.alloc (.cells #[.int .u8 ((n % 256 : Nat) : Int), .int .u8 ((n / 256 % 256 : Nat) : Int), .int .u8 ((n / 65536 % 256 : Nat) : Int), .int .u8 ((n / 16777216 % 256 : Nat) : Int)] 5)) = .ok (.string (strN (fourL n))) (w.alloc (.cells #[.int .u8 ((n % 256 : Nat) : Int), .int .u8 ((n / 256 % 256 : Nat) : Int), .int .u8 ((n / 65536 % 256 : Nat) : Int), .int .u8 ((n / 16777216 % 256 : Nat) : Int)] 5)) := QC
  obtain ⟨a1, h1⟩ : ∃ a, a = n % 256 := ⟨_, rfl⟩
  obtain ⟨a2, h2⟩ : ∃ a, a = n / 256 % 256 := ⟨_, rfl⟩
  obtain ⟨a3, h3⟩ : ∃ a, a = n / 65536 % 256 := ⟨_, rfl⟩
  obtain ⟨a4, h4⟩ : ∃ a, a = n / 16777216 % 256 := ⟨_, rfl⟩
  rw [← h1] at e1 QC2
  rw [← h2] at e2 QC2
  rw [← h3] at e3 QC2
  rw [← h4] at e4 QC2
  clear QC h1 h2 h3 h4
  go_enter Tryd.func89, Tryd.ntmps89
  go_wp2
  go_ret
  exact ⟨rfl, (Kept.refl _ _).alloc _⟩
end Go.Proofs.YtficodklidaheaaDoor
/- Rows of bytes: one that came in; the document's frame as a text. -/
namespace Go.Proofs.YtficodklidaheaaDoor
open Go.ChangeShapes Go.WideShapes Go.RowKit

theorem IsRow.row8 {w : World} {a : Option Addr} {len cap : Nat} {zs : List Int} (h : IsRow .u8 w a len cap zs) : ∃ l : List Nat, l.length = len ∧ Row8 w (.slice a l.length cap) l ∧ len ≤ maxLen := by
  rcases h with ⟨rfl, rfl, rfl, rfl⟩ | ⟨x, rfl, hl, hm, hz, hc, hw⟩
  · exact ⟨[], rfl, ⟨none, 0, rfl, by simp, fun j hj => absurd hj (by simp)⟩, by simp [maxLen]⟩
  · have hlen : ((zs.take len).map Int.toNat).length = len := by rw [List.length_map, List.length_take]; omega
    refine ⟨(zs.take len).map Int.toNat, hlen, ⟨some x, cap, rfl, ?_, ?_⟩, by omega⟩
    · intro y hy
      obtain ⟨z, hz2, rfl⟩ := List.mem_map.1 hy
      have := bd_u8 (hw z (List.mem_of_mem_take hz2))
      omega
    · intro j hj
      rw [hlen] at hj
      refine ⟨x, rfl, ?_⟩
      rw [hc j (by omega)]
      have hjz : j < zs.length := by omega
      have hb := bd_u8 (hw zs[j] (List.getElem_mem hjz))
      have e : ((((zs.take len).map Int.toNat).getD j 0 : Nat) : Int) = zs.getD j 0 := by
        simp only [List.getD_eq_getElem?_getD, List.getElem?_map, List.getElem?_take, hj, if_true, List.getElem?_eq_getElem hjz, Option.map_some, Option.getD_some]
        omega
      rw [e]
theorem ref_conv {w : World} {l : List Nat} {v : Value} (h : Row8 w v (frameL l)) : (convert 22 9 v).run Tryd.prog w = .ok (.string (strN (frameL l))) w := conv8 h
end Go.Proofs.YtficodklidaheaaDoor
