/- Texts put together for a seat that lacks some of the functions: Q1 R1 Q2 Q5 Q6 Q7 Q3 Q8 PK G1 SX SN NX NY (tools/strip.py). -/
import Derived.Deep.LoopGhost
import Derived.Deep.RegionLaw
import Derived.Deep.Slices
import Derived.Deep.Fields
import Derived.ChangeSame
import Derived.Lib.ConvBytes
import Derived.Deep.RegionWith
import Derived.Deep.CutBlock
import Derived.WideShapes
import Derived.Lib.Hide
import Derived.Laws.Rows
import Derived.Deep.RegionHeld3
import Derived.Deep.DrawnRows
import Derived.Deep.QuietTactic
import Derived.BigQuiet
import Derived.Outline
import Derived.Deep.DeepCutAuto
import Derived.StillTailTactics
import Derived.Test.YteflepcmblacaaaGreatDoorProg
import Derived.Test.YteflepcmblacaaaGreatDoorZa
-- Q1
namespace Go.Proofs.YteflepcmblacaaaGreatDoor
open Go.RowKit
attribute [local go_sem ↓] Go.wp_at_zero Go.wp_at_succ

/-- A fixed number's bytes, so many. -/
def fixK (v : Int) (j : Nat) : List Int := (List.range j).map (byteI v)
def fixB (v : Int) : List Int := fixK v 8
theorem fixK_succ (v : Int) (j : Nat) : fixK v (j + 1) = fixK v j ++ [byteI v j] := by unfold fixK; rw [List.range_succ, List.map_append]; rfl
@[simp] theorem fixK_length (v : Int) (j : Nat) : (fixK v j).length = j := by simp [fixK]

set_option maxHeartbeats 2000000 in
theorem wfix_any (B p : Nat) (v : Value) (l : List Int) (x : Int) (w : World) (HW : WrAt 82 5 w B p v l) (hB : B ≤ w.heap.size)
    (hl : l.length ≤ 1000000000) :
    Calls Tryz.prog 49 #[.pointer (some ⟨p, 0, none⟩), .int .u64 x] w fun e w' => e = .returned (.tuple #[]) ∧ WrTo 82 5 w w' B p v (l ++ fixB x) := by
  obtain ⟨i0, hi, hz0, hz1, hz2⟩ := info_parts Tryz.info5
  have hst : WrTo 82 5 w w B p v (l ++ fixK x 0) := by simpa [fixK] using HW.to
  clear HW
  go_enter Tryz.func49, Tryz.ntmps49
  go_wp2
  go_loopg [5] 8 (fun g s5 wr => ∃ j : Nat, j ≤ 8 ∧ g = 8 - j ∧ s5 = .int .i64 j ∧ WrTo 82 5 w wr B p v (l ++ fixK x j))
  case atStart => exact ⟨0, Nat.zero_le _, rfl, rfl, hst⟩
  case round =>
    obtain ⟨j, hj, rfl, rfl, hto⟩ := hrel
    clear hst
    by_cases hd : j < 8
    · have hj0 : (0 : Int) ≤ (j : Int) := by omega
      have hj1 : (j : Int) < 8 := by omega
      obtain ⟨d, hdd⟩ : ∃ d, d = 8 * j := ⟨_, rfl⟩
      have e6 : IntKind.i64.wrap (8 * (j : Int)) = (d : Int) := by rw [IntWalk.i64_in _ ⟨by omega, by omega⟩]; omega
      have e7 : 8 * (j : Int) = (d : Int) := by omega
      have e8 : (d : Int) ≤ 64 := by omega
      have e10 : IntKind.i64.wrap (d : Int) = (d : Int) := IntWalk.i64_in _ ⟨by omega, by omega⟩
      have e9 : (0 : Int) ≤ (d : Int) := by omega
      obtain ⟨v1, HW1, hsz1, back⟩ := hto.part
      have hB1 : B ≤ wr.heap.size := Nat.le_trans hB hsz1
      have hlen1 : (l ++ fixK x j).length ≤ 1000000010 := by simp; omega
      obtain ⟨l1, hl1⟩ : ∃ l1, l1 = l ++ fixK x j := ⟨_, rfl⟩
      rw [← hl1] at HW1 hlen1
      obtain ⟨y, hy⟩ : ∃ y, y = byteI x j := ⟨_, rfl⟩
      have hyv : IntKind.u8.wrap (x / 2 ^ d) = y := by
        have := byte_shift x (8 * (j : Int)) j rfl
        rw [hy, ← this, e7]; rfl
      have hyv2 : x / 2 ^ d % 256 = y := by rw [← hyv, IntKind.wrap_u8]
      have HL1 := Lib.hid hl1
      have HY := Lib.hid hy
      have HD := Lib.hid hd
      have hc1 := HW1.cell
      have hf1 := HW1.free
      have hp1 := HW1.lt
      obtain ⟨ao1, cp1, rfl⟩ := ownsRow_slice HW1.owns
      clear hto hl1 hy hdd hd
      go_wp2
      go_region_law
        ((refine step_append_src _ (by rfl) (.tmp 12) (.tmp 18) 33 33 (by rfl) B 5 i0 (.int .u8 0) 1 1 Tryz.underlying33 hi hz0 hz1 hz2 rfl (.slice ao1 l1.length cp1) l1.length (u8s l1) (by rfl) (by exact (HW1.owns.alloc _).drew) (.slice (some ⟨wr.heap.size, 0, none⟩) 1 1) 1 [(.int .u8 y)] (by rfl) (by exact src_one_drew wr Tryz.underlying33 (.int .u8 y) rfl) (by unfold maxLen; omega) (by omega) (by simp; omega) ?_; intro v1 w1 hown hg _ hat; obtain ⟨a1, c1, rfl⟩ := ownsRow_slice hown; have hk1 : Kept (fun _ => False) wr (wr.alloc (.cells #[(.int .u8 y)] 5)).drew := ((Kept.refl _ _).alloc _).drew; have hbox := HW1.behind hk1 hg; have hc1 := cell_of_one hbox; have hf1 := free_of_one hbox))
      all_goals
        have fin := Lib.hid (back.out _ _ (HW1.pushed (l2 := [y]) hk1 hown hg rfl hat))
        clear hown hg hat
        go_wp2
        go_roundg (8 - (j + 1))
        case measure => have := HD.out; omega
        case rel =>
          have e : l1 ++ [y] = l ++ fixK x (j + 1) := by rw [HL1.out, List.append_assoc, fixK_succ, HY.out]
          exact ⟨j + 1, HD.out, rfl, by go_num, by rw [← e]; exact fin.out⟩
    · obtain rfl : j = 8 := by omega
      go_wp2
      go_end0
      exact ⟨rfl, hto⟩

theorem own_kept {w wr wa w2 : World} {E : TypeId} {v : Value} {n : Nat} {xs : List Value} (hk : Kept (fun _ => False) w wr) (ha : Kept (fun _ => False) wr wa) (ho : wr.ownsRow w.heap.size E 1 v n xs) (hg : wa.grownBy w2 v.ownBlock) : Kept (fun _ => False) w w2 :=
  (hk.trans ha).grown hg (fun k e hlt => by have := (ownsRow_lt ho e).2; omega)

theorem restB_cons (v : Int) (j : Nat) : byteI v j :: restB v j j = restB v (j + 1) (j + 1) := by
  unfold restB
  rw [List.range_succ_eq_map, List.map_cons, List.map_map]
  simp only [Nat.add_sub_cancel, Nat.sub_zero]
  congr 1
  apply List.map_congr_left
  intro i hi
  simp only [Function.comp_apply]
  congr 1
  omega

/-- The first byte's ones. -/
def onesB (j : Nat) : Nat := 256 - 2 ^ (8 - j)
theorem onesB_succ (j : Nat) (hj : j < 8) : onesB (j + 1) = onesB j + 128 / 2 ^ j := by
  obtain rfl | rfl | rfl | rfl | rfl | rfl | rfl | rfl : j = 0 ∨ j = 1 ∨ j = 2 ∨ j = 3 ∨ j = 4 ∨ j = 5 ∨ j = 6 ∨ j = 7 := by omega
  all_goals decide
theorem firstB_ones (v : Int) (k : Nat) (hk : k ≤ 8) : firstB v k = (onesB k : Int) + v / ((256 ^ k : Nat) : Int) := by
  unfold firstB onesB
  have h : 2 ^ (8 - k) ≤ 2 ^ 8 := Nat.pow_le_pow_right (by omega) (by omega)
  have h2 : (2 : Nat) ^ 8 = 256 := rfl
  omega
theorem num_top (x : Int) (h0 : 0 ≤ x) (h1 : x ≤ 18446744073709551615) : 0 ≤ x / ((256 ^ oth x : Nat) : Int) ∧ (oth x < 8 → (onesB (oth x) : Int) + x / ((256 ^ oth x : Nat) : Int) < 256) ∧ (oth x = 8 → x / ((256 ^ oth x : Nat) : Int) = 0) := by
  have hk := oth_le x
  have hp : (0 : Int) < ((256 ^ oth x : Nat) : Int) := by have := Nat.pow_pos (n := oth x) (show 0 < 256 by decide); omega
  refine ⟨Int.ediv_nonneg h0 (by omega), fun h => ?_, fun h => ?_⟩
  · have he := oth_end x (oth x) rfl h
    generalize oth x = k at *
    obtain rfl | rfl | rfl | rfl | rfl | rfl | rfl | rfl : k = 0 ∨ k = 1 ∨ k = 2 ∨ k = 3 ∨ k = 4 ∨ k = 5 ∨ k = 6 ∨ k = 7 := by omega
    all_goals
      simp only [onesB, Nat.reduceMul, Nat.reduceAdd, Nat.reduceSub, Nat.reducePow] at he ⊢
      omega
  · rw [h]
    simp only [Nat.reducePow]
    omega

end Go.Proofs.YteflepcmblacaaaGreatDoor

-- R1
namespace Go.Proofs.YteflepcmblacaaaGreatDoor
open Go.ChangeShapes Go.WideShapes Go.Deep Go.RowKit

/-- Each element of a slice of structs (of fields of one cell each) lies in its cells, and each field reads by its own type. -/
theorem recs_of {H : Type} {enc : TypeId × Value → H} {P : Program} {W : World} {sp : Nat} {T E : TypeId} {fs : Array Field} {a : Option Addr} {len cap : Nat} {d : DataW H} {p : List MemPlace}
    (hT : P.underlying T = some (.slice E)) (hE : P.underlying E = some (.struct fs)) (hone : oneCellFields P fs = true) (hC : P.cellsOf E = fs.size) (h : DataW.Trod enc P W sp (fun _ => true) true T (.slice a len cap) d p) :
    (a = none ∧ len = 0 ∧ cap = 0) ∨
    ∃ x, a = some x ∧ len ≤ cap ∧ cap ≤ maxLen ∧ ∀ i, i < len → ∀ (j : Nat) (f : Field), fs[j]? = some f → ∃ (v : Value) (n : Nat) (y : DataW H × List MemPlace), W.cell? (x.add (i * fs.size + j)) = some v ∧ DataW.trod enc P W sp (fun _ => true) true n f.type [v] = some y := by
  obtain ⟨fuel, hf⟩ := h
  rcases open_slice hT hf with ⟨hcs, _⟩ | ⟨x, l, c, m, n, D, Pl, hcs, _, hl, hm, hmm, _, hi⟩
  · simp [Value.cells] at hcs
    obtain ⟨rfl, rfl, rfl⟩ := hcs
    exact .inl ⟨rfl, rfl, rfl⟩
  · simp [Value.cells] at hcs
    obtain ⟨rfl, rfl, rfl⟩ := hcs
    refine .inr ⟨x, rfl, hl, hm, fun i hil j f hj => ?_⟩
    obtain ⟨cs', hc, ht'⟩ := hi i (by simp at hmm; omega)
    rw [hC] at hc
    obtain ⟨ys, n', _, _, _, hyl, hg⟩ := DataW.trod_struct hE ht'
    obtain ⟨_, hcl, hat⟩ := World.cells?_some hc
    obtain ⟨ho, hk⟩ := hone_of hone j f hj
    have hjl : j < fs.size := (Array.getElem?_eq_some_iff.1 hj).1
    have h1 := hg j f hj
    rw [ho, hk, List.drop_eq_getElem_cons (by omega), List.take_succ_cons, List.take_zero, List.getElem?_eq_getElem (by omega)] at h1
    refine ⟨cs'[j]'(by omega), n', _, ?_, h1⟩
    rw [← Go.Deep.add_add, hat j hjl, List.getElem?_eq_getElem (by omega)]
end Go.Proofs.YteflepcmblacaaaGreatDoor

-- Q2
namespace Go.Proofs.YteflepcmblacaaaGreatDoor
open Go.ChangeShapes Go.WideShapes Go.ChangeAt Go.RowKit Go.Deep
attribute [local go_sem ↓] Go.wp_at_zero Go.wp_at_succ

theorem wtrod_i64 {H : Type} {enc : TypeId × Value → H} {P : Program} {T : TypeId} {k : IntKind} {W : World} {sp n : Nat} {v : Value} {y : DataW H × List MemPlace}
    (hT : P.underlying T = some (.int k)) (h : DataW.trod enc P W sp (fun _ => true) true n T [v] = some y) : ∃ x, v = .int k x ∧ (Lit.int k x).wf = true := by
  obtain ⟨x, e, _, hw⟩ := DataW.trod_int hT h
  injection e with e _
  exact ⟨x, e, hw⟩
theorem wtrod_str {H : Type} {enc : TypeId × Value → H} {P : Program} {T : TypeId} {W : World} {sp n : Nat} {v : Value} {y : DataW H × List MemPlace}
    (hT : P.underlying T = some .string) (h : DataW.trod enc P W sp (fun _ => true) true n T [v] = some y) : ∃ s, v = .string s := by
  obtain ⟨s, e, _, hw⟩ := DataW.trod_string hT h
  injection e with e _
  exact ⟨s, e⟩

/-- A word. -/
structure WRec where
  k : Int
  n : Int
  v : Int
  s : ByteArray

/-- It lies at a place. -/
structure WordAt (W : World) (g o : Nat) (r : WRec) : Prop where
  ck : W.cell? ⟨g, o, none⟩ = some (.int .i64 r.k)
  cn : W.cell? ⟨g, o + 1, none⟩ = some (.int .i64 r.n)
  cv : W.cell? ⟨g, o + 2, none⟩ = some (.int .u64 r.v)
  cs : W.cell? ⟨g, o + 3, none⟩ = some (.string r.s)
  hn : -9223372036854775808 ≤ r.n ∧ r.n ≤ 9223372036854775807
  hv : 0 ≤ r.v ∧ r.v ≤ 18446744073709551615

/-- A slice of them. -/
def WordsAt (W : World) (ao : Option Addr) (rs : List WRec) : Prop :=
  0 < rs.length → ∃ g o, ao = some ⟨g, o, none⟩ ∧ ∀ i r, rs[i]? = some r → WordAt W g (o + i * 4) r

theorem WordAt.kept {W w : World} {g o : Nat} {r : WRec} (h : WordAt W g o r) (hk : Kept (fun _ => False) W w) : WordAt w g o r :=
  ⟨hk.cell h.ck (fun x => x), hk.cell h.cn (fun x => x), hk.cell h.cv (fun x => x), hk.cell h.cs (fun x => x), h.hn, h.hv⟩
theorem WordsAt.kept {W w : World} {ao : Option Addr} {rs : List WRec} (h : WordsAt W ao rs) (hk : Kept (fun _ => False) W w) : WordsAt w ao rs := fun h0 => by
  obtain ⟨g, o, e, hr⟩ := h h0
  exact ⟨g, o, e, fun i r hi => (hr i r hi).kept hk⟩

theorem wchoose_list {α : Type} {n : Nat} {P : Nat → α → Prop} (h : ∀ i, i < n → ∃ r, P i r) : ∃ l : List α, l.length = n ∧ ∀ i r, l[i]? = some r → P i r := by
  induction n with
  | zero => exact ⟨[], rfl, by simp⟩
  | succ n ih =>
    obtain ⟨l, hl, hp⟩ := ih (fun i hi => h i (by omega))
    obtain ⟨r, hr⟩ := h n (by omega)
    refine ⟨l ++ [r], by simp [hl], fun i r' hi => ?_⟩
    rw [List.getElem?_append] at hi
    split at hi
    · exact hp i r' hi
    · rename_i h1
      have h2 : i - l.length = 0 := by
        rcases Nat.eq_zero_or_pos (i - l.length) with h | h
        · exact h
        · rw [List.getElem?_eq_none (by simp; omega)] at hi; cases hi
      rw [h2] at hi
      simp at hi
      have h3 : i = n := by omega
      subst hi; rw [h3]; exact hr

/-- Are there few, and short? -/
def fewW (rs : List WRec) : Bool := decide (rs.length ≤ 60) && rs.all fun r => decide (r.s.size ≤ 300)

/-- `[]byte(s)` -/
theorem strBytes_run {P : Program} (w : World) (src dst : TypeId) (s : ByteArray) (hs : P.underlying src = some .string) (hd : P.underlying dst = some (.slice 5)) (he : P.underlying 5 = some (.int .u8)) :
    (convert src dst (.string s)).run P w = .ok (.slice (some ⟨w.heap.size, 0, none⟩) s.size (grownCap w s.size 0 5)) (Lib.bytesWorld w 5 s) := Lib.run_convert_string_bytes w src dst 5 s hs hd he
theorem strBytes_kept (w : World) (e : TypeId) (s : ByteArray) : Kept (fun _ => False) w (Lib.bytesWorld w e s) :=
  ⟨rfl, rfl, rfl, by rw [Lib.bytesWorld_size]; omega, fun j hj _ => Lib.bytesWorld_at_old w e s j hj⟩
theorem strBytes_src {P : Program} (w : World) (e t : TypeId) (s : ByteArray) (c : Nat) (ht : P.underlying t = some (.slice e)) : Src P 1 t (.slice (some ⟨w.heap.size, 0, none⟩) s.size c) (strB s).length (u8s (strB s)) (Lib.bytesWorld w e s) := by
  rw [strB_length]
  refine Src.ofSlice _ ht _ _ c _ (by simp [strB_length]) (fun j u hj => ?_) (u8s_one _)
  have hlt : j < s.size := by
    have := (List.getElem?_eq_some_iff.1 hj).1
    simpa [strB_length] using this
  rw [addr_add, Lib.bytesWorld_cell w e s j hlt]
  unfold u8s strB at hj
  rw [List.map_map, List.getElem?_map] at hj
  obtain ⟨b, hb, rfl⟩ := Option.map_eq_some_iff.1 hj
  rw [List.getD_eq_getElem?_getD, hb]; rfl
end Go.Proofs.YteflepcmblacaaaGreatDoor

-- Q5
namespace Go.Proofs.YteflepcmblacaaaGreatDoor
open Go.RowKit
attribute [local go_sem ↓] Go.wp_at_zero Go.wp_at_succ

/-- What a look answers, the error it had ahead of all. -/
def lookE (l : List Int) (t : Nat) (e : Int) : Int × Nat × Int := if e = 0 then lookF l t else (0, 0, e)
theorem lookE_taken (l : List Int) (t : Nat) (e : Int) (ht : t ≤ l.length) : t + (lookE l t e).2.1 ≤ l.length := by
  unfold lookE
  split
  · exact lookF_taken l t ht
  · simpa using ht
theorem lookE_fault {l : List Int} {t n : Nat} {e v e1 : Int} (h : lookE l t e = (v, n, e1)) (he : e1 ≠ 0) : v = 0 ∧ n = 0 := by
  unfold lookE at h
  split at h
  · exact look_fault l t n v e1 h he
  · simp only [Prod.mk.injEq] at h; omega
theorem lookE_num {l : List Int} {t n : Nat} {e v : Int} (hb : ∀ x ∈ l, 0 ≤ x ∧ x < 256) (h : lookE l t e = (v, n, 0)) : e = 0 ∧ 0 ≤ v ∧ v ≤ 18446744073709551615 ∧ t + n ≤ l.length := by
  unfold lookE at h
  split at h
  · rename_i he
    obtain ⟨_, h1, h2, _, _, h3⟩ := look_num l t n v hb h
    exact ⟨he, h1, h2, h3⟩
  · rename_i he
    simp only [Prod.mk.injEq] at h; omega

theorem look_all (B p : Nat) (v : Value) (l : List Int) (t : Nat) (e : Int) (w : World) (HR : RdAt 96 5 w B p v l t e) (hl : l.length ≤ 100000000000) :
    Calls Tryz.prog 80 #[.pointer (some ⟨p, 0, none⟩)] w (Looked 96 5 w B p v l t (lookE l t e)) := by
  by_cases he : e = 0
  · subst he
    have : lookE l t 0 = lookF l t := if_pos rfl
    rw [this]; exact look_any B p v l t w HR hl
  · have : lookE l t e = (0, 0, e) := if_neg he
    rw [this]; exact look_err B p v l t e w HR (by simp [he])
theorem rnum_all (B p : Nat) (v : Value) (l : List Int) (t : Nat) (e : Int) (w : World) (HR : RdAt 96 5 w B p v l t e) (hl : l.length ≤ 100000000000) :
    Calls Tryz.prog 63 #[.pointer (some ⟨p, 0, none⟩)] w (Read 96 5 w B p v l t (lookE l t e)) := by
  by_cases he : e = 0
  · subst he
    have : lookE l t 0 = lookF l t := if_pos rfl
    rw [this]; exact rnum_any B p v l t w HR hl
  · have : lookE l t e = (0, 0, e) := if_neg he
    rw [this]; exact rnum_err B p v l t e w HR hl (by simp [he])

theorem lookE_range (l : List Int) (t : Nat) (e : Int) (hb : ∀ x ∈ l, 0 ≤ x ∧ x < 256) : 0 ≤ (lookE l t e).1 ∧ (lookE l t e).1 ≤ 18446744073709551615 := by
  obtain ⟨r, hr⟩ : ∃ r, r = lookE l t e := ⟨_, rfl⟩
  obtain ⟨v, n, e1⟩ := r
  rw [← hr]
  by_cases he : e1 = 0
  · subst he
    obtain ⟨_, h1, h2, _⟩ := lookE_num hb hr.symm
    exact ⟨h1, h2⟩
  · have := (lookE_fault hr.symm he).1
    simp only; omega

set_option maxHeartbeats 400000 in
set_option maxRecDepth 100000 in
theorem rint_all (B p : Nat) (v : Value) (l : List Int) (t : Nat) (e : Int) (w : World) (HR : RdAt 96 5 w B p v l t e) (hl : l.length ≤ 100000000000) :
    Calls Tryz.prog 60 #[.pointer (some ⟨p, 0, none⟩)] w fun e' w' => e' = .returned (.int .i64 (zagI (lookE l t e).1)) ∧ RdAt 96 5 w' B p v l (t + (lookE l t e).2.1) (lookE l t e).2.2 ∧ Kept (fun k => k = p) w w' := by
  have hr := lookE_range l t e HR.byte
  have HN := Lib.hid (rnum_all B p v l t e w HR hl)
  obtain ⟨r, hrr⟩ : ∃ r, r = lookE l t e := ⟨_, rfl⟩
  rw [← hrr] at HN hr ⊢
  clear hrr HR
  go_enter Tryz.func60, Tryz.ntmps60
  go_wp2_with fail
  refine HN.out.mono ?_
  rintro e' w' ⟨rfl, HR1, hk⟩
  have HF := Lib.hid (And.intro HR1 hk)
  clear HR1 hk
  go_wp2_with (go_at_call 81; refine (zag_any _ hr.1 hr.2 _).mono ?_; rintro e w' ⟨rfl, rfl⟩)
  go_ret
  exact ⟨rfl, HF.out⟩

/-- What Count answers. -/
def countF (l : List Int) (t : Nat) (e most : Int) : Int × Nat × Int := if (lookE l t e).2.2 = 0 ∧ (most < 0 ∨ most < (lookE l t e).1) then (0, 0, 4) else lookE l t e

set_option maxHeartbeats 1000000 in
set_option maxRecDepth 100000 in
theorem rcount_all (B p : Nat) (v : Value) (l : List Int) (t : Nat) (e most : Int) (w : World) (HR : RdAt 96 5 w B p v l t e) (hl : l.length ≤ 100000000000) (hm0 : -9223372036854775808 ≤ most) (hm1 : most ≤ 9223372036854775807) :
    Calls Tryz.prog 58 #[.pointer (some ⟨p, 0, none⟩), .int .i64 most] w fun e' w' => e' = .returned (.int .i64 (countF l t e most).1) ∧ RdAt 96 5 w' B p v l (t + (countF l t e most).2.1) (countF l t e most).2.2 ∧ Kept (fun k => k = p) w w' := by
  have HN := Lib.hid (look_all B p v l t e w HR hl)
  have hcf : countF l t e most = if (lookE l t e).2.2 = 0 ∧ (most < 0 ∨ most < (lookE l t e).1) then (0, 0, 4) else lookE l t e := rfl
  have htk := lookE_taken l t e HR.taken
  have hrg := lookE_range l t e HR.byte
  have hft : ∀ v n e1, lookE l t e = (v, n, e1) → e1 ≠ 0 → v = 0 ∧ n = 0 := fun v n e1 h he => lookE_fault h he
  obtain ⟨r, hrr⟩ : ∃ r, r = lookE l t e := ⟨_, rfl⟩
  rw [← hrr] at HN hcf htk hrg hft
  obtain ⟨x, n, e1⟩ := r
  obtain ⟨c, hc⟩ : ∃ c, c = countF l t e most := ⟨_, rfl⟩
  rw [← hc] at hcf ⊢
  simp only at hcf htk hrg
  have hf := fun h => hft x n e1 rfl h
  have htl := HR.taken
  clear hrr HR hc hft
  have HCF := Lib.hid hcf
  have HFT := Lib.hid hf
  clear hcf hf
  go_enter Tryz.func58, Tryz.ntmps58
  go_wp2_with fail
  refine HN.out.mono ?_
  rintro e' w' ⟨rfl, HR1, hk⟩
  simp only at HR1
  have hc2 := HR1.c2
  have hf2 := HR1.free 2
  have H1 := Lib.hid HR1
  have HK := Lib.hid hk
  clear HR1 hk
  by_cases he : e1 = 0
  · subst he
    by_cases hm : most < 0
    · have fin : Hid (RdAt 96 5 (w'.setCell ⟨p, 2, none⟩ (.int .i64 4)) B p v l (t + c.2.1) c.2.2 ∧ c.1 = 0) := by
        show _ ∧ _
        rw [HCF.out, if_pos ⟨rfl, .inl hm⟩]; exact ⟨H1.out.setErr, rfl⟩
      go_wp2
      go_ret
      exact ⟨by rw [fin.out.2]; rfl, fin.out.1, HK.out.setCell (fun _ => rfl) _⟩
    · have hm2 : 0 ≤ most := by omega
      have m3 : IntKind.u64.wrap most = most := wrap_u64_of _ hm2 (by omega)
      by_cases hx : most < x
      · have fin : Hid (RdAt 96 5 (w'.setCell ⟨p, 2, none⟩ (.int .i64 4)) B p v l (t + c.2.1) c.2.2 ∧ c.1 = 0) := by
          show _ ∧ _
          rw [HCF.out, if_pos ⟨rfl, .inr hx⟩]; exact ⟨H1.out.setErr, rfl⟩
        go_wp2
        go_ret
        exact ⟨by rw [fin.out.2]; rfl, fin.out.1, HK.out.setCell (fun _ => rfl) _⟩
      · have hc1 := H1.out.c1
        have hf1 := H1.out.free 1
        have x1 : IntKind.i64.wrap x = x := IntWalk.i64_in _ ⟨by omega, by omega⟩
        obtain ⟨T2, hT2⟩ : ∃ T2, T2 = t + n := ⟨_, rfl⟩
        have e2 : (t : Int) + (n : Int) = (T2 : Int) := by omega
        have e3 : IntKind.i64.wrap (T2 : Int) = (T2 : Int) := IntWalk.i64_in _ ⟨by omega, by omega⟩
        have fin : Hid (RdAt 96 5 (w'.setCell ⟨p, 1, none⟩ (.int .i64 (T2 : Int))) B p v l (t + c.2.1) c.2.2 ∧ c.1 = x) := by
          show _ ∧ _
          rw [HCF.out, if_neg (by omega)]
          have := H1.out.setAt (t2 := T2) (by omega)
          rw [hT2] at this ⊢
          exact ⟨this, rfl⟩
        clear hT2
        go_wp2
        go_ret
        exact ⟨by rw [fin.out.2]; rfl, fin.out.1, HK.out.setCell (fun _ => rfl) _⟩
  · have q1 : (e1 == 0) = false := by simp [he]
    have q2 : (e1 != 0) = true := by simp [he]
    obtain ⟨hx0, hn0⟩ := HFT.out he
    have fin : Hid (RdAt 96 5 w' B p v l (t + c.2.1) c.2.2 ∧ c.1 = 0) := by
      show _ ∧ _
      rw [HCF.out, if_neg (fun h => he h.1)]
      simp only [hn0, hx0]; exact ⟨H1.out, trivial⟩
    clear hx0 hn0
    go_wp2
    go_ret
    exact ⟨by rw [fin.out.2]; rfl, fin.out.1, HK.out⟩

theorem wrun_cut {P : Program} {t E : TypeId} {i : TypeInfo} (ht : P.underlying t = some (.slice E)) (hi : P.info? E = some i) (hs : i.size = 1) (a : Option Addr) (len cap lo hi' : Nat) (hlo : lo ≤ hi') (hhi : hi' ≤ cap) (w : World) :
    (Instr.slice t (.slice a len cap) (some (.int .i64 (lo : Int))) (some (.int .i64 (hi' : Int))) none).run P w = .ok (.slice (if cap = lo then a else a.map (·.add lo)) (hi' - lo) (cap - lo)) w := by
  have he : P.elem t = E := by simp [Program.elem, ht]
  rw [run_slice_lh w t a len cap (by rw [he]; exact ht) .i64 .i64 lo hi' (by omega) (by omega) (by omega), he]
  simp [sizeOf, typeInfo, hi, hs, sliced]
theorem wrun_cutAt {P : Program} {t E : TypeId} {i : TypeInfo} (ht : P.underlying t = some (.slice E)) (hi : P.info? E = some i) (hs : i.size = 1) (a : Option Addr) (len cap lo hi' : Nat) (hlo : lo ≤ hi') (hhi : hi' ≤ cap) (w : World) :
    (Instr.sliceAt t (.slice a len cap) (some (.int .i64 (lo : Int))) (some (.int .i64 (hi' : Int))) none).run P w = .ok (.slice (if cap = lo then a else a.map (·.add lo)) (hi' - lo) (cap - lo)) w := by
  have he : P.elem t = E := by simp [Program.elem, ht]
  rw [run_sliceAt_slice w t _ _ _ _ (by rw [he]; exact ht)]
  exact wrun_cut ht hi hs a len cap lo hi' hlo hhi w
theorem wadd_add (a : Addr) (i j : Nat) : (a.add i).add j = a.add (i + j) := by
  unfold Addr.add
  by_cases hi : i = 0 <;> by_cases hj : j = 0 <;> simp [hi, hj, Nat.add_assoc]
theorem own_capW {w : World} {B : Nat} {E : TypeId} {ao : Option Addr} {s n m c : Nat} {xs : List Value} (h : w.ownsRow B E s (.slice ao n c) m xs) : m ≤ c := by
  rcases h.2 with ⟨e, h0⟩ | ⟨g, cap, cur, e, _, _, hm, _⟩
  · omega
  · injection e with e1 e2 e3; omega
theorem SliceAt.cut {w : World} {ao : Option Addr} {n c : Nat} {l : List Int} (h : SliceAt w (.slice ao n c) ao n c (u8s l)) {lo hi : Nat} (h1 : lo ≤ hi) (h2 : hi ≤ n) (h3 : n ≤ c) :
    SliceAt w (.slice (if c = lo then ao else ao.map (·.add lo)) (hi - lo) (c - lo)) (if c = lo then ao else ao.map (·.add lo)) (hi - lo) (c - lo) (u8s ((l.drop lo).take (hi - lo))) := by
  have hl := h.len
  have hll : l.length = n := by simpa [u8s] using hl
  have hlen : (u8s ((l.drop lo).take (hi - lo))).length = hi - lo := by simp [u8s]; omega
  refine ⟨rfl, hlen, fun h0 => ?_, fun a ha j u hu => ?_⟩
  · by_cases hcl : c = lo
    · omega
    · rw [if_neg hcl] at h0
      cases ao with
      | none => have := h.none rfl; omega
      | some a => cases h0
  · have hj : j < hi - lo := by have := (List.getElem?_eq_some_iff.1 hu).1; omega
    rw [if_neg (by omega)] at ha
    cases ao with
    | none => cases ha
    | some b =>
      cases ha
      rw [wadd_add]
      refine h.cells b rfl _ u ?_
      unfold u8s at hu ⊢
      rw [List.getElem?_map, List.getElem?_take, if_pos hj, List.getElem?_drop] at hu
      rw [List.getElem?_map]; exact hu

/-- What next answers: the bytes, how many are taken, the error. -/
def nextF (l : List Int) (t : Nat) (e n : Int) : List Int × Nat × Int :=
  if e ≠ 0 then ([], 0, e) else if n < 0 then ([], 0, 1) else if (l.length : Int) - t < n then ([], 0, 2) else ((l.drop t).take n.toNat, n.toNat, 0)

/-- What it leaves. -/
def Nexted (w : World) (B p : Nat) (v : Value) (l : List Int) (t : Nat) (r : List Int × Nat × Int) (e : Ending) (w' : World) : Prop :=
  ∃ vs ao c, e = .returned vs ∧ SliceAt w' vs ao r.1.length c (u8s r.1) ∧ RdAt 96 5 w' B p v l (t + r.2.1) r.2.2 ∧ Kept (fun k => k = p) w w' ∧ (∀ a, ao = some a → a.block < w'.heap.size)

theorem Nexted.drewN {w w' : World} {B p : Nat} {v : Value} {l : List Int} {t : Nat} {r : List Int × Nat × Int} {e : Ending} (h : Nexted w B p v l t r e w') (n : Nat) : Nexted w B p v l t r e (w'.drewN n) := by
  obtain ⟨vs, ao, c, h1, h2, h3, h4, h5⟩ := h
  exact ⟨vs, ao, c, h1, h2.kept ((Kept.refl (fun _ => False) w').drewN n) (fun _ _ x => x), h3.drewN n, h4.drewN n, h5⟩

theorem sliceAt_nil (w : World) : SliceAt w (.slice none 0 0) none 0 0 (u8s []) := ⟨rfl, rfl, fun _ => rfl, fun a h => by cases h⟩

set_option maxHeartbeats 1000000 in
set_option maxRecDepth 100000 in
theorem rnext_all (B p : Nat) (v : Value) (l : List Int) (t : Nat) (e n : Int) (w : World) (HR : RdAt 96 5 w B p v l t e) (hl : l.length ≤ 100000000000) :
    Calls Tryz.prog 59 #[.pointer (some ⟨p, 0, none⟩), .int .i64 n] w (Nexted w B p v l t (nextF l t e n)) := by
  obtain ⟨i0, hi, hz0, hz1, hz2⟩ := info_parts Tryz.info5
  have hc2 := HR.c2
  have htk := HR.taken
  by_cases he : e = 0
  · subst he
    by_cases hn : n < 0
    · have fin : Hid (Nexted w B p v l t (nextF l t 0 n) (.returned (.slice none 0 0)) (w.setCell ⟨p, 2, none⟩ (.int .i64 1))) := by
        show Nexted _ _ _ _ _ _ _ _ _
        have h : nextF l t 0 n = ([], 0, 1) := by unfold nextF; rw [if_neg (by simp), if_pos hn]
        rw [h]; exact ⟨_, _, _, rfl, sliceAt_nil _, HR.setErr, (Kept.refl (fun k => k = p) w).setCell (p := ⟨p, 2, none⟩) (fun _ => rfl) _, fun a h => by cases h⟩
      have hf2 := HR.free 2
      clear HR
      go_enter Tryz.func59, Tryz.ntmps59
      go_wp2
      go_ret
      exact fin.out
    · have hn0 : 0 ≤ n := by omega
      by_cases hs : (l.length : Int) - t < n
      · have fin : Hid (∀ q, Nexted w B p v l t (nextF l t 0 n) (.returned (.slice none 0 0)) ((w.drewN q).setCell ⟨p, 2, none⟩ (.int .i64 2))) := by
          show ∀ q, Nexted _ _ _ _ _ _ _ _ _
          have h : nextF l t 0 n = ([], 0, 2) := by unfold nextF; rw [if_neg (by simp), if_neg hn, if_pos hs]
          rw [h]; exact fun q => ⟨_, _, _, rfl, sliceAt_nil _, (HR.drewN q).setErr, ((Kept.refl (fun k => k = p) w).drewN q).setCell (p := ⟨p, 2, none⟩) (fun _ => rfl) _, fun a h => by cases h⟩
        have HLF := Lib.hid (left_any B p v l t 0 w HR hl)
        have hf2 : ∀ q, (w.drewN q).frozen? ⟨p, 2, none⟩ = false := fun q => (HR.drewN q).free 2
        have hc3 : ∀ q, (w.drewN q).cell? ⟨p, 2, none⟩ = some (.int .i64 0) := fun q => (HR.drewN q).c2
        clear HR
        go_enter Tryz.func59, Tryz.ntmps59
        go_wp2_with (go_at_call 65; refine HLF.out.mono ?_; rintro e w' ⟨rfl, q, rfl⟩)
        go_ret
        exact fin.out _
      · obtain ⟨m, rfl⟩ : ∃ m : Nat, n = m := ⟨n.toNat, by omega⟩
        obtain ⟨T2, hT2⟩ : ∃ T2, T2 = t + m := ⟨_, rfl⟩
        have e2 : (t : Int) + (m : Int) = (T2 : Int) := by omega
        have e3 : IntKind.i64.wrap (T2 : Int) = (T2 : Int) := IntWalk.i64_in _ ⟨by omega, by omega⟩
        have e4 : (T2 : Int) - (m : Int) = (t : Int) := by omega
        have e5 : IntKind.i64.wrap (t : Int) = (t : Int) := IntWalk.i64_in _ ⟨by omega, by omega⟩
        obtain ⟨aa, ca, rfl⟩ := ownsRow_slice HR.owns
        have hcap := own_capW HR.owns
        obtain ⟨A2, hA2⟩ : ∃ A2, A2 = (if ca = t then aa else aa.map (·.add t)) := ⟨_, rfl⟩
        obtain ⟨c2, hcc⟩ : ∃ c2, c2 = ca - t := ⟨_, rfl⟩
        have hm2 : T2 - t = m := by omega
        have s1 := fun w => wrun_cut (P := Tryz.prog) Tryz.underlying33 hi hz1 aa l.length ca t T2 (by omega) (by omega) w
        have s2 := fun w => wrun_cutAt (P := Tryz.prog) Tryz.underlying33 hi hz1 aa l.length ca t T2 (by omega) (by omega) w
        rw [← hA2, ← hcc, hm2] at s1 s2
        have hcell : ∀ q, ((w.drewN q).setCell ⟨p, 1, none⟩ (.int .i64 (T2 : Int))).cell? ⟨p, 0, none⟩ = some (.slice aa l.length ca) ∧ ((w.drewN q).setCell ⟨p, 1, none⟩ (.int .i64 (T2 : Int))).cell? ⟨p, 1, none⟩ = some (.int .i64 (T2 : Int)) := fun q => by
          have := (HR.drewN q).setAt (t2 := T2) (by omega)
          exact ⟨this.c0, this.c1⟩
        have fin : Hid (∀ q, Nexted w B p (.slice aa l.length ca) l t (nextF l t 0 m) (.returned (.slice A2 m c2)) ((w.drewN q).setCell ⟨p, 1, none⟩ (.int .i64 (T2 : Int)))) := by
          show ∀ q, Nexted _ _ _ _ _ _ _ _ _
          have h : nextF l t 0 m = ((l.drop t).take m, m, 0) := by unfold nextF; rw [if_neg (by simp), if_neg hn, if_neg hs]; rfl
          rw [h]
          intro q
          have H2 := (HR.drewN q).setAt (t2 := T2) (by omega)
          obtain ⟨ao', c', hv, hob⟩ := SliceAt.ofOwn H2.owns
          have hvv := hv.val
          injection hvv with h1 h2 h3
          subst h1; subst h3
          have h5 := hv.cut (lo := t) (hi := T2) (by omega) (by omega) hcap
          rw [← hA2, ← hcc, hm2] at h5
          have h6 : ((l.drop t).take m).length = m := by rw [List.length_take, List.length_drop]; omega
          refine ⟨_, A2, c2, rfl, by simp only [h6]; exact h5, by simp only; rw [← hT2]; exact H2, ((Kept.refl (fun k => k = p) w).drewN q).setCell (p := ⟨p, 1, none⟩) (fun _ => rfl) _, fun a ha => ?_⟩
          rw [hA2] at ha
          have hblk : ∃ b, aa = some b ∧ a.block = b.block := by
            split at ha
            · exact ⟨a, ha, rfl⟩
            · cases aa with
              | none => cases ha
              | some b => cases ha; exact ⟨b, rfl, by unfold Addr.add; split <;> rfl⟩
          obtain ⟨b, hb1, hb2⟩ := hblk
          rw [hb2]
          exact (ownsRow_lt H2.owns (k := b.block) (by rw [hob, hb1]; rfl)).1
        have HLF := Lib.hid (left_any B p (.slice aa l.length ca) l t 0 w HR hl)
        have hf1 : ∀ q, (w.drewN q).frozen? ⟨p, 1, none⟩ = false := fun q => (HR.drewN q).free 1
        have hc1 : ∀ q, (w.drewN q).cell? ⟨p, 1, none⟩ = some (.int .i64 (t : Int)) := fun q => (HR.drewN q).c1
        have hns : ¬ (l.length : Int) - (t : Int) < (m : Int) := hs
        clear HR hA2 hcc hm2 hT2 hcap hs
        go_enter Tryz.func59, Tryz.ntmps59
        go_wp2_with (go_at_call 65; refine HLF.out.mono ?_; rintro e w' ⟨rfl, q, rfl⟩)
        have hc5 := (hcell q).1
        have hc6 := (hcell q).2
        clear hcell
        go_quiet (fail)
        go_wp2
        go_ret
        exact (fin.out _).drewN _
  · have q2 : (e != 0) = true := by simp [he]
    have fin : Hid (Nexted w B p v l t (nextF l t e n) (.returned (.slice none 0 0)) w) := by
      show Nexted _ _ _ _ _ _ _ _ _
      have h : nextF l t e n = ([], 0, e) := by unfold nextF; rw [if_pos he]
      rw [h]; exact ⟨_, _, _, rfl, sliceAt_nil _, HR, Kept.refl _ _, fun a h => by cases h⟩
    clear HR
    go_enter Tryz.func59, Tryz.ntmps59
    go_wp2
    go_ret
    exact fin.out
end Go.Proofs.YteflepcmblacaaaGreatDoor

-- Q6
namespace Go.Proofs.YteflepcmblacaaaGreatDoor
open Go.RowKit

theorem first_aux : ∀ k : Fin 9, ∀ z : Fin 128, z.val < 2 ^ (7 - k.val) → lo (256 - ((2 ^ (8 - k.val) : Nat) : Int) + (z.val : Int)) = k.val ∧ topV (256 - ((2 ^ (8 - k.val) : Nat) : Int) + (z.val : Int)) k.val = (z.val : Int) := by decide +kernel
theorem top_lt (v : Int) (h0 : 0 ≤ v) (h1 : v ≤ 18446744073709551615) : 0 ≤ v / ((256 ^ oth v : Nat) : Int) ∧ v / ((256 ^ oth v : Nat) : Int) < ((2 ^ (7 - oth v) : Nat) : Int) := by
  have hk := oth_le v
  have hp : (0 : Int) < ((256 ^ oth v : Nat) : Int) := by have := Nat.pow_pos (n := oth v) (show 0 < 256 by decide); omega
  refine ⟨Int.ediv_nonneg h0 (by omega), ?_⟩
  by_cases h : oth v < 8
  · have he := oth_end v (oth v) rfl h
    generalize oth v = k at *
    obtain rfl | rfl | rfl | rfl | rfl | rfl | rfl | rfl : k = 0 ∨ k = 1 ∨ k = 2 ∨ k = 3 ∨ k = 4 ∨ k = 5 ∨ k = 6 ∨ k = 7 := by omega
    all_goals
      simp only [Nat.reduceMul, Nat.reduceAdd, Nat.reduceSub, Nat.reducePow] at he ⊢
      omega
  · have h8 : oth v = 8 := by omega
    rw [h8]
    simp only [Nat.reduceSub, Nat.reducePow]
    omega
theorem first_lo (v : Int) (h0 : 0 ≤ v) (h1 : v ≤ 18446744073709551615) : lo (firstB v (oth v)) = oth v ∧ topV (firstB v (oth v)) (oth v) = v / ((256 ^ oth v : Nat) : Int) ∧ 0 ≤ firstB v (oth v) ∧ firstB v (oth v) < 256 := by
  obtain ⟨z0, z1⟩ := top_lt v h0 h1
  have hk := oth_le v
  obtain ⟨z, hz⟩ : ∃ z : Nat, v / ((256 ^ oth v : Nat) : Int) = z := ⟨(v / ((256 ^ oth v : Nat) : Int)).toNat, by omega⟩
  unfold firstB
  rw [hz] at z1 ⊢
  have zk : z < 2 ^ (7 - oth v) := by omega
  have h2 : 2 ^ (7 - oth v) ≤ 2 ^ 7 := Nat.pow_le_pow_right (by omega) (by omega)
  have z128 : z < 128 := by omega
  have := first_aux ⟨oth v, by omega⟩ ⟨z, z128⟩ zk
  refine ⟨this.1, this.2, ?_, ?_⟩
  · have h3 : 2 ^ (8 - oth v) ≤ 2 ^ 8 := Nat.pow_le_pow_right (by omega) (by omega)
    have h4 : (2 : Nat) ^ 8 = 256 := rfl
    omega
  · have h3 : 2 ^ (7 - oth v) ≤ 2 ^ (8 - oth v) := Nat.pow_le_pow_right (by omega) (by omega)
    have h4 : 0 < 2 ^ (8 - oth v) := Nat.two_pow_pos _
    omega
theorem byteI_range (v : Int) (j : Nat) : 0 ≤ byteI v j ∧ byteI v j < 256 := by unfold byteI; omega
theorem bigV_rest (v : Int) (k j : Nat) (hj : j ≤ k) : bigV (v / ((256 ^ k : Nat) : Int)) (restB v k j) = v / ((256 ^ (k - j) : Nat) : Int) := by
  induction j with
  | zero => simp [restB, bigV]
  | succ j ih =>
    rw [restB_succ, bigV_snoc, ih (by omega)]
    obtain ⟨m, hm⟩ : ∃ m, k - j = m + 1 := ⟨k - j - 1, by omega⟩
    have e1 : k - 1 - j = m := by omega
    have e2 : k - (j + 1) = m := by omega
    rw [hm, e1, e2]
    unfold byteI
    have e3 : ((256 ^ (m + 1) : Nat) : Int) = ((256 ^ m : Nat) : Int) * 256 := by rw [Nat.pow_succ, Int.natCast_mul]; rfl
    rw [e3, ← Int.ediv_ediv_of_nonneg (Int.natCast_nonneg _)]
    omega
theorem lookF_numB (l rest : List Int) (t : Nat) (v : Int) (h0 : 0 ≤ v) (h1 : v ≤ 18446744073709551615) (h : l.drop t = numB v ++ rest) : lookF l t = (v, 1 + oth v, 0) := by
  obtain ⟨f1, f2, f3, f4⟩ := first_lo v h0 h1
  have hlen : l.length - t = 1 + oth v + rest.length := by
    have := congrArg List.length h
    rw [List.length_drop, List.length_append, numB_length] at this; exact this
  have hg : l.getD t 0 = firstB v (oth v) := by
    have : (l.drop t)[0]? = some (firstB v (oth v)) := by rw [h]; rfl
    rw [List.getElem?_drop] at this
    rw [List.getD_eq_getElem?_getD]
    simp only [Nat.add_zero] at this
    rw [this]; rfl
  have hr : (l.drop (t + 1)).take (oth v) = restB v (oth v) (oth v) := by
    rw [← List.drop_drop, h]
    have e : numB v ++ rest = firstB v (oth v) :: (restB v (oth v) (oth v) ++ rest) := rfl
    rw [e, List.drop_succ_cons, List.drop_zero, List.take_append_of_le_length (by rw [restB_length]; omega), List.take_of_length_le (by rw [restB_length]; omega)]
  have hb : bigV (v / ((256 ^ oth v : Nat) : Int)) (restB v (oth v) (oth v)) = v := by rw [bigV_rest v _ _ (Nat.le_refl _)]; simp
  unfold lookF
  rw [if_neg (by omega), hg, f1, f2, if_neg (by omega), hr, hb, if_neg (by omega)]

/-- A fixed number's value. -/
def leV (bs : List Int) : Nat → Int
  | 0 => 0
  | k + 1 => leV bs k + bs.getD k 0 * ((256 ^ k : Nat) : Int)
def hiV (bs : List Int) : Nat → Int
  | 0 => 0
  | k + 1 => 256 * hiV bs k + bs.getD (7 - k) 0
theorem hiV_leV (bs : List Int) : hiV bs 8 = leV bs 8 := by
  simp only [hiV, leV, Nat.reduceSub, Nat.reducePow]
  omega
theorem leV_range (bs : List Int) (hb : ∀ x ∈ bs, 0 ≤ x ∧ x < 256) (k : Nat) : 0 ≤ leV bs k ∧ leV bs k < ((256 ^ k : Nat) : Int) := by
  induction k with
  | zero => simp [leV]
  | succ k ih =>
    have hd : 0 ≤ bs.getD k 0 ∧ bs.getD k 0 ≤ 255 := by
      rw [List.getD_eq_getElem?_getD]
      cases h : bs[k]? with
      | none => simp
      | some x => have := hb x (List.mem_of_getElem? h); simp; omega
    unfold leV
    obtain ⟨P, hP⟩ : ∃ P : Int, P = ((256 ^ k : Nat) : Int) := ⟨_, rfl⟩
    have e : ((256 ^ (k + 1) : Nat) : Int) = P * 256 := by rw [Nat.pow_succ, Int.natCast_mul, hP]; rfl
    rw [← hP] at ih ⊢
    rw [e]
    have p0 : 0 ≤ P := by omega
    have m1 : 0 ≤ bs.getD k 0 * P := Int.mul_nonneg hd.1 p0
    have m2 : bs.getD k 0 * P ≤ 255 * P := Int.mul_le_mul_of_nonneg_right hd.2 p0
    omega
theorem leV_fix (v : Int) (h0 : 0 ≤ v) (k : Nat) (bs : List Int) (hk : ∀ j, j < k → bs.getD j 0 = byteI v j) : leV bs k = v % ((256 ^ k : Nat) : Int) := by
  induction k with
  | zero => simp [leV]
  | succ k ih =>
    unfold leV
    rw [ih (fun j hj => hk j (by omega)), hk k (by omega)]
    obtain ⟨n, rfl⟩ : ∃ n : Nat, v = n := ⟨v.toNat, by omega⟩
    unfold byteI
    have := Nat.mod_mul (x := n) (a := 256 ^ k) (b := 256)
    rw [Nat.pow_succ]
    have h2 : ((n % (256 ^ k * 256) : Nat) : Int) = ((n % 256 ^ k + 256 ^ k * (n / 256 ^ k % 256) : Nat) : Int) := by rw [this]
    rw [Int.natCast_emod] at h2
    rw [h2, Int.natCast_add, Int.natCast_mul, Int.natCast_emod, Int.natCast_emod, Int.natCast_ediv, Int.mul_comm (((n : Int) / ((256 ^ k : Nat) : Int)) % 256)]
    rfl
theorem leV_fixB (v : Int) (h0 : 0 ≤ v) (h1 : v ≤ 18446744073709551615) : leV (fixB v) 8 = v := by
  rw [leV_fix v h0 8 _ (fun j hj => by
    unfold fixB fixK
    rw [List.getD_eq_getElem?_getD, List.getElem?_map, List.getElem?_range hj]; rfl)]
  simp only [Nat.reducePow]; omega
theorem or_shift (V c : Int) (i : Nat) (hi : i < 8) (h0 : 0 ≤ V) (h1 : V < ((256 ^ i : Nat) : Int)) (c0 : 0 ≤ c) (c1 : c < 256) :
    IntKind.u64.wrap (c * ((256 ^ i : Nat) : Int)) = c * ((256 ^ i : Nat) : Int) ∧ bits .or .u64 V (c * ((256 ^ i : Nat) : Int)) = V + c * ((256 ^ i : Nat) : Int) := by
  obtain ⟨a, rfl⟩ : ∃ a : Nat, V = a := ⟨V.toNat, by omega⟩
  obtain ⟨d, rfl⟩ : ∃ d : Nat, c = d := ⟨c.toNat, by omega⟩
  have hp : 256 ^ i = 2 ^ (8 * i) := by rw [Nat.pow_mul]
  have h7 : 256 ^ i ≤ 256 ^ 7 := Nat.pow_le_pow_right (by decide) (by omega)
  have h8 : (256 : Nat) ^ 7 = 72057594037927936 := by decide
  have hm : d * 256 ^ i ≤ 255 * 256 ^ i := Nat.mul_le_mul_right _ (by omega)
  have ea : a < 256 ^ i := by omega
  have e1 : (d : Int) * ((256 ^ i : Nat) : Int) = ((d * 256 ^ i : Nat) : Int) := by rw [Int.natCast_mul]
  rw [e1]
  refine ⟨wrap_u64_of _ (by omega) (by omega), ?_⟩
  rw [u64_or _ _ (by omega) (by omega) (by omega) (by omega), Int.toNat_natCast, Int.toNat_natCast, Nat.or_comm, nat_join (8 * i) _ _ (by rw [hp]; exact Nat.mul_mod_left _ _) (by rw [← hp]; exact ea)]
  omega

/-- A slice of bytes, as a text. -/
theorem SliceAt.run_str {P : Program} {w : World} {v : Value} {ao : Option Addr} {c : Nat} {l : List Int} (h : SliceAt w v ao l.length c (u8s l)) (src e dst : TypeId) (hs : P.underlying src = some (.slice e)) (he : P.underlying e = some (.int .u8)) (hd : P.underlying dst = some .string) :
    (convert src dst v).run P w = .ok (.string (strOfNums l)) w := by
  obtain rfl := h.val
  rcases Nat.eq_zero_or_pos l.length with h0 | h0
  · obtain rfl : l = [] := List.eq_nil_of_length_eq_zero h0
    cases ao with
    | none => exact run_convert_bytes_nil w src e hs he 0 c dst hd
    | some a =>
      rw [run_convert_bytes_string w src dst e _ _ c hs he hd]
      simp [Conv.bytesToString, loadCells, loadCellsFrom]
      rfl
  · obtain ⟨g, off, rfl, hc⟩ := h.addr h0
    exact run_convert_bytes_arg w src e hs he g off l.length c l rfl hc dst hd
theorem wown_base {w : World} {B B' : Nat} {E : TypeId} {s n : Nat} {v : Value} {xs : List Value} (h : w.ownsRow B E s v n xs) (hb : B' ≤ B) : w.ownsRow B' E s v n xs := by
  refine ⟨h.1, ?_⟩
  rcases h.2 with h0 | ⟨g, cap, cur, e, hg, rest⟩
  · exact .inl h0
  · exact .inr ⟨g, cap, cur, e, Nat.le_trans hb hg, rest⟩
theorem nextF_taken (l : List Int) (t : Nat) (e n : Int) (ht : t ≤ l.length) : t + (nextF l t e n).2.1 ≤ l.length := by
  unfold nextF
  split
  · simpa using ht
  · split
    · simpa using ht
    · split
      · simpa using ht
      · simp only; omega
theorem nextF_len (l : List Int) (t : Nat) (e n : Int) : (nextF l t e n).1.length ≤ l.length := by
  unfold nextF
  split
  · simp
  · split
    · simp
    · split
      · simp
      · simp only [List.length_take, List.length_drop]; omega
end Go.Proofs.YteflepcmblacaaaGreatDoor

-- Q7
namespace Go.Proofs.YteflepcmblacaaaGreatDoor
open Go.RowKit
attribute [local go_sem ↓] Go.wp_at_zero Go.wp_at_succ

theorem nextF_err {l : List Int} {t : Nat} {e n : Int} (h : (nextF l t e n).2.2 ≠ 0) : (nextF l t e n).1 = [] ∧ (nextF l t e n).2.1 = 0 := by
  unfold nextF at h ⊢
  split
  · exact ⟨rfl, rfl⟩
  · split
    · exact ⟨rfl, rfl⟩
    · split
      · exact ⟨rfl, rfl⟩
      · rename_i h1 h2 h3
        rw [if_neg h1, if_neg h2, if_neg h3] at h
        exact absurd rfl h

/-- What Text answers. -/
def textF (l : List Int) (t : Nat) (e most : Int) : List Int × Nat × Int :=
  if (nextF l (t + (countF l t e most).2.1) (countF l t e most).2.2 (countF l t e most).1).2.2 ≠ 0 then ([], 0, (nextF l (t + (countF l t e most).2.1) (countF l t e most).2.2 (countF l t e most).1).2.2)
  else ((nextF l (t + (countF l t e most).2.1) (countF l t e most).2.2 (countF l t e most).1).1, (countF l t e most).2.1 + (nextF l (t + (countF l t e most).2.1) (countF l t e most).2.2 (countF l t e most).1).2.1, 0)

set_option maxHeartbeats 1000000 in
set_option maxRecDepth 100000 in
theorem rtext_all (B p : Nat) (v : Value) (l : List Int) (t : Nat) (e most : Int) (w : World) (HR : RdAt 96 5 w B p v l t e) (hl : l.length ≤ 100000000000) (hm0 : -9223372036854775808 ≤ most) (hm1 : most ≤ 9223372036854775807) :
    Calls Tryz.prog 35 #[.pointer (some ⟨p, 0, none⟩), .int .i64 most] w fun e' w' => e' = .returned (.string (strOfNums (textF l t e most).1)) ∧ RdAt 96 5 w' B p v l (t + (textF l t e most).2.1) (textF l t e most).2.2 ∧ Kept (fun k => k = p) w w' := by
  have HC := Lib.hid (rcount_all B p v l t e most w HR hl hm0 hm1)
  have htl := HR.taken
  have hcr := HR.c1
  have htf : textF l t e most = if (nextF l (t + (countF l t e most).2.1) (countF l t e most).2.2 (countF l t e most).1).2.2 ≠ 0 then ([], 0, (nextF l (t + (countF l t e most).2.1) (countF l t e most).2.2 (countF l t e most).1).2.2)
    else ((nextF l (t + (countF l t e most).2.1) (countF l t e most).2.2 (countF l t e most).1).1, (countF l t e most).2.1 + (nextF l (t + (countF l t e most).2.1) (countF l t e most).2.2 (countF l t e most).1).2.1, 0) := rfl
  obtain ⟨c, hc⟩ : ∃ c, c = countF l t e most := ⟨_, rfl⟩
  obtain ⟨T, hT⟩ : ∃ T, T = textF l t e most := ⟨_, rfl⟩
  rw [← hc] at HC htf
  rw [← hT] at htf ⊢
  obtain ⟨x, m, e1⟩ := c
  simp only at HC htf
  have hne := @nextF_err l (t + m) e1 x
  obtain ⟨r, hr⟩ : ∃ r, r = nextF l (t + m) e1 x := ⟨_, rfl⟩
  have HN : Hid (∀ w1, RdAt 96 5 w1 B p v l (t + m) e1 → Calls Tryz.prog 59 #[.pointer (some ⟨p, 0, none⟩), .int .i64 x] w1 (Nexted w1 B p v l (t + m) r)) := by
    show ∀ w1, _ → _
    rw [hr]; exact fun w1 h => rnext_all B p v l (t + m) e1 x w1 h hl
  rw [← hr] at htf hne
  obtain ⟨bs, k, e2⟩ := r
  simp only at htf hne
  have HTF := Lib.hid htf
  have HNE := Lib.hid hne
  clear hr hc hT HR htf hne
  go_enter Tryz.func35, Tryz.ntmps35
  go_wp2_with fail
  refine HC.out.mono ?_
  rintro e' w1 ⟨rfl, HR1, K1⟩
  have HN1 := Lib.hid (HN.out w1 HR1)
  clear HR1
  go_wp2_with fail
  refine HN1.out.mono ?_
  rintro e' w2 ⟨vs, ao, cc, rfl, hsl, HR2, K2, _⟩
  simp only at hsl HR2
  have hc2 := HR2.c2
  have hc1 := HR2.c1
  have hf1 := HR2.free 1
  have H2 := Lib.hid HR2
  have K12 := Lib.hid (K1.trans K2)
  clear K1 K2 HR2
  obtain ⟨STR, hSTR⟩ : ∃ S, S = strOfNums bs := ⟨_, rfl⟩
  by_cases he : e2 = 0
  · subst he
    have hcv := hsl.run_str (P := Tryz.prog) 33 5 9 Tryz.underlying33 Tryz.underlying5 Tryz.underlying9
    have fin : Hid (STR = strOfNums T.1 ∧ RdAt 96 5 w2 B p v l (t + T.2.1) T.2.2) := by
      show _ ∧ _
      rw [HTF.out, if_neg (by simp), hSTR]
      refine ⟨rfl, ?_⟩
      have := H2.out
      rw [Nat.add_assoc] at this
      exact this
    rw [← hSTR] at hcv
    clear hSTR hsl
    go_wp2
    go_ret
    exact ⟨by rw [← fin.out.1]; rfl, fin.out.2, K12.out⟩
  · have q2 : (e2 != 0) = true := by simp [he]
    obtain ⟨hb, hk⟩ := HNE.out he
    subst hb
    have hcv : ∀ w3, (convert 33 9 vs).run Tryz.prog w3 = .ok (.string STR) w3 := fun w3 => by
      have h3 : SliceAt w3 vs ao ([] : List Int).length cc (u8s []) := ⟨hsl.val, rfl, hsl.none, fun a _ j u h => by cases h⟩
      rw [hSTR]
      exact h3.run_str (P := Tryz.prog) 33 5 9 Tryz.underlying33 Tryz.underlying5 Tryz.underlying9
    have fin : Hid (STR = strOfNums T.1 ∧ RdAt 96 5 (w2.setCell ⟨p, 1, none⟩ (.int .i64 (t : Int))) B p v l (t + T.2.1) T.2.2) := by
      show _ ∧ _
      rw [HTF.out, if_pos he, hSTR]
      exact ⟨rfl, H2.out.setAt (t2 := t) htl⟩
    clear hSTR hsl hk
    go_wp2
    go_ret
    exact ⟨by rw [← fin.out.1]; rfl, fin.out.2, K12.out.setCell (fun _ => rfl) _⟩

/-- What Fix answers. -/
def fixF (l : List Int) (t : Nat) (e : Int) : Int × Nat × Int := if (nextF l t e 8).2.2 ≠ 0 then (0, 0, (nextF l t e 8).2.2) else (leV (l.drop t) 8, 8, 0)

theorem leV_take (l : List Int) (n k : Nat) (h : k ≤ n) : leV (l.take n) k = leV l k := by
  induction k with
  | zero => rfl
  | succ k ih =>
    unfold leV
    rw [ih (by omega), List.getD_eq_getElem?_getD, List.getElem?_take, if_pos (by omega), List.getD_eq_getElem?_getD]

set_option maxHeartbeats 1000000 in
set_option maxRecDepth 100000 in
theorem rfix_all (B p : Nat) (v : Value) (l : List Int) (t : Nat) (e : Int) (w : World) (HR : RdAt 96 5 w B p v l t e) (hl : l.length ≤ 100000000000) :
    Calls Tryz.prog 61 #[.pointer (some ⟨p, 0, none⟩)] w fun e' w' => e' = .returned (.int .u64 (fixF l t e).1) ∧ RdAt 96 5 w' B p v l (t + (fixF l t e).2.1) (fixF l t e).2.2 ∧ Kept (fun k => k = p) w w' := by
  have HN := Lib.hid (rnext_all B p v l t e 8 w HR hl)
  have hff : fixF l t e = if (nextF l t e 8).2.2 ≠ 0 then (0, 0, (nextF l t e 8).2.2) else (leV (l.drop t) 8, 8, 0) := rfl
  have hne := @nextF_err l t e 8
  have hok : (nextF l t e 8).2.2 = 0 → (nextF l t e 8).1 = (l.drop t).take 8 ∧ (nextF l t e 8).2.1 = 8 ∧ t + 8 ≤ l.length := by
    unfold nextF
    split
    · intro h; simp only at h; contradiction
    · split
      · intro h; omega
      · split
        · intro h; simp at h
        · intro _; exact ⟨rfl, rfl, by omega⟩
  obtain ⟨T, hT⟩ : ∃ T, T = fixF l t e := ⟨_, rfl⟩
  obtain ⟨r, hr⟩ : ∃ r, r = nextF l t e 8 := ⟨_, rfl⟩
  rw [← hr] at HN hff hne hok
  rw [← hT] at hff ⊢
  obtain ⟨bs, k, e2⟩ := r
  simp only at hff hne hok
  have hbyte := HR.byte
  have HFF := Lib.hid hff
  have HNE := Lib.hid hne
  have HOK := Lib.hid hok
  clear hr hT HR hff hne hok
  go_enter Tryz.func61, Tryz.ntmps61
  go_wp2_with fail
  refine HN.out.mono ?_
  rintro e' w2 ⟨vs, ao, cc, rfl, hsl, HR2, K2, _⟩
  simp only at hsl HR2
  have hc2 := HR2.c2
  have H2 := Lib.hid HR2
  have K12 := Lib.hid K2
  clear K2 HR2
  by_cases he : e2 = 0
  · subst he
    obtain ⟨hb, hk, h8⟩ := HOK.out rfl
    have hbl : bs.length = 8 := by rw [hb, List.length_take, List.length_drop]; omega
    have hbb : ∀ x ∈ bs, 0 ≤ x ∧ x < 256 := fun x hx => by rw [hb] at hx; exact hbyte x (List.mem_of_mem_drop (List.mem_of_mem_take hx))
    have hfv : T = (leV bs 8, 8, 0) := by rw [HFF.out, if_neg (by simp), hb, leV_take _ 8 8 (by omega)]
    obtain ⟨g, off, rfl, hcells⟩ := hsl.addr (by omega)
    obtain rfl := hsl.val
    rw [hbl]
    have HC := Lib.hid hcells
    have HBB := Lib.hid hbb
    have HFV := Lib.hid hfv
    have fin : Hid (RdAt 96 5 w2 B p v l (t + T.2.1) T.2.2 ∧ T.1 = leV bs 8) := by
      show _ ∧ _
      rw [HFV.out]
      have := H2.out
      rw [hk] at this
      exact ⟨this, rfl⟩
    have HBL := Lib.hid hbl
    have hst : leV bs 0 = 0 := rfl
    clear hb hk h8 hfv hbb hcells hsl hbyte hbl
    go_wp2
    go_loopg [4, 13] 8 (fun g0 s4 s13 wr => ∃ j : Nat, j ≤ 8 ∧ g0 = 8 - j ∧ s13 = .int .i64 j ∧ s4 = .int .u64 (leV bs j) ∧ w2 = wr)
    case atStart => exact ⟨0, Nat.zero_le _, rfl, rfl, by rw [hst], rfl⟩
    case round =>
      obtain ⟨j, hj, rfl, rfl, rfl, rfl⟩ := hrel
      clear hst
      by_cases hd : j < 8
      · have hcl := HC.out j (by rw [HBL.out]; exact hd)
        have hyr := HBB.out _ (getD_mem (l := bs) (i := j) (by rw [HBL.out]; exact hd))
        obtain ⟨y, hy⟩ : ∃ y, y = bs.getD j 0 := ⟨_, rfl⟩
        obtain ⟨V, hV⟩ : ∃ V, V = leV bs j := ⟨_, rfl⟩
        have hVr := leV_range bs HBB.out j
        have hnx : leV bs (j + 1) = leV bs j + bs.getD j 0 * ((256 ^ j : Nat) : Int) := rfl
        rw [← hy] at hcl hyr hnx
        rw [← hV] at hVr hnx ⊢
        obtain ⟨s1, s2⟩ := or_shift V y j hd hVr.1 hVr.2 hyr.1 hyr.2
        rw [← hnx] at s2
        have hp : 256 ^ j = 2 ^ (8 * j) := by rw [Nat.pow_mul]
        obtain ⟨d, hdd⟩ : ∃ d, d = 8 * j := ⟨_, rfl⟩
        have e6 : IntKind.i64.wrap (8 * (j : Int)) = (d : Int) := by rw [IntWalk.i64_in _ ⟨by omega, by omega⟩]; omega
        have e7 : 8 * (j : Int) = (d : Int) := by omega
        have e8 : (d : Int) ≤ 64 := by omega
        have e10 : IntKind.i64.wrap (d : Int) = (d : Int) := IntWalk.i64_in _ ⟨by omega, by omega⟩
        have e9 : (0 : Int) ≤ (d : Int) := by omega
        rw [hp, ← hdd] at s1 s2
        obtain ⟨Z, hZ⟩ : ∃ Z, Z = y * ((2 ^ d : Nat) : Int) := ⟨_, rfl⟩
        rw [← hZ] at s1 s2
        have z1 : y * 2 ^ d = Z := by rw [hZ]; simp
        obtain ⟨V2, hV2⟩ : ∃ V2, V2 = leV bs (j + 1) := ⟨_, rfl⟩
        rw [← hV2] at s2
        have y3 : IntKind.u64.wrap y = y := wrap_u64_of _ (by omega) (by omega)
        have HD := Lib.hid hd
        have HV2 := Lib.hid hV2
        have hj0 : (0 : Int) ≤ (j : Int) := by omega
        have hj1 : (j : Int) < 8 := by omega
        have hjn : ((j : Int)).toNat = j := by omega
        clear hp hdd hZ hV2 hnx hV hy hVr hyr
        go_wp2
        go_roundg (8 - (j + 1))
        case measure => have := HD.out; omega
        case rel => exact ⟨j + 1, HD.out, rfl, by go_num, by rw [← HV2.out], rfl⟩
      · obtain rfl : j = 8 := by omega
        obtain ⟨V, hV⟩ : ∃ V, V = leV bs 8 := ⟨_, rfl⟩
        rw [← hV] at fin ⊢
        clear hV
        go_wp2
        go_ret
        exact ⟨by rw [fin.out.2]; rfl, fin.out.1, K12.out⟩
  · have q2 : (e2 != 0) = true := by simp [he]
    obtain ⟨hb, hk⟩ := HNE.out he
    have fin : Hid (RdAt 96 5 w2 B p v l (t + T.2.1) T.2.2 ∧ T.1 = 0) := by
      show _ ∧ _
      rw [HFF.out, if_pos he]
      have := H2.out
      rw [hk] at this
      exact ⟨this, rfl⟩
    clear hb hk hsl hbyte
    go_wp2
    go_ret
    exact ⟨by rw [fin.out.2]; rfl, fin.out.1, K12.out⟩

/-- What the document reads as a fixed number. -/
def getFixF (l : List Int) (t : Nat) : Int × Nat × Int := if l.length - t < 8 then (0, 0, 2) else (leV (l.drop t) 8, 8, 0)

end Go.Proofs.YteflepcmblacaaaGreatDoor

-- Q3
namespace Go.Proofs.YteflepcmblacaaaGreatDoor
open Go.RowKit
attribute [local go_sem ↓] Go.wp_at_zero Go.wp_at_succ

/-- A word's bytes. -/
def wordB (r : WRec) : List Int :=
  if r.k = 0 then numB r.v else if r.k = 1 then numB (zigI r.n) else if r.k = 2 then fixB r.v else if r.k = 3 then numB r.s.size ++ strB r.s else if r.k = 4 then strB r.s else []

theorem wafter {S : Nat → Prop} {W w w1 : World} (h : Kept (fun _ => False) W w) (k : Kept S w w1) (hs : ∀ k, S k → W.heap.size ≤ k) : Kept (fun _ => False) W w1 :=
  h.step k (fun j hj hS => by have := hs j hS; omega)

theorem own_ne_box {w : World} {B : Nat} {E T : TypeId} {v : Value} {n s : Nat} {xs : List Value} {p : Nat} {cs : Array Value} (h : w.ownsRow B E s v n xs) (hp : w.heap[p]? = some (.cells cs T (0, 0))) (hne : E ≠ T) : v.ownBlock ≠ some p := by
  intro e
  obtain ⟨c, hc⟩ := ownsRow_block h e
  rw [hc] at hp
  injection hp with hp
  injection hp with _ ht
  exact hne ht

/-- What holds while words are put down and listed. -/
structure PW (W w : World) (p : Nat) (v : Value) (l : List Int) (av : Value) : Prop where
  wr : WrAt 82 5 w W.heap.size p v l
  own : w.ownsRow W.heap.size 5 1 av l.length (u8s l)
  apart : ∀ k, av.ownBlock = some k → v.ownBlock ≠ some k
  kept : Kept (fun _ => False) W w

theorem PW.keptF {W w w1 : World} {p : Nat} {v av : Value} {l : List Int} (h : PW W w p v l av) (hk : Kept (fun _ => False) w w1) : PW W w1 p v l av :=
  ⟨h.wr.kept hk (fun x => x) (fun _ _ x => x), hk.owns h.own (fun _ _ x => x), h.apart, h.kept.trans hk⟩

/-- The writer has gone on; the list not yet. -/
theorem PW.wrote {W w w1 : World} {p : Nat} {v av : Value} {l l1 : List Int} (h : PW W w p v l av) (ht : WrTo 82 5 w w1 W.heap.size p v l1) :
    ∃ v1, WrAt 82 5 w1 W.heap.size p v1 l1 ∧ w1.ownsRow W.heap.size 5 1 av l.length (u8s l) ∧ (∀ k, av.ownBlock = some k → v1.ownBlock ≠ some k) ∧ Kept (fun _ => False) W w1 ∧ (∀ k, k < w.heap.size → k ≠ p → v.ownBlock ≠ some k → w1.heap[k]? = w.heap[k]?) := by
  obtain ⟨v1, H1, A1, K1⟩ := ht
  refine ⟨v1, H1, K1.owns h.own (fun k e hS => ?_), fun k e e1 => ?_, wafter h.kept K1 (fun k hS => ?_), fun k hk hp hv => K1.block k hk (fun hS => hS.elim hp hv)⟩
  · rcases hS with rfl | hS
    · exact own_ne_box h.own h.wr.box (by decide) e
    · exact h.apart k e hS
  · rcases A1 with A1 | ⟨g, eg, hg⟩
    · exact h.apart k e (A1 ▸ e1)
    · rw [eg] at e1; cases e1
      have := (ownsRow_lt h.own e).1; omega
  · rcases hS with rfl | hS
    · exact h.wr.base
    · exact (ownsRow_lt h.wr.owns hS).2

/-- And now the list, too. -/
theorem PW.listed {W w1 wa w2 : World} {p n : Nat} {v1 av av2 : Value} {l add : List Int} (H1 : WrAt 82 5 w1 W.heap.size p v1 (l ++ add)) (ho : w1.ownsRow W.heap.size 5 1 av l.length (u8s l)) (hap : ∀ k, av.ownBlock = some k → v1.ownBlock ≠ some k) (hk : Kept (fun _ => False) W w1)
    (ha : Kept (fun _ => False) w1 wa) (hown : w2.ownsRow W.heap.size 5 1 av2 n (u8s l ++ u8s add)) (hn : n = l.length + add.length) (hg : wa.grownBy w2 av.ownBlock) (hat : av2.ownBlock = av.ownBlock ∨ av2.ownBlock = some wa.heap.size) : PW W w2 p v1 (l ++ add) av2 := by
  have k2 : Kept (fun k => av.ownBlock = some k) w1 w2 := (ha.mono (fun _ _ x => x.elim)).grown hg (fun k e _ => e)
  refine ⟨H1.kept k2 (fun e => own_ne_box ho H1.box (by decide) e) (fun k e hS => hap k hS e), ?_, fun k e e1 => ?_, wafter hk k2 (fun k e => (ownsRow_lt ho e).2)⟩
  · rw [List.length_append, ← hn]; unfold u8s at hown ⊢; rw [List.map_append]; exact hown
  · rcases hat with hat | hat
    · exact hap k (hat ▸ e) e1
    · rw [hat] at e; cases e
      have h1 := (ownsRow_lt H1.owns e1).1
      have h2 := ha.size
      omega

theorem wbox_cells {T : TypeId} {pb : Nat} {k n x : Int} {s : ByteArray} : ∀ w' : World, w'.heap[pb]? = some (.cells #[.int .i64 k, .int .i64 n, .int .u64 x, .string s] T (0, 0)) →
    w'.cell? ⟨pb, 1, none⟩ = some (.int .i64 n) ∧ w'.cell? ⟨pb, 2, none⟩ = some (.int .u64 x) ∧ w'.cell? ⟨pb, 3, none⟩ = some (.string s) := fun w' h =>
  ⟨by rw [cell_of_row w' pb 1 _ _ _ h]; rfl, by rw [cell_of_row w' pb 2 _ _ _ h]; rfl, by rw [cell_of_row w' pb 3 _ _ _ h]; rfl⟩

theorem numB_len (x : Int) : (numB x).length ≤ 9 := by rw [numB_length]; have := oth_le x; omega

end Go.Proofs.YteflepcmblacaaaGreatDoor

-- Q8
namespace Go.Proofs.YteflepcmblacaaaGreatDoor
open Go.RowKit

theorem strOf_strB (s : ByteArray) : strOfNums (strB s) = s := by
  unfold strOfNums strB
  obtain ⟨⟨l⟩⟩ := s
  congr 1
  have : (l.map fun (b : UInt8) => (b.toNat : Int)).map (fun n => UInt8.ofNat n.toNat) = l := by
    rw [List.map_map]
    refine (List.map_congr_left (g := id) (fun b _ => ?_)).trans (List.map_id l)
    simp
  rw [this]
theorem strB_byte (s : ByteArray) : ∀ x ∈ strB s, 0 ≤ x ∧ x < 256 := by
  intro x hx
  unfold strB at hx
  obtain ⟨b, _, rfl⟩ := List.mem_map.1 hx
  have := b.toNat_lt
  omega
theorem numB_byte (v : Int) (h0 : 0 ≤ v) (h1 : v ≤ 18446744073709551615) : ∀ x ∈ numB v, 0 ≤ x ∧ x < 256 := by
  intro x hx
  unfold numB at hx
  rcases List.mem_cons.1 hx with rfl | hx
  · exact ⟨(first_lo v h0 h1).2.2.1, (first_lo v h0 h1).2.2.2⟩
  · unfold restB at hx
    obtain ⟨j, _, rfl⟩ := List.mem_map.1 hx
    exact byteI_range _ _
theorem fixB_byte (v : Int) : ∀ x ∈ fixB v, 0 ≤ x ∧ x < 256 := by
  intro x hx
  unfold fixB fixK at hx
  obtain ⟨j, _, rfl⟩ := List.mem_map.1 hx
  exact byteI_range _ _
theorem wordB_byte (r : WRec) (hn : -9223372036854775808 ≤ r.n ∧ r.n ≤ 9223372036854775807) (hv : 0 ≤ r.v ∧ r.v ≤ 18446744073709551615) (hs : r.s.size ≤ 300) : ∀ x ∈ wordB r, 0 ≤ x ∧ x < 256 := by
  intro x hx
  unfold wordB at hx
  split at hx
  · exact numB_byte _ hv.1 hv.2 x hx
  · split at hx
    · have := zigI_range r.n hn.1 hn.2
      exact numB_byte _ this.1 this.2 x hx
    · split at hx
      · exact fixB_byte _ x hx
      · split at hx
        · rcases List.mem_append.1 hx with hx | hx
          · exact numB_byte _ (by omega) (by omega) x hx
          · exact strB_byte _ x hx
        · split at hx
          · exact strB_byte _ x hx
          · cases hx
theorem wordB_len (r : WRec) (hs : r.s.size ≤ 300) : (wordB r).length ≤ 400 := by
  unfold wordB
  split
  · have := numB_len r.v; omega
  · split
    · have := numB_len (zigI r.n); omega
    · split
      · simp [fixB]
      · split
        · rw [List.length_append, strB_length]; have := numB_len r.s.size; omega
        · split
          · rw [strB_length]; omega
          · simp

theorem next_back (l bs rest : List Int) (t : Nat) (n : Int) (hn : n = bs.length) (h : l.drop t = bs ++ rest) (ht : t ≤ l.length) : nextF l t 0 n = (bs, bs.length, 0) := by
  subst hn
  have hlen : l.length - t = bs.length + rest.length := by
    have := congrArg List.length h
    rw [List.length_drop, List.length_append] at this; exact this
  unfold nextF
  rw [if_neg (by simp), if_neg (by omega), if_neg (by omega), Int.toNat_natCast, h, List.take_append_of_le_length (Nat.le_refl _), List.take_of_length_le (Nat.le_refl _)]
theorem leV_append (a b : List Int) (k : Nat) (h : k ≤ a.length) : leV (a ++ b) k = leV a k := by
  induction k with
  | zero => rfl
  | succ k ih =>
    unfold leV
    rw [ih (by omega), List.getD_eq_getElem?_getD, List.getElem?_append_left (by omega), List.getD_eq_getElem?_getD]
theorem fix_back (l rest : List Int) (t : Nat) (v : Int) (h0 : 0 ≤ v) (h1 : v ≤ 18446744073709551615) (h : l.drop t = fixB v ++ rest) (ht : t ≤ l.length) : fixF l t 0 = (v, 8, 0) := by
  have hl : (fixB v).length = 8 := by simp [fixB]
  have hn := next_back l (fixB v) rest t 8 (by rw [hl]; rfl) h ht
  unfold fixF
  rw [hn, if_neg (by simp), h, leV_append _ _ _ (by omega), leV_fixB v h0 h1]
theorem text_back (l rest : List Int) (t : Nat) (s : ByteArray) (hs : s.size ≤ 300) (h : l.drop t = numB s.size ++ strB s ++ rest) (ht : t ≤ l.length) : textF l t 0 300 = (strB s, (numB s.size ++ strB s).length, 0) := by
  have hlk : lookE l t 0 = ((s.size : Int), 1 + oth s.size, 0) := by
    unfold lookE
    rw [if_pos rfl]
    exact lookF_numB l (strB s ++ rest) t s.size (by omega) (by omega) (by rw [h, List.append_assoc])
  have hc : countF l t 0 300 = ((s.size : Int), 1 + oth s.size, 0) := by
    unfold countF
    rw [hlk, if_neg (by simp only; omega)]
  have hlen : l.length - t = 1 + oth s.size + s.size + rest.length := by
    have := congrArg List.length h
    rw [List.length_drop, List.length_append, List.length_append, numB_length, strB_length] at this; exact this
  have hd : l.drop (t + (1 + oth s.size)) = strB s ++ rest := by
    rw [← List.drop_drop, h, List.append_assoc]
    have e : 1 + oth s.size = (numB s.size).length := by rw [numB_length]
    rw [e, List.drop_left]
  have hn := next_back l (strB s) rest (t + (1 + oth s.size)) s.size (by rw [strB_length]) hd (by omega)
  unfold textF
  rw [hc]
  simp only
  rw [hn, if_neg (by simp), List.length_append, numB_length]
theorem num_back (l rest : List Int) (t : Nat) (v : Int) (h0 : 0 ≤ v) (h1 : v ≤ 18446744073709551615) (h : l.drop t = numB v ++ rest) : lookE l t 0 = (v, (numB v).length, 0) := by
  unfold lookE
  rw [if_pos rfl, numB_length]
  exact lookF_numB l rest t v h0 h1 h
/-- The bytes of words. -/
def wordsB (rs : List WRec) : List Int := rs.flatMap wordB
theorem wordsB_snoc (rs : List WRec) (i : Nat) (hi : i < rs.length) : wordsB (rs.take (i + 1)) = wordsB (rs.take i) ++ wordB rs[i] := by
  unfold wordsB
  rw [List.take_add_one, List.getElem?_eq_getElem hi, List.flatMap_append]
  simp only [Option.toList, List.flatMap_cons, List.flatMap_nil, List.append_nil]
theorem wordsB_drop (rs : List WRec) (i : Nat) (hi : i < rs.length) : wordsB (rs.drop i) = wordB rs[i] ++ wordsB (rs.drop (i + 1)) := by
  unfold wordsB
  rw [List.drop_eq_getElem_cons hi, List.flatMap_cons]
theorem drop_more {l a b : List Int} {t : Nat} (h : l.drop t = a ++ b) : l.drop (t + a.length) = b := by
  rw [← List.drop_drop, h, List.drop_left]
theorem RdAt.less {T E : TypeId} {w : World} {B B' p : Nat} {v : Value} {l : List Int} {t : Nat} {e : Int} (h : RdAt T E w B p v l t e) (hb : B' ≤ B) : RdAt T E w B' p v l t e :=
  ⟨Nat.le_trans hb h.base, h.box, wown_base h.owns hb, h.apart, h.taken, h.byte⟩
end Go.Proofs.YteflepcmblacaaaGreatDoor

-- PK
namespace Go.Proofs.YteflepcmblacaaaGreatDoor
open Go.RowKit
attribute [local go_sem ↓] Go.wp_at_zero Go.wp_at_succ

/-- A writer that was made behind the world W has so many bytes; nothing older has changed. -/
def WK (W w : World) (p : Nat) (l : List Int) : Prop := ∃ v, WrAt 82 5 w W.heap.size p v l ∧ Kept (fun _ => False) W w
theorem WK.to {W w w' : World} {p : Nat} {v : Value} {l l' : List Int} (h : WrAt 82 5 w W.heap.size p v l) (hk : Kept (fun _ => False) W w) (ht : WrTo 82 5 w w' W.heap.size p v l') : WK W w' p l' := by
  obtain ⟨v1, H1, A1, K1⟩ := ht
  refine ⟨v1, H1, hk.step K1 (fun j hj hS => ?_)⟩
  rcases hS with rfl | hS
  · have := h.base; omega
  · have := (ownsRow_lt h.owns hS).2; omega
theorem WK.kept {W w w' : World} {p : Nat} {l : List Int} (h : WK W w p l) (k : Kept (fun _ => False) w w') : WK W w' p l := by
  obtain ⟨v, hw, hk⟩ := h
  exact ⟨v, hw.kept k (fun x => x) (fun _ _ x => x), hk.trans k⟩
theorem WK.old {W w : World} {p : Nat} {l : List Int} (h : WK W w p l) : Kept (fun _ => False) W w := h.elim fun _ h => h.2
theorem wkNew_any (w : World) : Calls Tryz.prog 18 #[] w fun e w' => ∃ p, e = .returned (.pointer (some ⟨p, 0, none⟩)) ∧ WK w w' p [] := by
  refine (newWriter_any w).mono ?_
  rintro e w' ⟨rfl, hw⟩
  exact ⟨_, rfl, _, by rw [hw]; exact newWriter_at w.heap.size w (Nat.le_refl _), by rw [hw]; exact (Kept.refl _ _).alloc _⟩
theorem wkNum_any {W w : World} {p : Nat} {l : List Int} (x : Int) (h : WK W w p l) (h0 : 0 ≤ x) (h1 : x ≤ 18446744073709551615) (hl : l.length ≤ 1000000000) :
    Calls Tryz.prog 22 #[.pointer (some ⟨p, 0, none⟩), .int .u64 x] w fun e w' => e = .returned (.tuple #[]) ∧ WK W w' p (l ++ numB x) := by
  obtain ⟨v, hw, hk⟩ := h
  refine (num_any W.heap.size p v l x w hw hk.size h0 h1 hl).mono ?_
  rintro e w' ⟨rfl, ht⟩
  exact ⟨rfl, WK.to hw hk ht⟩
theorem wkText_any {W w : World} {p : Nat} {l : List Int} (s : ByteArray) (h : WK W w p l) (hs : s.size ≤ 1000000000) (hl : l.length ≤ 1000000000) :
    Calls Tryz.prog 20 #[.pointer (some ⟨p, 0, none⟩), .string s] w fun e w' => e = .returned (.tuple #[]) ∧ WK W w' p (l ++ numB s.size ++ strB s) := by
  obtain ⟨v, hw, hk⟩ := h
  refine (text_any W.heap.size p v l s w hw hk.size hs hl).mono ?_
  rintro e w' ⟨rfl, ht⟩
  exact ⟨rfl, WK.to hw hk ht⟩
theorem wkBytes_any {W w : World} {p : Nat} {l : List Int} (h : WK W w p l) (hl : l.length ≤ 100000000000) :
    Calls Tryz.prog 24 #[.pointer (some ⟨p, 0, none⟩)] w fun e w' => ∃ v, e = .returned v ∧ w'.ownsRow W.heap.size 5 1 v l.length (u8s l) ∧ Kept (fun _ => False) W w' := by
  obtain ⟨v, hw, hk⟩ := h
  refine (wbytes_any W.heap.size p v l w hw hl).mono ?_
  rintro e w' ⟨v', rfl, ho, hk'⟩
  refine ⟨v', rfl, ?_, hk.trans hk'⟩
  refine ⟨ho.1, ?_⟩
  rcases ho.2 with h0 | ⟨g, cap, cur, e, hg, rest⟩
  · exact .inl h0
  · exact .inr ⟨g, cap, cur, e, Nat.le_trans hk.size hg, rest⟩

/-- A reader that was made behind the world W: its bytes, how many are taken, the error. -/
def RK (W w : World) (p : Nat) (l : List Int) (t : Nat) (e : Int) : Prop := ∃ v, RdAt 96 5 w W.heap.size p v l t e ∧ Kept (fun _ => False) W w
theorem RK.kept {W w w' : World} {p : Nat} {l : List Int} {t : Nat} {e : Int} (h : RK W w p l t e) (k : Kept (fun _ => False) w w') : RK W w' p l t e := by
  obtain ⟨v, hw, hk⟩ := h
  exact ⟨v, hw.kept k (fun x => x) (fun _ _ x => x), hk.trans k⟩
theorem RK.old {W w : World} {p : Nat} {l : List Int} {t : Nat} {e : Int} (h : RK W w p l t e) : Kept (fun _ => False) W w := h.elim fun _ h => h.2
theorem RK.lt {W w : World} {p : Nat} {l : List Int} {t : Nat} {e : Int} (h : RK W w p l t e) : p < w.heap.size := h.elim fun _ h => h.1.lt
theorem RK.to {W w w' : World} {p : Nat} {v : Value} {l : List Int} {t t' : Nat} {e e' : Int} (h : RdAt 96 5 w W.heap.size p v l t e) (hk : Kept (fun _ => False) W w) (h' : RdAt 96 5 w' W.heap.size p v l t' e') (k : Kept (fun k => k = p) w w') : RK W w' p l t' e' :=
  ⟨v, h', hk.step k (fun j hj hS => by have := h.base; omega)⟩
theorem rkNew_any (v : Value) (ao : Option Addr) (c : Nat) (l : List Int) (w : World) (hv : SliceAt w v ao l.length c (u8s l)) (hl : l.length ≤ 100000000000) (hb : ∀ x ∈ l, 0 ≤ x ∧ x < 256) :
    Calls Tryz.prog 34 #[v] w fun e w' => ∃ p, e = .returned (.pointer (some ⟨p, 0, none⟩)) ∧ RK w w' p l 0 0 := by
  refine (newReader_any v ao c l w hv hl hb).mono ?_
  rintro e w' ⟨p, v', rfl, hr, hk⟩
  exact ⟨p, rfl, v', hr, hk⟩
theorem rkCount_any {W w : World} {p : Nat} {l : List Int} {t : Nat} {e : Int} (most : Int) (h : RK W w p l t e) (hl : l.length ≤ 100000000000) (hm0 : 0 ≤ most) (hm1 : most ≤ 9223372036854775807) :
    Calls Tryz.prog 58 #[.pointer (some ⟨p, 0, none⟩), .int .i64 most] w fun e' w' => e' = .returned (.int .i64 (countF l t e most).1) ∧ RK W w' p l (t + (countF l t e most).2.1) (countF l t e most).2.2 ∧ Kept (fun k => k = p) w w' := by
  obtain ⟨v, hr, hk⟩ := h
  refine (rcount_all W.heap.size p v l t e most w hr hl (by omega) hm1).mono ?_
  rintro e' w' ⟨rfl, h', k⟩
  exact ⟨rfl, RK.to hr hk h' k, k⟩
theorem rkText_any {W w : World} {p : Nat} {l : List Int} {t : Nat} {e : Int} (most : Int) (h : RK W w p l t e) (hl : l.length ≤ 100000000000) (hm0 : 0 ≤ most) (hm1 : most ≤ 9223372036854775807) :
    Calls Tryz.prog 35 #[.pointer (some ⟨p, 0, none⟩), .int .i64 most] w fun e' w' => e' = .returned (.string (strOfNums (textF l t e most).1)) ∧ RK W w' p l (t + (textF l t e most).2.1) (textF l t e most).2.2 ∧ Kept (fun k => k = p) w w' := by
  obtain ⟨v, hr, hk⟩ := h
  refine (rtext_all W.heap.size p v l t e most w hr hl (by omega) hm1).mono ?_
  rintro e' w' ⟨rfl, h', k⟩
  exact ⟨rfl, RK.to hr hk h' k, k⟩
/-- What Done answers. -/
def doneF (l : List Int) (t : Nat) (e : Int) : Int := if e ≠ 0 then e else if t = l.length then 0 else 3
theorem rkDone_any {W w : World} {p : Nat} {l : List Int} {t : Nat} {e : Int} (h : RK W w p l t e) (hl : l.length ≤ 100000000000) :
    Calls Tryz.prog 38 #[.pointer (some ⟨p, 0, none⟩)] w fun e' w' => e' = .returned (.int .i64 (doneF l t e)) ∧ Kept (fun _ => False) w w' := by
  obtain ⟨v, hr, hk⟩ := h
  unfold doneF
  by_cases he : e = 0
  · subst he
    rw [if_neg (by omega)]
    refine (done_ok W.heap.size p v l t w hr hl).mono ?_
    rintro e' w' ⟨rfl, q, rfl⟩
    exact ⟨rfl, (Kept.refl _ _).drewN q⟩
  · rw [if_pos he]
    refine (done_err W.heap.size p v l t e w hr (by simp [he])).mono ?_
    rintro e' w' ⟨rfl, q, rfl⟩
    exact ⟨rfl, (Kept.refl _ _).drewN q⟩
end Go.Proofs.YteflepcmblacaaaGreatDoor

-- G1
namespace Go.Proofs.YteflepcmblacaaaGreatDoor
open Go.RowKit

/-- The value v is a slice whose elements, of one cell each, read as xs. -/
structure SlAt (w : World) (v : Value) (xs : List Value) : Prop where
  val : ∃ ao c, v = .slice ao xs.length c ∧ (ao = none → xs = []) ∧ ∀ a, ao = some a → ∀ j u, xs[j]? = some u → w.cell? (a.add j) = some u

theorem addr_add0 (g j : Nat) : (⟨g, 0, none⟩ : Addr).add j = ⟨g, j, none⟩ := by unfold Addr.add; split <;> simp_all
theorem add_block (a : Addr) (j : Nat) : (a.add j).block = a.block := by unfold Addr.add; split <;> rfl

theorem SlAt.src {P : Program} {w : World} {v : Value} {xs : List Value} (h : SlAt w v xs) {t e : TypeId} (hk : P.underlying t = some (.slice e)) (h1 : ∀ u ∈ xs, u.oneCell' = true) : Src P 1 t v xs.length xs w := by
  obtain ⟨ao, c, rfl, hn, hc⟩ := h.val
  cases ao with
  | none =>
    obtain rfl := hn rfl
    exact Src.ofNil _ hk _
  | some a => exact Src.ofSlice _ hk _ xs.length c xs (by omega) (hc a rfl) h1
theorem SlAt.kept {S : Nat → Prop} {w w' : World} {v : Value} {xs : List Value} (h : SlAt w v xs) (hk : Kept S w w') (hn : ∀ k, v.ownBlock = some k → ¬ S k) : SlAt w' v xs := by
  obtain ⟨ao, c, rfl, hz, hc⟩ := h.val
  refine ⟨ao, c, rfl, hz, fun a ha j u hu => ?_⟩
  refine hk.cell (hc a ha j u hu) ?_
  subst ha
  rw [add_block]
  exact hn _ rfl
theorem SlAt.ofOwn {w : World} {base : Nat} {e : TypeId} {v : Value} {n : Nat} {xs : List Value} (ho : w.ownsRow base e 1 v n xs) : SlAt w v xs := by
  obtain ⟨a, cap, rfl⟩ := ownsRow_slice ho
  have hl : xs.length = n := by simpa using ho.1
  subst hl
  refine ⟨a, cap, rfl, ?_, ?_⟩
  · rintro rfl
    rcases ho.2 with ⟨_, h⟩ | ⟨g, cap, cur, e, _⟩
    · exact List.eq_nil_of_length_eq_zero h
    · cases e
  · rintro a rfl j u hu
    rcases ho.2 with ⟨e, _⟩ | ⟨g, cap', cur, e, _⟩
    · cases e
    · injection e with e1 e2 e3
      injection e1 with e1
      subst e1
      exact ho.cells rfl j u hu

theorem SlAt.addr {w : World} {v : Value} {xs : List Value} (h : SlAt w v xs) (hp : 0 < xs.length) :
    ∃ g off c, v = .slice (some ⟨g, off, none⟩) xs.length c ∧ ∀ j u, xs[j]? = some u → w.cell? ⟨g, off + j, none⟩ = some u := by
  obtain ⟨ao, c, rfl, hn, hc⟩ := h.val
  cases ao with
  | none => rw [hn rfl] at hp; exact absurd hp (by simp)
  | some a =>
    obtain ⟨b, off, spot⟩ := a
    have h0 := hc _ rfl 0 xs[0] (List.getElem?_eq_getElem hp)
    have hspot : spot = Option.none := by simpa [Addr.add] using World.cell?_spot h0
    subst hspot
    exact ⟨b, off, c, rfl, fun j u hu => by rw [← Go.WideShapes.add_plain]; exact hc _ rfl j u hu⟩

theorem SlAt.elem {w : World} {ao : Option Addr} {n c : Nat} {xs : List Value} (h : SlAt w (.slice ao n c) xs) {i : Nat} {u : Value} (hu : xs[i]? = some u) : ∃ g off, ao = some ⟨g, off, none⟩ ∧ w.cell? ⟨g, off + i, none⟩ = some u := by
  have hi := (List.getElem?_eq_some_iff.1 hu).1
  obtain ⟨g, off, c', e, hc⟩ := h.addr (by omega)
  injection e with e1 e2 e3
  exact ⟨g, off, e1, hc i u hu⟩
theorem SlAt.len {w : World} {ao : Option Addr} {n c : Nat} {xs : List Value} (h : SlAt w (.slice ao n c) xs) : xs.length = n := by
  obtain ⟨_, _, e, _⟩ := h.val
  injection e with e1 e2 e3
  exact e2.symm
theorem run_cut {P : Program} {t E : TypeId} {i : TypeInfo} (ht : P.underlying t = some (.slice E)) (hi : P.info? E = some i) (hs : i.size = 1) (a : Option Addr) (len cap lo hi' : Nat) (hlo : lo ≤ hi') (hhi : hi' ≤ cap) (w : World) :
    (Instr.slice t (.slice a len cap) (some (.int .i64 (lo : Int))) (some (.int .i64 (hi' : Int))) none).run P w = .ok (.slice (if cap = lo then a else a.map (·.add lo)) (hi' - lo) (cap - lo)) w := by
  have he : P.elem t = E := by simp [Program.elem, ht]
  rw [run_slice_lh w t a len cap (by rw [he]; exact ht) .i64 .i64 lo hi' (by omega) (by omega) (by omega), he]
  simp [sizeOf, typeInfo, hi, hs, sliced]
theorem run_cutAt {P : Program} {t E : TypeId} {i : TypeInfo} (ht : P.underlying t = some (.slice E)) (hi : P.info? E = some i) (hs : i.size = 1) (a : Option Addr) (len cap lo hi' : Nat) (hlo : lo ≤ hi') (hhi : hi' ≤ cap) (w : World) :
    (Instr.sliceAt t (.slice a len cap) (some (.int .i64 (lo : Int))) (some (.int .i64 (hi' : Int))) none).run P w = .ok (.slice (if cap = lo then a else a.map (·.add lo)) (hi' - lo) (cap - lo)) w := by
  have he : P.elem t = E := by simp [Program.elem, ht]
  rw [run_sliceAt_slice w t _ _ _ _ (by rw [he]; exact ht)]
  exact run_cut ht hi hs a len cap lo hi' hlo hhi w
theorem add_add (a : Addr) (i j : Nat) : (a.add i).add j = a.add (i + j) := by
  unfold Addr.add
  by_cases hi : i = 0 <;> by_cases hj : j = 0 <;> simp [hi, hj, Nat.add_assoc]
theorem SlAt.cut {w : World} {ao : Option Addr} {n c : Nat} {xs : List Value} (h : SlAt w (.slice ao n c) xs) {lo hi : Nat} (h1 : lo ≤ hi) (h2 : hi ≤ n) (h3 : n ≤ c) :
    SlAt w (.slice (if c = lo then ao else ao.map (·.add lo)) (hi - lo) (c - lo)) ((xs.drop lo).take (hi - lo)) := by
  have hl := h.len
  obtain ⟨ao', c', e, hn, hc⟩ := h.val
  injection e with e1 e2 e3
  subst e1; subst e3
  have hlen : ((xs.drop lo).take (hi - lo)).length = hi - lo := by rw [List.length_take, List.length_drop]; omega
  refine ⟨_, _, by rw [hlen], ?_, ?_⟩
  · intro h0
    have hz : ao = none ∨ c = lo := by
      by_cases hcl : c = lo
      · exact .inr hcl
      · rw [if_neg hcl] at h0
        cases ao with
        | none => exact .inl rfl
        | some a => cases h0
    apply List.eq_nil_of_length_eq_zero
    rw [hlen]
    rcases hz with h0 | h0
    · have := hn h0; rw [this] at hl; simp at hl; omega
    · omega
  · intro a ha j u hu
    have hj : j < hi - lo := by have := (List.getElem?_eq_some_iff.1 hu).1; omega
    rw [if_neg (by omega)] at ha
    cases ao with
    | none => cases ha
    | some b =>
      cases ha
      rw [add_add]
      rw [List.getElem?_take, if_pos hj, List.getElem?_drop] at hu
      exact hc b rfl _ u hu
theorem own_cap {w : World} {B : Nat} {E : TypeId} {ao : Option Addr} {s n m c : Nat} {xs : List Value} (h : w.ownsRow B E s (.slice ao n c) m xs) : m ≤ c := by
  rcases h.2 with ⟨e, h0⟩ | ⟨g, cap, cur, e, _, _, hm, _⟩
  · omega
  · injection e with e1 e2 e3; omega

theorem add_zero' (a : Addr) : a.add 0 = a := by unfold Addr.add; simp
theorem run_cutH {P : Program} {t E : TypeId} {i : TypeInfo} (ht : P.underlying t = some (.slice E)) (hi : P.info? E = some i) (hs : i.size = 1) (a : Option Addr) (len cap h : Nat) (hhi : h ≤ cap) (w : World) :
    (Instr.slice t (.slice a len cap) none (some (.int .i64 (h : Int))) none).run P w = .ok (.slice a h cap) w := by
  have he : P.elem t = E := by simp [Program.elem, ht]
  rw [run_slice_h w t a len cap (by rw [he]; exact ht) .i64 h (by omega) (by omega), he]
  have e : (a.map fun x => x.add 0) = a := by cases a <;> simp [add_zero']
  simp [sizeOf, typeInfo, hi, hs, sliced, e]
theorem run_cutHAt {P : Program} {t E : TypeId} {i : TypeInfo} (ht : P.underlying t = some (.slice E)) (hi : P.info? E = some i) (hs : i.size = 1) (a : Option Addr) (len cap h : Nat) (hhi : h ≤ cap) (w : World) :
    (Instr.sliceAt t (.slice a len cap) none (some (.int .i64 (h : Int))) none).run P w = .ok (.slice a h cap) w := by
  have he : P.elem t = E := by simp [Program.elem, ht]
  rw [run_sliceAt_slice w t _ _ _ _ (by rw [he]; exact ht)]
  exact run_cutH ht hi hs a len cap h hhi w
theorem SlAt.takeH {w : World} {ao : Option Addr} {n c : Nat} {xs : List Value} (h : SlAt w (.slice ao n c) xs) {k : Nat} (hk : k ≤ n) : SlAt w (.slice ao k c) (xs.take k) := by
  have hl := h.len
  obtain ⟨ao', c', e, hn, hc⟩ := h.val
  injection e with e1 e2 e3
  subst e1; subst e3
  refine ⟨ao, c, by rw [List.length_take, Nat.min_eq_left (by omega)], fun h0 => by rw [hn h0]; simp, fun a ha j u hu => hc a ha j u ?_⟩
  rw [List.getElem?_take] at hu
  split at hu
  · exact hu
  · cases hu
theorem own_takeH {w : World} {B : Nat} {E : TypeId} {ao : Option Addr} {n c : Nat} {xs : List Value} (h : w.ownsRow B E 1 (.slice ao n c) n xs) {k : Nat} (hk : k ≤ n) : w.ownsRow B E 1 (.slice ao k c) k (xs.take k) := by
  refine ⟨by rw [List.length_take, h.1]; omega, ?_⟩
  rcases h.2 with ⟨e, h0⟩ | ⟨g, cap, cur, e, hb, hg, hnc, hcm, hcs, ht⟩
  · injection e with e1 e2 e3
    subst e1; subst e3
    exact .inl ⟨by rw [show k = 0 by omega], by omega⟩
  · injection e with e1 e2 e3
    subst e1; subst e3
    refine .inr ⟨g, c, cur, rfl, hb, hg, by omega, hcm, hcs, ?_⟩
    rw [← ht, List.take_take]
    congr 1
    omega

theorem run_cutL {P : Program} {t E : TypeId} {i : TypeInfo} (ht : P.underlying t = some (.slice E)) (hi : P.info? E = some i) (hs : i.size = 1) (a : Option Addr) (len cap lo : Nat) (hlo : lo ≤ len) (w : World) :
    (Instr.slice t (.slice a len cap) (some (.int .i64 (lo : Int))) none none).run P w = .ok (.slice (if cap = lo then a else a.map (·.add lo)) (len - lo) (cap - lo)) w := by
  have he : P.elem t = E := by simp [Program.elem, ht]
  rw [run_slice_l w t a len cap (by rw [he]; exact ht) .i64 lo (by omega) (by omega), he]
  simp [sizeOf, typeInfo, hi, hs, sliced]
theorem run_cutLAt {P : Program} {t E : TypeId} {i : TypeInfo} (ht : P.underlying t = some (.slice E)) (hi : P.info? E = some i) (hs : i.size = 1) (a : Option Addr) (len cap lo : Nat) (hlo : lo ≤ len) (w : World) :
    (Instr.sliceAt t (.slice a len cap) (some (.int .i64 (lo : Int))) none none).run P w = .ok (.slice (if cap = lo then a else a.map (·.add lo)) (len - lo) (cap - lo)) w := by
  have he : P.elem t = E := by simp [Program.elem, ht]
  rw [run_sliceAt_slice w t _ _ _ _ (by rw [he]; exact ht)]
  exact run_cutL ht hi hs a len cap lo hlo w
theorem SlAt.cutL {w : World} {ao : Option Addr} {n c : Nat} {xs : List Value} (h : SlAt w (.slice ao n c) xs) {lo : Nat} (h1 : lo ≤ n) (h3 : n ≤ c) :
    SlAt w (.slice (if c = lo then ao else ao.map (·.add lo)) (n - lo) (c - lo)) (xs.drop lo) := by
  have := h.cut (lo := lo) (hi := n) h1 (Nat.le_refl _) h3
  rwa [List.take_of_length_le (by rw [List.length_drop, h.len]; exact Nat.le_refl _)] at this

/-- A row of one-cell elements that was made behind the world W. -/
structure Mine (W w : World) (E : TypeId) (v : Value) (xs : List Value) : Prop where
  own : w.ownsRow W.heap.size E 1 v xs.length xs
  kept : Kept (fun _ => False) W w
theorem Mine.nil (w : World) (E : TypeId) : Mine w w E (.slice none 0 0) [] := ⟨World.ownsRow_nil _ _ _ _, Kept.refl _ _⟩
theorem Mine.nil' {W w : World} (E : TypeId) (h : Kept (fun _ => False) W w) : Mine W w E (.slice none 0 0) [] := ⟨World.ownsRow_nil _ _ _ _, h⟩
theorem Mine.on {W w w' : World} {E : TypeId} {v : Value} {xs : List Value} (h : Mine W w E v xs) (hk : Kept (fun _ => False) w w') : Mine W w' E v xs := ⟨hk.owns h.own (fun _ _ x => x), h.kept.trans hk⟩
theorem Mine.alloc {W w : World} {E : TypeId} {v : Value} {xs : List Value} (h : Mine W w E v xs) (o : Obj) : Mine W (w.alloc o) E v xs := h.on ((Kept.refl _ _).alloc o)
theorem Mine.down {W W0 w : World} {E : TypeId} {v : Value} {xs : List Value} (h : Mine W w E v xs) (hk : Kept (fun _ => False) W0 W) : Mine W0 w E v xs := by
  refine ⟨⟨h.own.1, ?_⟩, hk.trans h.kept⟩
  rcases h.own.2 with h0 | ⟨g, cap, cur, e, hg, rest⟩
  · exact .inl h0
  · exact .inr ⟨g, cap, cur, e, Nat.le_trans hk.size hg, rest⟩
theorem Mine.at_ {W w : World} {E : TypeId} {v : Value} {xs : List Value} (h : Mine W w E v xs) : SlAt w v xs := SlAt.ofOwn h.own
theorem Mine.slice {W w : World} {E : TypeId} {v : Value} {xs : List Value} (h : Mine W w E v xs) : ∃ a c, v = .slice a xs.length c := ownsRow_slice h.own
theorem Mine.ofFresh {W w : World} {E : TypeId} {v : Value} {n : Nat} {xs : List Value} (h : w.ownsRow W.heap.size E 1 v n xs) (hk : Kept (fun _ => False) W w) : Mine W w E v xs := by
  have : xs.length = n := by simpa using h.1
  subst this
  exact ⟨h, hk⟩

theorem wpList_mine {P : Program} {ops : Array Oper} {rest : List Oper} {o : Oper} {a : Act} {Q : Exit → Act → World → Prop} {w : World} (hgd : o.guard = none) (s x : Operand) (t tx : TypeId)
    (ho : o.op = .call { callee := .builtin .append, args := #[s, x], argTypes := #[t, tx] })
    (e : TypeId) (i : TypeInfo) (z : Value) (bytes : Nat) (ht : P.underlying t = some (.slice e)) (hi : P.info? e = some i) (hz : i.zero = some z)
    (hsize : i.size = 1) (hby : i.bytes = bytes) (hzs : z.cells.size = 1) (hb : bytes ≤ 64)
    (W : World) (v : Value) (xs : List Value) (hv : a.eval s = v) (hm : Mine W w e v xs)
    (y : Value) (news : List Value) (hy : a.eval x = y) (hs : Src P 1 tx y news.length news w)
    (hl : xs.length + news.length ≤ 1000000000000)
    (h : ∀ v' w', Mine W w' e v' (xs ++ news) → wpList P ops Q rest (a.put o.dst v') w') : wpList P ops Q (o :: rest) a w := by
  refine wpList_append_src w hgd s x t tx ho W.heap.size e i z 1 bytes ht hi hz hsize hby hzs v xs.length xs hv hm.own y news.length news hy hs (by unfold maxLen; omega) ?_ hm.kept.size ?_
  · have := Nat.mul_le_mul hl hb; omega
  · intro v' w' hown hg _ _
    refine h v' w' ⟨by rw [List.length_append]; exact hown, hm.kept.grown hg (fun k e hlt => ?_)⟩
    have := (ownsRow_lt hm.own e).2; omega
theorem Kept.newer {W w w' : World} {S : Nat → Prop} (h : Kept (fun _ => False) W w) (k : Kept S w w') (hs : ∀ i, S i → W.heap.size ≤ i) : Kept (fun _ => False) W w' := h.step k (fun i hi x => by have := hs i x; omega)
theorem Kept.newest {W w w' : World} {S : Nat → Prop} (h : Kept (fun _ => False) W w) (k : Kept S w w') (hs : ∀ i, S i → W.heap.size ≤ i) : Kept (fun _ => False) W w' := h.newer k hs
theorem Mine.keptS {S : Nat → Prop} {W w w' : World} {E : TypeId} {v : Value} {xs : List Value} (h : Mine W w E v xs) (hk : Kept S w w') (hn : ∀ k, v.ownBlock = some k → ¬ S k) (hs : ∀ k, S k → W.heap.size ≤ k) : Mine W w' E v xs := ⟨hk.owns h.own hn, h.kept.newer hk hs⟩
theorem own_box {w : World} {B : Nat} {v : Value} {xs : List Value} {n s : Nat} {T E : TypeId} {cs : Array Value} {fr : Nat × Nat} {k : Nat} (ho : w.ownsRow B E s v n xs) (hb : w.heap[k]? = some (.cells cs T fr)) (hne : E ≠ T) : v.ownBlock ≠ some k := by
  intro e
  obtain ⟨cur, hc⟩ := ownsRow_block ho e
  rw [hb] at hc
  injection hc with this; injection this with _ e _
  exact hne e.symm
/-- The same, with what was turned. -/
theorem wpList_mine2 {P : Program} {ops : Array Oper} {rest : List Oper} {o : Oper} {a : Act} {Q : Exit → Act → World → Prop} {w : World} (hgd : o.guard = none) (s x : Operand) (t tx : TypeId)
    (ho : o.op = .call { callee := .builtin .append, args := #[s, x], argTypes := #[t, tx] })
    (e : TypeId) (i : TypeInfo) (z : Value) (bytes : Nat) (ht : P.underlying t = some (.slice e)) (hi : P.info? e = some i) (hz : i.zero = some z)
    (hsize : i.size = 1) (hby : i.bytes = bytes) (hzs : z.cells.size = 1) (hb : bytes ≤ 64)
    (W : World) (v : Value) (xs : List Value) (hv : a.eval s = v) (hm : Mine W w e v xs)
    (y : Value) (news : List Value) (hy : a.eval x = y) (hs : Src P 1 tx y news.length news w)
    (hl : xs.length + news.length ≤ 1000000000000)
    (h : ∀ v' w', Mine W w' e v' (xs ++ news) → Kept (fun k => v.ownBlock = some k) w w' → (v'.ownBlock = v.ownBlock ∨ v'.ownBlock = some w.heap.size) → wpList P ops Q rest (a.put o.dst v') w') : wpList P ops Q (o :: rest) a w := by
  refine wpList_append_src w hgd s x t tx ho W.heap.size e i z 1 bytes ht hi hz hsize hby hzs v xs.length xs hv hm.own y news.length news hy hs (by unfold maxLen; omega) ?_ hm.kept.size ?_
  · have := Nat.mul_le_mul hl hb; omega
  · intro v' w' hown hg _ hat
    refine h v' w' ⟨by rw [List.length_append]; exact hown, hm.kept.grown hg (fun k e hlt => ?_)⟩ ((Kept.refl (fun k => v.ownBlock = some k) w).grown hg (fun k e _ => e)) hat
    have := (ownsRow_lt hm.own e).2; omega
/-- At a step of a region that draws its order. -/
theorem step_mine {P : Program} {ops : Array Oper} {o : Oper} {a : Act} {K : Act → World → Prop} {Q : Exit → Act → World → Prop} {E : Prop} {w : World} (hgd : o.guard = none) (s x : Operand) (t tx : TypeId)
    (ho : o.op = .call { callee := .builtin .append, args := #[s, x], argTypes := #[t, tx] })
    (e : TypeId) (i : TypeInfo) (z : Value) (bytes : Nat) (ht : P.underlying t = some (.slice e)) (hi : P.info? e = some i) (hz : i.zero = some z)
    (hsize : i.size = 1) (hby : i.bytes = bytes) (hzs : z.cells.size = 1) (hb : bytes ≤ 64)
    (W : World) (v : Value) (xs : List Value) (hv : a.eval s = v) (hm : Mine W w e v xs)
    (y : Value) (news : List Value) (hy : a.eval x = y) (hs : Src P 1 tx y news.length news w)
    (hl : xs.length + news.length ≤ 1000000000000)
    (h : ∀ v' w', Mine W w' e v' (xs ++ news) → Kept (fun k => v.ownBlock = some k) w w' → (v'.ownBlock = v.ownBlock ∨ v'.ownBlock = some w.heap.size) → K (a.put o.dst v') w') :
    if Region.wanted o (yielded ops a.tmps) = true then Oper.wp P o a w K Q else E := by
  refine step_append_src w hgd s x t tx ho W.heap.size e i z 1 bytes ht hi hz hsize hby hzs v xs.length xs hv hm.own y news.length news hy hs (by unfold maxLen; omega) ?_ hm.kept.size ?_
  · have := Nat.mul_le_mul hl hb; omega
  · intro v' w' hown hg _ hat
    refine h v' w' ⟨by rw [List.length_append]; exact hown, hm.kept.grown hg (fun k e hlt => ?_)⟩ ((Kept.refl (fun k => v.ownBlock = some k) w).grown hg (fun k e _ => e)) hat
    have := (ownsRow_lt hm.own e).2; omega
theorem Mine.src {P : Program} {W w w' : World} {E t e : TypeId} {v : Value} {xs : List Value} (h : Mine W w E v xs) (hk : Kept (fun _ => False) w w') (ht : P.underlying t = some (.slice e)) (h1 : ∀ u ∈ xs, u.oneCell' = true) : Src P 1 t v xs.length xs w' := (h.on hk).at_.src ht h1

/-- A slice of integers that came in, as the row of its elements. -/
theorem IsRow.slAtI {k : IntKind} {w : World} {a : Option Addr} {len cap : Nat} {zs : List Int} (h : IsRow k w a len cap zs) :
    ∃ l : List Int, l.length = len ∧ (∀ x ∈ l, (Lit.int k x).wf = true) ∧ SlAt w (.slice a len cap) (l.map (Value.int k)) := by
  rcases h with ⟨rfl, rfl, rfl, rfl⟩ | ⟨x, rfl, hlc, _, hz, hcell, hwf⟩
  · exact ⟨[], rfl, by simp, ⟨none, 0, rfl, fun _ => rfl, by simp⟩⟩
  · refine ⟨zs.take len, by simp; omega, fun y hy => hwf y (List.mem_of_mem_take hy), ⟨some x, cap, ?_, (fun e => by cases e), ?_⟩⟩
    · rw [List.length_map, List.length_take, Nat.min_eq_left (by omega)]
    · intro a ha j u hu
      cases ha
      have hj : j < len := by
        have := (List.getElem?_eq_some_iff.1 hu).1
        simp at this; omega
      have hjz : j < zs.length := by omega
      rw [hcell j hjz, List.getD_eq_getElem?_getD, List.getElem?_eq_getElem hjz]
      simp only [List.getElem?_map, List.getElem?_take, if_pos hj, List.getElem?_eq_getElem hjz, Option.map_some] at hu
      exact hu
theorem IsRow.slAtN {k : IntKind} {w : World} {a : Option Addr} {len cap : Nat} {zs : List Int} (M : Nat) (hk : ∀ x, (Lit.int k x).wf = true → 0 ≤ x ∧ x < M) (h : IsRow k w a len cap zs) :
    ∃ l : List Nat, l.length = len ∧ (∀ x ∈ l, x < M) ∧ SlAt w (.slice a len cap) (l.map fun (n : Nat) => Value.int k (n : Int)) := by
  obtain ⟨l, hl, hb, hv⟩ := h.slAtI
  refine ⟨l.map Int.toNat, by simpa using hl, ?_, ?_⟩
  · intro n hn
    obtain ⟨m, hm, rfl⟩ := List.mem_map.1 hn
    have := hk m (hb m hm)
    omega
  · have e : (l.map Int.toNat).map (fun (n : Nat) => Value.int k (n : Int)) = l.map (Value.int k) := by
      rw [List.map_map]
      apply List.map_congr_left
      intro m hm
      have := hk m (hb m hm)
      simp only [Function.comp_apply]
      congr 1
      omega
    rw [e]; exact hv
theorem wf_u64 (x : Int) (h : (Lit.int .u64 x).wf = true) : 0 ≤ x ∧ x < (18446744073709551616 : Nat) := by
  have := bd_u64 h; omega


def uvals (l : List Nat) : List Value := l.map fun (n : Nat) => Value.int .u64 (n : Int)
theorem uvals_get {l : List Nat} {j : Nat} (h : j < l.length) : (uvals l)[j]? = some (.int .u64 ((l.getD j 0 : Nat) : Int)) := by
  simp [uvals, List.getD_eq_getElem?_getD, List.getElem?_eq_getElem h]
theorem getD_u64 {l : List Nat} (h : ∀ x ∈ l, x < 18446744073709551616) (j : Nat) : l.getD j 0 < 18446744073709551616 := by
  rw [List.getD_eq_getElem?_getD]
  by_cases hj : j < l.length
  · rw [List.getElem?_eq_getElem hj]; exact h _ (List.getElem_mem hj)
  · rw [List.getElem?_eq_none (by omega)]; decide
/-- Signed numbers as values. -/
def vals (l : List Int) : List Value := l.map (Value.int .i64)
@[simp] theorem vals_length (l : List Int) : (vals l).length = l.length := by simp [vals]
theorem vals_get {l : List Int} {j : Nat} (h : j < l.length) : (vals l)[j]? = some (.int .i64 (l.getD j 0)) := by
  simp [vals, List.getD_eq_getElem?_getD, List.getElem?_eq_getElem h]
theorem vals_one (l : List Int) : ∀ u ∈ vals l, u.oneCell' = true := by
  intro u hu; obtain ⟨x, _, rfl⟩ := List.mem_map.1 hu; rfl
/-- A signed number of 64 bits. -/
def I64 (x : Int) : Prop := -9223372036854775808 ≤ x ∧ x ≤ 9223372036854775807
theorem getD_I64 {l : List Int} (h : ∀ x ∈ l, I64 x) (j : Nat) : I64 (l.getD j 0) := by
  rw [List.getD_eq_getElem?_getD]
  by_cases hj : j < l.length
  · rw [List.getElem?_eq_getElem hj]; exact h _ (List.getElem_mem hj)
  · rw [List.getElem?_eq_none (by omega)]; exact ⟨by decide, by decide⟩

theorem uvals_length (l : List Nat) : (uvals l).length = l.length := by simp [uvals]
theorem uvals_one (l : List Nat) : ∀ u ∈ uvals l, u.oneCell' = true := by
  intro u hu; obtain ⟨x, _, rfl⟩ := List.mem_map.1 hu; rfl
theorem wrap64_range (x : Int) : I64 (wrap64 x) := by unfold I64 wrap64; omega
/-- A signed number's bits as a number. -/
def uN (d : Int) : Nat := (d % 18446744073709551616).toNat
theorem uN_lt (d : Int) : uN d < 18446744073709551616 := by unfold uN; omega
theorem uN_u64 (d : Int) : IntKind.u64.wrap d = ((uN d : Nat) : Int) := by rw [IntKind.wrap_u64]; unfold uN; omega
theorem uN_i64 (d : Int) (h0 : -9223372036854775808 ≤ d) (h1 : d ≤ 9223372036854775807) : wrap64 ((uN d : Nat) : Int) = d := by unfold uN wrap64; omega
theorem beqT {a b : Int} (h : a = b) : (a == b) = true := beq_iff_eq.2 h
theorem beqF {a b : Int} (h : a ≠ b) : (a == b) = false := beq_eq_false_iff_ne.2 h
theorem bneT {a b : Int} (h : a ≠ b) : (a != b) = true := bne_iff_ne.2 h
theorem bneF {a b : Int} (h : a = b) : (a != b) = false := by simp [h]
theorem owns_set {w : World} {base : Nat} {E : TypeId} {g n cap : Nat} {xs : List Value} (h : w.ownsRow base E 1 (.slice (some ⟨g, 0, none⟩) n cap) n xs) (j : Nat) (u : Value) :
    (w.setCell ⟨g, j, none⟩ u).ownsRow base E 1 (.slice (some ⟨g, 0, none⟩) n cap) n (xs.set j u) := by
  refine ⟨by simpa using h.1, ?_⟩
  rcases h.2 with ⟨e, _⟩ | ⟨g', cap', cur, e, hb, hg, hn, hm, hs, ht⟩
  · cases e
  · injection e with e1 e2 e3
    injection e1 with e1
    injection e1 with e1
    subst e1
    subst e3
    refine .inr ⟨g, cap, cur.setIfInBounds j u, rfl, hb, ?_, hn, hm, by simpa using hs, ?_⟩
    · simp [World.setCell, Array.getElem?_modify, hg]
    · rw [← ht]
      simp [List.take_set]
end Go.Proofs.YteflepcmblacaaaGreatDoor

-- SX
namespace Go.Proofs.YteflepcmblacaaaGreatDoor
open Go.RowKit
attribute [local go_sem ↓] Go.wp_at_zero Go.wp_at_succ

/-- A text's i-th byte. -/
def chr (s : ByteArray) (i : Nat) : Nat := (s.toList.getD i 0).toNat
theorem toList_size (s : ByteArray) : s.toList.length = s.size := by rw [ByteArray.toList_eq]; exact Array.length_toList
theorem chr_lt (s : ByteArray) (i : Nat) : chr s i < 256 := (s.toList.getD i 0).toNat_lt
theorem run_chr {P : Program} {t : TypeId} (h : P.underlying t = some .string) (s : ByteArray) (i : Nat) (hi : i < s.size) (w : World) : (Instr.index t (.string s) (.int .i64 (i : Int))).run P w = .ok (.int .u8 (chr s i : Int)) w := by
  have hl : s.toList.length = s.size := toList_size s
  rw [run_index_string w t s .i64 i h, dif_pos ⟨by omega, by omega⟩]
  have e : chr s i = (s[((i : Nat) : Int).toNat]'(by omega)).toNat := by
    unfold chr
    rw [List.getD_eq_getElem?_getD, List.getElem?_eq_getElem (by omega)]
    have h2 : s.toList = s.data.toList := ByteArray.toList_eq s
    simp only [h2, Option.getD_some, Array.getElem_toList]
    rfl
  rw [e]
theorem eqT {a b : Nat} (h : a = b) : ((a : Int) == (b : Int)) = true := by simp [h]
theorem toList_extractX (s : ByteArray) (i j : Nat) : (s.extract i j).toList = (s.toList.take j).drop i := by
  rw [ByteArray.toList_eq, ByteArray.toList_eq, ByteArray.data_extract, Array.toList_extract]
  simp [List.drop_take]
/-- A text's bytes as numbers. -/
def bl (s : ByteArray) : List Nat := s.toList.map UInt8.toNat
theorem bl_length (s : ByteArray) : (bl s).length = s.size := by unfold bl; rw [List.length_map, toList_size]
theorem bl_get {s : ByteArray} {i : Nat} (h : i < s.size) : (bl s)[i]? = some (chr s i) := by
  have h2 : i < s.toList.length := by rw [toList_size]; exact h
  unfold bl chr
  rw [List.getElem?_map, List.getElem?_eq_getElem h2, List.getD_eq_getElem?_getD, List.getElem?_eq_getElem h2]; rfl
theorem bl_getD (s : ByteArray) (i : Nat) : (bl s).getD i 0 = chr s i := by
  unfold bl chr
  rw [List.getD_eq_getElem?_getD, List.getElem?_map, List.getD_eq_getElem?_getD]
  cases s.toList[i]? <;> rfl
theorem bl_lt {s : ByteArray} {x : Nat} (h : x ∈ bl s) : x < 256 := by
  unfold bl at h
  obtain ⟨b, _, rfl⟩ := List.mem_map.1 h
  exact b.toNat_lt
theorem bl_extract (s : ByteArray) (i j : Nat) : bl (s.extract i j) = ((bl s).take j).drop i := by
  unfold bl; rw [toList_extractX, List.map_drop, List.map_take]
theorem bl_from (s : ByteArray) (i : Nat) : bl (s.extract i s.size) = (bl s).drop i := by
  rw [bl_extract, List.take_of_length_le (by rw [bl_length]; exact Nat.le_refl _)]
theorem bl_append (a b : ByteArray) : bl (a ++ b) = bl a ++ bl b := by
  unfold bl
  rw [← List.map_append]
  congr 1
  simp [ByteArray.toList_eq]
theorem bl_inj {a b : ByteArray} (h : bl a = bl b) : a = b := by
  unfold bl at h
  have h2 : a.toList = b.toList := (List.map_inj_right (fun x y e => UInt8.toNat_inj.1 e)).1 h
  rw [ByteArray.toList_eq, ByteArray.toList_eq] at h2
  cases a; cases b
  simp at h2
  cases h2
  rfl
theorem drop_cons {l : List Nat} {i : Nat} (h : i < l.length) : l.drop i = l.getD i 0 :: l.drop (i + 1) := by
  rw [List.drop_eq_getElem_cons h, List.getD_eq_getElem?_getD, List.getElem?_eq_getElem h]; rfl
theorem size_from (s : ByteArray) (i : Nat) : (s.extract i s.size).size = s.size - i := by simp [ByteArray.size_extract]
theorem size_cut (s : ByteArray) (i j : Nat) (h : j ≤ s.size) : (s.extract i j).size = j - i := by simp [ByteArray.size_extract]; omega
end Go.Proofs.YteflepcmblacaaaGreatDoor

-- SN
namespace Go.Proofs.YteflepcmblacaaaGreatDoor
open Go.RowKit
attribute [local go_sem ↓] Go.wp_at_zero Go.wp_at_succ

def byV (l : List Nat) : List Value := l.map fun (n : Nat) => Value.int .u8 (n : Int)
@[simp] theorem byV_length (l : List Nat) : (byV l).length = l.length := by simp [byV]
theorem byV_get {l : List Nat} {j : Nat} (h : j < l.length) : (byV l)[j]? = some (.int .u8 ((l.getD j 0 : Nat) : Int)) := by
  simp [byV, List.getD_eq_getElem?_getD, List.getElem?_eq_getElem h]
theorem byV_one (l : List Nat) : ∀ u ∈ byV l, u.oneCell' = true := by
  intro u hu
  obtain ⟨n, _, rfl⟩ := List.mem_map.1 hu
  rfl
theorem byV_append (a b : List Nat) : byV (a ++ b) = byV a ++ byV b := by simp [byV]
/-- Bytes as a text. -/
def strL (l : List Nat) : ByteArray := strOfNums (l.map fun (n : Nat) => (n : Int))
theorem strL_list (l : List Nat) : (strL l).toList = l.map UInt8.ofNat := by
  rw [ByteArray.toList_eq]
  simp [strL, strOfNums, List.map_map, Function.comp_def]
theorem bl_strL {l : List Nat} (h : ∀ x ∈ l, x < 256) : bl (strL l) = l := by
  unfold bl
  rw [strL_list, List.map_map]
  conv => rhs; rw [← List.map_id l]
  refine List.map_congr_left fun x hx => ?_
  have := h x hx
  simp; omega
theorem strL_bl (s : ByteArray) : strL (bl s) = s := bl_inj (bl_strL (fun _ hx => bl_lt hx))
theorem run_strL {P : Program} {w : World} {v : Value} {l : List Nat} (h : SlAt w v (byV l)) (src e dst : TypeId) (hs : P.underlying src = some (.slice e)) (he : P.underlying e = some (.int .u8)) (hd : P.underlying dst = some .string) :
    (convert src dst v).run P w = .ok (.string (strL l)) w := by
  rcases Nat.eq_zero_or_pos l.length with h0 | h0
  · obtain rfl : l = [] := List.eq_nil_of_length_eq_zero h0
    obtain ⟨ao, c, rfl, hn, hc⟩ := h.val
    cases ao with
    | none => exact run_convert_bytes_nil w src e hs he 0 c dst hd
    | some a =>
      rw [run_convert_bytes_string w src dst e _ _ c hs he hd]
      simp [Conv.bytesToString, loadCells, loadCellsFrom]
      rfl
  · obtain ⟨g, off, c, rfl, hc⟩ := h.addr (by rw [byV_length]; exact h0)
    rw [byV_length]
    have := run_convert_bytes_arg (P := P) w src e hs he g off l.length c (l.map fun (n : Nat) => (n : Int)) (by simp) (fun i hi => by
      rw [hc i _ (byV_get (by simpa using hi))]
      simp [List.getD_eq_getElem?_getD, List.getElem?_eq_getElem hi]) dst hd
    exact this
theorem Tryz.infoU8 : (Tryz.prog.info? 5).map (fun i => (i.zero, i.size, i.bytes)) = some (some (.int .u8 0), 1, 1) := by kernel_rfl
end Go.Proofs.YteflepcmblacaaaGreatDoor

-- NX
namespace Go.Proofs.YteflepcmblacaaaGreatDoor
open Go.RowKit
attribute [local go_sem ↓] Go.wp_at_zero Go.wp_at_succ

/-- What is answered: bytes in new memory, an error. -/
def BuildTo (w : World) (r : Int × List Int) (e : Ending) (w' : World) : Prop := ∃ v, e = .returned (.tuple #[v, .int .i64 r.1]) ∧ w'.ownsRow w.heap.size 5 1 v r.2.length (u8s r.2) ∧ Kept (fun _ => False) w w'
theorem strB_strOf {l : List Int} (h : ∀ x ∈ l, 0 ≤ x ∧ x < 256) : strB (strOfNums l) = l := by
  unfold strB strOfNums
  simp only [List.map_map, Function.comp_def]
  conv => rhs; rw [← List.map_id l]
  refine List.map_congr_left fun x hx => ?_
  have := h x hx
  simp
  omega
theorem strOf_size (l : List Int) : (strOfNums l).size = l.length := by
  unfold strOfNums ByteArray.size
  simp
theorem run_strI {P : Program} {w : World} {v : Value} {l : List Int} (h : SlAt w v (u8s l)) (src e dst : TypeId) (hs : P.underlying src = some (.slice e)) (he : P.underlying e = some (.int .u8)) (hd : P.underlying dst = some .string) :
    (convert src dst v).run P w = .ok (.string (strOfNums l)) w := by
  rcases Nat.eq_zero_or_pos l.length with h0 | h0
  · obtain rfl : l = [] := List.eq_nil_of_length_eq_zero h0
    obtain ⟨ao, c, rfl, hn, hc⟩ := h.val
    cases ao with
    | none => exact run_convert_bytes_nil w src e hs he 0 c dst hd
    | some a =>
      rw [run_convert_bytes_string w src dst e _ _ c hs he hd]
      simp [Conv.bytesToString, loadCells, loadCellsFrom]
      rfl
  · obtain ⟨g, off, c, rfl, hc⟩ := h.addr (by simpa using h0)
    have hl : (u8s l).length = l.length := by simp
    rw [hl]
    have := run_convert_bytes_arg (P := P) w src e hs he g off l.length c l rfl (fun i hi => by
      rw [hc i _ (by unfold u8s; rw [List.getElem?_map, List.getElem?_eq_getElem hi]; rfl)]
      simp [List.getD_eq_getElem?_getD, List.getElem?_eq_getElem hi]) dst hd
    exact this
theorem SliceAt.slAt {w : World} {ao : Option Addr} {c : Nat} {l : List Int} (h : SliceAt w (.slice ao l.length c) ao l.length c (u8s l)) : SlAt w (.slice ao l.length c) (u8s l) := by
  have hl : (u8s l).length = l.length := by simp
  refine ⟨ao, c, by rw [hl], fun h0 => List.eq_nil_of_length_eq_zero (by rw [hl]; exact h.none h0), fun a ha j u hu => h.cells a ha j u hu⟩
end Go.Proofs.YteflepcmblacaaaGreatDoor

-- NY
namespace Go.Proofs.YteflepcmblacaaaGreatDoor
open Go.RowKit
theorem countF_range (l : List Int) (t : Nat) (e most : Int) (hb : ∀ x ∈ l, 0 ≤ x ∧ x < 256) (h0 : 0 ≤ most) : 0 ≤ (countF l t e most).1 ∧ (countF l t e most).1 ≤ most := by
  unfold countF
  split
  · exact ⟨by decide, h0⟩
  · rename_i h
    obtain ⟨r, hr⟩ : ∃ r, r = lookE l t e := ⟨_, rfl⟩
    obtain ⟨v, n, e1⟩ := r
    rw [← hr] at h ⊢
    simp only at h ⊢
    by_cases he : e1 = 0
    · subst he
      have := lookE_num hb hr.symm
      omega
    · have := lookE_fault hr.symm he
      omega
theorem countF_taken (l : List Int) (t : Nat) (e most : Int) (ht : t ≤ l.length) : t + (countF l t e most).2.1 ≤ l.length := by
  unfold countF
  split
  · simpa using ht
  · exact lookE_taken l t e ht
theorem countF_nat (l : List Int) (t : Nat) (e most : Int) (hb : ∀ x ∈ l, 0 ≤ x ∧ x < 256) (h0 : 0 ≤ most) : ∃ n : Nat, (countF l t e most).1 = (n : Int) ∧ (n : Int) ≤ most := by
  have := countF_range l t e most hb h0
  exact ⟨(countF l t e most).1.toNat, by omega, by omega⟩
theorem textF_len (l : List Int) (t : Nat) (e most : Int) (hb : ∀ x ∈ l, 0 ≤ x ∧ x < 256) (h0 : 0 ≤ most) : ((textF l t e most).1.length : Int) ≤ most := by
  have hc := countF_range l t e most hb h0
  obtain ⟨c, hcc⟩ : ∃ c, c = countF l t e most := ⟨_, rfl⟩
  unfold textF
  rw [← hcc] at hc ⊢
  split
  · simpa using h0
  · simp only
    unfold nextF
    split
    · simpa using h0
    · split
      · simpa using h0
      · split
        · simpa using h0
        · simp only [List.length_take]; omega
theorem textF_taken (l : List Int) (t : Nat) (e most : Int) (ht : t ≤ l.length) : t + (textF l t e most).2.1 ≤ l.length := by
  have h1 := countF_taken l t e most ht
  have h2 := nextF_taken l (t + (countF l t e most).2.1) (countF l t e most).2.2 (countF l t e most).1 h1
  unfold textF
  split
  · simpa using ht
  · simp only; omega
theorem count_num {l : List Int} {t n : Nat} {e v most : Int} (hb : ∀ x ∈ l, 0 ≤ x ∧ x < 256) (h : countF l t e most = (v, n, 0)) : e = 0 ∧ l.drop t = numB v ++ l.drop (t + n) ∧ t + n ≤ l.length ∧ 0 ≤ v ∧ v ≤ most := by
  unfold countF at h
  split at h
  · simp at h
  · rename_i h1
    have he : e = 0 := (lookE_num hb h).1
    rw [h] at h1
    unfold lookE at h
    rw [if_pos he] at h
    obtain ⟨h2, h3, h4, h5, h6, h7⟩ := look_num l t n v hb h
    refine ⟨he, ?_, h7, h3, ?_⟩
    · rw [h2, ← List.drop_drop, List.take_append_drop]
    · simp only [true_and] at h1
      omega
theorem next_num {l bs : List Int} {t m : Nat} {e n : Int} (h : nextF l t e n = (bs, m, 0)) (ht : t ≤ l.length) : e = 0 ∧ l.drop t = bs ++ l.drop (t + m) ∧ t + m ≤ l.length ∧ bs.length = m ∧ n = (m : Int) := by
  unfold nextF at h
  by_cases he : e = 0
  · rw [if_neg (by simp [he])] at h
    by_cases hn : n < 0
    · rw [if_pos hn] at h; simp at h
    · rw [if_neg hn] at h
      by_cases hl : (l.length : Int) - t < n
      · rw [if_pos hl] at h; simp at h
      · rw [if_neg hl] at h
        simp only [Prod.mk.injEq] at h
        obtain ⟨h1, h2, _⟩ := h
        refine ⟨he, ?_, by omega, ?_, by omega⟩
        · rw [← h1, ← h2, ← List.drop_drop, List.take_append_drop]
        · rw [← h1, List.length_take, List.length_drop]; omega
  · rw [if_pos he] at h
    simp only [Prod.mk.injEq] at h
    omega
theorem text_num {l bs : List Int} {t m : Nat} {e most : Int} (hb : ∀ x ∈ l, 0 ≤ x ∧ x < 256) (ht : t ≤ l.length) (h : textF l t e most = (bs, m, 0)) : e = 0 ∧ l.drop t = numB (bs.length : Nat) ++ bs ++ l.drop (t + m) ∧ t + m ≤ l.length ∧ (bs.length : Int) ≤ most := by
  have h1 := countF_taken l t e most ht
  obtain ⟨c, hc⟩ : ∃ c, c = countF l t e most := ⟨_, rfl⟩
  unfold textF at h
  rw [← hc] at h h1
  obtain ⟨v, n, e1⟩ := c
  simp only at h h1
  obtain ⟨r, hr⟩ : ∃ r, r = nextF l (t + n) e1 v := ⟨_, rfl⟩
  rw [← hr] at h
  obtain ⟨bs', m', e2⟩ := r
  simp only at h
  by_cases he : e2 = 0
  · rw [if_neg (by simp [he])] at h
    simp only [Prod.mk.injEq] at h
    obtain ⟨rfl, rfl, _⟩ := h
    rw [he] at hr
    obtain ⟨rfl, h3, h4, h5, h6⟩ := next_num hr.symm h1
    obtain ⟨h7, h8, h9, h10, h11⟩ := count_num hb hc.symm
    refine ⟨h7, ?_, by omega, by omega⟩
    rw [h8, h3, h6, h5, Nat.add_assoc, List.append_assoc]
  · rw [if_pos he] at h
    simp only [Prod.mk.injEq] at h
    omega
theorem text_back2 (l rest : List Int) (t : Nat) (s : ByteArray) (most : Int) (hs : (s.size : Int) ≤ most) (hm : most ≤ 1000000) (h : l.drop t = numB s.size ++ strB s ++ rest) (ht : t ≤ l.length) : textF l t 0 most = (strB s, (numB s.size ++ strB s).length, 0) := by
  have hlk : lookE l t 0 = ((s.size : Int), 1 + oth s.size, 0) := by
    unfold lookE
    rw [if_pos rfl]
    exact lookF_numB l (strB s ++ rest) t s.size (by omega) (by omega) (by rw [h, List.append_assoc])
  have hc : countF l t 0 most = ((s.size : Int), 1 + oth s.size, 0) := by
    unfold countF
    rw [hlk, if_neg (by simp only; omega)]
  have hlen : l.length - t = 1 + oth s.size + s.size + rest.length := by
    have := congrArg List.length h
    rw [List.length_drop, List.length_append, List.length_append, numB_length, strB_length] at this; exact this
  have hd : l.drop (t + (1 + oth s.size)) = strB s ++ rest := by
    rw [← List.drop_drop, h, List.append_assoc]
    have e : 1 + oth s.size = (numB s.size).length := by rw [numB_length]
    rw [e, List.drop_left]
  have hn := next_back l (strB s) rest (t + (1 + oth s.size)) s.size (by rw [strB_length]) hd (by omega)
  unfold textF
  rw [hc]
  simp only
  rw [hn, if_neg (by simp), List.length_append, numB_length]
theorem count_back (l rest : List Int) (t : Nat) (v most : Int) (h0 : 0 ≤ v) (h1 : v ≤ most) (hm : most ≤ 18446744073709551615) (h : l.drop t = numB v ++ rest) : countF l t 0 most = (v, (numB v).length, 0) := by
  unfold countF
  rw [num_back l rest t v h0 (by omega) h, if_neg (by simp only; omega)]
theorem text_fault {l : List Int} {t : Nat} {e most : Int} (h : (countF l t e most).2.2 ≠ 0) : (textF l t e most).2.2 = (countF l t e most).2.2 := by
  unfold textF
  have : (nextF l (t + (countF l t e most).2.1) (countF l t e most).2.2 (countF l t e most).1).2.2 = (countF l t e most).2.2 := by
    unfold nextF
    rw [if_pos h]
  rw [this, if_pos h]
theorem count_err {l : List Int} {t n : Nat} {v e1 most : Int} (h : lookF l t = (v, n, e1)) (he : e1 ≠ 0) : (countF l t 0 most).2.2 = e1 := by
  unfold countF lookE
  rw [if_pos rfl, h, if_neg (by simp [he])]
theorem count_ko {l : List Int} {t n : Nat} {v most : Int} (h : lookF l t = (v, n, 0)) (he : most < v) : (countF l t 0 most).2.2 = 4 := by
  unfold countF lookE
  rw [if_pos rfl, h, if_pos ⟨rfl, .inr he⟩]
theorem count_ok {l : List Int} {t n : Nat} {v most : Int} (h : lookF l t = (v, n, 0)) (h0 : 0 ≤ v) (he : v ≤ most) : countF l t 0 most = (v, n, 0) := by
  unfold countF lookE
  rw [if_pos rfl, h, if_neg (by simp only; omega)]
theorem count_sticky {l : List Int} {t : Nat} {e most : Int} (h : e ≠ 0) : (countF l t e most).2.2 = e := by
  unfold countF lookE
  rw [if_neg h, if_neg (by simp [h])]
/-- A reader stays beside blocks that hold neither readers nor bytes. -/
theorem RK.blk {W w w' : World} {p : Nat} {l : List Int} {t : Nat} {e : Int} {S : Nat → Prop} (h : RK W w p l t e) (k : Kept S w w') (hs : ∀ j, S j → W.heap.size ≤ j ∧ ∃ cs fr T, w.heap[j]? = some (.cells cs T fr) ∧ T ≠ 96 ∧ T ≠ 5) : RK W w' p l t e := by
  obtain ⟨v, hr, hk⟩ := h
  refine ⟨v, hr.kept k ?_ ?_, hk.newer k (fun j hj => (hs j hj).1)⟩
  · intro hp
    obtain ⟨_, cs, fr, T, h1, h2, _⟩ := hs p hp
    rw [hr.box] at h1
    injection h1 with h1
    injection h1 with _ h1
    exact h2 h1.symm
  · intro j hj hS
    obtain ⟨_, cs, fr, T, h1, _, h2⟩ := hs j hS
    obtain ⟨cur, hc⟩ := ownsRow_block hr.owns hj
    rw [hc] at h1
    injection h1 with h1
    injection h1 with _ h1
    exact h2 h1.symm
theorem RK.base {W w : World} {p : Nat} {l : List Int} {t : Nat} {e : Int} (h : RK W w p l t e) : W.heap.size ≤ p := h.elim fun _ h => h.1.base
theorem RK.box {W w : World} {p : Nat} {l : List Int} {t : Nat} {e : Int} (h : RK W w p l t e) : ∃ cs, w.heap[p]? = some (.cells cs 96 (0, 0)) := h.elim fun _ h => ⟨_, h.1.box⟩
theorem RK.taken {W w : World} {p : Nat} {l : List Int} {t : Nat} {e : Int} (h : RK W w p l t e) : t ≤ l.length := h.elim fun _ h => h.1.taken
theorem RK.byte {W w : World} {p : Nat} {l : List Int} {t : Nat} {e : Int} (h : RK W w p l t e) : ∀ x ∈ l, 0 ≤ x ∧ x < 256 := h.elim fun _ h => h.1.byte
end Go.Proofs.YteflepcmblacaaaGreatDoor

