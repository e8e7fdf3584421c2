/- Texts put together: WJ, PS, WK. -/
import Derived.Test.YtficodklidaheaaDoorZz24
import Derived.Test.YtficodklidaheaaDoorZz18
import Derived.Test.YtficodklidaheaaDoorZz4
import Derived.Test.YtficodklidaheaaDoorZz10
/- Layer 19: the walk of WalOpens (written by tools/gen_XWJ.py). -/
namespace Go.Proofs.YtficodklidaheaaDoor
open Go.RowKit
attribute [local go_sem ↓] Go.wp_at_zero Go.wp_at_succ

def wo0 : DA := freshD 10000 []
theorem wo_new0 : newD [] 10000 = some wo0 := by kernel_rfl
def wo1 (l : List Nat) : DA := freshD 10000 [(nmW, ⟨l, l.length⟩)]
theorem wo_new1 {l : List Nat} (h : l.length ≤ 3000) : newD [(nmW, l)] 10000 = some (wo1 l) := by
  rw [newD_good (by simp)]
  unfold newL
  rw [if_neg (by
    intro x
    rcases x with x | x | x
    · have : nameB nmW = true := by decide +kernel
      rw [this] at x; cases x
    · cases x
    · simp [usedL] at x; omega)]
  rfl
theorem wo_calm (l : List Nat) : Calm (wo1 l) := ⟨rfl, rfl, rfl⟩
theorem wo_calm0 : Calm wo0 := ⟨rfl, rfl, rfl⟩

set_option maxRecDepth 100000 in
set_option maxHeartbeats 4000000 in
theorem opens_over (ao : Option Addr) (len cap : Nat) (th : Bool) (s : ByteArray) (W : World) (HN : Nibs W) (hlen : len ≤ maxLen) (hs : s.size ≤ maxLen) (h : 3000 < len ∨ 100 < s.size) :
    Calls Tryd.prog 6 #[.slice ao len cap, .bool th, .string s] W fun e w' => e = .returned (.bool true) ∧ Kept (fun _ => False) W w' := by
  have HAW := Lib.hid (awake19_any W HN)
  unfold maxLen at hlen hs
  by_cases h3 : 3000 < len
  · have q3 : (3000 : Int) < (len : Int) := by omega
    clear h HN
    go_enter Tryd.func6, Tryd.ntmps6
    go_wp2_with fail
    refine HAW.out.mono ?_
    rintro e w1 ⟨rfl, k1⟩
    have HK1 := Lib.hid k1
    clear k1
    go_wp2
    go_ret
    exact ⟨rfl, HK1.out⟩
  · have h4 : 100 < s.size := h.resolve_left h3
    have q3 : ¬ (3000 : Int) < (len : Int) := by omega
    have q4 : (100 : Int) < (s.size : Int) := by omega
    clear h HN
    go_enter Tryd.func6, Tryd.ntmps6
    go_wp2_with fail
    refine HAW.out.mono ?_
    rintro e w1 ⟨rfl, k1⟩
    have HK1 := Lib.hid k1
    clear k1
    go_wp2
    go_ret
    exact ⟨rfl, HK1.out⟩

set_option maxRecDepth 100000 in
set_option maxHeartbeats 8000000 in
theorem opens_new (ao : Option Addr) (len cap : Nat) (s : ByteArray) (W : World) (HN : Nibs W) (h3 : ¬ 3000 < len) (h4 : ¬ 100 < s.size) :
    Calls Tryd.prog 6 #[.slice ao len cap, .bool false, .string s] W fun e w' => e = .returned (.bool true) ∧ Kept (fun _ => False) W w' := by
  have HAW := Lib.hid (awake19_any W HN)
  have hb0 := nibs_pos HN
  have HNI := Lib.hid HN
  have q3 : ¬ (3000 : Int) < (len : Int) := by omega
  have q4 : ¬ (100 : Int) < (s.size : Int) := by omega
  have HSZ : Hid (s.size ≤ maxLen) := Lib.hid (by unfold maxLen; omega)
  have qs : (s.toList == s.toList) = true := beq_self_eq_true _
  clear HN h3 h4
  go_enter Tryd.func6, Tryd.ntmps6
  go_wp2_with fail
  refine HAW.out.mono ?_
  rintro e w1 ⟨rfl, k1⟩
  have HK1 := Lib.hid k1
  obtain ⟨w2, hw2⟩ : ∃ w2, w2 = w1.alloc (.cells #[.string { data := #[119] }, .slice ao len cap] 46) := ⟨_, rfl⟩
  have k2 : Kept (fun _ => False) w1 w2 := by rw [hw2]; exact (Kept.refl _ _).alloc _
  have HW2 := Lib.hid hw2
  have HK2 := Lib.hid (HK1.out.trans k2)
  have HNEW := Lib.hid (dNew_any none 0 0 [] rfl 10000 (by decide) w2 (fun h => absurd h (by simp)) (fun f hf => by cases hf))
  have e0 : List.map AF.t [] = [] := rfl
  rw [e0, wo_new0] at HNEW
  clear e0 k1 k2 hw2
  go_wp2_with fail
  rw [← HW2.out]
  refine HNEW.out.mono ?_
  rintro e w3 ⟨_, h2⟩
  obtain ⟨db, mb, L, rfl, h3, k3⟩ := h2 _ rfl
  have HK3 := Lib.hid (HK2.out.trans k3)
  have HD3 := Lib.hid h3
  have hbb : 0 < w2.heap.size := Nat.lt_of_lt_of_le hb0 HK2.out.size
  have HOP := Lib.hid (wOpen_new w2.heap.size db mb hbb L wo0 s HSZ.out w3 h3 rfl rfl (HNI.out.kept HK3.out))
  have HBS := Lib.hid HK2.out.size
  clear h2 h3 k3
  go_wp2_with fail
  refine HOP.out.mono ?_
  cases hnm : nameB s with
  | false =>
    rw [create_bad wo_calm0 hnm]
    rintro e w4 (⟨h0, _⟩ | ⟨_, L4, rfl, h4, k4, _⟩)
    · cases h0
    have HK4 := Lib.hid (HK3.out.newer k4 (fun j e => Nat.le_trans HBS.out (HD3.out.lt e).2))
    have HNM := Lib.hid (dNames_any w2.heap.size db mb L4 (countedD wo0) w4 h4)
    rw [show namesUp (countedD wo0) = [] from rfl] at HNM
    clear h4 k4 hnm
    go_wp2_with fail
    refine HNM.out.mono ?_
    rintro e w5 ⟨v5, rfl, hm5⟩
    obtain ⟨va, vc, hv⟩ := hm5.slice
    subst hv
    have HK5 := Lib.hid (HK4.out.trans hm5.kept)
    clear hm5
    dsimp only [strs, List.map_nil, List.length_nil]
    go_wp2
    go_ret
    exact ⟨rfl, HK5.out⟩
  | true =>
    obtain ⟨c1, c2, c3, _⟩ := create_calm (D := wo0) rfl wo_calm0 hnm
    rintro e w4 (⟨_, L4, lb, v, B, H, rfl, h4, k4, f4, hlog, hB, hlb, hH, hg, _⟩ | ⟨h0, _⟩)
    case inr => exact absurd c1 h0
    obtain ⟨va, vc, hv, _⟩ := hg
    subst hv
    have HK4 := Lib.hid (HK3.out.newer k4 (fun j e => Nat.le_trans HBS.out (HD3.out.lt e).2))
    have HLN := Lib.hid (wLen_any db lb s _ _ w4 hlog)
    have HSI := Lib.hid (wSize_any db lb s _ _ w4 hlog)
    have HNA := Lib.hid (wName_any db lb s _ _ w4 hlog)
    have HNM := Lib.hid (dNames_any w2.heap.size db mb L4 _ w4 h4)
    rw [show namesUp (createD wo0 s).1 = [s] from by unfold namesUp namesA; rw [c3.down, c2]; rfl] at HNM
    clear h4 k4 f4 hlog hB hlb hH hnm c1 c2 c3
    dsimp only [List.length_nil]
    go_wp2_with fail
    refine HLN.out.mono ?_
    rintro e w5 ⟨rfl, rfl⟩
    dsimp only [List.length_nil]
    go_wp2_with fail
    refine HSI.out.mono ?_
    rintro e w5 ⟨rfl, rfl⟩
    go_wp2_with fail
    refine HNA.out.mono ?_
    rintro e w5 ⟨rfl, rfl⟩
    go_wp2_with fail
    refine HNM.out.mono ?_
    rintro e w5 ⟨v5, rfl, hm5⟩
    obtain ⟨va, vc, hv⟩ := hm5.slice
    subst hv
    have HK5 := Lib.hid (HK4.out.trans hm5.kept)
    clear hm5
    dsimp only [strs, List.map_cons, List.map_nil, List.length_cons, List.length_nil]
    go_wp2
    go_ret
    exact ⟨rfl, HK5.out⟩

theorem row8_slAt {w : World} {ao : Option Addr} {n c : Nat} {l : List Nat} (h : Row8 w (.slice ao n c) l) : SlAt w (.slice ao l.length c) (byV l) := by
  obtain ⟨a, c', e, _, hc⟩ := h
  injection e with e1 e2 e3
  subst e1 e2 e3
  refine ⟨ao, c, by rw [byV_length], fun e => ?_, fun a ha j u hu => ?_⟩
  · cases l with
    | nil => rfl
    | cons x r => obtain ⟨a, ha, _⟩ := hc 0 (by simp); rw [e] at ha; cases ha
  · have hj : j < l.length := by have := (List.getElem?_eq_some_iff.1 hu).1; rwa [byV_length] at this
    obtain ⟨a2, ha2, h1⟩ := hc j hj
    rw [ha] at ha2
    injection ha2 with ha2
    subst ha2
    rw [byV_get hj] at hu
    rw [h1, hu]
theorem row8_take {w : World} {ao : Option Addr} {n c : Nat} {l : List Nat} (h : Row8 w (.slice ao n c) l) (k : Nat) (hk : k ≤ l.length) : Row8 w (.slice ao k c) (l.take k) := by
  obtain ⟨a, c', e, hb, hc⟩ := h
  injection e with e1 e2 e3
  subst e1 e2 e3
  have hl : (l.take k).length = k := by rw [List.length_take]; omega
  refine ⟨ao, c, by rw [hl], fun x hx => hb x (List.mem_of_mem_take hx), fun j hj => ?_⟩
  obtain ⟨a, ha, h1⟩ := hc j (by omega)
  refine ⟨a, ha, ?_⟩
  rw [h1]
  simp only [List.getD_eq_getElem?_getD, List.getElem?_take]
  rw [if_pos (by omega)]
theorem wo_row (w1 : World) (ao : Option Addr) (cap : Nat) (l : List Nat) : GAt cellsA 2 (w1.alloc (.cells #[.string nmW, .slice ao l.length cap] 46)) (some ⟨w1.heap.size, 0, none⟩) [⟨nmW, ao, cap, l⟩] := fun _ => ⟨w1.heap.size, 0, rfl, fun i p hi j u hu => by
  cases i with
  | succ i => simp at hi
  | zero =>
    simp at hi
    subst hi
    rw [cell_of_row _ _ _ _ _ _ (heap_alloc_new w1 _)]
    rw [← Array.getElem?_toList]
    rw [show 0 + 0 * 2 + j = j by omega]
    exact hu⟩
/-- What is left of the file. -/
def woEnd (l : List Nat) (u : Nat) : DA := if u < l.length then (cutD (wo1 l) nmW u).1 else wo1 l
theorem wo_end {l : List Nat} {u : Nat} (hu : u ≤ l.length) : readA (woEnd l u) nmW = (l.take u, 0) ∧ (u < l.length → (cutD (wo1 l) nmW u).2 = 0) := by
  obtain ⟨c1, c2, c3, _⟩ := cut_calm (D := wo1 l) (s := nmW) (f := ⟨l, l.length⟩) (n := u) rfl (wo_calm l) hu
  refine ⟨?_, fun _ => c1⟩
  unfold woEnd
  by_cases h : u < l.length
  · rw [if_pos h]
    unfold readA
    rw [c3.down, c2, getM_one]
    rfl
  · rw [if_neg h, List.take_of_length_le (by omega)]
    rfl

theorem scan_ex (l : List Nat) : ∃ Ls u n, ScanR l Ls u n := by
  generalize hk : l.length = k
  induction k using Nat.strongRecOn generalizing l with
  | _ k ih =>
    cases l with
    | nil => exact ⟨_, _, _, .done⟩
    | cons x r =>
      by_cases h : firstE (x :: r) = 0
      · have := firstE_size _ h
        obtain ⟨Ls, u, n, h2⟩ := ih ((x :: r).drop (9 + sizeL (x :: r))).length (by rw [List.length_drop]; omega) _ rfl
        exact ⟨_, _, _, .more _ _ _ _ h h2⟩
      · exact ⟨_, _, _, .bad _ (by simp) h⟩
end Go.Proofs.YtficodklidaheaaDoor
/- Rows cut at a place; a thing put at its place in a rising row. -/
namespace Go.Proofs.YtficodklidaheaaDoor
open Go.RowKit

theorem run_cutHr {P : Program} {t E : TypeId} {i : TypeInfo} (ht : P.underlying t = some (.slice E)) (hi : P.info? E = some i) (a : Option Addr) (len cap h : Nat) (hhi : h ≤ cap) (w : World) :
    (Instr.slice t (.slice a len cap) none (some (.int .i64 (h : Int))) none).run P w = .ok (.slice a h cap) w := by
  have he : P.elem t = E := by simp [Program.elem, ht]
  rw [run_slice_h w t a len cap (by rw [he]; exact ht) .i64 h (by omega) (by omega), he]
  have e : (a.map fun x => x.add 0) = a := by cases a <;> simp [add_zero']
  simp [sizeOf, typeInfo, hi, sliced, e]
theorem run_cutHrAt {P : Program} {t E : TypeId} {i : TypeInfo} (ht : P.underlying t = some (.slice E)) (hi : P.info? E = some i) (a : Option Addr) (len cap h : Nat) (hhi : h ≤ cap) (w : World) :
    (Instr.sliceAt t (.slice a len cap) none (some (.int .i64 (h : Int))) none).run P w = .ok (.slice a h cap) w := by
  have he : P.elem t = E := by simp [Program.elem, ht]
  rw [run_sliceAt_slice w t _ _ _ _ (by rw [he]; exact ht)]
  exact run_cutHr ht hi a len cap h hhi w
theorem run_cutLr {P : Program} {t E : TypeId} {i : TypeInfo} {s : Nat} (ht : P.underlying t = some (.slice E)) (hi : P.info? E = some i) (hs : i.size = s) (a : Option Addr) (len cap lo : Nat) (hlo : lo ≤ len) (w : World) :
    (Instr.slice t (.slice a len cap) (some (.int .i64 (lo : Int))) none none).run P w = .ok (.slice (if cap = lo then a else a.map (·.add (lo * s))) (len - lo) (cap - lo)) w := by
  have he : P.elem t = E := by simp [Program.elem, ht]
  rw [run_slice_l w t a len cap (by rw [he]; exact ht) .i64 lo (by omega) (by omega), he]
  simp [sizeOf, typeInfo, hi, hs, sliced]
theorem run_cutLrAt {P : Program} {t E : TypeId} {i : TypeInfo} {s : Nat} (ht : P.underlying t = some (.slice E)) (hi : P.info? E = some i) (hs : i.size = s) (a : Option Addr) (len cap lo : Nat) (hlo : lo ≤ len) (w : World) :
    (Instr.sliceAt t (.slice a len cap) (some (.int .i64 (lo : Int))) none none).run P w = .ok (.slice (if cap = lo then a else a.map (·.add (lo * s))) (len - lo) (cap - lo)) w := by
  have he : P.elem t = E := by simp [Program.elem, ht]
  rw [run_sliceAt_slice w t _ _ _ _ (by rw [he]; exact ht)]
  exact run_cutLr ht hi hs a len cap lo hlo w
theorem GAt.dropS {α : Type} {c : α → List Value} {sz : Nat} {W : World} {ao : Option Addr} {L : List α} {cap : Nat} (h : GAt c sz W ao L) (lo : Nat) (hc : L.length ≤ cap) : GAt c sz W (if cap = lo then ao else ao.map (·.add (lo * sz))) (L.drop lo) := by
  intro h0
  rw [List.length_drop] at h0
  obtain ⟨g, o, rfl, hr⟩ := h (by omega)
  rw [if_neg (by omega)]
  refine ⟨g, o + lo * sz, ?_, fun i p hi j u hu => ?_⟩
  · show some ((⟨g, o, none⟩ : Addr).add (lo * sz)) = _
    have : ((⟨g, o, none⟩ : Addr).add (lo * sz)) = ⟨g, o + lo * sz, none⟩ := by unfold Addr.add; split <;> simp_all
    rw [this]
  · rw [List.getElem?_drop] at hi
    have := hr (lo + i) p hi j u hu
    rw [Nat.add_mul] at this
    rw [show o + lo * sz + i * sz + j = o + (lo * sz + i * sz) + j by omega]
    exact this
theorem asc_get {α : Type} {X : List (ByteArray × α)} (h : Asc X) {i j : Nat} {p q : ByteArray × α} (hij : i < j) (hp : X[i]? = some p) (hq : X[j]? = some q) : ltN p.1 q.1 = true := by
  obtain ⟨h1, h2⟩ := List.getElem?_eq_some_iff.1 hp
  obtain ⟨h3, h4⟩ := List.getElem?_eq_some_iff.1 hq
  have := List.pairwise_iff_getElem.1 h i j h1 h3 hij
  rw [h2, h4] at this
  exact this
theorem put_split {α : Type} {X : List (ByteArray × α)} (hA : Asc X) {s : ByteArray} (f : α) (hn : ∀ p ∈ X, p.1 ≠ s) {k : Nat} (h1 : ∀ j p, k ≤ j → X[j]? = some p → ltN s p.1 = true) (h2 : k = 0 ∨ ∃ p, X[k - 1]? = some p ∧ ltN s p.1 = false) :
    X.take k ++ (s, f) :: X.drop k = putS X s f := by
  have hlow : ∀ p ∈ X.take k, ltN p.1 s = true := by
    intro p hp
    obtain ⟨j, hj⟩ := List.mem_iff_getElem?.1 hp
    rw [List.getElem?_take] at hj
    split at hj
    · rename_i hjk
      rcases h2 with h2 | ⟨q, hq, hqs⟩
      · omega
      · have hqn := ltN_tri (hn q (List.mem_of_getElem? hq)).symm hqs
        by_cases e : j = k - 1
        · rw [e, hq] at hj
          injection hj with hj
          rw [← hj]
          exact hqn
        · exact ltN_trans (asc_get hA (by omega) hj hq) hqn
    · cases hj
  have hhigh : ∀ p ∈ X.drop k, ltN s p.1 = true := by
    intro p hp
    obtain ⟨j, hj⟩ := List.mem_iff_getElem?.1 hp
    rw [List.getElem?_drop] at hj
    exact h1 (k + j) p (by omega) hj
  refine asc_ext ?_ (putS_asc hA s f) (fun t => ?_)
  · unfold Asc
    rw [List.pairwise_append]
    refine ⟨List.Pairwise.sublist (List.take_sublist _ _) hA, List.pairwise_cons.2 ⟨hhigh, List.Pairwise.sublist (List.drop_sublist _ _) hA⟩, fun p hp q hq => ?_⟩
    rcases List.mem_cons.1 hq with e | e
    · rw [e]; exact hlow p hp
    · exact ltN_trans (hlow p hp) (hhigh q e)
  · rw [getM_put, getM_append, getM]
    by_cases e : s = t
    · rw [if_pos e, if_pos e, ← e, getM_none.2 (fun p hp => hn p (List.mem_of_mem_take hp))]
      rfl
    · rw [if_neg e, if_neg e, ← getM_append, List.take_append_drop]
theorem putS_delS {α : Type} {L : List (ByteArray × α)} (hA : Asc L) (s : ByteArray) (f : α) : putS (delM L s) s f = putS L s f := by
  refine asc_ext (putS_asc (delM_asc hA s) s f) (putS_asc hA s f) (fun t => ?_)
  rw [getM_put, getM_put, getM_del]
  by_cases e : s = t
  · rw [if_pos e, if_pos e]
  · rw [if_neg e, if_neg e, if_neg e]
end Go.Proofs.YtficodklidaheaaDoor
/- Layer 19: the walk of WalOpens, where the file is there (written by tools/gen_XWJ.py). -/
namespace Go.Proofs.YtficodklidaheaaDoor
open Go.RowKit
attribute [local go_sem ↓] Go.wp_at_zero Go.wp_at_succ


set_option maxRecDepth 100000 in
set_option maxHeartbeats 8000000 in
theorem opens_bad (ao : Option Addr) (cap : Nat) (s : ByteArray) (l : List Nat) (Ls : List (List Nat)) (u n : Nat) (W : World) (HN : Nibs W) (HB : Row8 W (.slice ao l.length cap) l) (hcap : l.length ≤ cap) (h3 : ¬ 3000 < l.length) (h4 : ¬ 100 < s.size) (hsc : ScanR l Ls u n) (hn : n ≠ 0 ∧ n ≠ 2) :
    Calls Tryd.prog 6 #[.slice ao l.length cap, .bool true, .string s] W fun e w' => e = .returned (.bool true) ∧ Kept (fun _ => False) W w' := by
  have HAW := Lib.hid (awake19_any W HN)
  have hb0 := nibs_pos HN
  have HNI := Lib.hid HN
  obtain ⟨len, hlen⟩ : ∃ len, len = l.length := ⟨_, rfl⟩
  have HLN := Lib.hid hlen
  have q3 : ¬ (3000 : Int) < (len : Int) := by omega
  have q4 : ¬ (100 : Int) < (s.size : Int) := by omega
  have HSC := Lib.hid (And.intro hsc (And.intro hn hcap))
  have HBB := Lib.hid (fun w' (k : Kept (fun _ => False) W w') => HB.kept k)
  have HBL := Lib.hid HB.lt
  have h3' : l.length ≤ 3000 := by omega
  have HL3 := Lib.hid h3'
  rw [← hlen] at HBB ⊢
  clear HN h3 h4 HB hcap hsc hn hlen h3'
  go_enter Tryd.func6, Tryd.ntmps6
  go_wp2_with fail
  refine HAW.out.mono ?_
  rintro e w1 ⟨rfl, k1⟩
  have HK1 := Lib.hid k1
  obtain ⟨w2, hw2⟩ : ∃ w2, w2 = w1.alloc (.cells #[.string nmW, .slice ao len cap] 46) := ⟨_, rfl⟩
  have k2 : Kept (fun _ => False) w1 w2 := by rw [hw2]; exact (Kept.refl _ _).alloc _
  have HK2 := Lib.hid (HK1.out.trans k2)
  have HNEW := Lib.hid (dNew_any (some ⟨w1.heap.size, 0, none⟩) 1 1 [⟨nmW, ao, cap, l⟩] rfl 10000 (by decide) w2 (by rw [hw2, HLN.out]; exact wo_row w1 ao cap l) (fun f hf => by
    rcases List.mem_singleton.1 hf with rfl
    exact ⟨row8_slAt (HBB.out w2 HK2.out), HBL.out, wv_size, HSC.out.2.2⟩))
  rw [show List.map AF.t [⟨nmW, ao, cap, l⟩] = [(nmW, l)] from rfl, wo_new1 HL3.out] at HNEW
  rw [show Value.string nmW = Value.string { data := #[119] } from rfl] at hw2
  have HW2 := Lib.hid hw2
  clear k1 k2 hw2
  go_wp2_with fail
  rw [← HW2.out]
  refine HNEW.out.mono ?_
  rintro e w3 ⟨_, h2⟩
  obtain ⟨db, mb, L, rfl, h3, k3⟩ := h2 _ rfl
  have HK3 := Lib.hid (HK2.out.trans k3)
  have HD3 := Lib.hid h3
  have HBS := Lib.hid HK2.out.size
  have HOP := Lib.hid (wOpen_bad w2.heap.size db mb L (wo1 l) nmW wv_size ⟨l, l.length⟩ Ls u n w3 h3 rfl rfl (by have := HL3.out; dsimp only; omega) HSC.out.1 HSC.out.2.1 (HNI.out.kept HK3.out))
  rw [show nmW = { data := #[119] } from rfl] at HOP
  clear h2 h3 k3
  go_wp2_with fail
  refine HOP.out.mono ?_
  rintro e w4 ⟨rfl, k4⟩
  have HK4 := Lib.hid (HK3.out.trans k4)
  have HREC := Lib.hid (refRecords_any ao cap l (by have := HL3.out; omega) HSC.out.2.2 w4 (by rw [← HLN.out]; exact HBB.out w4 HK4.out))
  rw [← HLN.out] at HREC
  have HD4 := Lib.hid (HD3.out.kept k4 (fun _ _ x => x))
  clear k4
  go_wp2_with fail
  refine HREC.out.mono ?_
  rintro e w5 ⟨Ls2, u2, n2, hsc2, k5, ⟨hn2, v, rfl, hr⟩ | ⟨hn2, rfl⟩⟩
  · obtain ⟨rfl, rfl, rfl⟩ := hsc2.fn HSC.out.1
    exact absurd hn2 (fun e => e.elim HSC.out.2.1.1 HSC.out.2.1.2)
  obtain ⟨w6, hw6⟩ : ∃ w6, w6 = w5.alloc (.cells #[.slice none 0 0, .int .i64 0, .int .i64 15] 43) := ⟨_, rfl⟩
  obtain ⟨g, hg⟩ : ∃ g, g = w5.heap.size := ⟨_, rfl⟩
  have k6 : Kept (fun _ => False) w5 w6 := by rw [hw6]; exact (Kept.refl _ _).alloc _
  have b6 : BoxAt w6 g 43 #[.slice none 0 0, .int .i64 0, .int .i64 15] := by rw [hw6, hg]; exact BoxAt.new _ _ _
  have HW6 := Lib.hid (And.intro hw6 hg)
  have HB6 := Lib.hid b6
  have HK6 := Lib.hid (HK4.out.trans (k5.trans k6))
  have HRD := Lib.hid (dRead_any w2.heap.size db mb L (wo1 l) nmW wv_size w6 (HD4.out.kept (k5.trans k6) (fun _ _ x => x)))
  rw [show readA (wo1 l) nmW = (l, 0) from rfl, show nmW = { data := #[119] } from rfl] at HRD
  clear hsc2 k5 hn2 hw6 hg k6 b6
  go_upto_region 18 with fail
  rw [← HW6.out.1, ← HW6.out.2]
  go_wp2_with fail
  refine HRD.out.mono ?_
  rintro e w7 ⟨ca, cc, rfl, hm7⟩
  have hcv1 := conv8 (slAt_row8 hm7.at_ HBL.out)
  have HK7 := Lib.hid (HK6.out.trans hm7.kept)
  have hcv2 := conv8 (HBB.out w7 HK7.out)
  have d2 := (HB6.out.kept hm7.kept (fun x => x)).cell (i := 2) (u := .int .i64 15) rfl
  obtain ⟨T, hT⟩ : ∃ T, T = strN l := ⟨_, rfl⟩
  have qT : (T.toList == T.toList) = true := beq_self_eq_true _
  dsimp only at hcv1 ⊢
  rw [← HLN.out] at hcv1 ⊢
  rw [← hT] at hcv1 hcv2
  clear hm7 hT
  go_wp2
  go_ret
  exact ⟨rfl, HK7.out⟩
end Go.Proofs.YtficodklidaheaaDoor
