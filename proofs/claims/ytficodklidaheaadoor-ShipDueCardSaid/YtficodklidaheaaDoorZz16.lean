/- Texts put together: SC. -/
import Derived.Test.YtficodklidaheaaDoorZz12
import Derived.Test.YtficodklidaheaaDoorZz14
import Derived.Deep.RegionWith
import Derived.Test.YtficodklidaheaaDoorZz15
/- Layer 18: files that are handed in; New. -/
namespace Go.Proofs.YtficodklidaheaaDoor
open Go.RowKit
attribute [local go_sem ↓] Go.wp_at_zero Go.wp_at_succ

/-- A file that is handed in. -/
structure AF where
  nm : ByteArray
  a : Option Addr
  c : Nat
  b : List Nat
def cellsA (f : AF) : List Value := [.string f.nm, .slice f.a f.b.length f.c]
theorem cfA : Cf cellsA 2 := ⟨fun _ => rfl, fun x u hu => by
  unfold cellsA at hu
  rcases List.mem_cons.1 hu with rfl | hu
  · rfl
  · rcases List.mem_cons.1 hu with rfl | hu
    · rfl
    · cases hu⟩
def AF.t (f : AF) : ByteArray × List Nat := (f.nm, f.b)
/-- Where its bytes lie. -/
structure AF.Ok (w : World) (f : AF) : Prop where
  at_ : SlAt w (.slice f.a f.b.length f.c) (byV f.b)
  byte : ∀ x ∈ f.b, x < 256
  small : f.nm.size ≤ maxLen
  cap : f.b.length ≤ f.c
theorem newL_none {cap : Int} {s : ByteArray} {b : List Nat} {r : List (ByteArray × List Nat)} {M : List (ByteArray × PF)} (h : nameB s = false ∨ (getM M s).isSome = true ∨ cap - usedL M < (b.length : Int)) : newL cap ((s, b) :: r) M = none := by
  show (if _ then _ else _) = _
  rw [if_pos h]
theorem newL_some {cap : Int} {s : ByteArray} {b : List Nat} {r : List (ByteArray × List Nat)} {M : List (ByteArray × PF)} (h : ¬ (nameB s = false ∨ (getM M s).isSome = true ∨ cap - usedL M < (b.length : Int))) : newL cap ((s, b) :: r) M = newL cap r (putS M s ⟨b, b.length⟩) := by
  show (if _ then _ else _) = _
  rw [if_neg h]
def freshD (cap : Int) (M : List (ByteArray × PF)) : DA := ⟨M, cap, false, 0, -1, 0, -1⟩
theorem fresh_ok {cap : Int} (h : 1 ≤ cap ∧ cap ≤ 4194304) : DOk (freshD cap []) :=
  ⟨List.Pairwise.nil, (by intro p hp; cases hp), (by simp [freshD]), h, (by simp [freshD, usedL]; omega), (by intro p hp; cases hp), (by intro p hp; cases hp), (by simp [freshD, I64]), (by simp [freshD]), (by simp [freshD])⟩
theorem fresh_put {cap : Int} {M : List (ByteArray × PF)} (h : DOk (freshD cap M)) {s : ByteArray} {b : List Nat} (hn : nameB s = true) (hg : getM M s = none) (hc : M.length < 4096) (hu : (b.length : Int) ≤ cap - usedL M) (hb : ∀ x ∈ b, x < 256) : DOk (freshD cap (putS M s ⟨b, b.length⟩)) := by
  have e1 := usedL_put h.asc.pair s ⟨b, b.length⟩
  have e2 := len_put h.asc.pair s (⟨b, b.length⟩ : PF)
  have e3 := len_del h.asc.pair s
  have hg' : getM (freshD cap M).L s = none := hg
  rw [hg'] at e1 e3
  simp only [szM, Option.isSome_none, Bool.false_eq_true, if_false] at e1 e3
  simp only [freshD] at e1 e2 e3
  refine files_ok h (putS_asc h.asc s _) (show (putS M s _).length ≤ 4096 by omega) (.inr (by simp only [freshD]; omega)) (fun p hp => ?_)
  rcases putS_mem hp with e | ⟨e, _⟩
  · rw [e]
    exact ⟨hn, Nat.le_refl _, hb⟩
  · exact ⟨h.name p e, h.sure p e, h.byte p e⟩
/-- What New answers. -/
def NewTo (w : World) (r : Option DA) (e : Ending) (w' : World) : Prop :=
  (r = none → e = .returned (.pointer none) ∧ Kept (fun _ => False) w w') ∧ (∀ D, r = some D → ∃ db mb L, e = .returned (.pointer (some ⟨db, 0, none⟩)) ∧ DK w.heap.size w' db mb L D ∧ Kept (fun _ => False) w w')
theorem newD_bad {F : List (ByteArray × List Nat)} {cap : Int} (h : cap < 1 ∨ 4194304 < cap ∨ 4096 < F.length) : newD F cap = none := by unfold newD; rw [if_pos h]
theorem newD_good {F : List (ByteArray × List Nat)} {cap : Int} (h : ¬ (cap < 1 ∨ 4194304 < cap ∨ 4096 < F.length)) : newD F cap = (newL cap F []).map (freshD cap) := by unfold newD; rw [if_neg h]; rfl
theorem drop_eq {α : Type} {L : List α} {i : Nat} {x : α} (h : L[i]? = some x) : L.drop i = x :: L.drop (i + 1) := by
  obtain ⟨h1, h2⟩ := List.getElem?_eq_some_iff.1 h
  rw [List.drop_eq_getElem_cons h1, h2]
set_option maxRecDepth 100000 in
set_option maxHeartbeats 8000000 in
theorem dNew_any (ao : Option Addr) (n c : Nat) (F : List AF) (hF : F.length = n) (cap : Int) (hn63 : n ≤ 9223372036854775807) (w : World) (hat : GAt cellsA 2 w ao F) (hok : ∀ f ∈ F, f.Ok w) :
    Calls Tryd.prog 23 #[.slice ao n c, .int .i64 cap] w (NewTo w (newD (F.map AF.t) cap)) := by
  have hFl : (F.map AF.t).length = n := by rw [List.length_map, hF]
  by_cases h1 : cap < 1
  · have HX := Lib.hid (newD_bad (F := F.map AF.t) (cap := cap) (.inl h1))
    have q1 : decide (cap < 1) = true := decide_eq_true h1
    clear hat hok hF hFl
    go_enter Tryd.func23, Tryd.ntmps23
    go_wp2
    go_ret
    rw [HX.out]
    exact ⟨fun _ => ⟨rfl, Kept.refl _ _⟩, fun D e => by cases e⟩
  by_cases h2 : 4194304 < cap
  · have HX := Lib.hid (newD_bad (F := F.map AF.t) (cap := cap) (.inr (.inl h2)))
    have q1 : decide (cap < 1) = false := decide_eq_false h1
    have q2 : decide (4194304 < cap) = true := decide_eq_true h2
    clear hat hok hF hFl
    go_enter Tryd.func23, Tryd.ntmps23
    go_wp2
    go_ret
    rw [HX.out]
    exact ⟨fun _ => ⟨rfl, Kept.refl _ _⟩, fun D e => by cases e⟩
  have q1 : decide (cap < 1) = false := decide_eq_false h1
  have q2 : decide (4194304 < cap) = false := decide_eq_false h2
  by_cases h3 : 4096 < n
  · have HX := Lib.hid (newD_bad (F := F.map AF.t) (cap := cap) (.inr (.inr (by rw [hFl]; exact h3))))
    have q3 : (4096 : Int) < (n : Int) := by omega
    have q3' : decide (4096 < n) = true := decide_eq_true h3
    clear hat hok hF hFl
    go_enter Tryd.func23, Tryd.ntmps23
    go_wp2
    go_ret
    rw [HX.out]
    exact ⟨fun _ => ⟨rfl, Kept.refl _ _⟩, fun D e => by cases e⟩
  have q3 : ¬ (4096 : Int) < (n : Int) := by omega
  have q3' : decide (4096 < n) = false := decide_eq_false h3
  have HX := Lib.hid (newD_good (F := F.map AF.t) (cap := cap) (by rw [hFl]; omega))
  have HCR := Lib.hid (show 1 ≤ cap ∧ cap ≤ 4194304 from ⟨by omega, by omega⟩)
  have HNS := Lib.hid (show n ≤ 4096 by omega)
  have HF := Lib.hid (And.intro hF (And.intro hat hok))
  obtain ⟨mb, hmb⟩ : ∃ q, q = w.heap.size := ⟨_, rfl⟩
  obtain ⟨wm, hwm⟩ : ∃ wm, wm = w.alloc (.map #[] 0) := ⟨_, rfl⟩
  obtain ⟨db, hdb⟩ : ∃ q, q = wm.heap.size := ⟨_, rfl⟩
  obtain ⟨w0, hw0⟩ : ∃ w0, w0 = wm.alloc (.cells (boxD mb (freshD cap [])) 111) := ⟨_, rfl⟩
  have km : Kept (fun _ => False) w wm := by rw [hwm]; exact (Kept.refl _ _).alloc _
  have k0 : Kept (fun _ => False) wm w0 := by rw [hw0]; exact (Kept.refl _ _).alloc _
  have hdb' : db = mb + 1 := by rw [hdb, hwm, hmb]; exact Array.size_push ..
  have H0 := Lib.hid (show DK w.heap.size w0 db mb [] (freshD cap []) from
    ⟨by rw [hw0, hdb]; exact BoxAt.new wm _ _, (show MapIs wm mb [] by rw [hwm, hmb]; exact MapIs.made w).kept k0 (fun x => x), List.Perm.nil, (by intro p hp; cases hp), (by intro p hp; cases hp), ⟨by omega, by omega⟩, fresh_ok HCR.out⟩)
  have HK0 := Lib.hid (km.trans k0)
  have hw0' : (w.alloc (.map #[] 0)).alloc (.cells #[.map (some mb), .int .i64 cap, .int .i64 0, .bool false, .int .i64 0, .int .i64 (-1), .int .i64 0, .int .i64 (-1)] 111) = w0 := by rw [hw0, hwm]; rfl
  have HW := Lib.hid (And.intro hw0' (And.intro hmb hdb'))
  have hmm := @run_makeMap Tryd.prog
  clear hat hok hF hFl h1 h2 h3 hmb hwm hdb hw0 km k0 hdb' hw0'
  go_enter Tryd.func23, Tryd.ntmps23
  go_upto_region 4 with fail
  try rw [← HW.out.2.1]
  rw [HW.out.1, ← HW.out.2.2]
  go_wp2
  go_loopg [25] n (fun g s25 wr => ∃ i : Nat, i ≤ n ∧ g = n - i ∧ s25 = .int .i64 i ∧ ∃ M Li, newL cap (F.map AF.t) [] = newL cap ((F.map AF.t).drop i) M ∧ M.length ≤ i ∧ DK w.heap.size wr db mb Li (freshD cap M) ∧ Kept (fun _ => False) w wr)
  case atStart => exact ⟨0, Nat.zero_le _, rfl, rfl, [], [], rfl, Nat.le_refl _, H0.out, HK0.out⟩
  case round =>
    obtain ⟨i, hin, rfl, rfl, M, Li, hnl, hml, hr, hkr⟩ := hrel
    by_cases hd : i < n
    · have hdi : (i : Int) < (n : Int) := by omega
      have HI := Lib.hid hd
      have wi : IntKind.i64.wrap ((i : Int) + 1) = ((i + 1 : Nat) : Int) := by have := HNS.out; rw [IntWalk.i64_in _ ⟨by omega, by omega⟩]; omega
      obtain ⟨f, hf⟩ : ∃ f, F[i]? = some f := ⟨_, List.getElem?_eq_getElem (by have := HF.out.1; omega)⟩
      have hfo := HF.out.2.2 f (List.mem_of_getElem? hf)
      have hdr : (F.map AF.t).drop i = f.t :: (F.map AF.t).drop (i + 1) := drop_eq (by rw [List.getElem?_map, hf]; rfl)
      rw [hdr] at hnl
      obtain ⟨gg, oo, hga, hgc⟩ := (HF.out.2.1.kept hkr) (by have := HF.out.1; omega)
      subst hga
      have g0 := hgc i f hf 0 (.string f.nm) rfl
      have g1 := hgc i f hf 1 (.slice f.a f.b.length f.c) rfl
      rw [Nat.add_zero] at g0
      obtain ⟨s, a, bc, b⟩ := f
      simp only at g0 g1
      obtain ⟨bn, hbn⟩ : ∃ bn, bn = b.length := ⟨_, rfl⟩
      rw [← hbn] at g1
      have HBN := Lib.hid hbn
      have HFO := Lib.hid hfo
      have hfo1 := hfo.at_
      simp only at hfo1
      rw [← hbn] at hfo1
      have HNL := Lib.hid (And.intro hnl hml)
      obtain ⟨u, hu0⟩ : ∃ u, u = usedL M := ⟨_, rfl⟩
      have hus := hr.ok.used
      have hcap := hr.ok.capR
      simp only [freshD] at hus hcap
      rw [← hu0] at hus
      have HU := Lib.hid hu0
      have hu9 : u ≤ 4194304 := by omega
      obtain ⟨q, hq⟩ : ∃ q, q = wr.heap.size := ⟨_, rfl⟩
      obtain ⟨wa, hwa⟩ : ∃ wa, wa = wr.alloc (.cells #[.string s, .slice a bn bc] 46) := ⟨_, rfl⟩
      have ka : Kept (fun _ => False) wr wa := by rw [hwa]; exact (Kept.refl _ _).alloc _
      have BA : BoxAt wa q 46 #[.string s, .slice a bn bc] := by rw [hwa, hq]; exact BoxAt.new wr _ _
      have ha := hr.kept ka (fun _ _ x => x)
      have HA := Lib.hid (And.intro ha (And.intro BA (And.intro hfo1 (And.intro hkr ka))))
      have HW2 := Lib.hid (And.intro hwa hq)
      have qA0 : wa.cell? ⟨q, 0, none⟩ = some (.string s) := BA.cell rfl
      have qA1 : wa.cell? ⟨q, 1, none⟩ = some (.slice a bn bc) := BA.cell rfl
      have cA2 : wa.cell? ⟨db, 2, none⟩ = some (.int .i64 (u : Int)) := by rw [hu0]; exact ha.c.2.2.1
      have hs : s.size ≤ maxLen := hfo.small
      have HS := Lib.hid hs
      have HN := Lib.hid (fun w => isName_any s w (by unfold maxLen at hs; omega))
      have HHAS := Lib.hid (dhas_any w.heap.size db mb Li (freshD cap M) s hs wa.drew (ha.kept ((Kept.refl (fun _ => False) _).drew) (fun _ _ x => x)))
      clear hf hfo hdr hgc hbn hnl hml hu0 hus hcap hq hwa ka BA ha hfo1 hs hr hin hd
      cases hnm : nameB s with
      | false =>
        rw [hnm] at HN
        have HE := Lib.hid (newL_none (cap := cap) (r := (F.map AF.t).drop (i + 1)) (M := M) (s := s) (b := b) (.inl hnm))
        have HKF := Lib.hid ((hkr.trans HA.out.2.2.2.2).drew)
        clear hnm hkr
        have HSS : Hid ((fun w' => w'.cell? ⟨q, 0, none⟩ = some (.string s) ∧ w'.cell? ⟨q, 1, none⟩ = some (.slice a bn bc) ∧ w'.cell? ⟨db, 2, none⟩ = some (.int .i64 (u : Int))) wa.drew) := Lib.hid ⟨qA0, qA1, cA2⟩
        go_upto_region 7 with fail
        rw [← HW2.out.1, ← HW2.out.2]
        refine AnyBut.start (S := fun w' => w'.cell? ⟨q, 0, none⟩ = some (.string s) ∧ w'.cell? ⟨q, 1, none⟩ = some (.slice a bn bc) ∧ w'.cell? ⟨db, 2, none⟩ = some (.int .i64 (u : Int))) (k := 22) (by kernel_rfl) ?_
        refine AnyBut.takeS (i := 0) (v := ?v13) rfl (by kernel_rfl) (Nat.le_of_eq (by kernel_rfl)) (by kernel_rfl) (by kernel_rfl) (fun _ _ _ h => h) (HSS.out) (Or.inl ⟨by kernel_rfl, ?hy13⟩) ?r13
        case hy13 =>
          intro w hSw
          try dsimp only at hSw
          go_simp
          first | (obtain ⟨y0, y1, y2⟩ := hSw; go_simp) | skip
          try with_reducible rfl
        try simp only [Act.put, List.getElem_toArray, List.getElem_cons_zero, List.setIfInBounds_toArray, List.set_cons_zero, List.set_cons_succ]
        refine AnyBut.takeS (i := 1) (v := ?v14) rfl (by kernel_rfl) (Nat.le_of_eq (by kernel_rfl)) (by kernel_rfl) (by kernel_rfl) (fun _ _ _ h => h) (HSS.out) (Or.inl ⟨by kernel_rfl, ?hy14⟩) ?r14
        case hy14 =>
          intro w hSw
          try dsimp only at hSw
          go_simp
          first | (obtain ⟨y0, y1, y2⟩ := hSw; go_simp) | skip
          try with_reducible rfl
        try simp only [Act.put, List.getElem_toArray, List.getElem_cons_succ, List.getElem_cons_zero, List.setIfInBounds_toArray, List.set_cons_zero, List.set_cons_succ]
        refine AnyBut.one (i := 2) (by kernel_rfl) rfl (fun K hK => ?_)
        go_simp
        go_wp2_with fail
        refine (HN.out _).mono ?_
        rintro e w9 ⟨rfl, rfl⟩
        go_wp2
        refine hK.out _ _ (HSS.out) ?_
        clear hK K
        try simp only [Act.put, List.getElem_toArray, List.getElem_cons_succ, List.getElem_cons_zero, List.setIfInBounds_toArray, List.set_cons_zero, List.set_cons_succ]
        refine AnyBut.takeS (i := 3) (v := ?v15) rfl (by kernel_rfl) (Nat.le_of_eq (by kernel_rfl)) (by kernel_rfl) (by kernel_rfl) (fun _ _ _ h => h) (HSS.out) (Or.inl ⟨by kernel_rfl, ?hy15⟩) ?r15
        case hy15 =>
          intro w hSw
          try dsimp only at hSw
          go_simp
          first | (obtain ⟨y0, y1, y2⟩ := hSw; go_simp) | skip
          try with_reducible rfl
        try simp only [Act.put, List.getElem_toArray, List.getElem_cons_succ, List.getElem_cons_zero, List.setIfInBounds_toArray, List.set_cons_zero, List.set_cons_succ]
        refine AnyBut.takeS (i := 4) (v := ?v16) rfl (by kernel_rfl) (Nat.le_of_eq (by kernel_rfl)) (by kernel_rfl) (by kernel_rfl) (fun _ _ _ h => h) (HSS.out) (Or.inl ⟨by kernel_rfl, ?hy16⟩) ?r16
        case hy16 =>
          intro w hSw
          try dsimp only at hSw
          go_simp
          first | (obtain ⟨y0, y1, y2⟩ := hSw; go_simp) | skip
          try with_reducible rfl
        try simp only [Act.put, List.getElem_toArray, List.getElem_cons_succ, List.getElem_cons_zero, List.setIfInBounds_toArray, List.set_cons_zero, List.set_cons_succ]
        refine AnyBut.takeS (i := 5) (v := undef) rfl (by kernel_rfl) (Nat.le_of_eq (by kernel_rfl)) (by kernel_rfl) (by kernel_rfl) (fun _ _ _ h => h) (HSS.out) (Or.inr ⟨by kernel_rfl, rfl⟩) ?r17
        try simp only [Act.put, List.getElem_toArray, List.getElem_cons_succ, List.getElem_cons_zero, List.setIfInBounds_toArray, List.set_cons_zero, List.set_cons_succ]
        refine AnyBut.takeS (i := 6) (v := undef) rfl (by kernel_rfl) (Nat.le_of_eq (by kernel_rfl)) (by kernel_rfl) (by kernel_rfl) (fun _ _ _ h => h) (HSS.out) (Or.inr ⟨by kernel_rfl, rfl⟩) ?r18
        try simp only [Act.put, List.getElem_toArray, List.getElem_cons_succ, List.getElem_cons_zero, List.setIfInBounds_toArray, List.set_cons_zero, List.set_cons_succ]
        refine AnyBut.takeS (i := 7) (v := undef) rfl (by kernel_rfl) (Nat.le_of_eq (by kernel_rfl)) (by kernel_rfl) (by kernel_rfl) (fun _ _ _ h => h) (HSS.out) (Or.inr ⟨by kernel_rfl, rfl⟩) ?r19
        try simp only [Act.put, List.getElem_toArray, List.getElem_cons_succ, List.getElem_cons_zero, List.setIfInBounds_toArray, List.set_cons_zero, List.set_cons_succ]
        refine AnyBut.takeS (i := 8) (v := undef) rfl (by kernel_rfl) (Nat.le_of_eq (by kernel_rfl)) (by kernel_rfl) (by kernel_rfl) (fun _ _ _ h => h) (HSS.out) (Or.inr ⟨by kernel_rfl, rfl⟩) ?r20
        try simp only [Act.put, List.getElem_toArray, List.getElem_cons_succ, List.getElem_cons_zero, List.setIfInBounds_toArray, List.set_cons_zero, List.set_cons_succ]
        refine AnyBut.takeS (i := 9) (v := ?v21) rfl (by kernel_rfl) (Nat.le_of_eq (by kernel_rfl)) (by kernel_rfl) (by kernel_rfl) (fun _ _ _ h => h) (HSS.out) (Or.inl ⟨by kernel_rfl, ?hy21⟩) ?r21
        case hy21 =>
          intro w hSw
          try dsimp only at hSw
          go_simp
          first | (obtain ⟨y0, y1, y2⟩ := hSw; go_simp) | skip
          try with_reducible rfl
        try simp only [Act.put, List.getElem_toArray, List.getElem_cons_succ, List.getElem_cons_zero, List.setIfInBounds_toArray, List.set_cons_zero, List.set_cons_succ]
        refine AnyBut.takeS (i := 10) (v := ?v22) rfl (by kernel_rfl) (Nat.le_of_eq (by kernel_rfl)) (by kernel_rfl) (by kernel_rfl) (fun _ _ _ h => h) (HSS.out) (Or.inl ⟨by kernel_rfl, ?hy22⟩) ?r22
        case hy22 =>
          intro w hSw
          try dsimp only at hSw
          go_simp
          first | (obtain ⟨y0, y1, y2⟩ := hSw; go_simp) | skip
          try with_reducible rfl
        try simp only [Act.put, List.getElem_toArray, List.getElem_cons_succ, List.getElem_cons_zero, List.setIfInBounds_toArray, List.set_cons_zero, List.set_cons_succ]
        refine AnyBut.takeS (i := 11) (v := undef) rfl (by kernel_rfl) (Nat.le_of_eq (by kernel_rfl)) (by kernel_rfl) (by kernel_rfl) (fun _ _ _ h => h) (HSS.out) (Or.inr ⟨by kernel_rfl, rfl⟩) ?r23
        try simp only [Act.put, List.getElem_toArray, List.getElem_cons_succ, List.getElem_cons_zero, List.setIfInBounds_toArray, List.set_cons_zero, List.set_cons_succ]
        refine AnyBut.takeS (i := 12) (v := undef) rfl (by kernel_rfl) (Nat.le_of_eq (by kernel_rfl)) (by kernel_rfl) (by kernel_rfl) (fun _ _ _ h => h) (HSS.out) (Or.inr ⟨by kernel_rfl, rfl⟩) ?r24
        try simp only [Act.put, List.getElem_toArray, List.getElem_cons_succ, List.getElem_cons_zero, List.setIfInBounds_toArray, List.set_cons_zero, List.set_cons_succ]
        refine AnyBut.takeS (i := 13) (v := undef) rfl (by kernel_rfl) (Nat.le_of_eq (by kernel_rfl)) (by kernel_rfl) (by kernel_rfl) (fun _ _ _ h => h) (HSS.out) (Or.inr ⟨by kernel_rfl, rfl⟩) ?r25
        try simp only [Act.put, List.getElem_toArray, List.getElem_cons_succ, List.getElem_cons_zero, List.setIfInBounds_toArray, List.set_cons_zero, List.set_cons_succ]
        refine AnyBut.takeS (i := 14) (v := undef) rfl (by kernel_rfl) (Nat.le_of_eq (by kernel_rfl)) (by kernel_rfl) (by kernel_rfl) (fun _ _ _ h => h) (HSS.out) (Or.inr ⟨by kernel_rfl, rfl⟩) ?r26
        try simp only [Act.put, List.getElem_toArray, List.getElem_cons_succ, List.getElem_cons_zero, List.setIfInBounds_toArray, List.set_cons_zero, List.set_cons_succ]
        refine AnyBut.takeS (i := 15) (v := undef) rfl (by kernel_rfl) (Nat.le_of_eq (by kernel_rfl)) (by kernel_rfl) (by kernel_rfl) (fun _ _ _ h => h) (HSS.out) (Or.inr ⟨by kernel_rfl, rfl⟩) ?r27
        try simp only [Act.put, List.getElem_toArray, List.getElem_cons_succ, List.getElem_cons_zero, List.setIfInBounds_toArray, List.set_cons_zero, List.set_cons_succ]
        refine AnyBut.takeS (i := 16) (v := undef) rfl (by kernel_rfl) (Nat.le_of_eq (by kernel_rfl)) (by kernel_rfl) (by kernel_rfl) (fun _ _ _ h => h) (HSS.out) (Or.inr ⟨by kernel_rfl, rfl⟩) ?r28
        try simp only [Act.put, List.getElem_toArray, List.getElem_cons_succ, List.getElem_cons_zero, List.setIfInBounds_toArray, List.set_cons_zero, List.set_cons_succ]
        refine AnyBut.takeS (i := 17) (v := undef) rfl (by kernel_rfl) (Nat.le_of_eq (by kernel_rfl)) (by kernel_rfl) (by kernel_rfl) (fun _ _ _ h => h) (HSS.out) (Or.inr ⟨by kernel_rfl, rfl⟩) ?r29
        try simp only [Act.put, List.getElem_toArray, List.getElem_cons_succ, List.getElem_cons_zero, List.setIfInBounds_toArray, List.set_cons_zero, List.set_cons_succ]
        refine AnyBut.takeS (i := 18) (v := undef) rfl (by kernel_rfl) (Nat.le_of_eq (by kernel_rfl)) (by kernel_rfl) (by kernel_rfl) (fun _ _ _ h => h) (HSS.out) (Or.inr ⟨by kernel_rfl, rfl⟩) ?r30
        try simp only [Act.put, List.getElem_toArray, List.getElem_cons_succ, List.getElem_cons_zero, List.setIfInBounds_toArray, List.set_cons_zero, List.set_cons_succ]
        refine AnyBut.takeS (i := 19) (v := undef) rfl (by kernel_rfl) (Nat.le_of_eq (by kernel_rfl)) (by kernel_rfl) (by kernel_rfl) (fun _ _ _ h => h) (HSS.out) (Or.inr ⟨by kernel_rfl, rfl⟩) ?r31
        try simp only [Act.put, List.getElem_toArray, List.getElem_cons_succ, List.getElem_cons_zero, List.setIfInBounds_toArray, List.set_cons_zero, List.set_cons_succ]
        refine AnyBut.takeS (i := 20) (v := undef) rfl (by kernel_rfl) (Nat.le_of_eq (by kernel_rfl)) (by kernel_rfl) (by kernel_rfl) (fun _ _ _ h => h) (HSS.out) (Or.inr ⟨by kernel_rfl, rfl⟩) ?r32
        try simp only [Act.put, List.getElem_toArray, List.getElem_cons_succ, List.getElem_cons_zero, List.setIfInBounds_toArray, List.set_cons_zero, List.set_cons_succ]
        refine AnyBut.takeS (i := 21) (v := ?v33) rfl (by kernel_rfl) (Nat.le_of_eq (by kernel_rfl)) (by kernel_rfl) (by kernel_rfl) (fun _ _ _ h => h) (HSS.out) (Or.inl ⟨by kernel_rfl, ?hy33⟩) ?r33
        case hy33 =>
          intro w hSw
          try dsimp only at hSw
          go_simp
          first | (obtain ⟨y0, y1, y2⟩ := hSw; go_simp) | skip
          try with_reducible rfl
        try simp only [Act.put, List.getElem_toArray, List.getElem_cons_succ, List.getElem_cons_zero, List.setIfInBounds_toArray, List.set_cons_zero, List.set_cons_succ]
        refine AnyBut.done (by kernel_rfl) ?_
        go_wp2
        go_ret
        rw [HX.out, HNL.out.1, show (⟨s, a, bc, b⟩ : AF).t = (s, b) from rfl, HE.out]
        exact ⟨fun _ => ⟨rfl, HKF.out⟩, fun D e => by cases e⟩
      | true =>
        rw [hnm] at HN
        cases hg : (getM (freshD cap M).L s).isSome with
        | true =>
          rw [hg] at HHAS
          have HE := Lib.hid (newL_none (cap := cap) (r := (F.map AF.t).drop (i + 1)) (M := M) (s := s) (b := b) (.inr (.inl hg)))
          have HKF := Lib.hid (hkr.trans HA.out.2.2.2.2)
          clear hnm hkr hg
          have HSS : Hid ((fun w' => w'.cell? ⟨q, 0, none⟩ = some (.string s) ∧ w'.cell? ⟨q, 1, none⟩ = some (.slice a bn bc) ∧ w'.cell? ⟨db, 2, none⟩ = some (.int .i64 (u : Int))) wa.drew) := Lib.hid ⟨qA0, qA1, cA2⟩
          go_upto_region 7 with fail
          rw [← HW2.out.1, ← HW2.out.2]
          refine AnyBut.start (S := fun w' => w'.cell? ⟨q, 0, none⟩ = some (.string s) ∧ w'.cell? ⟨q, 1, none⟩ = some (.slice a bn bc) ∧ w'.cell? ⟨db, 2, none⟩ = some (.int .i64 (u : Int))) (k := 22) (by kernel_rfl) ?_
          refine AnyBut.takeS (i := 0) (v := ?v34) rfl (by kernel_rfl) (Nat.le_of_eq (by kernel_rfl)) (by kernel_rfl) (by kernel_rfl) (fun _ _ _ h => h) (HSS.out) (Or.inl ⟨by kernel_rfl, ?hy34⟩) ?r34
          case hy34 =>
            intro w hSw
            try dsimp only at hSw
            go_simp
            first | (obtain ⟨y0, y1, y2⟩ := hSw; go_simp) | skip
            try with_reducible rfl
          try simp only [Act.put, List.getElem_toArray, List.getElem_cons_zero, List.setIfInBounds_toArray, List.set_cons_zero, List.set_cons_succ]
          refine AnyBut.takeS (i := 1) (v := ?v35) rfl (by kernel_rfl) (Nat.le_of_eq (by kernel_rfl)) (by kernel_rfl) (by kernel_rfl) (fun _ _ _ h => h) (HSS.out) (Or.inl ⟨by kernel_rfl, ?hy35⟩) ?r35
          case hy35 =>
            intro w hSw
            try dsimp only at hSw
            go_simp
            first | (obtain ⟨y0, y1, y2⟩ := hSw; go_simp) | skip
            try with_reducible rfl
          try simp only [Act.put, List.getElem_toArray, List.getElem_cons_succ, List.getElem_cons_zero, List.setIfInBounds_toArray, List.set_cons_zero, List.set_cons_succ]
          refine AnyBut.one (i := 2) (by kernel_rfl) rfl (fun K hK => ?_)
          go_simp
          go_wp2_with fail
          refine (HN.out _).mono ?_
          rintro e w9 ⟨rfl, rfl⟩
          go_wp2
          refine hK.out _ _ (HSS.out) ?_
          clear hK K
          try simp only [Act.put, List.getElem_toArray, List.getElem_cons_succ, List.getElem_cons_zero, List.setIfInBounds_toArray, List.set_cons_zero, List.set_cons_succ]
          refine AnyBut.takeS (i := 3) (v := ?v36) rfl (by kernel_rfl) (Nat.le_of_eq (by kernel_rfl)) (by kernel_rfl) (by kernel_rfl) (fun _ _ _ h => h) (HSS.out) (Or.inl ⟨by kernel_rfl, ?hy36⟩) ?r36
          case hy36 =>
            intro w hSw
            try dsimp only at hSw
            go_simp
            first | (obtain ⟨y0, y1, y2⟩ := hSw; go_simp) | skip
            try with_reducible rfl
          try simp only [Act.put, List.getElem_toArray, List.getElem_cons_succ, List.getElem_cons_zero, List.setIfInBounds_toArray, List.set_cons_zero, List.set_cons_succ]
          refine AnyBut.takeS (i := 4) (v := ?v37) rfl (by kernel_rfl) (Nat.le_of_eq (by kernel_rfl)) (by kernel_rfl) (by kernel_rfl) (fun _ _ _ h => h) (HSS.out) (Or.inl ⟨by kernel_rfl, ?hy37⟩) ?r37
          case hy37 =>
            intro w hSw
            try dsimp only at hSw
            go_simp
            first | (obtain ⟨y0, y1, y2⟩ := hSw; go_simp) | skip
            try with_reducible rfl
          try simp only [Act.put, List.getElem_toArray, List.getElem_cons_succ, List.getElem_cons_zero, List.setIfInBounds_toArray, List.set_cons_zero, List.set_cons_succ]
          refine AnyBut.takeS (i := 5) (v := ?v38) rfl (by kernel_rfl) (Nat.le_of_eq (by kernel_rfl)) (by kernel_rfl) (by kernel_rfl) (fun _ _ _ h => h) (HSS.out) (Or.inl ⟨by kernel_rfl, ?hy38⟩) ?r38
          case hy38 =>
            intro w hSw
            try dsimp only at hSw
            go_simp
            first | (obtain ⟨y0, y1, y2⟩ := hSw; go_simp) | skip
            try with_reducible rfl
          try simp only [Act.put, List.getElem_toArray, List.getElem_cons_succ, List.getElem_cons_zero, List.setIfInBounds_toArray, List.set_cons_zero, List.set_cons_succ]
          refine AnyBut.takeS (i := 6) (v := ?v39) rfl (by kernel_rfl) (Nat.le_of_eq (by kernel_rfl)) (by kernel_rfl) (by kernel_rfl) (fun _ _ _ h => h) (HSS.out) (Or.inl ⟨by kernel_rfl, ?hy39⟩) ?r39
          case hy39 =>
            intro w hSw
            try dsimp only at hSw
            go_simp
            first | (obtain ⟨y0, y1, y2⟩ := hSw; go_simp) | skip
            try with_reducible rfl
          try simp only [Act.put, List.getElem_toArray, List.getElem_cons_succ, List.getElem_cons_zero, List.setIfInBounds_toArray, List.set_cons_zero, List.set_cons_succ]
          refine AnyBut.takeS (i := 7) (v := ?v40) rfl (by kernel_rfl) (Nat.le_of_eq (by kernel_rfl)) (by kernel_rfl) (by kernel_rfl) (fun _ _ _ h => h) (HSS.out) (Or.inl ⟨by kernel_rfl, ?hy40⟩) ?r40
          case hy40 =>
            intro w hSw
            try dsimp only at hSw
            go_simp
            first | (obtain ⟨y0, y1, y2⟩ := hSw; go_simp) | skip
            try with_reducible rfl
          try simp only [Act.put, List.getElem_toArray, List.getElem_cons_succ, List.getElem_cons_zero, List.setIfInBounds_toArray, List.set_cons_zero, List.set_cons_succ]
          refine AnyBut.one (i := 8) (by kernel_rfl) rfl (fun K hK => ?_)
          go_simp
          go_wp2_with fail
          refine HHAS.out.mono ?_
          rintro e w2 ⟨rfl, k2⟩
          have K2 := Lib.hid ((Kept.refl (fun _ => False) wa).drew.trans k2)
          have HSS2 : Hid ((fun w' => w'.cell? ⟨q, 0, none⟩ = some (.string s) ∧ w'.cell? ⟨q, 1, none⟩ = some (.slice a bn bc) ∧ w'.cell? ⟨db, 2, none⟩ = some (.int .i64 (u : Int))) w2) := Lib.hid ⟨(HA.out.2.1.kept K2.out (fun x => x)).cell rfl, (HA.out.2.1.kept K2.out (fun x => x)).cell rfl, by rw [HU.out]; exact (HA.out.1.kept K2.out (fun _ _ x => x)).c.2.2.1⟩
          clear k2
          go_wp2
          refine hK.out _ _ (HSS2.out) ?_
          clear hK K
          try simp only [Act.put, List.getElem_toArray, List.getElem_cons_succ, List.getElem_cons_zero, List.setIfInBounds_toArray, List.set_cons_zero, List.set_cons_succ]
          refine AnyBut.takeS (i := 9) (v := ?v41) rfl (by kernel_rfl) (Nat.le_of_eq (by kernel_rfl)) (by kernel_rfl) (by kernel_rfl) (fun _ _ _ h => h) (HSS2.out) (Or.inl ⟨by kernel_rfl, ?hy41⟩) ?r41
          case hy41 =>
            intro w hSw
            try dsimp only at hSw
            go_simp
            first | (obtain ⟨y0, y1, y2⟩ := hSw; go_simp) | skip
            try with_reducible rfl
          try simp only [Act.put, List.getElem_toArray, List.getElem_cons_succ, List.getElem_cons_zero, List.setIfInBounds_toArray, List.set_cons_zero, List.set_cons_succ]
          refine AnyBut.takeS (i := 10) (v := ?v42) rfl (by kernel_rfl) (Nat.le_of_eq (by kernel_rfl)) (by kernel_rfl) (by kernel_rfl) (fun _ _ _ h => h) (HSS2.out) (Or.inl ⟨by kernel_rfl, ?hy42⟩) ?r42
          case hy42 =>
            intro w hSw
            try dsimp only at hSw
            go_simp
            first | (obtain ⟨y0, y1, y2⟩ := hSw; go_simp) | skip
            try with_reducible rfl
          try simp only [Act.put, List.getElem_toArray, List.getElem_cons_succ, List.getElem_cons_zero, List.setIfInBounds_toArray, List.set_cons_zero, List.set_cons_succ]
          refine AnyBut.takeS (i := 11) (v := undef) rfl (by kernel_rfl) (Nat.le_of_eq (by kernel_rfl)) (by kernel_rfl) (by kernel_rfl) (fun _ _ _ h => h) (HSS2.out) (Or.inr ⟨by kernel_rfl, rfl⟩) ?r43
          try simp only [Act.put, List.getElem_toArray, List.getElem_cons_succ, List.getElem_cons_zero, List.setIfInBounds_toArray, List.set_cons_zero, List.set_cons_succ]
          refine AnyBut.takeS (i := 12) (v := undef) rfl (by kernel_rfl) (Nat.le_of_eq (by kernel_rfl)) (by kernel_rfl) (by kernel_rfl) (fun _ _ _ h => h) (HSS2.out) (Or.inr ⟨by kernel_rfl, rfl⟩) ?r44
          try simp only [Act.put, List.getElem_toArray, List.getElem_cons_succ, List.getElem_cons_zero, List.setIfInBounds_toArray, List.set_cons_zero, List.set_cons_succ]
          refine AnyBut.takeS (i := 13) (v := undef) rfl (by kernel_rfl) (Nat.le_of_eq (by kernel_rfl)) (by kernel_rfl) (by kernel_rfl) (fun _ _ _ h => h) (HSS2.out) (Or.inr ⟨by kernel_rfl, rfl⟩) ?r45
          try simp only [Act.put, List.getElem_toArray, List.getElem_cons_succ, List.getElem_cons_zero, List.setIfInBounds_toArray, List.set_cons_zero, List.set_cons_succ]
          refine AnyBut.takeS (i := 14) (v := undef) rfl (by kernel_rfl) (Nat.le_of_eq (by kernel_rfl)) (by kernel_rfl) (by kernel_rfl) (fun _ _ _ h => h) (HSS2.out) (Or.inr ⟨by kernel_rfl, rfl⟩) ?r46
          try simp only [Act.put, List.getElem_toArray, List.getElem_cons_succ, List.getElem_cons_zero, List.setIfInBounds_toArray, List.set_cons_zero, List.set_cons_succ]
          refine AnyBut.takeS (i := 15) (v := undef) rfl (by kernel_rfl) (Nat.le_of_eq (by kernel_rfl)) (by kernel_rfl) (by kernel_rfl) (fun _ _ _ h => h) (HSS2.out) (Or.inr ⟨by kernel_rfl, rfl⟩) ?r47
          try simp only [Act.put, List.getElem_toArray, List.getElem_cons_succ, List.getElem_cons_zero, List.setIfInBounds_toArray, List.set_cons_zero, List.set_cons_succ]
          refine AnyBut.takeS (i := 16) (v := undef) rfl (by kernel_rfl) (Nat.le_of_eq (by kernel_rfl)) (by kernel_rfl) (by kernel_rfl) (fun _ _ _ h => h) (HSS2.out) (Or.inr ⟨by kernel_rfl, rfl⟩) ?r48
          try simp only [Act.put, List.getElem_toArray, List.getElem_cons_succ, List.getElem_cons_zero, List.setIfInBounds_toArray, List.set_cons_zero, List.set_cons_succ]
          refine AnyBut.takeS (i := 17) (v := undef) rfl (by kernel_rfl) (Nat.le_of_eq (by kernel_rfl)) (by kernel_rfl) (by kernel_rfl) (fun _ _ _ h => h) (HSS2.out) (Or.inr ⟨by kernel_rfl, rfl⟩) ?r49
          try simp only [Act.put, List.getElem_toArray, List.getElem_cons_succ, List.getElem_cons_zero, List.setIfInBounds_toArray, List.set_cons_zero, List.set_cons_succ]
          refine AnyBut.takeS (i := 18) (v := undef) rfl (by kernel_rfl) (Nat.le_of_eq (by kernel_rfl)) (by kernel_rfl) (by kernel_rfl) (fun _ _ _ h => h) (HSS2.out) (Or.inr ⟨by kernel_rfl, rfl⟩) ?r50
          try simp only [Act.put, List.getElem_toArray, List.getElem_cons_succ, List.getElem_cons_zero, List.setIfInBounds_toArray, List.set_cons_zero, List.set_cons_succ]
          refine AnyBut.takeS (i := 19) (v := undef) rfl (by kernel_rfl) (Nat.le_of_eq (by kernel_rfl)) (by kernel_rfl) (by kernel_rfl) (fun _ _ _ h => h) (HSS2.out) (Or.inr ⟨by kernel_rfl, rfl⟩) ?r51
          try simp only [Act.put, List.getElem_toArray, List.getElem_cons_succ, List.getElem_cons_zero, List.setIfInBounds_toArray, List.set_cons_zero, List.set_cons_succ]
          refine AnyBut.takeS (i := 20) (v := undef) rfl (by kernel_rfl) (Nat.le_of_eq (by kernel_rfl)) (by kernel_rfl) (by kernel_rfl) (fun _ _ _ h => h) (HSS2.out) (Or.inr ⟨by kernel_rfl, rfl⟩) ?r52
          try simp only [Act.put, List.getElem_toArray, List.getElem_cons_succ, List.getElem_cons_zero, List.setIfInBounds_toArray, List.set_cons_zero, List.set_cons_succ]
          refine AnyBut.takeS (i := 21) (v := ?v53) rfl (by kernel_rfl) (Nat.le_of_eq (by kernel_rfl)) (by kernel_rfl) (by kernel_rfl) (fun _ _ _ h => h) (HSS2.out) (Or.inl ⟨by kernel_rfl, ?hy53⟩) ?r53
          case hy53 =>
            intro w hSw
            try dsimp only at hSw
            go_simp
            first | (obtain ⟨y0, y1, y2⟩ := hSw; go_simp) | skip
            try with_reducible rfl
          try simp only [Act.put, List.getElem_toArray, List.getElem_cons_succ, List.getElem_cons_zero, List.setIfInBounds_toArray, List.set_cons_zero, List.set_cons_succ]
          refine AnyBut.done (by kernel_rfl) ?_
          go_wp2
          go_ret
          rw [HX.out, HNL.out.1, show (⟨s, a, bc, b⟩ : AF).t = (s, b) from rfl, HE.out]
          exact ⟨fun _ => ⟨rfl, HKF.out.trans K2.out⟩, fun D e => by cases e⟩
        | false =>
          rw [hg] at HHAS
          by_cases hsp : cap - (u : Int) < (bn : Int)
          · have hcr1 := HCR.out.1
            have hcr2 := HCR.out.2
            have wsub : IntKind.i64.wrap (cap - (u : Int)) = cap - (u : Int) := IntWalk.i64_in _ ⟨by omega, by omega⟩
            have hsp' : decide (cap - (u : Int) < (bn : Int)) = true := decide_eq_true hsp
            have HE := Lib.hid (newL_none (cap := cap) (r := (F.map AF.t).drop (i + 1)) (M := M) (s := s) (b := b) (.inr (.inr (by have := HU.out; have := HBN.out; omega))))
            have HKF := Lib.hid (hkr.trans HA.out.2.2.2.2)
            clear hnm hkr hg
            have HSS : Hid ((fun w' => w'.cell? ⟨q, 0, none⟩ = some (.string s) ∧ w'.cell? ⟨q, 1, none⟩ = some (.slice a bn bc) ∧ w'.cell? ⟨db, 2, none⟩ = some (.int .i64 (u : Int))) wa.drew) := Lib.hid ⟨qA0, qA1, cA2⟩
            go_upto_region 7 with fail
            rw [← HW2.out.1, ← HW2.out.2]
            refine AnyBut.start (S := fun w' => w'.cell? ⟨q, 0, none⟩ = some (.string s) ∧ w'.cell? ⟨q, 1, none⟩ = some (.slice a bn bc) ∧ w'.cell? ⟨db, 2, none⟩ = some (.int .i64 (u : Int))) (k := 22) (by kernel_rfl) ?_
            refine AnyBut.takeS (i := 0) (v := ?v54) rfl (by kernel_rfl) (Nat.le_of_eq (by kernel_rfl)) (by kernel_rfl) (by kernel_rfl) (fun _ _ _ h => h) (HSS.out) (Or.inl ⟨by kernel_rfl, ?hy54⟩) ?r54
            case hy54 =>
              intro w hSw
              try dsimp only at hSw
              go_simp
              first | (obtain ⟨y0, y1, y2⟩ := hSw; go_simp) | skip
              try with_reducible rfl
            try simp only [Act.put, List.getElem_toArray, List.getElem_cons_zero, List.setIfInBounds_toArray, List.set_cons_zero, List.set_cons_succ]
            refine AnyBut.takeS (i := 1) (v := ?v55) rfl (by kernel_rfl) (Nat.le_of_eq (by kernel_rfl)) (by kernel_rfl) (by kernel_rfl) (fun _ _ _ h => h) (HSS.out) (Or.inl ⟨by kernel_rfl, ?hy55⟩) ?r55
            case hy55 =>
              intro w hSw
              try dsimp only at hSw
              go_simp
              first | (obtain ⟨y0, y1, y2⟩ := hSw; go_simp) | skip
              try with_reducible rfl
            try simp only [Act.put, List.getElem_toArray, List.getElem_cons_succ, List.getElem_cons_zero, List.setIfInBounds_toArray, List.set_cons_zero, List.set_cons_succ]
            refine AnyBut.one (i := 2) (by kernel_rfl) rfl (fun K hK => ?_)
            go_simp
            go_wp2_with fail
            refine (HN.out _).mono ?_
            rintro e w9 ⟨rfl, rfl⟩
            go_wp2
            refine hK.out _ _ (HSS.out) ?_
            clear hK K
            try simp only [Act.put, List.getElem_toArray, List.getElem_cons_succ, List.getElem_cons_zero, List.setIfInBounds_toArray, List.set_cons_zero, List.set_cons_succ]
            refine AnyBut.takeS (i := 3) (v := ?v56) rfl (by kernel_rfl) (Nat.le_of_eq (by kernel_rfl)) (by kernel_rfl) (by kernel_rfl) (fun _ _ _ h => h) (HSS.out) (Or.inl ⟨by kernel_rfl, ?hy56⟩) ?r56
            case hy56 =>
              intro w hSw
              try dsimp only at hSw
              go_simp
              first | (obtain ⟨y0, y1, y2⟩ := hSw; go_simp) | skip
              try with_reducible rfl
            try simp only [Act.put, List.getElem_toArray, List.getElem_cons_succ, List.getElem_cons_zero, List.setIfInBounds_toArray, List.set_cons_zero, List.set_cons_succ]
            refine AnyBut.takeS (i := 4) (v := ?v57) rfl (by kernel_rfl) (Nat.le_of_eq (by kernel_rfl)) (by kernel_rfl) (by kernel_rfl) (fun _ _ _ h => h) (HSS.out) (Or.inl ⟨by kernel_rfl, ?hy57⟩) ?r57
            case hy57 =>
              intro w hSw
              try dsimp only at hSw
              go_simp
              first | (obtain ⟨y0, y1, y2⟩ := hSw; go_simp) | skip
              try with_reducible rfl
            try simp only [Act.put, List.getElem_toArray, List.getElem_cons_succ, List.getElem_cons_zero, List.setIfInBounds_toArray, List.set_cons_zero, List.set_cons_succ]
            refine AnyBut.takeS (i := 5) (v := ?v58) rfl (by kernel_rfl) (Nat.le_of_eq (by kernel_rfl)) (by kernel_rfl) (by kernel_rfl) (fun _ _ _ h => h) (HSS.out) (Or.inl ⟨by kernel_rfl, ?hy58⟩) ?r58
            case hy58 =>
              intro w hSw
              try dsimp only at hSw
              go_simp
              first | (obtain ⟨y0, y1, y2⟩ := hSw; go_simp) | skip
              try with_reducible rfl
            try simp only [Act.put, List.getElem_toArray, List.getElem_cons_succ, List.getElem_cons_zero, List.setIfInBounds_toArray, List.set_cons_zero, List.set_cons_succ]
            refine AnyBut.takeS (i := 6) (v := ?v59) rfl (by kernel_rfl) (Nat.le_of_eq (by kernel_rfl)) (by kernel_rfl) (by kernel_rfl) (fun _ _ _ h => h) (HSS.out) (Or.inl ⟨by kernel_rfl, ?hy59⟩) ?r59
            case hy59 =>
              intro w hSw
              try dsimp only at hSw
              go_simp
              first | (obtain ⟨y0, y1, y2⟩ := hSw; go_simp) | skip
              try with_reducible rfl
            try simp only [Act.put, List.getElem_toArray, List.getElem_cons_succ, List.getElem_cons_zero, List.setIfInBounds_toArray, List.set_cons_zero, List.set_cons_succ]
            refine AnyBut.takeS (i := 7) (v := ?v60) rfl (by kernel_rfl) (Nat.le_of_eq (by kernel_rfl)) (by kernel_rfl) (by kernel_rfl) (fun _ _ _ h => h) (HSS.out) (Or.inl ⟨by kernel_rfl, ?hy60⟩) ?r60
            case hy60 =>
              intro w hSw
              try dsimp only at hSw
              go_simp
              first | (obtain ⟨y0, y1, y2⟩ := hSw; go_simp) | skip
              try with_reducible rfl
            try simp only [Act.put, List.getElem_toArray, List.getElem_cons_succ, List.getElem_cons_zero, List.setIfInBounds_toArray, List.set_cons_zero, List.set_cons_succ]
            refine AnyBut.one (i := 8) (by kernel_rfl) rfl (fun K hK => ?_)
            go_simp
            go_wp2_with fail
            refine HHAS.out.mono ?_
            rintro e w2 ⟨rfl, k2⟩
            have K2 := Lib.hid ((Kept.refl (fun _ => False) wa).drew.trans k2)
            have HSS2 : Hid ((fun w' => w'.cell? ⟨q, 0, none⟩ = some (.string s) ∧ w'.cell? ⟨q, 1, none⟩ = some (.slice a bn bc) ∧ w'.cell? ⟨db, 2, none⟩ = some (.int .i64 (u : Int))) w2) := Lib.hid ⟨(HA.out.2.1.kept K2.out (fun x => x)).cell rfl, (HA.out.2.1.kept K2.out (fun x => x)).cell rfl, by rw [HU.out]; exact (HA.out.1.kept K2.out (fun _ _ x => x)).c.2.2.1⟩
            clear k2
            go_wp2
            refine hK.out _ _ (HSS2.out) ?_
            clear hK K
            try simp only [Act.put, List.getElem_toArray, List.getElem_cons_succ, List.getElem_cons_zero, List.setIfInBounds_toArray, List.set_cons_zero, List.set_cons_succ]
            refine AnyBut.takeS (i := 9) (v := ?v61) rfl (by kernel_rfl) (Nat.le_of_eq (by kernel_rfl)) (by kernel_rfl) (by kernel_rfl) (fun _ _ _ h => h) (HSS2.out) (Or.inl ⟨by kernel_rfl, ?hy61⟩) ?r61
            case hy61 =>
              intro w hSw
              try dsimp only at hSw
              go_simp
              first | (obtain ⟨y0, y1, y2⟩ := hSw; go_simp) | skip
              try with_reducible rfl
            try simp only [Act.put, List.getElem_toArray, List.getElem_cons_succ, List.getElem_cons_zero, List.setIfInBounds_toArray, List.set_cons_zero, List.set_cons_succ]
            refine AnyBut.takeS (i := 10) (v := ?v62) rfl (by kernel_rfl) (Nat.le_of_eq (by kernel_rfl)) (by kernel_rfl) (by kernel_rfl) (fun _ _ _ h => h) (HSS2.out) (Or.inl ⟨by kernel_rfl, ?hy62⟩) ?r62
            case hy62 =>
              intro w hSw
              try dsimp only at hSw
              go_simp
              first | (obtain ⟨y0, y1, y2⟩ := hSw; go_simp) | skip
              try with_reducible rfl
            try simp only [Act.put, List.getElem_toArray, List.getElem_cons_succ, List.getElem_cons_zero, List.setIfInBounds_toArray, List.set_cons_zero, List.set_cons_succ]
            refine AnyBut.takeS (i := 11) (v := ?v63) rfl (by kernel_rfl) (Nat.le_of_eq (by kernel_rfl)) (by kernel_rfl) (by kernel_rfl) (fun _ _ _ h => h) (HSS2.out) (Or.inl ⟨by kernel_rfl, ?hy63⟩) ?r63
            case hy63 =>
              intro w hSw
              try dsimp only at hSw
              go_simp
              first | (obtain ⟨y0, y1, y2⟩ := hSw; go_simp) | skip
              try with_reducible rfl
            try simp only [Act.put, List.getElem_toArray, List.getElem_cons_succ, List.getElem_cons_zero, List.setIfInBounds_toArray, List.set_cons_zero, List.set_cons_succ]
            refine AnyBut.takeS (i := 12) (v := ?v64) rfl (by kernel_rfl) (Nat.le_of_eq (by kernel_rfl)) (by kernel_rfl) (by kernel_rfl) (fun _ _ _ h => h) (HSS2.out) (Or.inl ⟨by kernel_rfl, ?hy64⟩) ?r64
            case hy64 =>
              intro w hSw
              try dsimp only at hSw
              go_simp
              first | (obtain ⟨y0, y1, y2⟩ := hSw; go_simp) | skip
              try with_reducible rfl
            try simp only [Act.put, List.getElem_toArray, List.getElem_cons_succ, List.getElem_cons_zero, List.setIfInBounds_toArray, List.set_cons_zero, List.set_cons_succ]
            refine AnyBut.takeS (i := 13) (v := ?v65) rfl (by kernel_rfl) (Nat.le_of_eq (by kernel_rfl)) (by kernel_rfl) (by kernel_rfl) (fun _ _ _ h => h) (HSS2.out) (Or.inl ⟨by kernel_rfl, ?hy65⟩) ?r65
            case hy65 =>
              intro w hSw
              try dsimp only at hSw
              go_simp
              first | (obtain ⟨y0, y1, y2⟩ := hSw; go_simp) | skip
              try with_reducible rfl
            try simp only [Act.put, List.getElem_toArray, List.getElem_cons_succ, List.getElem_cons_zero, List.setIfInBounds_toArray, List.set_cons_zero, List.set_cons_succ]
            refine AnyBut.takeS (i := 14) (v := ?v66) rfl (by kernel_rfl) (Nat.le_of_eq (by kernel_rfl)) (by kernel_rfl) (by kernel_rfl) (fun _ _ _ h => h) (HSS2.out) (Or.inl ⟨by kernel_rfl, ?hy66⟩) ?r66
            case hy66 =>
              intro w hSw
              try dsimp only at hSw
              go_simp
              first | (obtain ⟨y0, y1, y2⟩ := hSw; go_simp) | skip
              try with_reducible rfl
            try simp only [Act.put, List.getElem_toArray, List.getElem_cons_succ, List.getElem_cons_zero, List.setIfInBounds_toArray, List.set_cons_zero, List.set_cons_succ]
            refine AnyBut.takeS (i := 15) (v := ?v67) rfl (by kernel_rfl) (Nat.le_of_eq (by kernel_rfl)) (by kernel_rfl) (by kernel_rfl) (fun _ _ _ h => h) (HSS2.out) (Or.inl ⟨by kernel_rfl, ?hy67⟩) ?r67
            case hy67 =>
              intro w hSw
              try dsimp only at hSw
              go_simp
              first | (obtain ⟨y0, y1, y2⟩ := hSw; go_simp) | skip
              try with_reducible rfl
            try simp only [Act.put, List.getElem_toArray, List.getElem_cons_succ, List.getElem_cons_zero, List.setIfInBounds_toArray, List.set_cons_zero, List.set_cons_succ]
            refine AnyBut.takeS (i := 16) (v := ?v68) rfl (by kernel_rfl) (Nat.le_of_eq (by kernel_rfl)) (by kernel_rfl) (by kernel_rfl) (fun _ _ _ h => h) (HSS2.out) (Or.inl ⟨by kernel_rfl, ?hy68⟩) ?r68
            case hy68 =>
              intro w hSw
              try dsimp only at hSw
              go_simp
              first | (obtain ⟨y0, y1, y2⟩ := hSw; go_simp) | skip
              try with_reducible rfl
            try simp only [Act.put, List.getElem_toArray, List.getElem_cons_succ, List.getElem_cons_zero, List.setIfInBounds_toArray, List.set_cons_zero, List.set_cons_succ]
            refine AnyBut.takeS (i := 17) (v := ?v69) rfl (by kernel_rfl) (Nat.le_of_eq (by kernel_rfl)) (by kernel_rfl) (by kernel_rfl) (fun _ _ _ h => h) (HSS2.out) (Or.inl ⟨by kernel_rfl, ?hy69⟩) ?r69
            case hy69 =>
              intro w hSw
              try dsimp only at hSw
              go_simp
              first | (obtain ⟨y0, y1, y2⟩ := hSw; go_simp) | skip
              try with_reducible rfl
            try simp only [Act.put, List.getElem_toArray, List.getElem_cons_succ, List.getElem_cons_zero, List.setIfInBounds_toArray, List.set_cons_zero, List.set_cons_succ]
            refine AnyBut.takeS (i := 18) (v := ?v70) rfl (by kernel_rfl) (Nat.le_of_eq (by kernel_rfl)) (by kernel_rfl) (by kernel_rfl) (fun _ _ _ h => h) (HSS2.out) (Or.inl ⟨by kernel_rfl, ?hy70⟩) ?r70
            case hy70 =>
              intro w hSw
              try dsimp only at hSw
              go_simp
              first | (obtain ⟨y0, y1, y2⟩ := hSw; go_simp) | skip
              try with_reducible rfl
            try simp only [Act.put, List.getElem_toArray, List.getElem_cons_succ, List.getElem_cons_zero, List.setIfInBounds_toArray, List.set_cons_zero, List.set_cons_succ]
            refine AnyBut.takeS (i := 19) (v := ?v71) rfl (by kernel_rfl) (Nat.le_of_eq (by kernel_rfl)) (by kernel_rfl) (by kernel_rfl) (fun _ _ _ h => h) (HSS2.out) (Or.inl ⟨by kernel_rfl, ?hy71⟩) ?r71
            case hy71 =>
              intro w hSw
              try dsimp only at hSw
              go_simp
              first | (obtain ⟨y0, y1, y2⟩ := hSw; go_simp) | skip
              try with_reducible rfl
            try simp only [Act.put, List.getElem_toArray, List.getElem_cons_succ, List.getElem_cons_zero, List.setIfInBounds_toArray, List.set_cons_zero, List.set_cons_succ]
            refine AnyBut.takeS (i := 20) (v := ?v72) rfl (by kernel_rfl) (Nat.le_of_eq (by kernel_rfl)) (by kernel_rfl) (by kernel_rfl) (fun _ _ _ h => h) (HSS2.out) (Or.inl ⟨by kernel_rfl, ?hy72⟩) ?r72
            case hy72 =>
              intro w hSw
              try dsimp only at hSw
              go_simp
              first | (obtain ⟨y0, y1, y2⟩ := hSw; go_simp) | skip
              try with_reducible rfl
            try simp only [Act.put, List.getElem_toArray, List.getElem_cons_succ, List.getElem_cons_zero, List.setIfInBounds_toArray, List.set_cons_zero, List.set_cons_succ]
            refine AnyBut.takeS (i := 21) (v := ?v73) rfl (by kernel_rfl) (Nat.le_of_eq (by kernel_rfl)) (by kernel_rfl) (by kernel_rfl) (fun _ _ _ h => h) (HSS2.out) (Or.inl ⟨by kernel_rfl, ?hy73⟩) ?r73
            case hy73 =>
              intro w hSw
              try dsimp only at hSw
              go_simp
              first | (obtain ⟨y0, y1, y2⟩ := hSw; go_simp) | skip
              try with_reducible rfl
            try simp only [Act.put, List.getElem_toArray, List.getElem_cons_succ, List.getElem_cons_zero, List.setIfInBounds_toArray, List.set_cons_zero, List.set_cons_succ]
            refine AnyBut.done (by kernel_rfl) ?_
            go_wp2
            go_ret
            rw [HX.out, HNL.out.1, show (⟨s, a, bc, b⟩ : AF).t = (s, b) from rfl, HE.out]
            exact ⟨fun _ => ⟨rfl, HKF.out.trans K2.out⟩, fun D e => by cases e⟩
          · have hcr1 := HCR.out.1
            have hcr2 := HCR.out.2
            have wsub : IntKind.i64.wrap (cap - (u : Int)) = cap - (u : Int) := IntWalk.i64_in _ ⟨by omega, by omega⟩
            have hsp' : decide (cap - (u : Int) < (bn : Int)) = false := decide_eq_false hsp
            have HB := Lib.hid (And.intro hnm hg)
            clear hnm hg
            have HSS : Hid ((fun w' => w'.cell? ⟨q, 0, none⟩ = some (.string s) ∧ w'.cell? ⟨q, 1, none⟩ = some (.slice a bn bc) ∧ w'.cell? ⟨db, 2, none⟩ = some (.int .i64 (u : Int))) wa.drew) := Lib.hid ⟨qA0, qA1, cA2⟩
            go_upto_region 7 with fail
            rw [← HW2.out.1, ← HW2.out.2]
            refine AnyBut.start (S := fun w' => w'.cell? ⟨q, 0, none⟩ = some (.string s) ∧ w'.cell? ⟨q, 1, none⟩ = some (.slice a bn bc) ∧ w'.cell? ⟨db, 2, none⟩ = some (.int .i64 (u : Int))) (k := 22) (by kernel_rfl) ?_
            refine AnyBut.takeS (i := 0) (v := ?v74) rfl (by kernel_rfl) (Nat.le_of_eq (by kernel_rfl)) (by kernel_rfl) (by kernel_rfl) (fun _ _ _ h => h) (HSS.out) (Or.inl ⟨by kernel_rfl, ?hy74⟩) ?r74
            case hy74 =>
              intro w hSw
              try dsimp only at hSw
              go_simp
              first | (obtain ⟨y0, y1, y2⟩ := hSw; go_simp) | skip
              try with_reducible rfl
            try simp only [Act.put, List.getElem_toArray, List.getElem_cons_zero, List.setIfInBounds_toArray, List.set_cons_zero, List.set_cons_succ]
            refine AnyBut.takeS (i := 1) (v := ?v75) rfl (by kernel_rfl) (Nat.le_of_eq (by kernel_rfl)) (by kernel_rfl) (by kernel_rfl) (fun _ _ _ h => h) (HSS.out) (Or.inl ⟨by kernel_rfl, ?hy75⟩) ?r75
            case hy75 =>
              intro w hSw
              try dsimp only at hSw
              go_simp
              first | (obtain ⟨y0, y1, y2⟩ := hSw; go_simp) | skip
              try with_reducible rfl
            try simp only [Act.put, List.getElem_toArray, List.getElem_cons_succ, List.getElem_cons_zero, List.setIfInBounds_toArray, List.set_cons_zero, List.set_cons_succ]
            refine AnyBut.one (i := 2) (by kernel_rfl) rfl (fun K hK => ?_)
            go_simp
            go_wp2_with fail
            refine (HN.out _).mono ?_
            rintro e w9 ⟨rfl, rfl⟩
            go_wp2
            refine hK.out _ _ (HSS.out) ?_
            clear hK K
            try simp only [Act.put, List.getElem_toArray, List.getElem_cons_succ, List.getElem_cons_zero, List.setIfInBounds_toArray, List.set_cons_zero, List.set_cons_succ]
            refine AnyBut.takeS (i := 3) (v := ?v76) rfl (by kernel_rfl) (Nat.le_of_eq (by kernel_rfl)) (by kernel_rfl) (by kernel_rfl) (fun _ _ _ h => h) (HSS.out) (Or.inl ⟨by kernel_rfl, ?hy76⟩) ?r76
            case hy76 =>
              intro w hSw
              try dsimp only at hSw
              go_simp
              first | (obtain ⟨y0, y1, y2⟩ := hSw; go_simp) | skip
              try with_reducible rfl
            try simp only [Act.put, List.getElem_toArray, List.getElem_cons_succ, List.getElem_cons_zero, List.setIfInBounds_toArray, List.set_cons_zero, List.set_cons_succ]
            refine AnyBut.takeS (i := 4) (v := ?v77) rfl (by kernel_rfl) (Nat.le_of_eq (by kernel_rfl)) (by kernel_rfl) (by kernel_rfl) (fun _ _ _ h => h) (HSS.out) (Or.inl ⟨by kernel_rfl, ?hy77⟩) ?r77
            case hy77 =>
              intro w hSw
              try dsimp only at hSw
              go_simp
              first | (obtain ⟨y0, y1, y2⟩ := hSw; go_simp) | skip
              try with_reducible rfl
            try simp only [Act.put, List.getElem_toArray, List.getElem_cons_succ, List.getElem_cons_zero, List.setIfInBounds_toArray, List.set_cons_zero, List.set_cons_succ]
            refine AnyBut.takeS (i := 5) (v := ?v78) rfl (by kernel_rfl) (Nat.le_of_eq (by kernel_rfl)) (by kernel_rfl) (by kernel_rfl) (fun _ _ _ h => h) (HSS.out) (Or.inl ⟨by kernel_rfl, ?hy78⟩) ?r78
            case hy78 =>
              intro w hSw
              try dsimp only at hSw
              go_simp
              first | (obtain ⟨y0, y1, y2⟩ := hSw; go_simp) | skip
              try with_reducible rfl
            try simp only [Act.put, List.getElem_toArray, List.getElem_cons_succ, List.getElem_cons_zero, List.setIfInBounds_toArray, List.set_cons_zero, List.set_cons_succ]
            refine AnyBut.takeS (i := 6) (v := ?v79) rfl (by kernel_rfl) (Nat.le_of_eq (by kernel_rfl)) (by kernel_rfl) (by kernel_rfl) (fun _ _ _ h => h) (HSS.out) (Or.inl ⟨by kernel_rfl, ?hy79⟩) ?r79
            case hy79 =>
              intro w hSw
              try dsimp only at hSw
              go_simp
              first | (obtain ⟨y0, y1, y2⟩ := hSw; go_simp) | skip
              try with_reducible rfl
            try simp only [Act.put, List.getElem_toArray, List.getElem_cons_succ, List.getElem_cons_zero, List.setIfInBounds_toArray, List.set_cons_zero, List.set_cons_succ]
            refine AnyBut.takeS (i := 7) (v := ?v80) rfl (by kernel_rfl) (Nat.le_of_eq (by kernel_rfl)) (by kernel_rfl) (by kernel_rfl) (fun _ _ _ h => h) (HSS.out) (Or.inl ⟨by kernel_rfl, ?hy80⟩) ?r80
            case hy80 =>
              intro w hSw
              try dsimp only at hSw
              go_simp
              first | (obtain ⟨y0, y1, y2⟩ := hSw; go_simp) | skip
              try with_reducible rfl
            try simp only [Act.put, List.getElem_toArray, List.getElem_cons_succ, List.getElem_cons_zero, List.setIfInBounds_toArray, List.set_cons_zero, List.set_cons_succ]
            refine AnyBut.one (i := 8) (by kernel_rfl) rfl (fun K hK => ?_)
            go_simp
            go_wp2_with fail
            refine HHAS.out.mono ?_
            rintro e w2 ⟨rfl, k2⟩
            have K2 := Lib.hid ((Kept.refl (fun _ => False) wa).drew.trans k2)
            have HSS2 : Hid ((fun w' => w'.cell? ⟨q, 0, none⟩ = some (.string s) ∧ w'.cell? ⟨q, 1, none⟩ = some (.slice a bn bc) ∧ w'.cell? ⟨db, 2, none⟩ = some (.int .i64 (u : Int))) w2) := Lib.hid ⟨(HA.out.2.1.kept K2.out (fun x => x)).cell rfl, (HA.out.2.1.kept K2.out (fun x => x)).cell rfl, by rw [HU.out]; exact (HA.out.1.kept K2.out (fun _ _ x => x)).c.2.2.1⟩
            clear k2
            go_wp2
            refine hK.out _ _ (HSS2.out) ?_
            clear hK K
            try simp only [Act.put, List.getElem_toArray, List.getElem_cons_succ, List.getElem_cons_zero, List.setIfInBounds_toArray, List.set_cons_zero, List.set_cons_succ]
            refine AnyBut.takeS (i := 9) (v := ?v81) rfl (by kernel_rfl) (Nat.le_of_eq (by kernel_rfl)) (by kernel_rfl) (by kernel_rfl) (fun _ _ _ h => h) (HSS2.out) (Or.inl ⟨by kernel_rfl, ?hy81⟩) ?r81
            case hy81 =>
              intro w hSw
              try dsimp only at hSw
              go_simp
              first | (obtain ⟨y0, y1, y2⟩ := hSw; go_simp) | skip
              try with_reducible rfl
            try simp only [Act.put, List.getElem_toArray, List.getElem_cons_succ, List.getElem_cons_zero, List.setIfInBounds_toArray, List.set_cons_zero, List.set_cons_succ]
            refine AnyBut.takeS (i := 10) (v := ?v82) rfl (by kernel_rfl) (Nat.le_of_eq (by kernel_rfl)) (by kernel_rfl) (by kernel_rfl) (fun _ _ _ h => h) (HSS2.out) (Or.inl ⟨by kernel_rfl, ?hy82⟩) ?r82
            case hy82 =>
              intro w hSw
              try dsimp only at hSw
              go_simp
              first | (obtain ⟨y0, y1, y2⟩ := hSw; go_simp) | skip
              try with_reducible rfl
            try simp only [Act.put, List.getElem_toArray, List.getElem_cons_succ, List.getElem_cons_zero, List.setIfInBounds_toArray, List.set_cons_zero, List.set_cons_succ]
            refine AnyBut.takeS (i := 11) (v := ?v83) rfl (by kernel_rfl) (Nat.le_of_eq (by kernel_rfl)) (by kernel_rfl) (by kernel_rfl) (fun _ _ _ h => h) (HSS2.out) (Or.inl ⟨by kernel_rfl, ?hy83⟩) ?r83
            case hy83 =>
              intro w hSw
              try dsimp only at hSw
              go_simp
              first | (obtain ⟨y0, y1, y2⟩ := hSw; go_simp) | skip
              try with_reducible rfl
            try simp only [Act.put, List.getElem_toArray, List.getElem_cons_succ, List.getElem_cons_zero, List.setIfInBounds_toArray, List.set_cons_zero, List.set_cons_succ]
            refine AnyBut.takeS (i := 12) (v := ?v84) rfl (by kernel_rfl) (Nat.le_of_eq (by kernel_rfl)) (by kernel_rfl) (by kernel_rfl) (fun _ _ _ h => h) (HSS2.out) (Or.inl ⟨by kernel_rfl, ?hy84⟩) ?r84
            case hy84 =>
              intro w hSw
              try dsimp only at hSw
              go_simp
              first | (obtain ⟨y0, y1, y2⟩ := hSw; go_simp) | skip
              try with_reducible rfl
            try simp only [Act.put, List.getElem_toArray, List.getElem_cons_succ, List.getElem_cons_zero, List.setIfInBounds_toArray, List.set_cons_zero, List.set_cons_succ]
            refine AnyBut.takeS (i := 13) (v := ?v85) rfl (by kernel_rfl) (Nat.le_of_eq (by kernel_rfl)) (by kernel_rfl) (by kernel_rfl) (fun _ _ _ h => h) (HSS2.out) (Or.inl ⟨by kernel_rfl, ?hy85⟩) ?r85
            case hy85 =>
              intro w hSw
              try dsimp only at hSw
              go_simp
              first | (obtain ⟨y0, y1, y2⟩ := hSw; go_simp) | skip
              try with_reducible rfl
            try simp only [Act.put, List.getElem_toArray, List.getElem_cons_succ, List.getElem_cons_zero, List.setIfInBounds_toArray, List.set_cons_zero, List.set_cons_succ]
            refine AnyBut.takeS (i := 14) (v := ?v86) rfl (by kernel_rfl) (Nat.le_of_eq (by kernel_rfl)) (by kernel_rfl) (by kernel_rfl) (fun _ _ _ h => h) (HSS2.out) (Or.inl ⟨by kernel_rfl, ?hy86⟩) ?r86
            case hy86 =>
              intro w hSw
              try dsimp only at hSw
              go_simp
              first | (obtain ⟨y0, y1, y2⟩ := hSw; go_simp) | skip
              try with_reducible rfl
            try simp only [Act.put, List.getElem_toArray, List.getElem_cons_succ, List.getElem_cons_zero, List.setIfInBounds_toArray, List.set_cons_zero, List.set_cons_succ]
            refine AnyBut.takeS (i := 15) (v := ?v87) rfl (by kernel_rfl) (Nat.le_of_eq (by kernel_rfl)) (by kernel_rfl) (by kernel_rfl) (fun _ _ _ h => h) (HSS2.out) (Or.inl ⟨by kernel_rfl, ?hy87⟩) ?r87
            case hy87 =>
              intro w hSw
              try dsimp only at hSw
              go_simp
              first | (obtain ⟨y0, y1, y2⟩ := hSw; go_simp) | skip
              try with_reducible rfl
            try simp only [Act.put, List.getElem_toArray, List.getElem_cons_succ, List.getElem_cons_zero, List.setIfInBounds_toArray, List.set_cons_zero, List.set_cons_succ]
            refine AnyBut.takeS (i := 16) (v := ?v88) rfl (by kernel_rfl) (Nat.le_of_eq (by kernel_rfl)) (by kernel_rfl) (by kernel_rfl) (fun _ _ _ h => h) (HSS2.out) (Or.inl ⟨by kernel_rfl, ?hy88⟩) ?r88
            case hy88 =>
              intro w hSw
              try dsimp only at hSw
              go_simp
              first | (obtain ⟨y0, y1, y2⟩ := hSw; go_simp) | skip
              try with_reducible rfl
            try simp only [Act.put, List.getElem_toArray, List.getElem_cons_succ, List.getElem_cons_zero, List.setIfInBounds_toArray, List.set_cons_zero, List.set_cons_succ]
            refine AnyBut.takeS (i := 17) (v := ?v89) rfl (by kernel_rfl) (Nat.le_of_eq (by kernel_rfl)) (by kernel_rfl) (by kernel_rfl) (fun _ _ _ h => h) (HSS2.out) (Or.inl ⟨by kernel_rfl, ?hy89⟩) ?r89
            case hy89 =>
              intro w hSw
              try dsimp only at hSw
              go_simp
              first | (obtain ⟨y0, y1, y2⟩ := hSw; go_simp) | skip
              try with_reducible rfl
            try simp only [Act.put, List.getElem_toArray, List.getElem_cons_succ, List.getElem_cons_zero, List.setIfInBounds_toArray, List.set_cons_zero, List.set_cons_succ]
            refine AnyBut.takeS (i := 18) (v := ?v90) rfl (by kernel_rfl) (Nat.le_of_eq (by kernel_rfl)) (by kernel_rfl) (by kernel_rfl) (fun _ _ _ h => h) (HSS2.out) (Or.inl ⟨by kernel_rfl, ?hy90⟩) ?r90
            case hy90 =>
              intro w hSw
              try dsimp only at hSw
              go_simp
              first | (obtain ⟨y0, y1, y2⟩ := hSw; go_simp) | skip
              try with_reducible rfl
            try simp only [Act.put, List.getElem_toArray, List.getElem_cons_succ, List.getElem_cons_zero, List.setIfInBounds_toArray, List.set_cons_zero, List.set_cons_succ]
            refine AnyBut.takeS (i := 19) (v := ?v91) rfl (by kernel_rfl) (Nat.le_of_eq (by kernel_rfl)) (by kernel_rfl) (by kernel_rfl) (fun _ _ _ h => h) (HSS2.out) (Or.inl ⟨by kernel_rfl, ?hy91⟩) ?r91
            case hy91 =>
              intro w hSw
              try dsimp only at hSw
              go_simp
              first | (obtain ⟨y0, y1, y2⟩ := hSw; go_simp) | skip
              try with_reducible rfl
            try simp only [Act.put, List.getElem_toArray, List.getElem_cons_succ, List.getElem_cons_zero, List.setIfInBounds_toArray, List.set_cons_zero, List.set_cons_succ]
            refine AnyBut.takeS (i := 20) (v := ?v92) rfl (by kernel_rfl) (Nat.le_of_eq (by kernel_rfl)) (by kernel_rfl) (by kernel_rfl) (fun _ _ _ h => h) (HSS2.out) (Or.inl ⟨by kernel_rfl, ?hy92⟩) ?r92
            case hy92 =>
              intro w hSw
              try dsimp only at hSw
              go_simp
              first | (obtain ⟨y0, y1, y2⟩ := hSw; go_simp) | skip
              try with_reducible rfl
            try simp only [Act.put, List.getElem_toArray, List.getElem_cons_succ, List.getElem_cons_zero, List.setIfInBounds_toArray, List.set_cons_zero, List.set_cons_succ]
            refine AnyBut.takeS (i := 21) (v := ?v93) rfl (by kernel_rfl) (Nat.le_of_eq (by kernel_rfl)) (by kernel_rfl) (by kernel_rfl) (fun _ _ _ h => h) (HSS2.out) (Or.inl ⟨by kernel_rfl, ?hy93⟩) ?r93
            case hy93 =>
              intro w hSw
              try dsimp only at hSw
              go_simp
              first | (obtain ⟨y0, y1, y2⟩ := hSw; go_simp) | skip
              try with_reducible rfl
            try simp only [Act.put, List.getElem_toArray, List.getElem_cons_succ, List.getElem_cons_zero, List.setIfInBounds_toArray, List.set_cons_zero, List.set_cons_succ]
            refine AnyBut.done (by kernel_rfl) ?_
            have HE := Lib.hid (newL_some (cap := cap) (r := (F.map AF.t).drop (i + 1)) (M := M) (s := s) (b := b) (by rw [HB.out.1]; have := HU.out; have := HBN.out; rintro (e | e | e); (· cases e); (· have hgg : (getM (freshD cap M).L s).isSome = true := e; rw [HB.out.2] at hgg; cases hgg); omega))
            have HDOK : Hid (DOk (freshD cap (putS M s ⟨b, b.length⟩)) ∧ getM M s = none) := Lib.hid (by
              have hgg : getM M s = none := by
                have e : (getM M s).isSome = false := HB.out.2
                cases hx : getM M s
                · rfl
                · rw [hx] at e; cases e
              exact ⟨fresh_put HA.out.1.ok HB.out.1 hgg (by have := HNL.out.2; have := HNS.out; have := HI.out; omega) (by have := HU.out; have := HBN.out; omega) HFO.out.byte, hgg⟩)
            obtain ⟨w3, hw3⟩ : ∃ w3, w3 = w2 := ⟨_, rfl⟩
            have hk23 : Kept (fun _ => False) wa w3 := by rw [hw3]; exact K2.out
            have h3 := HA.out.1.kept hk23 (fun _ _ x => x)
            have hq3 := HA.out.2.1.kept hk23 (fun x => x)
            have HQM : Hid (¬ q = mb) := Lib.hid (fun e => by have := HA.out.1.map.notCells HA.out.2.1; exact this e)
            have HCT : Hid (Li.length ≤ 4096) := Lib.hid (by have := h3.len; have := h3.ok.count; omega)
            have HCL := Lib.hid (bcloneN_any a bn bc b HBN.out.symm w3.drew (HA.out.2.2.1.kept (HA.out.2.2.2.1.trans (HA.out.2.2.2.2.trans (hk23.trans ((Kept.refl (fun _ => False) w3).drew)))) (fun _ _ x => x)) (by have := HCR.out; omega))
            have H3 := Lib.hid (And.intro h3 hq3)
            have HKK := Lib.hid (hkr.trans (HA.out.2.2.2.2.trans hk23))
            have c30 := h3.c.1
            have q30 : w3.cell? ⟨q, 0, none⟩ = some (.string s) := hq3.cell rfl
            have q31 : w3.cell? ⟨q, 1, none⟩ = some (.slice a bn bc) := hq3.cell rfl
            rw [← hw3]
            clear hk23 h3 hq3 hkr hw3
            go_upto_region 9 with fail
            have HS93 : Hid ((fun w' => w'.cell? ⟨q, 0, none⟩ = some (.string s) ∧ w'.cell? ⟨q, 1, none⟩ = some (.slice a bn bc) ∧ w'.cell? ⟨db, 0, none⟩ = some (.map (some mb))) w3.drew) := Lib.hid ⟨q30, q31, c30⟩
            refine AnyBut.start (S := fun w' => w'.cell? ⟨q, 0, none⟩ = some (.string s) ∧ w'.cell? ⟨q, 1, none⟩ = some (.slice a bn bc) ∧ w'.cell? ⟨db, 0, none⟩ = some (.map (some mb))) (k := 13) (by kernel_rfl) ?_
            refine AnyBut.take (i := 0) (v := ?v1) rfl (by kernel_rfl) (by kernel_rfl) (by kernel_rfl) (by kernel_rfl) (fun _ _ _ h => h) (HS93.out) (Or.inl ⟨by kernel_rfl, ?hy1⟩) ?r1
            case hy1 =>
              intro w hSw
              try dsimp only at hSw
              go_simp
              first | (obtain ⟨y0, y1, y2⟩ := hSw; go_simp) | skip
              try with_reducible rfl
            try simp only [Act.put, List.getElem_toArray, List.getElem_cons_zero, List.setIfInBounds_toArray, List.set_cons_zero, List.set_cons_succ]
            refine AnyBut.take (i := 1) (v := ?v2) rfl (by kernel_rfl) (by kernel_rfl) (by kernel_rfl) (by kernel_rfl) (fun _ _ _ h => h) (HS93.out) (Or.inl ⟨by kernel_rfl, ?hy2⟩) ?r2
            case hy2 =>
              intro w hSw
              try dsimp only at hSw
              go_simp
              first | (obtain ⟨y0, y1, y2⟩ := hSw; go_simp) | skip
              try with_reducible rfl
            try simp only [Act.put, List.getElem_toArray, List.getElem_cons_succ, List.getElem_cons_zero, List.setIfInBounds_toArray, List.set_cons_zero, List.set_cons_succ]
            refine AnyBut.take (i := 2) (v := ?v3) rfl (by kernel_rfl) (by kernel_rfl) (by kernel_rfl) (by kernel_rfl) (fun _ _ _ h => h) (HS93.out) (Or.inl ⟨by kernel_rfl, ?hy3⟩) ?r3
            case hy3 =>
              intro w hSw
              try dsimp only at hSw
              go_simp
              first | (obtain ⟨y0, y1, y2⟩ := hSw; go_simp) | skip
              try with_reducible rfl
            try simp only [Act.put, List.getElem_toArray, List.getElem_cons_succ, List.getElem_cons_zero, List.setIfInBounds_toArray, List.set_cons_zero, List.set_cons_succ]
            refine AnyBut.take (i := 3) (v := ?v4) rfl (by kernel_rfl) (by kernel_rfl) (by kernel_rfl) (by kernel_rfl) (fun _ _ _ h => h) (HS93.out) (Or.inl ⟨by kernel_rfl, ?hy4⟩) ?r4
            case hy4 =>
              intro w hSw
              try dsimp only at hSw
              go_simp
              first | (obtain ⟨y0, y1, y2⟩ := hSw; go_simp) | skip
              try with_reducible rfl
            try simp only [Act.put, List.getElem_toArray, List.getElem_cons_succ, List.getElem_cons_zero, List.setIfInBounds_toArray, List.set_cons_zero, List.set_cons_succ]
            refine AnyBut.take (i := 4) (v := ?v5) rfl (by kernel_rfl) (by kernel_rfl) (by kernel_rfl) (by kernel_rfl) (fun _ _ _ h => h) (HS93.out) (Or.inl ⟨by kernel_rfl, ?hy5⟩) ?r5
            case hy5 =>
              intro w hSw
              try dsimp only at hSw
              go_simp
              first | (obtain ⟨y0, y1, y2⟩ := hSw; go_simp) | skip
              try with_reducible rfl
            try simp only [Act.put, List.getElem_toArray, List.getElem_cons_succ, List.getElem_cons_zero, List.setIfInBounds_toArray, List.set_cons_zero, List.set_cons_succ]
            refine AnyBut.take (i := 5) (v := ?v6) rfl (by kernel_rfl) (by kernel_rfl) (by kernel_rfl) (by kernel_rfl) (fun _ _ _ h => h) (HS93.out) (Or.inl ⟨by kernel_rfl, ?hy6⟩) ?r6
            case hy6 =>
              intro w hSw
              try dsimp only at hSw
              go_simp
              first | (obtain ⟨y0, y1, y2⟩ := hSw; go_simp) | skip
              try with_reducible rfl
            try simp only [Act.put, List.getElem_toArray, List.getElem_cons_succ, List.getElem_cons_zero, List.setIfInBounds_toArray, List.set_cons_zero, List.set_cons_succ]
            refine AnyBut.take (i := 6) (v := ?v7) rfl (by kernel_rfl) (by kernel_rfl) (by kernel_rfl) (by kernel_rfl) (fun _ _ _ h => h) (HS93.out) (Or.inl ⟨by kernel_rfl, ?hy7⟩) ?r7
            case hy7 =>
              intro w hSw
              try dsimp only at hSw
              go_simp
              first | (obtain ⟨y0, y1, y2⟩ := hSw; go_simp) | skip
              try with_reducible rfl
            try simp only [Act.put, List.getElem_toArray, List.getElem_cons_succ, List.getElem_cons_zero, List.setIfInBounds_toArray, List.set_cons_zero, List.set_cons_succ]
            refine AnyBut.take (i := 7) (v := ?v8) rfl (by kernel_rfl) (by kernel_rfl) (by kernel_rfl) (by kernel_rfl) (fun _ _ _ h => h) (HS93.out) (Or.inl ⟨by kernel_rfl, ?hy8⟩) ?r8
            case hy8 =>
              intro w hSw
              try dsimp only at hSw
              go_simp
              first | (obtain ⟨y0, y1, y2⟩ := hSw; go_simp) | skip
              try with_reducible rfl
            try simp only [Act.put, List.getElem_toArray, List.getElem_cons_succ, List.getElem_cons_zero, List.setIfInBounds_toArray, List.set_cons_zero, List.set_cons_succ]
            refine AnyBut.take (i := 9) (v := ?v9) rfl (by kernel_rfl) (by kernel_rfl) (by kernel_rfl) (by kernel_rfl) (fun _ _ _ h => h) (HS93.out) (Or.inl ⟨by kernel_rfl, ?hy9⟩) ?r9
            case hy9 =>
              intro w hSw
              try dsimp only at hSw
              go_simp
              first | (obtain ⟨y0, y1, y2⟩ := hSw; go_simp) | skip
              try with_reducible rfl
            try simp only [Act.put, List.getElem_toArray, List.getElem_cons_succ, List.getElem_cons_zero, List.setIfInBounds_toArray, List.set_cons_zero, List.set_cons_succ]
            refine AnyBut.take (i := 10) (v := ?v10) rfl (by kernel_rfl) (by kernel_rfl) (by kernel_rfl) (by kernel_rfl) (fun _ _ _ h => h) (HS93.out) (Or.inl ⟨by kernel_rfl, ?hy10⟩) ?r10
            case hy10 =>
              intro w hSw
              try dsimp only at hSw
              go_simp
              first | (obtain ⟨y0, y1, y2⟩ := hSw; go_simp) | skip
              try with_reducible rfl
            try simp only [Act.put, List.getElem_toArray, List.getElem_cons_succ, List.getElem_cons_zero, List.setIfInBounds_toArray, List.set_cons_zero, List.set_cons_succ]
            refine AnyBut.take (i := 11) (v := ?v11) rfl (by kernel_rfl) (by kernel_rfl) (by kernel_rfl) (by kernel_rfl) (fun _ _ _ h => h) (HS93.out) (Or.inl ⟨by kernel_rfl, ?hy11⟩) ?r11
            case hy11 =>
              intro w hSw
              try dsimp only at hSw
              go_simp
              first | (obtain ⟨y0, y1, y2⟩ := hSw; go_simp) | skip
              try with_reducible rfl
            try simp only [Act.put, List.getElem_toArray, List.getElem_cons_succ, List.getElem_cons_zero, List.setIfInBounds_toArray, List.set_cons_zero, List.set_cons_succ]
            refine AnyBut.one (i := 8) (by kernel_rfl) rfl (fun K hK => ?_)
            go_simp
            go_wp2_with fail
            refine HCL.out.mono ?_
            rintro e w4 ⟨a', c', rfl, hm4⟩
            have hk4' := (Kept.refl (fun _ => False) w3).drew.trans hm4.kept
            have HS94 : Hid ((fun w' => w'.cell? ⟨q, 0, none⟩ = some (.string s) ∧ w'.cell? ⟨q, 1, none⟩ = some (.slice a bn bc) ∧ w'.cell? ⟨db, 0, none⟩ = some (.map (some mb))) w4) := Lib.hid ⟨(H3.out.2.kept hk4' (fun x => x)).cell rfl, (H3.out.2.kept hk4' (fun x => x)).cell rfl, (H3.out.1.kept hk4' (fun _ _ x => x)).c.1⟩
            obtain ⟨w5, hu5, hm5, hk5⟩ := (H3.out.1.kept hk4' (fun _ _ x => x)).map.update Tryd.underlying9 Tryd.underlying109 HS.out (⟨a', c', b, bn⟩ : Fi).val (by have := HCT.out; unfold mapM maxLen; rw [List.length_map]; omega)
            have HM4 := Lib.hid (And.intro hm4 (And.intro hk4' (And.intro hm5 hk5)))
            replace hu5 : (Instr.mapUpdate 109 (.map (some mb)) (.string s) (.agg #[.slice a' bn c', .int .i64 (bn : Int)])).run Tryd.prog w4 = .ok () w5 := (by unfold Fi.val at hu5; simp only [← HBN.out] at hu5; exact hu5)
            have c52 : w5.cell? ⟨db, 2, none⟩ = some (.int .i64 (u : Int)) := (by rw [HU.out]; exact ((H3.out.1.box.kept hk4' (fun x => x)).kept hk5 H3.out.1.ne).cell rfl)
            have f52 := (((H3.out.1.box.kept hk4' (fun x => x)).kept hk5 H3.out.1.ne)).fz 2
            have q51 : w5.cell? ⟨q, 1, none⟩ = some (.slice a bn bc) := ((H3.out.2.kept hk4' (fun x => x)).kept hk5 HQM.out).cell rfl
            clear hm4 hk4' hm5 hk5
            go_wp2
            refine hK.out _ _ (HS94.out) ?_
            clear hK K
            try simp only [Act.put, List.getElem_toArray, List.getElem_cons_succ, List.getElem_cons_zero, List.setIfInBounds_toArray, List.set_cons_zero, List.set_cons_succ]
            refine AnyBut.take (i := 12) (v := ?v12) rfl (by kernel_rfl) (by kernel_rfl) (by kernel_rfl) (by kernel_rfl) (fun _ _ _ h => h) (HS94.out) (Or.inl ⟨by kernel_rfl, ?hy12⟩) ?r12
            case hy12 =>
              intro w hSw
              try dsimp only at hSw
              go_simp
              first | (obtain ⟨y0, y1, y2⟩ := hSw; go_simp) | skip
              try with_reducible rfl
            try simp only [Act.put, List.getElem_toArray, List.getElem_cons_succ, List.getElem_cons_zero, List.setIfInBounds_toArray, List.set_cons_zero, List.set_cons_succ]
            refine AnyBut.last (by kernel_rfl) rfl (by kernel_rfl) (fun K hK => ?_)
            go_simp
            refine hK.out _ _ ?_
            clear hK K
            try simp only [Act.put, List.getElem_toArray, List.getElem_cons_succ, List.getElem_cons_zero, List.setIfInBounds_toArray, List.set_cons_zero, List.set_cons_succ]
            try simp only [Act.put]
            go_upto_region 10 with fail
            go_region
            go_wp2
            go_roundg (n - (i + 1))
            case measure => have := HI.out; omega
            case rel =>
              obtain ⟨m4, k4, m5, k5⟩ := HM4.out
              have hlf : lookF Li s = nilFile := lookF_none (by
                have e := H3.out.1.get s
                have e2 : getM (freshD cap M).L s = none := HDOK.out.2
                rw [e2] at e
                cases hx : getM Li s
                · rfl
                · rw [hx] at e; cases e)
              have b5 : BoxAt w5 db 111 (boxD mb (freshD cap M)) := (H3.out.1.box.kept k4 (fun x => x)).kept k5 H3.out.1.ne
              have hown4 : OwnB w.heap.size w4 (⟨a', c', b, bn⟩ : Fi) := by
                refine OwnB.ofOwn (n := bn) HBN.out.symm ?_ bn
                have := (m4.down (HKK.out.trans ((Kept.refl (fun _ => False) w3).drew))).own
                rw [byV_length, ← HBN.out] at this
                exact this
              have hnb : ∀ k, (⟨a', c', b, bn⟩ : Fi).v.ownBlock = some k → k ≠ mb ∧ k ≠ db ∧ w3.heap.size ≤ k := fun k e => by
                have e' : (Value.slice a' bn c').ownBlock = some k := by unfold Fi.v at e; cases a' <;> exact e
                have h6 : w3.heap.size ≤ k := (ownsRow_lt m4.own e').2
                have h7 := H3.out.1.box.lt
                have h8 := H3.out.1.map.lt
                exact ⟨by omega, by omega, h6⟩
              have k6 := kept_set w5 db 2 (.int .i64 ((u : Int) + (bn : Int)))
              have hput := H3.out.1.put (s := s) (f := ⟨a', c', b, bn⟩) (D' := freshD cap (putS M s ⟨b, b.length⟩)) (w' := (w5.setCell ⟨db, 2, none⟩ (.int .i64 ((u : Int) + (bn : Int)))).drew) HDOK.out.1 (by rw [← HBN.out]; rfl) (by
                  have e := usedL_put H3.out.1.ok.asc.pair s ⟨b, b.length⟩
                  have e2 : getM (freshD cap M).L s = none := HDOK.out.2
                  rw [e2] at e
                  simp only [szM, freshD] at e
                  have := HU.out
                  have := HBN.out
                  exact (usedBox (M := putS M s ⟨b, b.length⟩) b5 (by omega) rfl).kept ((Kept.refl (fun _ => False) _).drew) (fun x => x)) ((m5.kept k6 (fun e => H3.out.1.ne e.symm)).kept ((Kept.refl (fun _ => False) _).drew) (fun x => x))
                  (((hown4.kept k5 (fun k e => (hnb k e).1)).kept k6 (fun k e => (hnb k e).2.1)).kept ((Kept.refl (fun _ => False) _).drew) (fun _ _ x => x))
                  ((((k4.mono (fun _ _ x => x.elim)).trans (k5.mono (fun k _ e => .inr (.inl e)))).trans (k6.mono (fun k _ e => .inl e))).drew) (fun k e => .inr (hnb k e).2.2)
              have hfin : newL cap (F.map AF.t) [] = newL cap ((F.map AF.t).drop (i + 1)) (putS M s ⟨b, b.length⟩) := by
                rw [HNL.out.1, show (⟨s, a, bc, b⟩ : AF).t = (s, b) from rfl, HE.out]
              have hl2 : (putS M s ⟨b, b.length⟩).length ≤ i + 1 := by
                have e2 := len_put H3.out.1.ok.asc.pair s (⟨b, b.length⟩ : PF)
                have e3 := len_del H3.out.1.ok.asc.pair s
                have := HNL.out.2
                simp only [freshD] at e2 e3
                omega
              refine ⟨i + 1, HI.out, rfl, rfl, _, _, hfin, hl2, hput.1, HKK.out.step (S' := foot db mb Li) hput.2.1 (fun k hk x => ?_)⟩
              have := (H3.out.1.lt x).2
              omega
    · have hdi : ¬ (i : Int) < (n : Int) := by omega
      have hie : i = n := by omega
      subst hie
      have hdrop : (F.map AF.t).drop i = [] := List.drop_eq_nil_of_le (by rw [List.length_map, HF.out.1]; exact Nat.le_refl _)
      rw [hdrop] at hnl
      have HR := Lib.hid (show NewTo w (newD (F.map AF.t) cap) (.returned (.pointer (some ⟨db, 0, none⟩))) wr from by
        rw [HX.out, hnl]
        exact ⟨fun e => (by cases e), fun D e => by
          injection e with e
          subst e
          exact ⟨db, mb, Li, rfl, hr, hkr⟩⟩)
      clear hr hkr hnl hdrop hin hd
      go_wp2
      go_ret
      exact HR.out
end Go.Proofs.YtficodklidaheaaDoor
