/- Texts put together: SW. -/
import Derived.Test.YtficodklidaheaaDoorZz27
import Derived.Test.YtficodklidaheaaDoorZz16
import Derived.Test.YtficodklidaheaaDoorZz28
import Derived.Test.YtficodklidaheaaDoorZz17
import Derived.Test.YtficodklidaheaaDoorZz19
/- Layer 18: the document's New (written by tools/gen_XSW.py). -/
namespace Go.Proofs.YtficodklidaheaaDoor
open Go.RowKit
attribute [local go_sem ↓] Go.wp_at_zero Go.wp_at_succ

def RNewTo (w : World) (F : List AF) (r : Option DA) (e : Ending) (w' : World) : Prop :=
  (r = none → e = .returned (.pointer none) ∧ Kept (fun _ => False) w w') ∧ ∀ D, r = some D → ∃ rb ao cp LR, e = .returned (.pointer (some ⟨rb, 0, none⟩)) ∧ RK w' rb ao cp LR D ∧ Kept (fun _ => False) w w' ∧ w.heap.size ≤ rb ∧
    ∀ k, rfoot rb ao LR k → w.heap.size ≤ k ∨ ∃ f ∈ F, f.b ≠ [] ∧ (Value.slice f.a f.b.length f.c).ownBlock = some k
set_option maxRecDepth 100000 in
set_option maxHeartbeats 8000000 in
theorem refNew_any (ao : Option Addr) (n c : Nat) (F : List AF) (hF : F.length = n) (cap : Int) (hn63 : n ≤ 9223372036854775807) (w : World) (hat : GAt cellsA 2 w ao F) (hok : ∀ f ∈ F, f.Ok w) :
    Calls Tryd.prog 38 #[.slice ao n c, .int .i64 cap] w (RNewTo w F (newD (F.map AF.t) cap)) := by
  have hFl : (F.map AF.t).length = n := by rw [List.length_map, hF]
  by_cases h1 : cap < 1
  · have HX := Lib.hid (newD_bad (F := F.map AF.t) (cap := cap) (.inl h1))
    have q1 : decide (cap < 1) = true := decide_eq_true h1
    clear hat hok hF hFl
    go_enter Tryd.func38, Tryd.ntmps38
    go_wp2
    go_ret
    rw [HX.out]
    exact ⟨fun _ => ⟨rfl, Kept.refl _ _⟩, fun D e => by cases e⟩
  by_cases h2 : 4194304 < cap
  · have HX := Lib.hid (newD_bad (F := F.map AF.t) (cap := cap) (.inr (.inl h2)))
    have q1 : decide (cap < 1) = false := decide_eq_false h1
    have q2 : decide (4194304 < cap) = true := decide_eq_true h2
    clear hat hok hF hFl
    go_enter Tryd.func38, Tryd.ntmps38
    go_wp2
    go_ret
    rw [HX.out]
    exact ⟨fun _ => ⟨rfl, Kept.refl _ _⟩, fun D e => by cases e⟩
  have q1 : decide (cap < 1) = false := decide_eq_false h1
  have q2 : decide (4194304 < cap) = false := decide_eq_false h2
  by_cases h3 : 4096 < n
  · have HX := Lib.hid (newD_bad (F := F.map AF.t) (cap := cap) (.inr (.inr (by rw [hFl]; exact h3))))
    have q3 : (4096 : Int) < (n : Int) := by omega
    have q3' : decide (4096 < n) = true := decide_eq_true h3
    clear hat hok hF hFl
    go_enter Tryd.func38, Tryd.ntmps38
    go_wp2
    go_ret
    rw [HX.out]
    exact ⟨fun _ => ⟨rfl, Kept.refl _ _⟩, fun D e => by cases e⟩
  have q3 : ¬ (4096 : Int) < (n : Int) := by omega
  have q3' : decide (4096 < n) = false := decide_eq_false h3
  have HX := Lib.hid (newD_good (F := F.map AF.t) (cap := cap) (by rw [hFl]; omega))
  have HCR := Lib.hid (show 1 ≤ cap ∧ cap ≤ 4194304 from ⟨by omega, by omega⟩)
  have HNS := Lib.hid (show n ≤ 4096 by omega)
  have HF := Lib.hid (And.intro hF (And.intro hat hok))
  obtain ⟨rb, hrb⟩ : ∃ q, q = w.heap.size := ⟨_, rfl⟩
  obtain ⟨w0, hw0⟩ : ∃ w0, w0 = w.alloc (.cells #[.slice none 0 0, .int .i64 cap, .bool false, .int .i64 0, .int .i64 (-1), .int .i64 (-1), .int .i64 0] 83) := ⟨_, rfl⟩
  have k0 : Kept (fun _ => False) w w0 := by rw [hw0]; exact (Kept.refl _ _).alloc _
  have H0 := Lib.hid (show RK w0 rb none 0 [] (freshD cap []) from ⟨by rw [hw0, hrb]; exact BoxAt.new w _ _, fun h => absurd h (by simp), Nat.le_refl _, rfl, (by intro f hf; cases hf), fresh_ok HCR.out⟩)
  have HK0 := Lib.hid k0
  have HW := Lib.hid (And.intro hw0 hrb)
  clear hat hok hF hFl h1 h2 h3 hrb hw0 k0
  go_enter Tryd.func38, Tryd.ntmps38
  go_wp2
  rw [← HW.out.1, ← HW.out.2]
  go_loopg [6] n (fun g s6 wr => ∃ i : Nat, i ≤ n ∧ g = n - i ∧ s6 = .int .i64 i ∧ ∃ M ax cx LR, newL cap (F.map AF.t) [] = newL cap ((F.map AF.t).drop i) M ∧ M.length ≤ i ∧ RK wr rb ax cx LR (freshD cap M) ∧ Kept (fun _ => False) w wr ∧
    ∀ k, rfoot rb ax LR k → w.heap.size ≤ k ∨ ∃ f ∈ F, f.b ≠ [] ∧ (Value.slice f.a f.b.length f.c).ownBlock = some k)
  case atStart => exact ⟨0, Nat.zero_le _, rfl, rfl, [], none, 0, [], rfl, Nat.le_refl _, H0.out, HK0.out, fun k hk => by
    rcases hk with hk | ⟨hk, _⟩ | ⟨f, hk, _⟩
    · exact .inl (by rw [hk, HW.out.2]; exact Nat.le_refl _)
    · exact absurd rfl hk
    · cases hk⟩
  case round =>
    obtain ⟨i, hin, rfl, rfl, M, ax, cx, LR, hnl, hml, hr, hkr, hft⟩ := hrel
    by_cases hd : i < n
    · have hdi : (i : Int) < (n : Int) := by omega
      have HI := Lib.hid hd
      have wi : IntKind.i64.wrap ((i : Int) + 1) = ((i + 1 : Nat) : Int) := by have := HNS.out; rw [IntWalk.i64_in _ ⟨by omega, by omega⟩]; omega
      obtain ⟨f, hf⟩ : ∃ f, F[i]? = some f := ⟨_, List.getElem?_eq_getElem (by have := HF.out.1; omega)⟩
      have hmem := List.mem_of_getElem? hf
      have hfo := HF.out.2.2 f hmem
      have hdr : (F.map AF.t).drop i = f.t :: (F.map AF.t).drop (i + 1) := drop_eq (by rw [List.getElem?_map, hf]; rfl)
      rw [hdr] at hnl
      obtain ⟨gg, oo, hga, hgc⟩ := (HF.out.2.1.kept hkr) (by have := HF.out.1; omega)
      subst hga
      have g0 := hgc i f hf 0 (.string f.nm) rfl
      have g1 := hgc i f hf 1 (.slice f.a f.b.length f.c) rfl
      rw [Nat.add_zero] at g0
      obtain ⟨s, a, bc, b⟩ := f
      simp only at g0 g1
      have HMEM := Lib.hid hmem
      obtain ⟨bn, hbn⟩ : ∃ bn, bn = b.length := ⟨_, rfl⟩
      rw [← hbn] at g1
      have HBN := Lib.hid hbn
      have HFO := Lib.hid hfo
      have hfo1 := hfo.at_
      have hfoc := hfo.cap
      simp only at hfo1 hfoc
      rw [← hbn] at hfo1 hfoc
      have HNL := Lib.hid (And.intro hnl hml)
      obtain ⟨u, hu0⟩ : ∃ u, u = usedL M := ⟨_, rfl⟩
      have hus := hr.ok.used
      have hcap := hr.ok.capR
      simp only [freshD] at hus hcap
      rw [← hu0] at hus
      have HU := Lib.hid hu0
      have hu9 : u ≤ 4194304 := by omega
      obtain ⟨q, hq⟩ : ∃ q, q = wr.heap.size := ⟨_, rfl⟩
      obtain ⟨wa, hwa⟩ : ∃ wa, wa = wr.alloc (.cells #[.string s, .slice a bn bc] 46) := ⟨_, rfl⟩
      have ka : Kept (fun _ => False) wr wa := by rw [hwa]; exact (Kept.refl _ _).alloc _
      have kd : Kept (fun _ => False) wr wa.drew := ka.trans ((Kept.refl _ _).drew)
      have BA : BoxAt wa.drew q 46 #[.string s, .slice a bn bc] := (show BoxAt wa q 46 #[.string s, .slice a bn bc] by rw [hwa, hq]; exact BoxAt.new wr _ _).kept ((Kept.refl (fun _ => False) _).drew) (fun x => x)
      have ha := hr.kept kd (fun _ _ x => x)
      have HR := Lib.hid ha
      have HKF := Lib.hid (hkr.trans kd)
      have HFT := Lib.hid hft
      have HDAT := Lib.hid (And.intro (hfo1.kept (hkr.trans kd) (fun _ _ x => x)) hfoc)
      have HW2 := Lib.hid (And.intro hwa hq)
      have qA0 : wa.drew.cell? ⟨q, 0, none⟩ = some (.string s) := BA.cell rfl
      have qA1 : wa.drew.cell? ⟨q, 1, none⟩ = some (.slice a bn bc) := BA.cell rfl
      have HSS : Hid ((fun w' => w'.cell? ⟨q, 0, none⟩ = some (.string s) ∧ w'.cell? ⟨q, 1, none⟩ = some (.slice a bn bc)) wa.drew) := Lib.hid ⟨qA0, qA1⟩
      have hs : s.size ≤ maxLen := hfo.small
      have HS := Lib.hid hs
      have HN := Lib.hid (refName_any s wa.drew (by unfold maxLen at hs; omega))
      have HFI := Lib.hid (refFind_any rb ax cx LR (freshD cap M) s wa.drew ha)
      have HU9 := Lib.hid (refUsed_any rb ax cx LR (freshD cap M) wa.drew ha)
      rw [show usedL (freshD cap M).L = u from hu0.symm] at HU9
      clear hf hfo hdr hgc hbn hnl hml hu0 hus hcap hq hwa ka kd BA ha hfo1 hfoc hs hr hin hd hmem hft hkr
      cases hnm : nameB s with
      | false =>
        rw [hnm] at HN
        have HE := Lib.hid (newL_none (cap := cap) (r := (F.map AF.t).drop (i + 1)) (M := M) (s := s) (b := b) (.inl hnm))
        clear hnm
        go_upto_region 8 with fail
        rw [← HW2.out.1, ← HW2.out.2]
        refine AnyBut.start (S := fun w' => w'.cell? ⟨q, 0, none⟩ = some (.string s) ∧ w'.cell? ⟨q, 1, none⟩ = some (.slice a bn bc)) (k := 21) (by kernel_rfl) ?_
        refine AnyBut.takeS (i := 0) (v := ?v1) rfl (by kernel_rfl) (Nat.le_of_eq (by kernel_rfl)) (by kernel_rfl) (by kernel_rfl) (fun _ _ _ h => h) (HSS.out) (Or.inl ⟨by kernel_rfl, ?hy1⟩) ?r1
        case hy1 =>
          intro w hSw
          try dsimp only at hSw
          go_simp
          first | (obtain ⟨y0, y1⟩ := hSw; go_simp) | skip
          try with_reducible rfl
        try simp only [Act.put, List.getElem_toArray, List.getElem_cons_zero, List.setIfInBounds_toArray, List.set_cons_zero, List.set_cons_succ]
        refine AnyBut.takeS (i := 1) (v := ?v2) rfl (by kernel_rfl) (Nat.le_of_eq (by kernel_rfl)) (by kernel_rfl) (by kernel_rfl) (fun _ _ _ h => h) (HSS.out) (Or.inl ⟨by kernel_rfl, ?hy2⟩) ?r2
        case hy2 =>
          intro w hSw
          try dsimp only at hSw
          go_simp
          first | (obtain ⟨y0, y1⟩ := hSw; go_simp) | skip
          try with_reducible rfl
        try simp only [Act.put, List.getElem_toArray, List.getElem_cons_succ, List.getElem_cons_zero, List.setIfInBounds_toArray, List.set_cons_zero, List.set_cons_succ]
        refine AnyBut.one (i := 2) (by kernel_rfl) rfl (fun K hK => ?_)
        go_simp
        go_wp2_with fail
        refine HN.out.mono ?_
        rintro e w9 ⟨rfl, rfl⟩
        go_wp2
        refine hK.out _ _ (HSS.out) ?_
        clear hK K
        try simp only [Act.put, List.getElem_toArray, List.getElem_cons_succ, List.getElem_cons_zero, List.setIfInBounds_toArray, List.set_cons_zero, List.set_cons_succ]
        refine AnyBut.takeS (i := 3) (v := ?v3) rfl (by kernel_rfl) (Nat.le_of_eq (by kernel_rfl)) (by kernel_rfl) (by kernel_rfl) (fun _ _ _ h => h) (HSS.out) (Or.inl ⟨by kernel_rfl, ?hy3⟩) ?r3
        case hy3 =>
          intro w hSw
          try dsimp only at hSw
          go_simp
          first | (obtain ⟨y0, y1⟩ := hSw; go_simp) | skip
          try with_reducible rfl
        try simp only [Act.put, List.getElem_toArray, List.getElem_cons_succ, List.getElem_cons_zero, List.setIfInBounds_toArray, List.set_cons_zero, List.set_cons_succ]
        refine AnyBut.takeS (i := 4) (v := ?v4) rfl (by kernel_rfl) (Nat.le_of_eq (by kernel_rfl)) (by kernel_rfl) (by kernel_rfl) (fun _ _ _ h => h) (HSS.out) (Or.inl ⟨by kernel_rfl, ?hy4⟩) ?r4
        case hy4 =>
          intro w hSw
          try dsimp only at hSw
          go_simp
          first | (obtain ⟨y0, y1⟩ := hSw; go_simp) | skip
          try with_reducible rfl
        try simp only [Act.put, List.getElem_toArray, List.getElem_cons_succ, List.getElem_cons_zero, List.setIfInBounds_toArray, List.set_cons_zero, List.set_cons_succ]
        refine AnyBut.takeS (i := 5) (v := undef) rfl (by kernel_rfl) (Nat.le_of_eq (by kernel_rfl)) (by kernel_rfl) (by kernel_rfl) (fun _ _ _ h => h) (HSS.out) (Or.inr ⟨by kernel_rfl, rfl⟩) ?r5
        try simp only [Act.put, List.getElem_toArray, List.getElem_cons_succ, List.getElem_cons_zero, List.setIfInBounds_toArray, List.set_cons_zero, List.set_cons_succ]
        refine AnyBut.takeS (i := 6) (v := undef) rfl (by kernel_rfl) (Nat.le_of_eq (by kernel_rfl)) (by kernel_rfl) (by kernel_rfl) (fun _ _ _ h => h) (HSS.out) (Or.inr ⟨by kernel_rfl, rfl⟩) ?r6
        try simp only [Act.put, List.getElem_toArray, List.getElem_cons_succ, List.getElem_cons_zero, List.setIfInBounds_toArray, List.set_cons_zero, List.set_cons_succ]
        refine AnyBut.takeS (i := 7) (v := undef) rfl (by kernel_rfl) (Nat.le_of_eq (by kernel_rfl)) (by kernel_rfl) (by kernel_rfl) (fun _ _ _ h => h) (HSS.out) (Or.inr ⟨by kernel_rfl, rfl⟩) ?r7
        try simp only [Act.put, List.getElem_toArray, List.getElem_cons_succ, List.getElem_cons_zero, List.setIfInBounds_toArray, List.set_cons_zero, List.set_cons_succ]
        refine AnyBut.takeS (i := 8) (v := undef) rfl (by kernel_rfl) (Nat.le_of_eq (by kernel_rfl)) (by kernel_rfl) (by kernel_rfl) (fun _ _ _ h => h) (HSS.out) (Or.inr ⟨by kernel_rfl, rfl⟩) ?r8
        try simp only [Act.put, List.getElem_toArray, List.getElem_cons_succ, List.getElem_cons_zero, List.setIfInBounds_toArray, List.set_cons_zero, List.set_cons_succ]
        refine AnyBut.takeS (i := 9) (v := undef) rfl (by kernel_rfl) (Nat.le_of_eq (by kernel_rfl)) (by kernel_rfl) (by kernel_rfl) (fun _ _ _ h => h) (HSS.out) (Or.inr ⟨by kernel_rfl, rfl⟩) ?r9
        try simp only [Act.put, List.getElem_toArray, List.getElem_cons_succ, List.getElem_cons_zero, List.setIfInBounds_toArray, List.set_cons_zero, List.set_cons_succ]
        refine AnyBut.takeS (i := 10) (v := ?v10) rfl (by kernel_rfl) (Nat.le_of_eq (by kernel_rfl)) (by kernel_rfl) (by kernel_rfl) (fun _ _ _ h => h) (HSS.out) (Or.inl ⟨by kernel_rfl, ?hy10⟩) ?r10
        case hy10 =>
          intro w hSw
          try dsimp only at hSw
          go_simp
          first | (obtain ⟨y0, y1⟩ := hSw; go_simp) | skip
          try with_reducible rfl
        try simp only [Act.put, List.getElem_toArray, List.getElem_cons_succ, List.getElem_cons_zero, List.setIfInBounds_toArray, List.set_cons_zero, List.set_cons_succ]
        refine AnyBut.takeS (i := 11) (v := ?v11) rfl (by kernel_rfl) (Nat.le_of_eq (by kernel_rfl)) (by kernel_rfl) (by kernel_rfl) (fun _ _ _ h => h) (HSS.out) (Or.inl ⟨by kernel_rfl, ?hy11⟩) ?r11
        case hy11 =>
          intro w hSw
          try dsimp only at hSw
          go_simp
          first | (obtain ⟨y0, y1⟩ := hSw; go_simp) | skip
          try with_reducible rfl
        try simp only [Act.put, List.getElem_toArray, List.getElem_cons_succ, List.getElem_cons_zero, List.setIfInBounds_toArray, List.set_cons_zero, List.set_cons_succ]
        refine AnyBut.takeS (i := 12) (v := undef) rfl (by kernel_rfl) (Nat.le_of_eq (by kernel_rfl)) (by kernel_rfl) (by kernel_rfl) (fun _ _ _ h => h) (HSS.out) (Or.inr ⟨by kernel_rfl, rfl⟩) ?r12
        try simp only [Act.put, List.getElem_toArray, List.getElem_cons_succ, List.getElem_cons_zero, List.setIfInBounds_toArray, List.set_cons_zero, List.set_cons_succ]
        refine AnyBut.takeS (i := 13) (v := undef) rfl (by kernel_rfl) (Nat.le_of_eq (by kernel_rfl)) (by kernel_rfl) (by kernel_rfl) (fun _ _ _ h => h) (HSS.out) (Or.inr ⟨by kernel_rfl, rfl⟩) ?r13
        try simp only [Act.put, List.getElem_toArray, List.getElem_cons_succ, List.getElem_cons_zero, List.setIfInBounds_toArray, List.set_cons_zero, List.set_cons_succ]
        refine AnyBut.takeS (i := 14) (v := undef) rfl (by kernel_rfl) (Nat.le_of_eq (by kernel_rfl)) (by kernel_rfl) (by kernel_rfl) (fun _ _ _ h => h) (HSS.out) (Or.inr ⟨by kernel_rfl, rfl⟩) ?r14
        try simp only [Act.put, List.getElem_toArray, List.getElem_cons_succ, List.getElem_cons_zero, List.setIfInBounds_toArray, List.set_cons_zero, List.set_cons_succ]
        refine AnyBut.takeS (i := 15) (v := undef) rfl (by kernel_rfl) (Nat.le_of_eq (by kernel_rfl)) (by kernel_rfl) (by kernel_rfl) (fun _ _ _ h => h) (HSS.out) (Or.inr ⟨by kernel_rfl, rfl⟩) ?r15
        try simp only [Act.put, List.getElem_toArray, List.getElem_cons_succ, List.getElem_cons_zero, List.setIfInBounds_toArray, List.set_cons_zero, List.set_cons_succ]
        refine AnyBut.takeS (i := 16) (v := undef) rfl (by kernel_rfl) (Nat.le_of_eq (by kernel_rfl)) (by kernel_rfl) (by kernel_rfl) (fun _ _ _ h => h) (HSS.out) (Or.inr ⟨by kernel_rfl, rfl⟩) ?r16
        try simp only [Act.put, List.getElem_toArray, List.getElem_cons_succ, List.getElem_cons_zero, List.setIfInBounds_toArray, List.set_cons_zero, List.set_cons_succ]
        refine AnyBut.takeS (i := 17) (v := undef) rfl (by kernel_rfl) (Nat.le_of_eq (by kernel_rfl)) (by kernel_rfl) (by kernel_rfl) (fun _ _ _ h => h) (HSS.out) (Or.inr ⟨by kernel_rfl, rfl⟩) ?r17
        try simp only [Act.put, List.getElem_toArray, List.getElem_cons_succ, List.getElem_cons_zero, List.setIfInBounds_toArray, List.set_cons_zero, List.set_cons_succ]
        refine AnyBut.takeS (i := 18) (v := undef) rfl (by kernel_rfl) (Nat.le_of_eq (by kernel_rfl)) (by kernel_rfl) (by kernel_rfl) (fun _ _ _ h => h) (HSS.out) (Or.inr ⟨by kernel_rfl, rfl⟩) ?r18
        try simp only [Act.put, List.getElem_toArray, List.getElem_cons_succ, List.getElem_cons_zero, List.setIfInBounds_toArray, List.set_cons_zero, List.set_cons_succ]
        refine AnyBut.takeS (i := 19) (v := undef) rfl (by kernel_rfl) (Nat.le_of_eq (by kernel_rfl)) (by kernel_rfl) (by kernel_rfl) (fun _ _ _ h => h) (HSS.out) (Or.inr ⟨by kernel_rfl, rfl⟩) ?r19
        try simp only [Act.put, List.getElem_toArray, List.getElem_cons_succ, List.getElem_cons_zero, List.setIfInBounds_toArray, List.set_cons_zero, List.set_cons_succ]
        refine AnyBut.takeS (i := 20) (v := ?v20) rfl (by kernel_rfl) (Nat.le_of_eq (by kernel_rfl)) (by kernel_rfl) (by kernel_rfl) (fun _ _ _ h => h) (HSS.out) (Or.inl ⟨by kernel_rfl, ?hy20⟩) ?r20
        case hy20 =>
          intro w hSw
          try dsimp only at hSw
          go_simp
          first | (obtain ⟨y0, y1⟩ := hSw; go_simp) | skip
          try with_reducible rfl
        try simp only [Act.put, List.getElem_toArray, List.getElem_cons_succ, List.getElem_cons_zero, List.setIfInBounds_toArray, List.set_cons_zero, List.set_cons_succ]
        refine AnyBut.done (by kernel_rfl) ?_
        go_wp2
        go_ret
        rw [HX.out, HNL.out.1, show (⟨s, a, bc, b⟩ : AF).t = (s, b) from rfl, HE.out]
        exact ⟨fun _ => ⟨rfl, HKF.out⟩, fun D e => by cases e⟩
      | true =>
        rw [hnm] at HN
        by_cases hg : getM M s = none
        · have HG := Lib.hid hg
          by_cases hsp : cap - (u : Int) < (bn : Int)
          · have HE := Lib.hid (newL_none (cap := cap) (r := (F.map AF.t).drop (i + 1)) (M := M) (s := s) (b := b) (.inr (.inr (by have := HU.out; have := HBN.out; omega))))
            have wsp : IntKind.i64.wrap (cap - (u : Int)) = cap - (u : Int) := by have := HCR.out; rw [IntWalk.i64_in _ ⟨by omega, by omega⟩]
            have qsp : decide (cap - (u : Int) < (bn : Int)) = true := decide_eq_true hsp
            clear hnm hg
            go_upto_region 8 with fail
            rw [← HW2.out.1, ← HW2.out.2]
            refine AnyBut.start (S := fun w' => w'.cell? ⟨q, 0, none⟩ = some (.string s) ∧ w'.cell? ⟨q, 1, none⟩ = some (.slice a bn bc)) (k := 21) (by kernel_rfl) ?_
            refine AnyBut.takeS (i := 0) (v := ?v40) rfl (by kernel_rfl) (Nat.le_of_eq (by kernel_rfl)) (by kernel_rfl) (by kernel_rfl) (fun _ _ _ h => h) (HSS.out) (Or.inl ⟨by kernel_rfl, ?hy40⟩) ?r40
            case hy40 =>
              intro w hSw
              try dsimp only at hSw
              go_simp
              first | (obtain ⟨y0, y1⟩ := hSw; go_simp) | skip
              try with_reducible rfl
            try simp only [Act.put, List.getElem_toArray, List.getElem_cons_zero, List.setIfInBounds_toArray, List.set_cons_zero, List.set_cons_succ]
            refine AnyBut.takeS (i := 1) (v := ?v41) rfl (by kernel_rfl) (Nat.le_of_eq (by kernel_rfl)) (by kernel_rfl) (by kernel_rfl) (fun _ _ _ h => h) (HSS.out) (Or.inl ⟨by kernel_rfl, ?hy41⟩) ?r41
            case hy41 =>
              intro w hSw
              try dsimp only at hSw
              go_simp
              first | (obtain ⟨y0, y1⟩ := hSw; go_simp) | skip
              try with_reducible rfl
            try simp only [Act.put, List.getElem_toArray, List.getElem_cons_succ, List.getElem_cons_zero, List.setIfInBounds_toArray, List.set_cons_zero, List.set_cons_succ]
            refine AnyBut.one (i := 2) (by kernel_rfl) rfl (fun K hK => ?_)
            go_simp
            go_wp2_with fail
            refine HN.out.mono ?_
            rintro e w9 ⟨rfl, rfl⟩
            go_wp2
            refine hK.out _ _ (HSS.out) ?_
            clear hK K
            try simp only [Act.put, List.getElem_toArray, List.getElem_cons_succ, List.getElem_cons_zero, List.setIfInBounds_toArray, List.set_cons_zero, List.set_cons_succ]
            refine AnyBut.takeS (i := 3) (v := ?v42) rfl (by kernel_rfl) (Nat.le_of_eq (by kernel_rfl)) (by kernel_rfl) (by kernel_rfl) (fun _ _ _ h => h) (HSS.out) (Or.inl ⟨by kernel_rfl, ?hy42⟩) ?r42
            case hy42 =>
              intro w hSw
              try dsimp only at hSw
              go_simp
              first | (obtain ⟨y0, y1⟩ := hSw; go_simp) | skip
              try with_reducible rfl
            try simp only [Act.put, List.getElem_toArray, List.getElem_cons_succ, List.getElem_cons_zero, List.setIfInBounds_toArray, List.set_cons_zero, List.set_cons_succ]
            refine AnyBut.takeS (i := 4) (v := ?v43) rfl (by kernel_rfl) (Nat.le_of_eq (by kernel_rfl)) (by kernel_rfl) (by kernel_rfl) (fun _ _ _ h => h) (HSS.out) (Or.inl ⟨by kernel_rfl, ?hy43⟩) ?r43
            case hy43 =>
              intro w hSw
              try dsimp only at hSw
              go_simp
              first | (obtain ⟨y0, y1⟩ := hSw; go_simp) | skip
              try with_reducible rfl
            try simp only [Act.put, List.getElem_toArray, List.getElem_cons_succ, List.getElem_cons_zero, List.setIfInBounds_toArray, List.set_cons_zero, List.set_cons_succ]
            refine AnyBut.takeS (i := 5) (v := ?v44) rfl (by kernel_rfl) (Nat.le_of_eq (by kernel_rfl)) (by kernel_rfl) (by kernel_rfl) (fun _ _ _ h => h) (HSS.out) (Or.inl ⟨by kernel_rfl, ?hy44⟩) ?r44
            case hy44 =>
              intro w hSw
              try dsimp only at hSw
              go_simp
              first | (obtain ⟨y0, y1⟩ := hSw; go_simp) | skip
              try with_reducible rfl
            try simp only [Act.put, List.getElem_toArray, List.getElem_cons_succ, List.getElem_cons_zero, List.setIfInBounds_toArray, List.set_cons_zero, List.set_cons_succ]
            refine AnyBut.takeS (i := 6) (v := ?v45) rfl (by kernel_rfl) (Nat.le_of_eq (by kernel_rfl)) (by kernel_rfl) (by kernel_rfl) (fun _ _ _ h => h) (HSS.out) (Or.inl ⟨by kernel_rfl, ?hy45⟩) ?r45
            case hy45 =>
              intro w hSw
              try dsimp only at hSw
              go_simp
              first | (obtain ⟨y0, y1⟩ := hSw; go_simp) | skip
              try with_reducible rfl
            try simp only [Act.put, List.getElem_toArray, List.getElem_cons_succ, List.getElem_cons_zero, List.setIfInBounds_toArray, List.set_cons_zero, List.set_cons_succ]
            refine AnyBut.takeS (i := 7) (v := ?v46) rfl (by kernel_rfl) (Nat.le_of_eq (by kernel_rfl)) (by kernel_rfl) (by kernel_rfl) (fun _ _ _ h => h) (HSS.out) (Or.inl ⟨by kernel_rfl, ?hy46⟩) ?r46
            case hy46 =>
              intro w hSw
              try dsimp only at hSw
              go_simp
              first | (obtain ⟨y0, y1⟩ := hSw; go_simp) | skip
              try with_reducible rfl
            try simp only [Act.put, List.getElem_toArray, List.getElem_cons_succ, List.getElem_cons_zero, List.setIfInBounds_toArray, List.set_cons_zero, List.set_cons_succ]
            refine AnyBut.one (i := 8) (by kernel_rfl) rfl (fun K hK => ?_)
            go_simp
            go_wp2_with fail
            refine HFI.out.mono ?_
            rintro e w9 ⟨z, rfl, hz, rfl⟩
            obtain rfl : z = -1 := by
              rcases hz.get HR.out with h9 | ⟨j, f, _, _, _, h9⟩
              · exact h9.1
              · rw [show getM (freshD cap M).L s = none from HG.out] at h9; cases h9
            clear hz
            go_wp2
            refine hK.out _ _ (HSS.out) ?_
            clear hK K
            try simp only [Act.put, List.getElem_toArray, List.getElem_cons_succ, List.getElem_cons_zero, List.setIfInBounds_toArray, List.set_cons_zero, List.set_cons_succ]
            refine AnyBut.takeS (i := 9) (v := ?v47) rfl (by kernel_rfl) (Nat.le_of_eq (by kernel_rfl)) (by kernel_rfl) (by kernel_rfl) (fun _ _ _ h => h) (HSS.out) (Or.inl ⟨by kernel_rfl, ?hy47⟩) ?r47
            case hy47 =>
              intro w hSw
              try dsimp only at hSw
              go_simp
              first | (obtain ⟨y0, y1⟩ := hSw; go_simp) | skip
              try with_reducible rfl
            try simp only [Act.put, List.getElem_toArray, List.getElem_cons_succ, List.getElem_cons_zero, List.setIfInBounds_toArray, List.set_cons_zero, List.set_cons_succ]
            refine AnyBut.takeS (i := 10) (v := ?v48) rfl (by kernel_rfl) (Nat.le_of_eq (by kernel_rfl)) (by kernel_rfl) (by kernel_rfl) (fun _ _ _ h => h) (HSS.out) (Or.inl ⟨by kernel_rfl, ?hy48⟩) ?r48
            case hy48 =>
              intro w hSw
              try dsimp only at hSw
              go_simp
              first | (obtain ⟨y0, y1⟩ := hSw; go_simp) | skip
              try with_reducible rfl
            try simp only [Act.put, List.getElem_toArray, List.getElem_cons_succ, List.getElem_cons_zero, List.setIfInBounds_toArray, List.set_cons_zero, List.set_cons_succ]
            refine AnyBut.takeS (i := 11) (v := ?v49) rfl (by kernel_rfl) (Nat.le_of_eq (by kernel_rfl)) (by kernel_rfl) (by kernel_rfl) (fun _ _ _ h => h) (HSS.out) (Or.inl ⟨by kernel_rfl, ?hy49⟩) ?r49
            case hy49 =>
              intro w hSw
              try dsimp only at hSw
              go_simp
              first | (obtain ⟨y0, y1⟩ := hSw; go_simp) | skip
              try with_reducible rfl
            try simp only [Act.put, List.getElem_toArray, List.getElem_cons_succ, List.getElem_cons_zero, List.setIfInBounds_toArray, List.set_cons_zero, List.set_cons_succ]
            refine AnyBut.takeS (i := 12) (v := ?v50) rfl (by kernel_rfl) (Nat.le_of_eq (by kernel_rfl)) (by kernel_rfl) (by kernel_rfl) (fun _ _ _ h => h) (HSS.out) (Or.inl ⟨by kernel_rfl, ?hy50⟩) ?r50
            case hy50 =>
              intro w hSw
              try dsimp only at hSw
              go_simp
              first | (obtain ⟨y0, y1⟩ := hSw; go_simp) | skip
              try with_reducible rfl
            try simp only [Act.put, List.getElem_toArray, List.getElem_cons_succ, List.getElem_cons_zero, List.setIfInBounds_toArray, List.set_cons_zero, List.set_cons_succ]
            refine AnyBut.takeS (i := 13) (v := ?v51) rfl (by kernel_rfl) (Nat.le_of_eq (by kernel_rfl)) (by kernel_rfl) (by kernel_rfl) (fun _ _ _ h => h) (HSS.out) (Or.inl ⟨by kernel_rfl, ?hy51⟩) ?r51
            case hy51 =>
              intro w hSw
              try dsimp only at hSw
              go_simp
              first | (obtain ⟨y0, y1⟩ := hSw; go_simp) | skip
              try with_reducible rfl
            try simp only [Act.put, List.getElem_toArray, List.getElem_cons_succ, List.getElem_cons_zero, List.setIfInBounds_toArray, List.set_cons_zero, List.set_cons_succ]
            refine AnyBut.takeS (i := 14) (v := ?v52) rfl (by kernel_rfl) (Nat.le_of_eq (by kernel_rfl)) (by kernel_rfl) (by kernel_rfl) (fun _ _ _ h => h) (HSS.out) (Or.inl ⟨by kernel_rfl, ?hy52⟩) ?r52
            case hy52 =>
              intro w hSw
              try dsimp only at hSw
              go_simp
              first | (obtain ⟨y0, y1⟩ := hSw; go_simp) | skip
              try with_reducible rfl
            try simp only [Act.put, List.getElem_toArray, List.getElem_cons_succ, List.getElem_cons_zero, List.setIfInBounds_toArray, List.set_cons_zero, List.set_cons_succ]
            refine AnyBut.takeS (i := 15) (v := ?v53) rfl (by kernel_rfl) (Nat.le_of_eq (by kernel_rfl)) (by kernel_rfl) (by kernel_rfl) (fun _ _ _ h => h) (HSS.out) (Or.inl ⟨by kernel_rfl, ?hy53⟩) ?r53
            case hy53 =>
              intro w hSw
              try dsimp only at hSw
              go_simp
              first | (obtain ⟨y0, y1⟩ := hSw; go_simp) | skip
              try with_reducible rfl
            try simp only [Act.put, List.getElem_toArray, List.getElem_cons_succ, List.getElem_cons_zero, List.setIfInBounds_toArray, List.set_cons_zero, List.set_cons_succ]
            refine AnyBut.takeS (i := 16) (v := ?v54) rfl (by kernel_rfl) (Nat.le_of_eq (by kernel_rfl)) (by kernel_rfl) (by kernel_rfl) (fun _ _ _ h => h) (HSS.out) (Or.inl ⟨by kernel_rfl, ?hy54⟩) ?r54
            case hy54 =>
              intro w hSw
              try dsimp only at hSw
              go_simp
              first | (obtain ⟨y0, y1⟩ := hSw; go_simp) | skip
              try with_reducible rfl
            try simp only [Act.put, List.getElem_toArray, List.getElem_cons_succ, List.getElem_cons_zero, List.setIfInBounds_toArray, List.set_cons_zero, List.set_cons_succ]
            refine AnyBut.one (i := 17) (by kernel_rfl) rfl (fun K hK => ?_)
            go_simp
            go_wp2_with fail
            refine HU9.out.mono ?_
            rintro e w9 ⟨rfl, rfl⟩
            go_wp2
            refine hK.out _ _ (HSS.out) ?_
            clear hK K
            try simp only [Act.put, List.getElem_toArray, List.getElem_cons_succ, List.getElem_cons_zero, List.setIfInBounds_toArray, List.set_cons_zero, List.set_cons_succ]
            refine AnyBut.takeS (i := 18) (v := ?v55) rfl (by kernel_rfl) (Nat.le_of_eq (by kernel_rfl)) (by kernel_rfl) (by kernel_rfl) (fun _ _ _ h => h) (HSS.out) (Or.inl ⟨by kernel_rfl, ?hy55⟩) ?r55
            case hy55 =>
              intro w hSw
              try dsimp only at hSw
              go_simp
              first | (obtain ⟨y0, y1⟩ := hSw; go_simp) | skip
              try with_reducible rfl
            try simp only [Act.put, List.getElem_toArray, List.getElem_cons_succ, List.getElem_cons_zero, List.setIfInBounds_toArray, List.set_cons_zero, List.set_cons_succ]
            refine AnyBut.takeS (i := 19) (v := ?v56) rfl (by kernel_rfl) (Nat.le_of_eq (by kernel_rfl)) (by kernel_rfl) (by kernel_rfl) (fun _ _ _ h => h) (HSS.out) (Or.inl ⟨by kernel_rfl, ?hy56⟩) ?r56
            case hy56 =>
              intro w hSw
              try dsimp only at hSw
              go_simp
              first | (obtain ⟨y0, y1⟩ := hSw; go_simp) | skip
              try with_reducible rfl
            try simp only [Act.put, List.getElem_toArray, List.getElem_cons_succ, List.getElem_cons_zero, List.setIfInBounds_toArray, List.set_cons_zero, List.set_cons_succ]
            refine AnyBut.takeS (i := 20) (v := ?v57) rfl (by kernel_rfl) (Nat.le_of_eq (by kernel_rfl)) (by kernel_rfl) (by kernel_rfl) (fun _ _ _ h => h) (HSS.out) (Or.inl ⟨by kernel_rfl, ?hy57⟩) ?r57
            case hy57 =>
              intro w hSw
              try dsimp only at hSw
              go_simp
              first | (obtain ⟨y0, y1⟩ := hSw; go_simp) | skip
              try with_reducible rfl
            try simp only [Act.put, List.getElem_toArray, List.getElem_cons_succ, List.getElem_cons_zero, List.setIfInBounds_toArray, List.set_cons_zero, List.set_cons_succ]
            refine AnyBut.done (by kernel_rfl) ?_
            go_wp2
            go_ret
            rw [HX.out, HNL.out.1, show (⟨s, a, bc, b⟩ : AF).t = (s, b) from rfl, HE.out]
            exact ⟨fun _ => ⟨rfl, HKF.out⟩, fun D e => by cases e⟩
          · have HE := Lib.hid (newL_some (cap := cap) (r := (F.map AF.t).drop (i + 1)) (M := M) (s := s) (b := b) (by rw [hnm, hg]; have := HU.out; have := HBN.out; rintro (e | e | e); (· cases e); (· cases e); omega))
            have hok : DOk (freshD cap (putS M s ⟨b, b.length⟩)) := fresh_put HR.out.ok hnm hg (by have := HNL.out.2; have := HNS.out; have := HI.out; omega) (by have := HU.out; have := HBN.out; omega) HFO.out.byte
            have HPUT := Lib.hid (refPut_any rb ax cx LR (freshD cap M) s a bc bn b bn HBN.out.symm wa.drew HR.out HDAT.out.1 HDAT.out.2 (by rw [HBN.out]; exact hok))
            have wsp : IntKind.i64.wrap (cap - (u : Int)) = cap - (u : Int) := by have := HCR.out; rw [IntWalk.i64_in _ ⟨by omega, by omega⟩]
            have qsp : decide (cap - (u : Int) < (bn : Int)) = false := decide_eq_false hsp
            clear hnm hg hok
            go_upto_region 8 with fail
            rw [← HW2.out.1, ← HW2.out.2]
            refine AnyBut.start (S := fun w' => w'.cell? ⟨q, 0, none⟩ = some (.string s) ∧ w'.cell? ⟨q, 1, none⟩ = some (.slice a bn bc)) (k := 21) (by kernel_rfl) ?_
            refine AnyBut.takeS (i := 0) (v := ?v58) rfl (by kernel_rfl) (Nat.le_of_eq (by kernel_rfl)) (by kernel_rfl) (by kernel_rfl) (fun _ _ _ h => h) (HSS.out) (Or.inl ⟨by kernel_rfl, ?hy58⟩) ?r58
            case hy58 =>
              intro w hSw
              try dsimp only at hSw
              go_simp
              first | (obtain ⟨y0, y1⟩ := hSw; go_simp) | skip
              try with_reducible rfl
            try simp only [Act.put, List.getElem_toArray, List.getElem_cons_zero, List.setIfInBounds_toArray, List.set_cons_zero, List.set_cons_succ]
            refine AnyBut.takeS (i := 1) (v := ?v59) rfl (by kernel_rfl) (Nat.le_of_eq (by kernel_rfl)) (by kernel_rfl) (by kernel_rfl) (fun _ _ _ h => h) (HSS.out) (Or.inl ⟨by kernel_rfl, ?hy59⟩) ?r59
            case hy59 =>
              intro w hSw
              try dsimp only at hSw
              go_simp
              first | (obtain ⟨y0, y1⟩ := hSw; go_simp) | skip
              try with_reducible rfl
            try simp only [Act.put, List.getElem_toArray, List.getElem_cons_succ, List.getElem_cons_zero, List.setIfInBounds_toArray, List.set_cons_zero, List.set_cons_succ]
            refine AnyBut.one (i := 2) (by kernel_rfl) rfl (fun K hK => ?_)
            go_simp
            go_wp2_with fail
            refine HN.out.mono ?_
            rintro e w9 ⟨rfl, rfl⟩
            go_wp2
            refine hK.out _ _ (HSS.out) ?_
            clear hK K
            try simp only [Act.put, List.getElem_toArray, List.getElem_cons_succ, List.getElem_cons_zero, List.setIfInBounds_toArray, List.set_cons_zero, List.set_cons_succ]
            refine AnyBut.takeS (i := 3) (v := ?v60) rfl (by kernel_rfl) (Nat.le_of_eq (by kernel_rfl)) (by kernel_rfl) (by kernel_rfl) (fun _ _ _ h => h) (HSS.out) (Or.inl ⟨by kernel_rfl, ?hy60⟩) ?r60
            case hy60 =>
              intro w hSw
              try dsimp only at hSw
              go_simp
              first | (obtain ⟨y0, y1⟩ := hSw; go_simp) | skip
              try with_reducible rfl
            try simp only [Act.put, List.getElem_toArray, List.getElem_cons_succ, List.getElem_cons_zero, List.setIfInBounds_toArray, List.set_cons_zero, List.set_cons_succ]
            refine AnyBut.takeS (i := 4) (v := ?v61) rfl (by kernel_rfl) (Nat.le_of_eq (by kernel_rfl)) (by kernel_rfl) (by kernel_rfl) (fun _ _ _ h => h) (HSS.out) (Or.inl ⟨by kernel_rfl, ?hy61⟩) ?r61
            case hy61 =>
              intro w hSw
              try dsimp only at hSw
              go_simp
              first | (obtain ⟨y0, y1⟩ := hSw; go_simp) | skip
              try with_reducible rfl
            try simp only [Act.put, List.getElem_toArray, List.getElem_cons_succ, List.getElem_cons_zero, List.setIfInBounds_toArray, List.set_cons_zero, List.set_cons_succ]
            refine AnyBut.takeS (i := 5) (v := ?v62) rfl (by kernel_rfl) (Nat.le_of_eq (by kernel_rfl)) (by kernel_rfl) (by kernel_rfl) (fun _ _ _ h => h) (HSS.out) (Or.inl ⟨by kernel_rfl, ?hy62⟩) ?r62
            case hy62 =>
              intro w hSw
              try dsimp only at hSw
              go_simp
              first | (obtain ⟨y0, y1⟩ := hSw; go_simp) | skip
              try with_reducible rfl
            try simp only [Act.put, List.getElem_toArray, List.getElem_cons_succ, List.getElem_cons_zero, List.setIfInBounds_toArray, List.set_cons_zero, List.set_cons_succ]
            refine AnyBut.takeS (i := 6) (v := ?v63) rfl (by kernel_rfl) (Nat.le_of_eq (by kernel_rfl)) (by kernel_rfl) (by kernel_rfl) (fun _ _ _ h => h) (HSS.out) (Or.inl ⟨by kernel_rfl, ?hy63⟩) ?r63
            case hy63 =>
              intro w hSw
              try dsimp only at hSw
              go_simp
              first | (obtain ⟨y0, y1⟩ := hSw; go_simp) | skip
              try with_reducible rfl
            try simp only [Act.put, List.getElem_toArray, List.getElem_cons_succ, List.getElem_cons_zero, List.setIfInBounds_toArray, List.set_cons_zero, List.set_cons_succ]
            refine AnyBut.takeS (i := 7) (v := ?v64) rfl (by kernel_rfl) (Nat.le_of_eq (by kernel_rfl)) (by kernel_rfl) (by kernel_rfl) (fun _ _ _ h => h) (HSS.out) (Or.inl ⟨by kernel_rfl, ?hy64⟩) ?r64
            case hy64 =>
              intro w hSw
              try dsimp only at hSw
              go_simp
              first | (obtain ⟨y0, y1⟩ := hSw; go_simp) | skip
              try with_reducible rfl
            try simp only [Act.put, List.getElem_toArray, List.getElem_cons_succ, List.getElem_cons_zero, List.setIfInBounds_toArray, List.set_cons_zero, List.set_cons_succ]
            refine AnyBut.one (i := 8) (by kernel_rfl) rfl (fun K hK => ?_)
            go_simp
            go_wp2_with fail
            refine HFI.out.mono ?_
            rintro e w9 ⟨z, rfl, hz, rfl⟩
            obtain rfl : z = -1 := by
              rcases hz.get HR.out with h9 | ⟨j, f, _, _, _, h9⟩
              · exact h9.1
              · rw [show getM (freshD cap M).L s = none from HG.out] at h9; cases h9
            clear hz
            go_wp2
            refine hK.out _ _ (HSS.out) ?_
            clear hK K
            try simp only [Act.put, List.getElem_toArray, List.getElem_cons_succ, List.getElem_cons_zero, List.setIfInBounds_toArray, List.set_cons_zero, List.set_cons_succ]
            refine AnyBut.takeS (i := 9) (v := ?v65) rfl (by kernel_rfl) (Nat.le_of_eq (by kernel_rfl)) (by kernel_rfl) (by kernel_rfl) (fun _ _ _ h => h) (HSS.out) (Or.inl ⟨by kernel_rfl, ?hy65⟩) ?r65
            case hy65 =>
              intro w hSw
              try dsimp only at hSw
              go_simp
              first | (obtain ⟨y0, y1⟩ := hSw; go_simp) | skip
              try with_reducible rfl
            try simp only [Act.put, List.getElem_toArray, List.getElem_cons_succ, List.getElem_cons_zero, List.setIfInBounds_toArray, List.set_cons_zero, List.set_cons_succ]
            refine AnyBut.takeS (i := 10) (v := ?v66) rfl (by kernel_rfl) (Nat.le_of_eq (by kernel_rfl)) (by kernel_rfl) (by kernel_rfl) (fun _ _ _ h => h) (HSS.out) (Or.inl ⟨by kernel_rfl, ?hy66⟩) ?r66
            case hy66 =>
              intro w hSw
              try dsimp only at hSw
              go_simp
              first | (obtain ⟨y0, y1⟩ := hSw; go_simp) | skip
              try with_reducible rfl
            try simp only [Act.put, List.getElem_toArray, List.getElem_cons_succ, List.getElem_cons_zero, List.setIfInBounds_toArray, List.set_cons_zero, List.set_cons_succ]
            refine AnyBut.takeS (i := 11) (v := ?v67) rfl (by kernel_rfl) (Nat.le_of_eq (by kernel_rfl)) (by kernel_rfl) (by kernel_rfl) (fun _ _ _ h => h) (HSS.out) (Or.inl ⟨by kernel_rfl, ?hy67⟩) ?r67
            case hy67 =>
              intro w hSw
              try dsimp only at hSw
              go_simp
              first | (obtain ⟨y0, y1⟩ := hSw; go_simp) | skip
              try with_reducible rfl
            try simp only [Act.put, List.getElem_toArray, List.getElem_cons_succ, List.getElem_cons_zero, List.setIfInBounds_toArray, List.set_cons_zero, List.set_cons_succ]
            refine AnyBut.takeS (i := 12) (v := ?v68) rfl (by kernel_rfl) (Nat.le_of_eq (by kernel_rfl)) (by kernel_rfl) (by kernel_rfl) (fun _ _ _ h => h) (HSS.out) (Or.inl ⟨by kernel_rfl, ?hy68⟩) ?r68
            case hy68 =>
              intro w hSw
              try dsimp only at hSw
              go_simp
              first | (obtain ⟨y0, y1⟩ := hSw; go_simp) | skip
              try with_reducible rfl
            try simp only [Act.put, List.getElem_toArray, List.getElem_cons_succ, List.getElem_cons_zero, List.setIfInBounds_toArray, List.set_cons_zero, List.set_cons_succ]
            refine AnyBut.takeS (i := 13) (v := ?v69) rfl (by kernel_rfl) (Nat.le_of_eq (by kernel_rfl)) (by kernel_rfl) (by kernel_rfl) (fun _ _ _ h => h) (HSS.out) (Or.inl ⟨by kernel_rfl, ?hy69⟩) ?r69
            case hy69 =>
              intro w hSw
              try dsimp only at hSw
              go_simp
              first | (obtain ⟨y0, y1⟩ := hSw; go_simp) | skip
              try with_reducible rfl
            try simp only [Act.put, List.getElem_toArray, List.getElem_cons_succ, List.getElem_cons_zero, List.setIfInBounds_toArray, List.set_cons_zero, List.set_cons_succ]
            refine AnyBut.takeS (i := 14) (v := ?v70) rfl (by kernel_rfl) (Nat.le_of_eq (by kernel_rfl)) (by kernel_rfl) (by kernel_rfl) (fun _ _ _ h => h) (HSS.out) (Or.inl ⟨by kernel_rfl, ?hy70⟩) ?r70
            case hy70 =>
              intro w hSw
              try dsimp only at hSw
              go_simp
              first | (obtain ⟨y0, y1⟩ := hSw; go_simp) | skip
              try with_reducible rfl
            try simp only [Act.put, List.getElem_toArray, List.getElem_cons_succ, List.getElem_cons_zero, List.setIfInBounds_toArray, List.set_cons_zero, List.set_cons_succ]
            refine AnyBut.takeS (i := 15) (v := ?v71) rfl (by kernel_rfl) (Nat.le_of_eq (by kernel_rfl)) (by kernel_rfl) (by kernel_rfl) (fun _ _ _ h => h) (HSS.out) (Or.inl ⟨by kernel_rfl, ?hy71⟩) ?r71
            case hy71 =>
              intro w hSw
              try dsimp only at hSw
              go_simp
              first | (obtain ⟨y0, y1⟩ := hSw; go_simp) | skip
              try with_reducible rfl
            try simp only [Act.put, List.getElem_toArray, List.getElem_cons_succ, List.getElem_cons_zero, List.setIfInBounds_toArray, List.set_cons_zero, List.set_cons_succ]
            refine AnyBut.takeS (i := 16) (v := ?v72) rfl (by kernel_rfl) (Nat.le_of_eq (by kernel_rfl)) (by kernel_rfl) (by kernel_rfl) (fun _ _ _ h => h) (HSS.out) (Or.inl ⟨by kernel_rfl, ?hy72⟩) ?r72
            case hy72 =>
              intro w hSw
              try dsimp only at hSw
              go_simp
              first | (obtain ⟨y0, y1⟩ := hSw; go_simp) | skip
              try with_reducible rfl
            try simp only [Act.put, List.getElem_toArray, List.getElem_cons_succ, List.getElem_cons_zero, List.setIfInBounds_toArray, List.set_cons_zero, List.set_cons_succ]
            refine AnyBut.one (i := 17) (by kernel_rfl) rfl (fun K hK => ?_)
            go_simp
            go_wp2_with fail
            refine HU9.out.mono ?_
            rintro e w9 ⟨rfl, rfl⟩
            go_wp2
            refine hK.out _ _ (HSS.out) ?_
            clear hK K
            try simp only [Act.put, List.getElem_toArray, List.getElem_cons_succ, List.getElem_cons_zero, List.setIfInBounds_toArray, List.set_cons_zero, List.set_cons_succ]
            refine AnyBut.takeS (i := 18) (v := ?v73) rfl (by kernel_rfl) (Nat.le_of_eq (by kernel_rfl)) (by kernel_rfl) (by kernel_rfl) (fun _ _ _ h => h) (HSS.out) (Or.inl ⟨by kernel_rfl, ?hy73⟩) ?r73
            case hy73 =>
              intro w hSw
              try dsimp only at hSw
              go_simp
              first | (obtain ⟨y0, y1⟩ := hSw; go_simp) | skip
              try with_reducible rfl
            try simp only [Act.put, List.getElem_toArray, List.getElem_cons_succ, List.getElem_cons_zero, List.setIfInBounds_toArray, List.set_cons_zero, List.set_cons_succ]
            refine AnyBut.takeS (i := 19) (v := ?v74) rfl (by kernel_rfl) (Nat.le_of_eq (by kernel_rfl)) (by kernel_rfl) (by kernel_rfl) (fun _ _ _ h => h) (HSS.out) (Or.inl ⟨by kernel_rfl, ?hy74⟩) ?r74
            case hy74 =>
              intro w hSw
              try dsimp only at hSw
              go_simp
              first | (obtain ⟨y0, y1⟩ := hSw; go_simp) | skip
              try with_reducible rfl
            try simp only [Act.put, List.getElem_toArray, List.getElem_cons_succ, List.getElem_cons_zero, List.setIfInBounds_toArray, List.set_cons_zero, List.set_cons_succ]
            refine AnyBut.takeS (i := 20) (v := ?v75) rfl (by kernel_rfl) (Nat.le_of_eq (by kernel_rfl)) (by kernel_rfl) (by kernel_rfl) (fun _ _ _ h => h) (HSS.out) (Or.inl ⟨by kernel_rfl, ?hy75⟩) ?r75
            case hy75 =>
              intro w hSw
              try dsimp only at hSw
              go_simp
              first | (obtain ⟨y0, y1⟩ := hSw; go_simp) | skip
              try with_reducible rfl
            try simp only [Act.put, List.getElem_toArray, List.getElem_cons_succ, List.getElem_cons_zero, List.setIfInBounds_toArray, List.set_cons_zero, List.set_cons_succ]
            refine AnyBut.done (by kernel_rfl) ?_
            go_wp2_with fail
            refine HPUT.out.mono ?_
            rintro e w5 ⟨rfl, ax5, cx5, LR5, r5, k5, f5⟩
            have H5 := Lib.hid (And.intro r5 (And.intro k5 f5))
            clear r5 k5 f5
            go_wp2
            go_roundg (n - (i + 1))
            case measure => have := HI.out; omega
            case rel =>
              refine ⟨i + 1, HI.out, rfl, rfl, putS M s ⟨b, b.length⟩, ax5, cx5, LR5, ?_, ?_, ?_, HKF.out.newer H5.out.2.1 (fun j e => by rw [e, HW.out.2]; exact Nat.le_refl _), fun k hk => ?_⟩
              · rw [HNL.out.1, show (⟨s, a, bc, b⟩ : AF).t = (s, b) from rfl, HE.out]
              · have e2 := len_put HR.out.ok.asc.pair s (⟨b, b.length⟩ : PF)
                have e3 := len_del HR.out.ok.asc.pair s
                have := HNL.out.2
                simp only [freshD] at e2 e3
                omega
              · have := H5.out.1
                rw [HBN.out] at this
                exact this
              · rcases H5.out.2.2 k hk with x | ⟨x, y⟩ | x
                · exact HFT.out k x
                · refine .inr ⟨⟨s, a, bc, b⟩, HMEM.out, x, ?_⟩
                  unfold RF.v at y
                  exact y
                · exact .inl (Nat.le_trans HKF.out.size x)
        · have HG := Lib.hid hg
          have HE := Lib.hid (newL_none (cap := cap) (r := (F.map AF.t).drop (i + 1)) (M := M) (s := s) (b := b) (.inr (.inl (by cases hx : getM M s with | none => exact absurd hx hg | some f => rfl))))
          clear hnm hg
          go_upto_region 8 with fail
          rw [← HW2.out.1, ← HW2.out.2]
          refine AnyBut.start (S := fun w' => w'.cell? ⟨q, 0, none⟩ = some (.string s) ∧ w'.cell? ⟨q, 1, none⟩ = some (.slice a bn bc)) (k := 21) (by kernel_rfl) ?_
          refine AnyBut.takeS (i := 0) (v := ?v21) rfl (by kernel_rfl) (Nat.le_of_eq (by kernel_rfl)) (by kernel_rfl) (by kernel_rfl) (fun _ _ _ h => h) (HSS.out) (Or.inl ⟨by kernel_rfl, ?hy21⟩) ?r21
          case hy21 =>
            intro w hSw
            try dsimp only at hSw
            go_simp
            first | (obtain ⟨y0, y1⟩ := hSw; go_simp) | skip
            try with_reducible rfl
          try simp only [Act.put, List.getElem_toArray, List.getElem_cons_zero, List.setIfInBounds_toArray, List.set_cons_zero, List.set_cons_succ]
          refine AnyBut.takeS (i := 1) (v := ?v22) rfl (by kernel_rfl) (Nat.le_of_eq (by kernel_rfl)) (by kernel_rfl) (by kernel_rfl) (fun _ _ _ h => h) (HSS.out) (Or.inl ⟨by kernel_rfl, ?hy22⟩) ?r22
          case hy22 =>
            intro w hSw
            try dsimp only at hSw
            go_simp
            first | (obtain ⟨y0, y1⟩ := hSw; go_simp) | skip
            try with_reducible rfl
          try simp only [Act.put, List.getElem_toArray, List.getElem_cons_succ, List.getElem_cons_zero, List.setIfInBounds_toArray, List.set_cons_zero, List.set_cons_succ]
          refine AnyBut.one (i := 2) (by kernel_rfl) rfl (fun K hK => ?_)
          go_simp
          go_wp2_with fail
          refine HN.out.mono ?_
          rintro e w9 ⟨rfl, rfl⟩
          go_wp2
          refine hK.out _ _ (HSS.out) ?_
          clear hK K
          try simp only [Act.put, List.getElem_toArray, List.getElem_cons_succ, List.getElem_cons_zero, List.setIfInBounds_toArray, List.set_cons_zero, List.set_cons_succ]
          refine AnyBut.takeS (i := 3) (v := ?v23) rfl (by kernel_rfl) (Nat.le_of_eq (by kernel_rfl)) (by kernel_rfl) (by kernel_rfl) (fun _ _ _ h => h) (HSS.out) (Or.inl ⟨by kernel_rfl, ?hy23⟩) ?r23
          case hy23 =>
            intro w hSw
            try dsimp only at hSw
            go_simp
            first | (obtain ⟨y0, y1⟩ := hSw; go_simp) | skip
            try with_reducible rfl
          try simp only [Act.put, List.getElem_toArray, List.getElem_cons_succ, List.getElem_cons_zero, List.setIfInBounds_toArray, List.set_cons_zero, List.set_cons_succ]
          refine AnyBut.takeS (i := 4) (v := ?v24) rfl (by kernel_rfl) (Nat.le_of_eq (by kernel_rfl)) (by kernel_rfl) (by kernel_rfl) (fun _ _ _ h => h) (HSS.out) (Or.inl ⟨by kernel_rfl, ?hy24⟩) ?r24
          case hy24 =>
            intro w hSw
            try dsimp only at hSw
            go_simp
            first | (obtain ⟨y0, y1⟩ := hSw; go_simp) | skip
            try with_reducible rfl
          try simp only [Act.put, List.getElem_toArray, List.getElem_cons_succ, List.getElem_cons_zero, List.setIfInBounds_toArray, List.set_cons_zero, List.set_cons_succ]
          refine AnyBut.takeS (i := 5) (v := ?v25) rfl (by kernel_rfl) (Nat.le_of_eq (by kernel_rfl)) (by kernel_rfl) (by kernel_rfl) (fun _ _ _ h => h) (HSS.out) (Or.inl ⟨by kernel_rfl, ?hy25⟩) ?r25
          case hy25 =>
            intro w hSw
            try dsimp only at hSw
            go_simp
            first | (obtain ⟨y0, y1⟩ := hSw; go_simp) | skip
            try with_reducible rfl
          try simp only [Act.put, List.getElem_toArray, List.getElem_cons_succ, List.getElem_cons_zero, List.setIfInBounds_toArray, List.set_cons_zero, List.set_cons_succ]
          refine AnyBut.takeS (i := 6) (v := ?v26) rfl (by kernel_rfl) (Nat.le_of_eq (by kernel_rfl)) (by kernel_rfl) (by kernel_rfl) (fun _ _ _ h => h) (HSS.out) (Or.inl ⟨by kernel_rfl, ?hy26⟩) ?r26
          case hy26 =>
            intro w hSw
            try dsimp only at hSw
            go_simp
            first | (obtain ⟨y0, y1⟩ := hSw; go_simp) | skip
            try with_reducible rfl
          try simp only [Act.put, List.getElem_toArray, List.getElem_cons_succ, List.getElem_cons_zero, List.setIfInBounds_toArray, List.set_cons_zero, List.set_cons_succ]
          refine AnyBut.takeS (i := 7) (v := ?v27) rfl (by kernel_rfl) (Nat.le_of_eq (by kernel_rfl)) (by kernel_rfl) (by kernel_rfl) (fun _ _ _ h => h) (HSS.out) (Or.inl ⟨by kernel_rfl, ?hy27⟩) ?r27
          case hy27 =>
            intro w hSw
            try dsimp only at hSw
            go_simp
            first | (obtain ⟨y0, y1⟩ := hSw; go_simp) | skip
            try with_reducible rfl
          try simp only [Act.put, List.getElem_toArray, List.getElem_cons_succ, List.getElem_cons_zero, List.setIfInBounds_toArray, List.set_cons_zero, List.set_cons_succ]
          refine AnyBut.one (i := 8) (by kernel_rfl) rfl (fun K hK => ?_)
          go_simp
          go_wp2_with fail
          refine HFI.out.mono ?_
          rintro e w9 ⟨z, rfl, hz, rfl⟩
          obtain ⟨j, rfl⟩ : ∃ j : Nat, z = (j : Int) := by
            rcases hz.get HR.out with h9 | ⟨j, f, h8, _, _, h9⟩
            · exact absurd h9.2 HG.out
            · exact ⟨j, h8⟩
          have hj0 : (0 : Int) ≤ (j : Int) := by omega
          clear hz
          go_wp2
          refine hK.out _ _ (HSS.out) ?_
          clear hK K
          try simp only [Act.put, List.getElem_toArray, List.getElem_cons_succ, List.getElem_cons_zero, List.setIfInBounds_toArray, List.set_cons_zero, List.set_cons_succ]
          refine AnyBut.takeS (i := 9) (v := ?v28) rfl (by kernel_rfl) (Nat.le_of_eq (by kernel_rfl)) (by kernel_rfl) (by kernel_rfl) (fun _ _ _ h => h) (HSS.out) (Or.inl ⟨by kernel_rfl, ?hy28⟩) ?r28
          case hy28 =>
            intro w hSw
            try dsimp only at hSw
            go_simp
            first | (obtain ⟨y0, y1⟩ := hSw; go_simp) | skip
            try with_reducible rfl
          try simp only [Act.put, List.getElem_toArray, List.getElem_cons_succ, List.getElem_cons_zero, List.setIfInBounds_toArray, List.set_cons_zero, List.set_cons_succ]
          refine AnyBut.takeS (i := 10) (v := ?v29) rfl (by kernel_rfl) (Nat.le_of_eq (by kernel_rfl)) (by kernel_rfl) (by kernel_rfl) (fun _ _ _ h => h) (HSS.out) (Or.inl ⟨by kernel_rfl, ?hy29⟩) ?r29
          case hy29 =>
            intro w hSw
            try dsimp only at hSw
            go_simp
            first | (obtain ⟨y0, y1⟩ := hSw; go_simp) | skip
            try with_reducible rfl
          try simp only [Act.put, List.getElem_toArray, List.getElem_cons_succ, List.getElem_cons_zero, List.setIfInBounds_toArray, List.set_cons_zero, List.set_cons_succ]
          refine AnyBut.takeS (i := 11) (v := ?v30) rfl (by kernel_rfl) (Nat.le_of_eq (by kernel_rfl)) (by kernel_rfl) (by kernel_rfl) (fun _ _ _ h => h) (HSS.out) (Or.inl ⟨by kernel_rfl, ?hy30⟩) ?r30
          case hy30 =>
            intro w hSw
            try dsimp only at hSw
            go_simp
            first | (obtain ⟨y0, y1⟩ := hSw; go_simp) | skip
            try with_reducible rfl
          try simp only [Act.put, List.getElem_toArray, List.getElem_cons_succ, List.getElem_cons_zero, List.setIfInBounds_toArray, List.set_cons_zero, List.set_cons_succ]
          refine AnyBut.takeS (i := 12) (v := undef) rfl (by kernel_rfl) (Nat.le_of_eq (by kernel_rfl)) (by kernel_rfl) (by kernel_rfl) (fun _ _ _ h => h) (HSS.out) (Or.inr ⟨by kernel_rfl, rfl⟩) ?r31
          try simp only [Act.put, List.getElem_toArray, List.getElem_cons_succ, List.getElem_cons_zero, List.setIfInBounds_toArray, List.set_cons_zero, List.set_cons_succ]
          refine AnyBut.takeS (i := 13) (v := undef) rfl (by kernel_rfl) (Nat.le_of_eq (by kernel_rfl)) (by kernel_rfl) (by kernel_rfl) (fun _ _ _ h => h) (HSS.out) (Or.inr ⟨by kernel_rfl, rfl⟩) ?r32
          try simp only [Act.put, List.getElem_toArray, List.getElem_cons_succ, List.getElem_cons_zero, List.setIfInBounds_toArray, List.set_cons_zero, List.set_cons_succ]
          refine AnyBut.takeS (i := 14) (v := undef) rfl (by kernel_rfl) (Nat.le_of_eq (by kernel_rfl)) (by kernel_rfl) (by kernel_rfl) (fun _ _ _ h => h) (HSS.out) (Or.inr ⟨by kernel_rfl, rfl⟩) ?r33
          try simp only [Act.put, List.getElem_toArray, List.getElem_cons_succ, List.getElem_cons_zero, List.setIfInBounds_toArray, List.set_cons_zero, List.set_cons_succ]
          refine AnyBut.takeS (i := 15) (v := undef) rfl (by kernel_rfl) (Nat.le_of_eq (by kernel_rfl)) (by kernel_rfl) (by kernel_rfl) (fun _ _ _ h => h) (HSS.out) (Or.inr ⟨by kernel_rfl, rfl⟩) ?r34
          try simp only [Act.put, List.getElem_toArray, List.getElem_cons_succ, List.getElem_cons_zero, List.setIfInBounds_toArray, List.set_cons_zero, List.set_cons_succ]
          refine AnyBut.takeS (i := 16) (v := undef) rfl (by kernel_rfl) (Nat.le_of_eq (by kernel_rfl)) (by kernel_rfl) (by kernel_rfl) (fun _ _ _ h => h) (HSS.out) (Or.inr ⟨by kernel_rfl, rfl⟩) ?r35
          try simp only [Act.put, List.getElem_toArray, List.getElem_cons_succ, List.getElem_cons_zero, List.setIfInBounds_toArray, List.set_cons_zero, List.set_cons_succ]
          refine AnyBut.takeS (i := 17) (v := undef) rfl (by kernel_rfl) (Nat.le_of_eq (by kernel_rfl)) (by kernel_rfl) (by kernel_rfl) (fun _ _ _ h => h) (HSS.out) (Or.inr ⟨by kernel_rfl, rfl⟩) ?r36
          try simp only [Act.put, List.getElem_toArray, List.getElem_cons_succ, List.getElem_cons_zero, List.setIfInBounds_toArray, List.set_cons_zero, List.set_cons_succ]
          refine AnyBut.takeS (i := 18) (v := undef) rfl (by kernel_rfl) (Nat.le_of_eq (by kernel_rfl)) (by kernel_rfl) (by kernel_rfl) (fun _ _ _ h => h) (HSS.out) (Or.inr ⟨by kernel_rfl, rfl⟩) ?r37
          try simp only [Act.put, List.getElem_toArray, List.getElem_cons_succ, List.getElem_cons_zero, List.setIfInBounds_toArray, List.set_cons_zero, List.set_cons_succ]
          refine AnyBut.takeS (i := 19) (v := undef) rfl (by kernel_rfl) (Nat.le_of_eq (by kernel_rfl)) (by kernel_rfl) (by kernel_rfl) (fun _ _ _ h => h) (HSS.out) (Or.inr ⟨by kernel_rfl, rfl⟩) ?r38
          try simp only [Act.put, List.getElem_toArray, List.getElem_cons_succ, List.getElem_cons_zero, List.setIfInBounds_toArray, List.set_cons_zero, List.set_cons_succ]
          refine AnyBut.takeS (i := 20) (v := ?v39) rfl (by kernel_rfl) (Nat.le_of_eq (by kernel_rfl)) (by kernel_rfl) (by kernel_rfl) (fun _ _ _ h => h) (HSS.out) (Or.inl ⟨by kernel_rfl, ?hy39⟩) ?r39
          case hy39 =>
            intro w hSw
            try dsimp only at hSw
            go_simp
            first | (obtain ⟨y0, y1⟩ := hSw; go_simp) | skip
            try with_reducible rfl
          try simp only [Act.put, List.getElem_toArray, List.getElem_cons_succ, List.getElem_cons_zero, List.setIfInBounds_toArray, List.set_cons_zero, List.set_cons_succ]
          refine AnyBut.done (by kernel_rfl) ?_
          go_wp2
          go_ret
          rw [HX.out, HNL.out.1, show (⟨s, a, bc, b⟩ : AF).t = (s, b) from rfl, HE.out]
          exact ⟨fun _ => ⟨rfl, HKF.out⟩, fun D e => by cases e⟩
    · have hdi : ¬ (i : Int) < (n : Int) := by omega
      have hie : i = n := by omega
      subst hie
      have hdrop : (F.map AF.t).drop i = [] := List.drop_eq_nil_of_le (by rw [List.length_map, HF.out.1]; exact Nat.le_refl _)
      rw [hdrop] at hnl
      have HR := Lib.hid (show RNewTo w F (newD (F.map AF.t) cap) (.returned (.pointer (some ⟨rb, 0, none⟩))) wr from by
        rw [HX.out, hnl]
        exact ⟨fun e => (by cases e), fun D e => by
          injection e with e
          subst e
          exact ⟨rb, ax, cx, LR, rfl, hr, hkr, by rw [HW.out.2]; exact Nat.le_refl _, hft⟩⟩)
      clear hr hkr hnl hdrop hin hd hft
      go_wp2
      go_ret
      exact HR.out
end Go.Proofs.YtficodklidaheaaDoor
