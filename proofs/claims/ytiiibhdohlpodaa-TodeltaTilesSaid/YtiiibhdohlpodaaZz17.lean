/- Texts put together: what the theorem stands on. -/
import Derived.Test.YtiiibhdohlpodaaZz11
import Derived.Test.YtiiibhdohlpodaaZz15
import Derived.Great.BuildSlice

namespace Go.Proofs.Ytiiibhdohlpodaa
open Go.RowKit
attribute [local go_sem ↓] Go.wp_at_zero Go.wp_at_succ
/-- Where play stands: the points that were taken, the answers, the state. -/
structure PSD (most : Int) (W w : World) (g9 : Nat) (vi vo : Value) (xs : List Pnt) (NS : Array Value) : Prop where
  rows : ∃ I O : List PtV, MineT W w vi I ∧ MineT W w vo O ∧ I.map PtV.x = (playD most zeroSt xs).map Prod.fst ∧ O.map PtV.x = (playD most zeroSt xs).map Prod.snd ∧ ∀ p ∈ O, p.New W w
  st : ∃ tp tn, NS = stC (stDD most zeroSt xs) tp tn ∧ StN W w (stDD most zeroSt xs).h tp tn
  box : w.heap[g9]? = some (.cells NS 32 (0, 0))
  new : W.heap.size ≤ g9
  ap : ∀ k, vi.ownBlock = some k → vo.ownBlock ≠ some k
theorem PSD.on {most : Int} {W w w' : World} {g9 : Nat} {vi vo : Value} {xs : List Pnt} {NS : Array Value} (h : PSD most W w g9 vi vo xs NS) (k : Kept (fun _ => False) w w') : PSD most W w' g9 vi vo xs NS := by
  obtain ⟨I, O, h1, h2, h3, h4, h5⟩ := h.rows
  obtain ⟨tp, tn, e1, e2⟩ := h.st
  exact ⟨⟨I, O, h1.on k, h2.on k, h3, h4, fun p hp => (h5 p hp).on k⟩, ⟨tp, tn, e1, e2.on k⟩, k.same h.box (fun x => x), h.new, h.ap⟩
theorem PSD.kept {most : Int} {W w : World} {g9 : Nat} {vi vo : Value} {xs : List Pnt} {NS : Array Value} (h : PSD most W w g9 vi vo xs NS) : Kept (fun _ => False) W w := by
  obtain ⟨I, O, h1, _⟩ := h.rows
  exact h1.kept
/-- A point that isn't taken. -/
theorem PSD.skip {most : Int} {W w : World} {g9 : Nat} {vi vo : Value} {xs : List Pnt} {NS : Array Value} {x : Pnt} (h : PSD most W w g9 vi vo xs NS) (he : stepD (stDD most zeroSt xs) x most ≠ 0) : PSD most W w g9 vi vo (xs ++ [x]) NS := by
  obtain ⟨h1, h2⟩ := playD_snoc most xs zeroSt x
  rw [if_neg he] at h1 h2
  rw [List.append_nil] at h1
  obtain ⟨I, O, r1, r2, r3, r4, r5⟩ := h.rows
  obtain ⟨tp, tn, e, o⟩ := h.st
  exact ⟨⟨I, O, r1, r2, by rw [h1]; exact r3, by rw [h1]; exact r4, r5⟩, ⟨tp, tn, by rw [h2]; exact e, by rw [h2]; exact o⟩, h.box, h.new, h.ap⟩
/-- What play answers. -/
def PlayDTo (most : Int) (w : World) (xs : List Pnt) (e : Ending) (w' : World) : Prop :=
  ∃ (vi vo : Value) (NS : Array Value) (tp tn : Value) (I O : List PtV), e = .returned (.tuple #[vi, vo, .agg NS]) ∧ NS = stC (stDD most zeroSt xs) tp tn ∧ StN w w' (stDD most zeroSt xs).h tp tn ∧ MineT w w' vi I ∧ MineT w w' vo O ∧ I.map PtV.x = (playD most zeroSt xs).map Prod.fst ∧ O.map PtV.x = (playD most zeroSt xs).map Prod.snd ∧ ∀ p ∈ O, p.New w w'
set_option maxHeartbeats 4000000 in
set_option maxRecDepth 100000 in
theorem playD_any (ao : Option Addr) (c : Nat) (L : List PtV) (most : Int) (w : World) (hl : PtsIn w ao L) (hli : ∀ p ∈ L, p.x.light) (hn : L.length ≤ 20) :
    Calls Try.prog 13 #[.slice ao L.length c, .int .i64 most] w (PlayDTo most w (L.map PtV.x)) := by
  obtain ⟨i0, hi0, hz0, hz1, hz2⟩ := info_parts Try.infoPt
  obtain ⟨n, hnn⟩ : ∃ n, n = L.length := ⟨_, rfl⟩
  rw [← hnn] at hn ⊢
  obtain ⟨q6, hq6⟩ : ∃ q, q = w.heap.size := ⟨_, rfl⟩
  obtain ⟨w2, hw2⟩ : ∃ w2, w2 = (w.alloc (.cells #[.bool false, .int .i64 0, .int .i64 0, .int .i64 0, .int .u64 0, .int .u64 0, .int .i64 0, .int .u64 0, .int .i64 0, .slice none 0 0, .int .i64 0, .slice none 0 0] 32)).alloc (.cells #[.bool false, .int .i64 0, .int .i64 0, .int .i64 0, .int .u64 0, .int .u64 0, .int .i64 0, .int .u64 0, .int .i64 0, .slice none 0 0, .int .i64 0, .slice none 0 0] 32) := ⟨_, rfl⟩
  have k2 : Kept (fun _ => False) w w2 := by rw [hw2]; exact ((Kept.refl _ _).alloc _).alloc _
  have hb6 : w2.heap[q6]? = some (.cells #[.bool false, .int .i64 0, .int .i64 0, .int .i64 0, .int .u64 0, .int .u64 0, .int .i64 0, .int .u64 0, .int .i64 0, .slice none 0 0, .int .i64 0, .slice none 0 0] 32 (0, 0)) := by rw [hw2, hq6]; exact ((Kept.refl (fun _ => False) _).alloc _).same (heap_alloc_new w _) (fun x => x)
  have hb9 : w2.heap[q6 + 1]? = some (.cells #[.bool false, .int .i64 0, .int .i64 0, .int .i64 0, .int .u64 0, .int .u64 0, .int .i64 0, .int .u64 0, .int .i64 0, .slice none 0 0, .int .i64 0, .slice none 0 0] 32 (0, 0)) := by rw [hw2, hq6]; exact box_second2 w _ _
  have HL := Lib.hid (fun w' (k : Kept (fun _ => False) w w') => hl.on k)
  have HEA := Lib.hid (fun p hp => (And.intro (hl.each p hp) (hli p hp)))
  have HN := Lib.hid (And.intro hnn hn)
  have HW2 := Lib.hid (And.intro hw2 hq6)
  have HK02 := Lib.hid k2
  have HB6 := Lib.hid hb6
  have HB9 := Lib.hid hb9
  obtain ⟨g9, hg9⟩ : ∃ g, g = q6 + 1 := ⟨_, rfl⟩
  have HG9 := Lib.hid hg9
  have HGE : Hid (w.heap.size ≤ q6) := Lib.hid (by omega)
  have HP0 : Hid (PSD most w w2 g9 (.slice none 0 0) (.slice none 0 0) [] #[.bool false, .int .i64 0, .int .i64 0, .int .i64 0, .int .u64 0, .int .u64 0, .int .i64 0, .int .u64 0, .int .i64 0, .slice none 0 0, .int .i64 0, .slice none 0 0]) := Lib.hid ⟨⟨[], [], MineG.nil k2, MineG.nil k2, rfl, rfl, fun p hp => (by cases hp)⟩, ⟨.slice none 0 0, .slice none 0 0, rfl, StN.nil k2⟩, by rw [hg9]; exact hb9, by omega, fun k e => by cases e⟩
  have HQ6 : Hid (∀ w', Kept (fun i => w.heap.size ≤ i ∧ i ≠ q6) w2 w' → w'.heap[q6]? = some (.cells #[.bool false, .int .i64 0, .int .i64 0, .int .i64 0, .int .u64 0, .int .u64 0, .int .i64 0, .int .u64 0, .int .i64 0, .slice none 0 0, .int .i64 0, .slice none 0 0] 32 (0, 0))) := Lib.hid (fun w' k => k.same hb6 (fun h => h.2 rfl))
  clear hl hli hn hnn hw2 hq6 k2 hb6 hb9 hg9
  go_enter Try.func13, Try.ntmps13
  go_upto_region 3 with fail
  rw [← HW2.out.1, ← HW2.out.2, ← HG9.out]
  go_wp2
  go_loopg [7, 8, 10] n (fun g s7 s8 s10 wr => ∃ i : Nat, i ≤ n ∧ g = n - i ∧ s10 = .int .i64 i ∧ ∃ NS, PSD most w wr g9 s7 s8 ((L.map PtV.x).take i) NS ∧ wr.heap[q6]? = some (.cells #[.bool false, .int .i64 0, .int .i64 0, .int .i64 0, .int .u64 0, .int .u64 0, .int .i64 0, .int .u64 0, .int .i64 0, .slice none 0 0, .int .i64 0, .slice none 0 0] 32 (0, 0)))
  case atStart => exact ⟨0, Nat.zero_le _, rfl, rfl, _, HP0.out, HB6.out⟩
  case round =>
    obtain ⟨i, hin, rfl, rfl, NS, hps, hrs⟩ := hrel
    have HRS := Lib.hid hrs
    clear hrs
    have HPS := Lib.hid hps
    clear hps
    obtain ⟨tp, tn, hst, ho⟩ := HPS.out.st
    have HIS : Hid ((Try.prog.info? 32).map (·.size) = some NS.size ∧ NS.size = 12) := Lib.hid (by rw [hst]; exact ⟨state_info, rfl⟩)
    by_cases hd : i < n
    · have hdi : (i : Int) < (n : Int) := by omega
      have hi0' : (0 : Int) ≤ (i : Int) := by omega
      have HD := Lib.hid hd
      have wi : IntKind.i64.wrap ((i : Int) + 1) = ((i + 1 : Nat) : Int) := by rw [IntWalk.i64_in _ ⟨by omega, by have := HN.out.2; omega⟩]; omega
      have hiL : i < L.length := by have := HN.out.1; omega
      have hp := List.getElem?_eq_getElem hiL
      obtain ⟨p, hpp⟩ : ∃ p, p = L[i] := ⟨_, rfl⟩
      rw [← hpp] at hp
      have hmem := List.mem_of_getElem? hp
      have hts : (L.map PtV.x).take i ++ [p.x] = (L.map PtV.x).take (i + 1) := by rw [List.take_add_one, List.getElem?_map, hp]; rfl
      have HTS := Lib.hid hts
      obtain ⟨gb, ob, rfl, _⟩ := (HL.out wr HPS.out.kept).at_ (by omega)
      have HRG : Hid (∀ w', Kept (fun _ => False) wr w' → w'.rangeAt gb (ob + i * 17) p.cs.toList) := Lib.hid (fun w' k => by
        obtain ⟨g', o', e, hrec⟩ := (HL.out w' (HPS.out.kept.trans k)).at_ (by omega)
        injection e with e
        injection e with e1 e2 _
        subst e1 e2
        exact range_of (hrec i p hp))
      have hfine := stDD_fine (most := most) ((L.map PtV.x).take i) zeroSt zeroSt_fine (fun y hy => by obtain ⟨z, hz, rfl⟩ := List.mem_map.1 (List.mem_of_mem_take hy); exact ⟨(HEA.out z hz).1.2.1, (HEA.out z hz).2⟩)
      have HNX : Hid (∀ w', Kept (fun _ => False) wr w' → Calls Try.prog 33 #[.agg NS, .agg p.cs, .int .i64 most] w' fun e w'' => ∃ (NT : Array Value) (p' : PtV) (t1 t2 : Value), e = .returned (.tuple #[.agg NT, .agg p'.cs, .int .i64 (stepD (stDD most zeroSt ((L.map PtV.x).take i)) p.x most)]) ∧ ((Try.prog.info? 32).map (·.size) = some NT.size ∧ (#[.bool false, .int .i64 0, .int .i64 0, .int .i64 0, .int .u64 0, .int .u64 0, .int .i64 0, .int .u64 0, .int .i64 0, .slice none 0 0, .int .i64 0, .slice none 0 0] : Array Value).size = NT.size ∧ NT.all (·.oneCell') = true ∧ NT = stC (nextDS (stDD most zeroSt ((L.map PtV.x).take i)) p.x most) t1 t2) ∧ p'.x = nextDP (stDD most zeroSt ((L.map PtV.x).take i)) p.x most ∧ New2 w' w'' p' (nextDS (stDD most zeroSt ((L.map PtV.x).take i)) p.x most).h t1 t2 ∧ Kept (fun _ => False) w' w'') := Lib.hid (fun w' k => by
        rw [hst]
        refine (nextD_any _ tp tn p.x p.aa p.pa p.na p.ac p.pc p.nc most w' ((HEA.out p hmem).1.1.on (HPS.out.kept.trans k)) (HEA.out p hmem).1.2.1 (HEA.out p hmem).2 ((ho.on k).in_ hfine.h) hfine.lp hfine.ln hfine.re hfine.im).mono ?_
        rintro e w'' ⟨t1, t2, v, rfl, h1, h2⟩
        have hk := h2.kept
        obtain ⟨p', hx, rfl, hnw⟩ := h2.ptv2
        exact ⟨_, p', t1, t2, rfl, ⟨state_info, rfl, stC_one h1.one, rfl⟩, hx, ⟨hnw, h1⟩, hk⟩)
      obtain ⟨CP, hCP⟩ : ∃ c, c = p.cs := ⟨_, rfl⟩
      rw [← hCP] at HRG HNX
      have HIP : Hid ((Try.prog.info? 37).map (·.size) = some CP.size) := Lib.hid (by rw [hCP]; exact pt_size p)
      have HCP : Hid (Value.agg CP = .agg p.cs) := Lib.hid (by rw [hCP])
      by_cases hE : stepD (stDD most zeroSt ((L.map PtV.x).take i)) p.x most = 0
      · have HE := Lib.hid hE
        rw [hE] at HNX
        clear hd hin hiL hp hpp hmem hts hst ho hCP hE hfine
        go_upto_region 6 with fail
        obtain ⟨wD, hwd⟩ : ∃ w', w' = wr.drew := ⟨_, rfl⟩
        refine AnyBut.start (S := fun w' => w'.heap[g9]? = some (.cells NS 32 (0, 0)) ∧ w'.rangeAt gb (ob + i * 17) CP.toList) (k := 16) (by kernel_rfl) ?_
        rw [← hwd]
        have HKR : Hid (Kept (fun _ => False) wr wD) := Lib.hid (by rw [hwd]; exact (Kept.refl _ _).drew)
        have HKD : Hid (Kept (fun _ => False) wD wD) := Lib.hid (Kept.refl _ _)
        have HSB : Hid (∀ w', Kept (fun _ => False) wD w' → (fun w' => w'.heap[g9]? = some (.cells NS 32 (0, 0)) ∧ w'.rangeAt gb (ob + i * 17) CP.toList) w') := Lib.hid (fun w' k => ⟨(HKR.out.trans k).same HPS.out.box (fun x => x), (HRG.out _ (HKR.out.trans k))⟩)
        have HS0 := Lib.hid (HSB.out wD HKD.out)
        clear hwd
        refine AnyBut.takeS (i := 0) (v := ?v1) rfl (by kernel_rfl) (Nat.le_of_eq (by kernel_rfl)) (by kernel_rfl) (by kernel_rfl) (fun _ _ _ h => h) (HS0.out) (Or.inl ⟨by kernel_rfl, ?hy1⟩) ?r1
        case hy1 =>
          intro w hSw
          try dsimp only at hSw
          refine exec_load_row 32 (.tmp 9) ?_ g9 ?_ 32 _ (0, 0) _ hSw.1 Try.underlying32 rfl HIS.out.1
          · rfl
          · rfl
        try simp only [Act.put, List.getElem_toArray, List.getElem_cons_zero, List.setIfInBounds_toArray, List.set_cons_zero, List.set_cons_succ]
        refine AnyBut.takeS (i := 1) (v := ?v2) rfl (by kernel_rfl) (Nat.le_of_eq (by kernel_rfl)) (by kernel_rfl) (by kernel_rfl) (fun _ _ _ h => h) (HS0.out) (Or.inl ⟨by kernel_rfl, ?hy2⟩) ?r2
        case hy2 =>
          intro w hSw
          try dsimp only at hSw
          go_simp
          try with_reducible rfl
        try simp only [Act.put, List.getElem_toArray, List.getElem_cons_succ, List.getElem_cons_zero, List.setIfInBounds_toArray, List.set_cons_zero, List.set_cons_succ]
        refine AnyBut.takeS (i := 2) (v := ?v3) rfl (by kernel_rfl) (Nat.le_of_eq (by kernel_rfl)) (by kernel_rfl) (by kernel_rfl) (fun _ _ _ h => h) (HS0.out) (Or.inl ⟨by kernel_rfl, ?hy3⟩) ?r3
        case hy3 =>
          intro w hSw
          try dsimp only at hSw
          go_simp
          try with_reducible rfl
        try simp only [Act.put, List.getElem_toArray, List.getElem_cons_succ, List.getElem_cons_zero, List.setIfInBounds_toArray, List.set_cons_zero, List.set_cons_succ]
        refine AnyBut.takeS (i := 3) (v := ?v4) rfl (by kernel_rfl) (Nat.le_of_eq (by kernel_rfl)) (by kernel_rfl) (by kernel_rfl) (fun _ _ _ h => h) (HS0.out) (Or.inl ⟨by kernel_rfl, ?hy4⟩) ?r4
        case hy4 =>
          intro w hSw
          try dsimp only at hSw
          go_simp
          try with_reducible rfl
        try simp only [Act.put, List.getElem_toArray, List.getElem_cons_succ, List.getElem_cons_zero, List.setIfInBounds_toArray, List.set_cons_zero, List.set_cons_succ]
        refine AnyBut.takeS (i := 4) (v := ?v5) rfl (by kernel_rfl) (Nat.le_of_eq (by kernel_rfl)) (by kernel_rfl) (by kernel_rfl) (fun _ _ _ h => h) (HS0.out) (Or.inl ⟨by kernel_rfl, ?hy5⟩) ?r5
        case hy5 =>
          intro w hSw
          try dsimp only at hSw
          refine exec_load_part 37 (.tmp 25) ?_ gb (ob + i * 17) ?_ CP _ hSw.2 Try.underlying37 rfl HIP.out
          · rfl
          · rfl
        try simp only [Act.put, List.getElem_toArray, List.getElem_cons_succ, List.getElem_cons_zero, List.setIfInBounds_toArray, List.set_cons_zero, List.set_cons_succ]
        refine AnyBut.takeS (i := 5) (v := ?v6) rfl (by kernel_rfl) (Nat.le_of_eq (by kernel_rfl)) (by kernel_rfl) (by kernel_rfl) (fun _ _ _ h => h) (HS0.out) (Or.inl ⟨by kernel_rfl, ?hy6⟩) ?r6
        case hy6 =>
          intro w hSw
          try dsimp only at hSw
          go_simp
          try with_reducible rfl
        try simp only [Act.put, List.getElem_toArray, List.getElem_cons_succ, List.getElem_cons_zero, List.setIfInBounds_toArray, List.set_cons_zero, List.set_cons_succ]
        refine AnyBut.three (i := 6) (j := 11) (m := 12) (by kernel_rfl) rfl rfl rfl (fun K hK => ?_) (fun K hK => ?_) (fun K hK => ?_)
        · go_simp
          go_wp2_with fail
          refine (HNX.out wD (HKR.out.trans HKD.out)).mono ?_
          rintro e u_6 ⟨NT, p', t1, t2, rfl, hNT, hp', hnw, kk⟩
          have HPN_6 := Lib.hid (hnw.down ((HPS.out.kept.trans HKR.out).trans HKD.out))
          have HK_6 := Lib.hid (HKD.out.trans kk)
          have HNT := Lib.hid hNT
          have HPP := Lib.hid hp'
          have HS_6 := Lib.hid (HSB.out u_6 HK_6.out)
          obtain ⟨CY, hCY⟩ : ∃ c, c = p'.cs := ⟨_, rfl⟩
          rw [← hCY]
          have HCY := Lib.hid hCY
          have HIY : Hid ((Try.prog.info? 37).map (·.size) = some CY.size ∧ (#[.string { data := #[] }, .slice none 0 0, .int .i64 0, .int .i64 0, .bool false, .int .i64 0, .int .i64 0, .int .i64 0, .int .u64 0, .int .u64 0, .int .i64 0, .int .u64 0, .int .i64 0, .slice none 0 0, .int .i64 0, .slice none 0 0, .int .i64 0] : Array Value).size = CY.size ∧ CY.all (·.oneCell') = true) := Lib.hid (by rw [hCY]; exact ⟨pt_size p', rfl, cs_one p'⟩)
          clear kk hNT hp' hnw hCY
          go_wp2
          refine hK.out _ _ (HS_6.out) ?_
          clear hK K
          try simp only [Act.put, List.getElem_toArray, List.getElem_cons_succ, List.getElem_cons_zero, List.setIfInBounds_toArray, List.set_cons_zero, List.set_cons_succ]
          refine AnyBut.takeS (i := 7) (v := ?v7) rfl (by kernel_rfl) (Nat.le_of_eq (by kernel_rfl)) (by kernel_rfl) (by kernel_rfl) (fun _ _ _ h => h) (HS_6.out) (Or.inl ⟨by kernel_rfl, ?hy7⟩) ?r7
          case hy7 =>
            intro w hSw
            try dsimp only at hSw
            go_simp
            try with_reducible rfl
          try simp only [Act.put, List.getElem_toArray, List.getElem_cons_succ, List.getElem_cons_zero, List.setIfInBounds_toArray, List.set_cons_zero, List.set_cons_succ]
          refine AnyBut.takeS (i := 8) (v := ?v8) rfl (by kernel_rfl) (Nat.le_of_eq (by kernel_rfl)) (by kernel_rfl) (by kernel_rfl) (fun _ _ _ h => h) (HS_6.out) (Or.inl ⟨by kernel_rfl, ?hy8⟩) ?r8
          case hy8 =>
            intro w hSw
            try dsimp only at hSw
            go_simp
            try with_reducible rfl
          try simp only [Act.put, List.getElem_toArray, List.getElem_cons_succ, List.getElem_cons_zero, List.setIfInBounds_toArray, List.set_cons_zero, List.set_cons_succ]
          refine AnyBut.takeS (i := 9) (v := ?v9) rfl (by kernel_rfl) (Nat.le_of_eq (by kernel_rfl)) (by kernel_rfl) (by kernel_rfl) (fun _ _ _ h => h) (HS_6.out) (Or.inl ⟨by kernel_rfl, ?hy9⟩) ?r9
          case hy9 =>
            intro w hSw
            try dsimp only at hSw
            go_simp
            try with_reducible rfl
          try simp only [Act.put, List.getElem_toArray, List.getElem_cons_succ, List.getElem_cons_zero, List.setIfInBounds_toArray, List.set_cons_zero, List.set_cons_succ]
          refine AnyBut.takeS (i := 10) (v := ?v10) rfl (by kernel_rfl) (Nat.le_of_eq (by kernel_rfl)) (by kernel_rfl) (by kernel_rfl) (fun _ _ _ h => h) (HS_6.out) (Or.inl ⟨by kernel_rfl, ?hy10⟩) ?r10
          case hy10 =>
            intro w hSw
            try dsimp only at hSw
            go_simp
            try with_reducible rfl
          try simp only [Act.put, List.getElem_toArray, List.getElem_cons_succ, List.getElem_cons_zero, List.setIfInBounds_toArray, List.set_cons_zero, List.set_cons_succ]
          refine AnyBut.two (i := 11) (j := 12) (by kernel_rfl) rfl rfl (fun K hK => ?_) (fun K hK => ?_)
          · go_simp
            obtain ⟨g11, hg11⟩ : ∃ g, g = u_6.heap.size := ⟨_, rfl⟩
            obtain ⟨u_6_11, hnw⟩ : ∃ w', w' = u_6.alloc (.cells #[.bool false, .int .i64 0, .int .i64 0, .int .i64 0, .int .u64 0, .int .u64 0, .int .i64 0, .int .u64 0, .int .i64 0, .slice none 0 0, .int .i64 0, .slice none 0 0] 32) := ⟨_, rfl⟩
            have kk : Kept (fun _ => False) u_6 u_6_11 := by rw [hnw]; exact (Kept.refl _ _).alloc _
            have HT_6_11 : Hid (u_6_11.heap[g11]? = some (.cells #[.bool false, .int .i64 0, .int .i64 0, .int .i64 0, .int .u64 0, .int .u64 0, .int .i64 0, .int .u64 0, .int .i64 0, .slice none 0 0, .int .i64 0, .slice none 0 0] 32 (0, 0))) := Lib.hid (by rw [hnw, hg11]; exact heap_alloc_new u_6 _)
            have HL11 : Hid (wD.heap.size ≤ g11) := Lib.hid (by rw [hg11]; exact HK_6.out.size)
            have HK_6_11 := Lib.hid (HK_6.out.trans kk)
            have HPN_6_11 := Lib.hid (HPN_6.out.on kk)
            have HS_6_11 := Lib.hid (HSB.out u_6_11 HK_6_11.out)
            rw [← hg11, ← hnw]
            clear hg11 hnw kk
            refine hK.out _ _ (HS_6_11.out) ?_
            clear hK K
            try simp only [Act.put, List.getElem_toArray, List.getElem_cons_succ, List.getElem_cons_zero, List.setIfInBounds_toArray, List.set_cons_zero, List.set_cons_succ]
            refine AnyBut.one (i := 12) (by kernel_rfl) rfl (fun K hK => ?_)
            go_simp
            obtain ⟨g12, hg12⟩ : ∃ g, g = u_6_11.heap.size := ⟨_, rfl⟩
            obtain ⟨u_6_11_12, hnw⟩ : ∃ w', w' = u_6_11.alloc (.cells #[.string { data := #[] }, .slice none 0 0, .int .i64 0, .int .i64 0, .bool false, .int .i64 0, .int .i64 0, .int .i64 0, .int .u64 0, .int .u64 0, .int .i64 0, .int .u64 0, .int .i64 0, .slice none 0 0, .int .i64 0, .slice none 0 0, .int .i64 0] 37) := ⟨_, rfl⟩
            have kk : Kept (fun _ => False) u_6_11 u_6_11_12 := by rw [hnw]; exact (Kept.refl _ _).alloc _
            have HQ_6_11_12 : Hid (u_6_11_12.heap[g12]? = some (.cells #[.string { data := #[] }, .slice none 0 0, .int .i64 0, .int .i64 0, .bool false, .int .i64 0, .int .i64 0, .int .i64 0, .int .u64 0, .int .u64 0, .int .i64 0, .int .u64 0, .int .i64 0, .slice none 0 0, .int .i64 0, .slice none 0 0, .int .i64 0] 37 (0, 0))) := Lib.hid (by rw [hnw, hg12]; exact heap_alloc_new u_6_11 _)
            have HL12 : Hid (wD.heap.size ≤ g12) := Lib.hid (by rw [hg12]; exact HK_6_11.out.size)
            have HK_6_11_12 := Lib.hid (HK_6_11.out.trans kk)
            have HT_6_11_12 := Lib.hid (kk.same HT_6_11.out (fun x => x))
            have HPN_6_11_12 := Lib.hid (HPN_6_11.out.on kk)
            have HS_6_11_12 := Lib.hid (HSB.out u_6_11_12 HK_6_11_12.out)
            rw [← hg12, ← hnw]
            clear hg12 hnw kk
            refine hK.out _ _ (HS_6_11_12.out) ?_
            clear hK K
            try simp only [Act.put, List.getElem_toArray, List.getElem_cons_succ, List.getElem_cons_zero, List.setIfInBounds_toArray, List.set_cons_zero, List.set_cons_succ]
            refine AnyBut.one (i := 13) (by kernel_rfl) rfl (fun K hK => ?_)
            refine step_store_to (by rfl) 32 (.tmp 11) (.tmp 29) (by rfl) g11 NT (by rfl) (by rfl) 32 #[.bool false, .int .i64 0, .int .i64 0, .int .i64 0, .int .u64 0, .int .u64 0, .int .i64 0, .int .u64 0, .int .i64 0, .slice none 0 0, .int .i64 0, .slice none 0 0] HT_6_11_12.out HNT.out.1 HNT.out.2.1 HNT.out.2.2.1 ?_
            intro w13 hb13 k13
            have HT13 := Lib.hid hb13
            have HPN13 := Lib.hid (HPN_6_11_12.out.set HT_6_11_12.out (by decide) (by decide) (by have := HL11.out; have := (HPS.out.kept.trans HKR.out).size; omega) k13)
            have HQ13 := Lib.hid (k13.same HQ_6_11_12.out (fun e => box_ne HT_6_11_12.out HQ_6_11_12.out (by decide) e.symm))
            have HK13 := Lib.hid (HK_6_11_12.out.newer k13 (fun i e => by rw [e]; exact HL11.out))
            have HS13 := Lib.hid (HSB.out w13 HK13.out)
            clear hb13 k13
            refine hK.out _ _ (HS13.out) ?_
            clear hK K
            try simp only [Act.put, List.getElem_toArray, List.getElem_cons_succ, List.getElem_cons_zero]
            refine AnyBut.one (i := 14) (by kernel_rfl) rfl (fun K hK => ?_)
            refine step_store_to (by rfl) 37 (.tmp 12) (.tmp 30) (by rfl) g12 CY (by rfl) (by rfl) 37 #[.string { data := #[] }, .slice none 0 0, .int .i64 0, .int .i64 0, .bool false, .int .i64 0, .int .i64 0, .int .i64 0, .int .u64 0, .int .u64 0, .int .i64 0, .int .u64 0, .int .i64 0, .slice none 0 0, .int .i64 0, .slice none 0 0, .int .i64 0] HQ13.out HIY.out.1 HIY.out.2.1 HIY.out.2.2 ?_
            intro w14 hb14 k14
            have HQ14 := Lib.hid hb14
            have HPN14 := Lib.hid (HPN13.out.set HQ13.out (by decide) (by decide) (by have := HL12.out; have := (HPS.out.kept.trans HKR.out).size; omega) k14)
            have HT14 := Lib.hid (k14.same HT13.out (fun e => box_ne HT13.out HQ13.out (by decide) e))
            have HK14 := Lib.hid (HK13.out.newer k14 (fun i e => by rw [e]; exact HL12.out))
            have HS14 := Lib.hid (HSB.out w14 HK14.out)
            clear hb14 k14
            refine hK.out _ _ (HS14.out) ?_
            clear hK K
            try simp only [Act.put, List.getElem_toArray, List.getElem_cons_succ, List.getElem_cons_zero]
            refine AnyBut.takeS (i := 15) (v := ?v11) rfl (by kernel_rfl) (Nat.le_of_eq (by kernel_rfl)) (by kernel_rfl) (by kernel_rfl) (fun _ _ _ h => h) (HS14.out) (Or.inl ⟨by kernel_rfl, ?hy11⟩) ?r11
            case hy11 =>
              intro w hSw
              try dsimp only at hSw
              go_simp
              try with_reducible rfl
            try simp only [Act.put, List.getElem_toArray, List.getElem_cons_succ, List.getElem_cons_zero, List.setIfInBounds_toArray, List.set_cons_zero, List.set_cons_succ]
            refine AnyBut.done (by kernel_rfl) ?_
            have HRx := Lib.hid (HSB.out w14 HK14.out).2
            have HPD := Lib.hid (HPS.out.on (HKR.out.trans HK14.out))
            obtain ⟨I, O, hI, hO, hIx, hOx, hNO⟩ := HPD.out.rows
            have HNO := Lib.hid hNO
            clear hNO
            have HMI := Lib.hid hI
            have HMO := Lib.hid hO
            have HXX := Lib.hid (And.intro hIx hOx)
            clear hI hO hIx hOx
            have HLN : Hid (I.length ≤ 20 ∧ O.length ≤ 20) := Lib.hid (by have h1 := congrArg List.length HXX.out.1; have h2 := congrArg List.length HXX.out.2; have h3 := playD_len most ((L.map PtV.x).take i) zeroSt; have h4 := HN.out; rw [List.length_map, List.length_map] at h1 h2; rw [List.length_take, List.length_map] at h3; omega)
            go_upto_region 9 with (first | (refine wpList_load_part rfl 37 (.tmp 37) rfl gb (ob + i * 17) rfl CP _ HRx.out Try.underlying37 rfl HIP.out ?_) | (refine wpList_build_pt rfl (.tmp 38) rfl p HCP.out ?_) | (at_builtin; refine wpList_mineG rfl (.tmp 34) (.tmp 39) rfl Try.underlying22 hi0 hz0 hz1 hz2 rfl w u7 I rfl (HMI.out.on ((Kept.refl _ _).alloc _)) _ [p] 1 rfl rfl (src_pt w14 p) (by have := HLN.out; omega) (by omega) ?_; intro vi' w15 hm15 k15 ha15; have HMI2 := Lib.hid hm15; have HK15 := Lib.hid k15; have HA15 := Lib.hid ha15; clear hm15 k15 ha15))
            have HAK : Hid (Kept (fun _ => False) w14 (w14.alloc (.cells p.cs 37))) := Lib.hid ((Kept.refl _ _).alloc _)
            have HMO2 := Lib.hid ((HMO.out.on HAK.out).keptS HK15.out (fun k e e2 => HPD.out.ap k e2 e) (fun k e => (ownsRow_lt HMI.out.own e).2))
            have HQ15 := Lib.hid (HK15.out.same (HAK.out.same HQ14.out (fun x => x)) (fun e => by obtain ⟨I', O', h1, _⟩ := (HPS.out.on HKR.out).rows; have := (ownsRow_lt h1.own e).1; have := HL12.out; omega))
            have HT15 := Lib.hid (HK15.out.same (HAK.out.same HT14.out (fun x => x)) (fun e => own_box HMI.out.own HT14.out (by decide) e))
            have HB15 := Lib.hid (HK15.out.same (HAK.out.same HPD.out.box (fun x => x)) (fun e => own_box HMI.out.own HPD.out.box (by decide) e))
            have HAP15 : Hid (∀ k, vi'.ownBlock = some k → u8.ownBlock ≠ some k) := Lib.hid (fun k e e2 => by rcases HA15.out with h | h; exact HPD.out.ap k (by rw [← h]; exact e) e2; rw [h] at e; injection e with e; have := (ownsRow_lt HMO.out.own e2).1; have h3 := HAK.out.size; simp at e; omega)
            go_upto_region 10 with (first | (refine wpList_load_row rfl 37 (.tmp 12) rfl g12 rfl 37 _ (0, 0) _ HQ15.out Try.underlying37 rfl HIY.out.1 ?_) | (refine wpList_build_pt rfl (.tmp 42) rfl p' (by rw [← HCY.out]; rfl) ?_) | (at_builtin; refine wpList_mineG rfl (.tmp 41) (.tmp 43) rfl Try.underlying22 hi0 hz0 hz1 hz2 rfl w u8 O rfl (HMO2.out.on ((Kept.refl _ _).alloc _)) _ [p'] 1 rfl rfl (src_pt w15 p') (by have := HLN.out; omega) (by omega) ?_; intro vo' w16 hm16 k16 ha16; have HMO3 := Lib.hid hm16; have HK16 := Lib.hid k16; have HA16 := Lib.hid ha16; clear hm16 k16 ha16))
            have HAK2 : Hid (Kept (fun _ => False) w15 (w15.alloc (.cells p'.cs 37))) := Lib.hid ((Kept.refl _ _).alloc _)
            have HMI3 := Lib.hid ((HMI2.out.on HAK2.out).keptS HK16.out (fun k e e2 => HAP15.out k e e2) (fun k e => (ownsRow_lt HMO2.out.own e).2))
            have HT16 := Lib.hid (HK16.out.same (HAK2.out.same HT15.out (fun x => x)) (fun e => own_box HMO2.out.own HT15.out (by decide) e))
            have HB16 := Lib.hid (HK16.out.same (HAK2.out.same HB15.out (fun x => x)) (fun e => own_box HMO2.out.own HB15.out (by decide) e))
            have HAP16 : Hid (∀ k, vi'.ownBlock = some k → vo'.ownBlock ≠ some k) := Lib.hid (fun k e e2 => by rcases HA16.out with h | h; exact HAP15.out k e (by rw [← h]; exact e2); rw [h] at e2; injection e2 with e2; have := (ownsRow_lt HMI2.out.own e).1; simp at e2; omega)
            go_upto_region 5 with (first | (refine wpList_load_row rfl 32 (.tmp 11) rfl g11 rfl 32 _ (0, 0) _ HT16.out Try.underlying32 rfl HNT.out.1 ?_) | (refine wpList_store_to rfl 32 (.tmp 9) _ rfl g9 NT rfl rfl 32 NS HB16.out HNT.out.1 (HIS.out.2.trans HNT.out.2.1) HNT.out.2.2.1 ?_; intro w17 hb17 k17; have HB17 := Lib.hid hb17; have HK17 := Lib.hid k17; clear hb17 k17))
            go_wp2
            go_roundg (n - (i + 1))
            case measure => have := HD.out; omega
            case rel =>
              obtain ⟨q1, q2⟩ := playD_snoc most ((L.map PtV.x).take i) zeroSt p.x
              rw [if_pos HE.out] at q1 q2
              refine ⟨i + 1, HD.out, rfl, rfl, NT, ?_⟩
              rw [← HTS.out]
              have hnew : ∀ r : PtV, r.New w w14 → r.New w w17 := fun r n => (((n.on HAK.out).row (HMI.out.on HAK.out) HK15.out).on HAK2.out |>.row (HMO2.out.on HAK2.out) HK16.out).set HB16.out (by decide) (by decide) HPS.out.new HK17.out
              have hlast := (((HPN14.out.on HAK.out).row (HMI.out.on HAK.out) HK15.out).on HAK2.out |>.row (HMO2.out.on HAK2.out) HK16.out).set HB16.out (by decide) (by decide) HPS.out.new HK17.out
              have hne : ∀ (v : Value) (L' : List PtV), MineT w w16 v L' → MineT w w17 v L' := fun v L' m => m.keptS HK17.out (fun k e e2 => own_box m.own HB16.out (by decide) (e2 ▸ e)) (fun k e => by rw [e]; exact HPS.out.new)
              have h1 := HNT.out.2.2.2
              have r14 := (HKR.out.trans HK14.out).same HRS.out (fun x => x)
              have r15 := HK15.out.same (HAK.out.same r14 (fun x => x)) (fun e => own_box HMI.out.own r14 (by decide) e)
              have r16 := HK16.out.same (HAK2.out.same r15 (fun x => x)) (fun e => own_box HMO2.out.own r15 (by decide) e)
              have r17 := HK17.out.same r16 (fun e => by have := HG9.out; omega)
              refine ⟨⟨⟨I ++ [p], O ++ [p'], hne _ _ HMI3.out, hne _ _ HMO3.out, ?_, ?_, ?_⟩, ⟨t1, t2, by rw [q2]; exact h1, by rw [q2]; exact hlast.st⟩, HB17.out, HPS.out.new, HAP16.out⟩, r17⟩
              · rw [q1, List.map_append, List.map_append, HXX.out.1]; rfl
              · rw [q1, List.map_append, List.map_append, HXX.out.2]; show _ ++ [p'.x] = _; rw [HPP.out]; rfl
              · intro r hr
                rcases List.mem_append.1 hr with h | h
                · exact hnew r (HNO.out r h)
                · rw [List.mem_singleton] at h; rw [h]; exact hlast.pt
          · go_simp
            obtain ⟨g12, hg12⟩ : ∃ g, g = u_6.heap.size := ⟨_, rfl⟩
            obtain ⟨u_6_12, hnw⟩ : ∃ w', w' = u_6.alloc (.cells #[.string { data := #[] }, .slice none 0 0, .int .i64 0, .int .i64 0, .bool false, .int .i64 0, .int .i64 0, .int .i64 0, .int .u64 0, .int .u64 0, .int .i64 0, .int .u64 0, .int .i64 0, .slice none 0 0, .int .i64 0, .slice none 0 0, .int .i64 0] 37) := ⟨_, rfl⟩
            have kk : Kept (fun _ => False) u_6 u_6_12 := by rw [hnw]; exact (Kept.refl _ _).alloc _
            have HQ_6_12 : Hid (u_6_12.heap[g12]? = some (.cells #[.string { data := #[] }, .slice none 0 0, .int .i64 0, .int .i64 0, .bool false, .int .i64 0, .int .i64 0, .int .i64 0, .int .u64 0, .int .u64 0, .int .i64 0, .int .u64 0, .int .i64 0, .slice none 0 0, .int .i64 0, .slice none 0 0, .int .i64 0] 37 (0, 0))) := Lib.hid (by rw [hnw, hg12]; exact heap_alloc_new u_6 _)
            have HL12 : Hid (wD.heap.size ≤ g12) := Lib.hid (by rw [hg12]; exact HK_6.out.size)
            have HK_6_12 := Lib.hid (HK_6.out.trans kk)
            have HPN_6_12 := Lib.hid (HPN_6.out.on kk)
            have HS_6_12 := Lib.hid (HSB.out u_6_12 HK_6_12.out)
            rw [← hg12, ← hnw]
            clear hg12 hnw kk
            refine hK.out _ _ (HS_6_12.out) ?_
            clear hK K
            try simp only [Act.put, List.getElem_toArray, List.getElem_cons_succ, List.getElem_cons_zero, List.setIfInBounds_toArray, List.set_cons_zero, List.set_cons_succ]
            refine AnyBut.one (i := 11) (by kernel_rfl) rfl (fun K hK => ?_)
            go_simp
            obtain ⟨g11, hg11⟩ : ∃ g, g = u_6_12.heap.size := ⟨_, rfl⟩
            obtain ⟨u_6_12_11, hnw⟩ : ∃ w', w' = u_6_12.alloc (.cells #[.bool false, .int .i64 0, .int .i64 0, .int .i64 0, .int .u64 0, .int .u64 0, .int .i64 0, .int .u64 0, .int .i64 0, .slice none 0 0, .int .i64 0, .slice none 0 0] 32) := ⟨_, rfl⟩
            have kk : Kept (fun _ => False) u_6_12 u_6_12_11 := by rw [hnw]; exact (Kept.refl _ _).alloc _
            have HT_6_12_11 : Hid (u_6_12_11.heap[g11]? = some (.cells #[.bool false, .int .i64 0, .int .i64 0, .int .i64 0, .int .u64 0, .int .u64 0, .int .i64 0, .int .u64 0, .int .i64 0, .slice none 0 0, .int .i64 0, .slice none 0 0] 32 (0, 0))) := Lib.hid (by rw [hnw, hg11]; exact heap_alloc_new u_6_12 _)
            have HL11 : Hid (wD.heap.size ≤ g11) := Lib.hid (by rw [hg11]; exact HK_6_12.out.size)
            have HK_6_12_11 := Lib.hid (HK_6_12.out.trans kk)
            have HPN_6_12_11 := Lib.hid (HPN_6_12.out.on kk)
            have HQ_6_12_11 := Lib.hid (kk.same HQ_6_12.out (fun x => x))
            have HS_6_12_11 := Lib.hid (HSB.out u_6_12_11 HK_6_12_11.out)
            rw [← hg11, ← hnw]
            clear hg11 hnw kk
            refine hK.out _ _ (HS_6_12_11.out) ?_
            clear hK K
            try simp only [Act.put, List.getElem_toArray, List.getElem_cons_succ, List.getElem_cons_zero, List.setIfInBounds_toArray, List.set_cons_zero, List.set_cons_succ]
            refine AnyBut.one (i := 13) (by kernel_rfl) rfl (fun K hK => ?_)
            refine step_store_to (by rfl) 32 (.tmp 11) (.tmp 29) (by rfl) g11 NT (by rfl) (by rfl) 32 #[.bool false, .int .i64 0, .int .i64 0, .int .i64 0, .int .u64 0, .int .u64 0, .int .i64 0, .int .u64 0, .int .i64 0, .slice none 0 0, .int .i64 0, .slice none 0 0] HT_6_12_11.out HNT.out.1 HNT.out.2.1 HNT.out.2.2.1 ?_
            intro w13 hb13 k13
            have HT13 := Lib.hid hb13
            have HPN13 := Lib.hid (HPN_6_12_11.out.set HT_6_12_11.out (by decide) (by decide) (by have := HL11.out; have := (HPS.out.kept.trans HKR.out).size; omega) k13)
            have HQ13 := Lib.hid (k13.same HQ_6_12_11.out (fun e => box_ne HT_6_12_11.out HQ_6_12_11.out (by decide) e.symm))
            have HK13 := Lib.hid (HK_6_12_11.out.newer k13 (fun i e => by rw [e]; exact HL11.out))
            have HS13 := Lib.hid (HSB.out w13 HK13.out)
            clear hb13 k13
            refine hK.out _ _ (HS13.out) ?_
            clear hK K
            try simp only [Act.put, List.getElem_toArray, List.getElem_cons_succ, List.getElem_cons_zero]
            refine AnyBut.one (i := 14) (by kernel_rfl) rfl (fun K hK => ?_)
            refine step_store_to (by rfl) 37 (.tmp 12) (.tmp 30) (by rfl) g12 CY (by rfl) (by rfl) 37 #[.string { data := #[] }, .slice none 0 0, .int .i64 0, .int .i64 0, .bool false, .int .i64 0, .int .i64 0, .int .i64 0, .int .u64 0, .int .u64 0, .int .i64 0, .int .u64 0, .int .i64 0, .slice none 0 0, .int .i64 0, .slice none 0 0, .int .i64 0] HQ13.out HIY.out.1 HIY.out.2.1 HIY.out.2.2 ?_
            intro w14 hb14 k14
            have HQ14 := Lib.hid hb14
            have HPN14 := Lib.hid (HPN13.out.set HQ13.out (by decide) (by decide) (by have := HL12.out; have := (HPS.out.kept.trans HKR.out).size; omega) k14)
            have HT14 := Lib.hid (k14.same HT13.out (fun e => box_ne HT13.out HQ13.out (by decide) e))
            have HK14 := Lib.hid (HK13.out.newer k14 (fun i e => by rw [e]; exact HL12.out))
            have HS14 := Lib.hid (HSB.out w14 HK14.out)
            clear hb14 k14
            refine hK.out _ _ (HS14.out) ?_
            clear hK K
            try simp only [Act.put, List.getElem_toArray, List.getElem_cons_succ, List.getElem_cons_zero]
            refine AnyBut.takeS (i := 15) (v := ?v12) rfl (by kernel_rfl) (Nat.le_of_eq (by kernel_rfl)) (by kernel_rfl) (by kernel_rfl) (fun _ _ _ h => h) (HS14.out) (Or.inl ⟨by kernel_rfl, ?hy12⟩) ?r12
            case hy12 =>
              intro w hSw
              try dsimp only at hSw
              go_simp
              try with_reducible rfl
            try simp only [Act.put, List.getElem_toArray, List.getElem_cons_succ, List.getElem_cons_zero, List.setIfInBounds_toArray, List.set_cons_zero, List.set_cons_succ]
            refine AnyBut.done (by kernel_rfl) ?_
            have HRx := Lib.hid (HSB.out w14 HK14.out).2
            have HPD := Lib.hid (HPS.out.on (HKR.out.trans HK14.out))
            obtain ⟨I, O, hI, hO, hIx, hOx, hNO⟩ := HPD.out.rows
            have HNO := Lib.hid hNO
            clear hNO
            have HMI := Lib.hid hI
            have HMO := Lib.hid hO
            have HXX := Lib.hid (And.intro hIx hOx)
            clear hI hO hIx hOx
            have HLN : Hid (I.length ≤ 20 ∧ O.length ≤ 20) := Lib.hid (by have h1 := congrArg List.length HXX.out.1; have h2 := congrArg List.length HXX.out.2; have h3 := playD_len most ((L.map PtV.x).take i) zeroSt; have h4 := HN.out; rw [List.length_map, List.length_map] at h1 h2; rw [List.length_take, List.length_map] at h3; omega)
            go_upto_region 9 with (first | (refine wpList_load_part rfl 37 (.tmp 37) rfl gb (ob + i * 17) rfl CP _ HRx.out Try.underlying37 rfl HIP.out ?_) | (refine wpList_build_pt rfl (.tmp 38) rfl p HCP.out ?_) | (at_builtin; refine wpList_mineG rfl (.tmp 34) (.tmp 39) rfl Try.underlying22 hi0 hz0 hz1 hz2 rfl w u7 I rfl (HMI.out.on ((Kept.refl _ _).alloc _)) _ [p] 1 rfl rfl (src_pt w14 p) (by have := HLN.out; omega) (by omega) ?_; intro vi' w15 hm15 k15 ha15; have HMI2 := Lib.hid hm15; have HK15 := Lib.hid k15; have HA15 := Lib.hid ha15; clear hm15 k15 ha15))
            have HAK : Hid (Kept (fun _ => False) w14 (w14.alloc (.cells p.cs 37))) := Lib.hid ((Kept.refl _ _).alloc _)
            have HMO2 := Lib.hid ((HMO.out.on HAK.out).keptS HK15.out (fun k e e2 => HPD.out.ap k e2 e) (fun k e => (ownsRow_lt HMI.out.own e).2))
            have HQ15 := Lib.hid (HK15.out.same (HAK.out.same HQ14.out (fun x => x)) (fun e => by obtain ⟨I', O', h1, _⟩ := (HPS.out.on HKR.out).rows; have := (ownsRow_lt h1.own e).1; have := HL12.out; omega))
            have HT15 := Lib.hid (HK15.out.same (HAK.out.same HT14.out (fun x => x)) (fun e => own_box HMI.out.own HT14.out (by decide) e))
            have HB15 := Lib.hid (HK15.out.same (HAK.out.same HPD.out.box (fun x => x)) (fun e => own_box HMI.out.own HPD.out.box (by decide) e))
            have HAP15 : Hid (∀ k, vi'.ownBlock = some k → u8.ownBlock ≠ some k) := Lib.hid (fun k e e2 => by rcases HA15.out with h | h; exact HPD.out.ap k (by rw [← h]; exact e) e2; rw [h] at e; injection e with e; have := (ownsRow_lt HMO.out.own e2).1; have h3 := HAK.out.size; simp at e; omega)
            go_upto_region 10 with (first | (refine wpList_load_row rfl 37 (.tmp 12) rfl g12 rfl 37 _ (0, 0) _ HQ15.out Try.underlying37 rfl HIY.out.1 ?_) | (refine wpList_build_pt rfl (.tmp 42) rfl p' (by rw [← HCY.out]; rfl) ?_) | (at_builtin; refine wpList_mineG rfl (.tmp 41) (.tmp 43) rfl Try.underlying22 hi0 hz0 hz1 hz2 rfl w u8 O rfl (HMO2.out.on ((Kept.refl _ _).alloc _)) _ [p'] 1 rfl rfl (src_pt w15 p') (by have := HLN.out; omega) (by omega) ?_; intro vo' w16 hm16 k16 ha16; have HMO3 := Lib.hid hm16; have HK16 := Lib.hid k16; have HA16 := Lib.hid ha16; clear hm16 k16 ha16))
            have HAK2 : Hid (Kept (fun _ => False) w15 (w15.alloc (.cells p'.cs 37))) := Lib.hid ((Kept.refl _ _).alloc _)
            have HMI3 := Lib.hid ((HMI2.out.on HAK2.out).keptS HK16.out (fun k e e2 => HAP15.out k e e2) (fun k e => (ownsRow_lt HMO2.out.own e).2))
            have HT16 := Lib.hid (HK16.out.same (HAK2.out.same HT15.out (fun x => x)) (fun e => own_box HMO2.out.own HT15.out (by decide) e))
            have HB16 := Lib.hid (HK16.out.same (HAK2.out.same HB15.out (fun x => x)) (fun e => own_box HMO2.out.own HB15.out (by decide) e))
            have HAP16 : Hid (∀ k, vi'.ownBlock = some k → vo'.ownBlock ≠ some k) := Lib.hid (fun k e e2 => by rcases HA16.out with h | h; exact HAP15.out k e (by rw [← h]; exact e2); rw [h] at e2; injection e2 with e2; have := (ownsRow_lt HMI2.out.own e).1; simp at e2; omega)
            go_upto_region 5 with (first | (refine wpList_load_row rfl 32 (.tmp 11) rfl g11 rfl 32 _ (0, 0) _ HT16.out Try.underlying32 rfl HNT.out.1 ?_) | (refine wpList_store_to rfl 32 (.tmp 9) _ rfl g9 NT rfl rfl 32 NS HB16.out HNT.out.1 (HIS.out.2.trans HNT.out.2.1) HNT.out.2.2.1 ?_; intro w17 hb17 k17; have HB17 := Lib.hid hb17; have HK17 := Lib.hid k17; clear hb17 k17))
            go_wp2
            go_roundg (n - (i + 1))
            case measure => have := HD.out; omega
            case rel =>
              obtain ⟨q1, q2⟩ := playD_snoc most ((L.map PtV.x).take i) zeroSt p.x
              rw [if_pos HE.out] at q1 q2
              refine ⟨i + 1, HD.out, rfl, rfl, NT, ?_⟩
              rw [← HTS.out]
              have hnew : ∀ r : PtV, r.New w w14 → r.New w w17 := fun r n => (((n.on HAK.out).row (HMI.out.on HAK.out) HK15.out).on HAK2.out |>.row (HMO2.out.on HAK2.out) HK16.out).set HB16.out (by decide) (by decide) HPS.out.new HK17.out
              have hlast := (((HPN14.out.on HAK.out).row (HMI.out.on HAK.out) HK15.out).on HAK2.out |>.row (HMO2.out.on HAK2.out) HK16.out).set HB16.out (by decide) (by decide) HPS.out.new HK17.out
              have hne : ∀ (v : Value) (L' : List PtV), MineT w w16 v L' → MineT w w17 v L' := fun v L' m => m.keptS HK17.out (fun k e e2 => own_box m.own HB16.out (by decide) (e2 ▸ e)) (fun k e => by rw [e]; exact HPS.out.new)
              have h1 := HNT.out.2.2.2
              have r14 := (HKR.out.trans HK14.out).same HRS.out (fun x => x)
              have r15 := HK15.out.same (HAK.out.same r14 (fun x => x)) (fun e => own_box HMI.out.own r14 (by decide) e)
              have r16 := HK16.out.same (HAK2.out.same r15 (fun x => x)) (fun e => own_box HMO2.out.own r15 (by decide) e)
              have r17 := HK17.out.same r16 (fun e => by have := HG9.out; omega)
              refine ⟨⟨⟨I ++ [p], O ++ [p'], hne _ _ HMI3.out, hne _ _ HMO3.out, ?_, ?_, ?_⟩, ⟨t1, t2, by rw [q2]; exact h1, by rw [q2]; exact hlast.st⟩, HB17.out, HPS.out.new, HAP16.out⟩, r17⟩
              · rw [q1, List.map_append, List.map_append, HXX.out.1]; rfl
              · rw [q1, List.map_append, List.map_append, HXX.out.2]; show _ ++ [p'.x] = _; rw [HPP.out]; rfl
              · intro r hr
                rcases List.mem_append.1 hr with h | h
                · exact hnew r (HNO.out r h)
                · rw [List.mem_singleton] at h; rw [h]; exact hlast.pt
        · go_simp
          obtain ⟨g11, hg11⟩ : ∃ g, g = wD.heap.size := ⟨_, rfl⟩
          obtain ⟨u_11, hnw⟩ : ∃ w', w' = wD.alloc (.cells #[.bool false, .int .i64 0, .int .i64 0, .int .i64 0, .int .u64 0, .int .u64 0, .int .i64 0, .int .u64 0, .int .i64 0, .slice none 0 0, .int .i64 0, .slice none 0 0] 32) := ⟨_, rfl⟩
          have kk : Kept (fun _ => False) wD u_11 := by rw [hnw]; exact (Kept.refl _ _).alloc _
          have HT_11 : Hid (u_11.heap[g11]? = some (.cells #[.bool false, .int .i64 0, .int .i64 0, .int .i64 0, .int .u64 0, .int .u64 0, .int .i64 0, .int .u64 0, .int .i64 0, .slice none 0 0, .int .i64 0, .slice none 0 0] 32 (0, 0))) := Lib.hid (by rw [hnw, hg11]; exact heap_alloc_new wD _)
          have HL11 : Hid (wD.heap.size ≤ g11) := Lib.hid (by rw [hg11]; exact HKD.out.size)
          have HK_11 := Lib.hid (HKD.out.trans kk)
          have HS_11 := Lib.hid (HSB.out u_11 HK_11.out)
          rw [← hg11, ← hnw]
          clear hg11 hnw kk
          refine hK.out _ _ (HS_11.out) ?_
          clear hK K
          try simp only [Act.put, List.getElem_toArray, List.getElem_cons_succ, List.getElem_cons_zero, List.setIfInBounds_toArray, List.set_cons_zero, List.set_cons_succ]
          refine AnyBut.two (i := 6) (j := 12) (by kernel_rfl) rfl rfl (fun K hK => ?_) (fun K hK => ?_)
          · go_simp
            go_wp2_with fail
            refine (HNX.out u_11 (HKR.out.trans HK_11.out)).mono ?_
            rintro e u_11_6 ⟨NT, p', t1, t2, rfl, hNT, hp', hnw, kk⟩
            have HPN_11_6 := Lib.hid (hnw.down ((HPS.out.kept.trans HKR.out).trans HK_11.out))
            have HK_11_6 := Lib.hid (HK_11.out.trans kk)
            have HT_11_6 := Lib.hid (kk.same HT_11.out (fun x => x))
            have HNT := Lib.hid hNT
            have HPP := Lib.hid hp'
            have HS_11_6 := Lib.hid (HSB.out u_11_6 HK_11_6.out)
            obtain ⟨CY, hCY⟩ : ∃ c, c = p'.cs := ⟨_, rfl⟩
            rw [← hCY]
            have HCY := Lib.hid hCY
            have HIY : Hid ((Try.prog.info? 37).map (·.size) = some CY.size ∧ (#[.string { data := #[] }, .slice none 0 0, .int .i64 0, .int .i64 0, .bool false, .int .i64 0, .int .i64 0, .int .i64 0, .int .u64 0, .int .u64 0, .int .i64 0, .int .u64 0, .int .i64 0, .slice none 0 0, .int .i64 0, .slice none 0 0, .int .i64 0] : Array Value).size = CY.size ∧ CY.all (·.oneCell') = true) := Lib.hid (by rw [hCY]; exact ⟨pt_size p', rfl, cs_one p'⟩)
            clear kk hNT hp' hnw hCY
            go_wp2
            refine hK.out _ _ (HS_11_6.out) ?_
            clear hK K
            try simp only [Act.put, List.getElem_toArray, List.getElem_cons_succ, List.getElem_cons_zero, List.setIfInBounds_toArray, List.set_cons_zero, List.set_cons_succ]
            refine AnyBut.takeS (i := 7) (v := ?v13) rfl (by kernel_rfl) (Nat.le_of_eq (by kernel_rfl)) (by kernel_rfl) (by kernel_rfl) (fun _ _ _ h => h) (HS_11_6.out) (Or.inl ⟨by kernel_rfl, ?hy13⟩) ?r13
            case hy13 =>
              intro w hSw
              try dsimp only at hSw
              go_simp
              try with_reducible rfl
            try simp only [Act.put, List.getElem_toArray, List.getElem_cons_succ, List.getElem_cons_zero, List.setIfInBounds_toArray, List.set_cons_zero, List.set_cons_succ]
            refine AnyBut.takeS (i := 8) (v := ?v14) rfl (by kernel_rfl) (Nat.le_of_eq (by kernel_rfl)) (by kernel_rfl) (by kernel_rfl) (fun _ _ _ h => h) (HS_11_6.out) (Or.inl ⟨by kernel_rfl, ?hy14⟩) ?r14
            case hy14 =>
              intro w hSw
              try dsimp only at hSw
              go_simp
              try with_reducible rfl
            try simp only [Act.put, List.getElem_toArray, List.getElem_cons_succ, List.getElem_cons_zero, List.setIfInBounds_toArray, List.set_cons_zero, List.set_cons_succ]
            refine AnyBut.takeS (i := 9) (v := ?v15) rfl (by kernel_rfl) (Nat.le_of_eq (by kernel_rfl)) (by kernel_rfl) (by kernel_rfl) (fun _ _ _ h => h) (HS_11_6.out) (Or.inl ⟨by kernel_rfl, ?hy15⟩) ?r15
            case hy15 =>
              intro w hSw
              try dsimp only at hSw
              go_simp
              try with_reducible rfl
            try simp only [Act.put, List.getElem_toArray, List.getElem_cons_succ, List.getElem_cons_zero, List.setIfInBounds_toArray, List.set_cons_zero, List.set_cons_succ]
            refine AnyBut.takeS (i := 10) (v := ?v16) rfl (by kernel_rfl) (Nat.le_of_eq (by kernel_rfl)) (by kernel_rfl) (by kernel_rfl) (fun _ _ _ h => h) (HS_11_6.out) (Or.inl ⟨by kernel_rfl, ?hy16⟩) ?r16
            case hy16 =>
              intro w hSw
              try dsimp only at hSw
              go_simp
              try with_reducible rfl
            try simp only [Act.put, List.getElem_toArray, List.getElem_cons_succ, List.getElem_cons_zero, List.setIfInBounds_toArray, List.set_cons_zero, List.set_cons_succ]
            refine AnyBut.one (i := 12) (by kernel_rfl) rfl (fun K hK => ?_)
            go_simp
            obtain ⟨g12, hg12⟩ : ∃ g, g = u_11_6.heap.size := ⟨_, rfl⟩
            obtain ⟨u_11_6_12, hnw⟩ : ∃ w', w' = u_11_6.alloc (.cells #[.string { data := #[] }, .slice none 0 0, .int .i64 0, .int .i64 0, .bool false, .int .i64 0, .int .i64 0, .int .i64 0, .int .u64 0, .int .u64 0, .int .i64 0, .int .u64 0, .int .i64 0, .slice none 0 0, .int .i64 0, .slice none 0 0, .int .i64 0] 37) := ⟨_, rfl⟩
            have kk : Kept (fun _ => False) u_11_6 u_11_6_12 := by rw [hnw]; exact (Kept.refl _ _).alloc _
            have HQ_11_6_12 : Hid (u_11_6_12.heap[g12]? = some (.cells #[.string { data := #[] }, .slice none 0 0, .int .i64 0, .int .i64 0, .bool false, .int .i64 0, .int .i64 0, .int .i64 0, .int .u64 0, .int .u64 0, .int .i64 0, .int .u64 0, .int .i64 0, .slice none 0 0, .int .i64 0, .slice none 0 0, .int .i64 0] 37 (0, 0))) := Lib.hid (by rw [hnw, hg12]; exact heap_alloc_new u_11_6 _)
            have HL12 : Hid (wD.heap.size ≤ g12) := Lib.hid (by rw [hg12]; exact HK_11_6.out.size)
            have HK_11_6_12 := Lib.hid (HK_11_6.out.trans kk)
            have HT_11_6_12 := Lib.hid (kk.same HT_11_6.out (fun x => x))
            have HPN_11_6_12 := Lib.hid (HPN_11_6.out.on kk)
            have HS_11_6_12 := Lib.hid (HSB.out u_11_6_12 HK_11_6_12.out)
            rw [← hg12, ← hnw]
            clear hg12 hnw kk
            refine hK.out _ _ (HS_11_6_12.out) ?_
            clear hK K
            try simp only [Act.put, List.getElem_toArray, List.getElem_cons_succ, List.getElem_cons_zero, List.setIfInBounds_toArray, List.set_cons_zero, List.set_cons_succ]
            refine AnyBut.one (i := 13) (by kernel_rfl) rfl (fun K hK => ?_)
            refine step_store_to (by rfl) 32 (.tmp 11) (.tmp 29) (by rfl) g11 NT (by rfl) (by rfl) 32 #[.bool false, .int .i64 0, .int .i64 0, .int .i64 0, .int .u64 0, .int .u64 0, .int .i64 0, .int .u64 0, .int .i64 0, .slice none 0 0, .int .i64 0, .slice none 0 0] HT_11_6_12.out HNT.out.1 HNT.out.2.1 HNT.out.2.2.1 ?_
            intro w13 hb13 k13
            have HT13 := Lib.hid hb13
            have HPN13 := Lib.hid (HPN_11_6_12.out.set HT_11_6_12.out (by decide) (by decide) (by have := HL11.out; have := (HPS.out.kept.trans HKR.out).size; omega) k13)
            have HQ13 := Lib.hid (k13.same HQ_11_6_12.out (fun e => box_ne HT_11_6_12.out HQ_11_6_12.out (by decide) e.symm))
            have HK13 := Lib.hid (HK_11_6_12.out.newer k13 (fun i e => by rw [e]; exact HL11.out))
            have HS13 := Lib.hid (HSB.out w13 HK13.out)
            clear hb13 k13
            refine hK.out _ _ (HS13.out) ?_
            clear hK K
            try simp only [Act.put, List.getElem_toArray, List.getElem_cons_succ, List.getElem_cons_zero]
            refine AnyBut.one (i := 14) (by kernel_rfl) rfl (fun K hK => ?_)
            refine step_store_to (by rfl) 37 (.tmp 12) (.tmp 30) (by rfl) g12 CY (by rfl) (by rfl) 37 #[.string { data := #[] }, .slice none 0 0, .int .i64 0, .int .i64 0, .bool false, .int .i64 0, .int .i64 0, .int .i64 0, .int .u64 0, .int .u64 0, .int .i64 0, .int .u64 0, .int .i64 0, .slice none 0 0, .int .i64 0, .slice none 0 0, .int .i64 0] HQ13.out HIY.out.1 HIY.out.2.1 HIY.out.2.2 ?_
            intro w14 hb14 k14
            have HQ14 := Lib.hid hb14
            have HPN14 := Lib.hid (HPN13.out.set HQ13.out (by decide) (by decide) (by have := HL12.out; have := (HPS.out.kept.trans HKR.out).size; omega) k14)
            have HT14 := Lib.hid (k14.same HT13.out (fun e => box_ne HT13.out HQ13.out (by decide) e))
            have HK14 := Lib.hid (HK13.out.newer k14 (fun i e => by rw [e]; exact HL12.out))
            have HS14 := Lib.hid (HSB.out w14 HK14.out)
            clear hb14 k14
            refine hK.out _ _ (HS14.out) ?_
            clear hK K
            try simp only [Act.put, List.getElem_toArray, List.getElem_cons_succ, List.getElem_cons_zero]
            refine AnyBut.takeS (i := 15) (v := ?v17) rfl (by kernel_rfl) (Nat.le_of_eq (by kernel_rfl)) (by kernel_rfl) (by kernel_rfl) (fun _ _ _ h => h) (HS14.out) (Or.inl ⟨by kernel_rfl, ?hy17⟩) ?r17
            case hy17 =>
              intro w hSw
              try dsimp only at hSw
              go_simp
              try with_reducible rfl
            try simp only [Act.put, List.getElem_toArray, List.getElem_cons_succ, List.getElem_cons_zero, List.setIfInBounds_toArray, List.set_cons_zero, List.set_cons_succ]
            refine AnyBut.done (by kernel_rfl) ?_
            have HRx := Lib.hid (HSB.out w14 HK14.out).2
            have HPD := Lib.hid (HPS.out.on (HKR.out.trans HK14.out))
            obtain ⟨I, O, hI, hO, hIx, hOx, hNO⟩ := HPD.out.rows
            have HNO := Lib.hid hNO
            clear hNO
            have HMI := Lib.hid hI
            have HMO := Lib.hid hO
            have HXX := Lib.hid (And.intro hIx hOx)
            clear hI hO hIx hOx
            have HLN : Hid (I.length ≤ 20 ∧ O.length ≤ 20) := Lib.hid (by have h1 := congrArg List.length HXX.out.1; have h2 := congrArg List.length HXX.out.2; have h3 := playD_len most ((L.map PtV.x).take i) zeroSt; have h4 := HN.out; rw [List.length_map, List.length_map] at h1 h2; rw [List.length_take, List.length_map] at h3; omega)
            go_upto_region 9 with (first | (refine wpList_load_part rfl 37 (.tmp 37) rfl gb (ob + i * 17) rfl CP _ HRx.out Try.underlying37 rfl HIP.out ?_) | (refine wpList_build_pt rfl (.tmp 38) rfl p HCP.out ?_) | (at_builtin; refine wpList_mineG rfl (.tmp 34) (.tmp 39) rfl Try.underlying22 hi0 hz0 hz1 hz2 rfl w u7 I rfl (HMI.out.on ((Kept.refl _ _).alloc _)) _ [p] 1 rfl rfl (src_pt w14 p) (by have := HLN.out; omega) (by omega) ?_; intro vi' w15 hm15 k15 ha15; have HMI2 := Lib.hid hm15; have HK15 := Lib.hid k15; have HA15 := Lib.hid ha15; clear hm15 k15 ha15))
            have HAK : Hid (Kept (fun _ => False) w14 (w14.alloc (.cells p.cs 37))) := Lib.hid ((Kept.refl _ _).alloc _)
            have HMO2 := Lib.hid ((HMO.out.on HAK.out).keptS HK15.out (fun k e e2 => HPD.out.ap k e2 e) (fun k e => (ownsRow_lt HMI.out.own e).2))
            have HQ15 := Lib.hid (HK15.out.same (HAK.out.same HQ14.out (fun x => x)) (fun e => by obtain ⟨I', O', h1, _⟩ := (HPS.out.on HKR.out).rows; have := (ownsRow_lt h1.own e).1; have := HL12.out; omega))
            have HT15 := Lib.hid (HK15.out.same (HAK.out.same HT14.out (fun x => x)) (fun e => own_box HMI.out.own HT14.out (by decide) e))
            have HB15 := Lib.hid (HK15.out.same (HAK.out.same HPD.out.box (fun x => x)) (fun e => own_box HMI.out.own HPD.out.box (by decide) e))
            have HAP15 : Hid (∀ k, vi'.ownBlock = some k → u8.ownBlock ≠ some k) := Lib.hid (fun k e e2 => by rcases HA15.out with h | h; exact HPD.out.ap k (by rw [← h]; exact e) e2; rw [h] at e; injection e with e; have := (ownsRow_lt HMO.out.own e2).1; have h3 := HAK.out.size; simp at e; omega)
            go_upto_region 10 with (first | (refine wpList_load_row rfl 37 (.tmp 12) rfl g12 rfl 37 _ (0, 0) _ HQ15.out Try.underlying37 rfl HIY.out.1 ?_) | (refine wpList_build_pt rfl (.tmp 42) rfl p' (by rw [← HCY.out]; rfl) ?_) | (at_builtin; refine wpList_mineG rfl (.tmp 41) (.tmp 43) rfl Try.underlying22 hi0 hz0 hz1 hz2 rfl w u8 O rfl (HMO2.out.on ((Kept.refl _ _).alloc _)) _ [p'] 1 rfl rfl (src_pt w15 p') (by have := HLN.out; omega) (by omega) ?_; intro vo' w16 hm16 k16 ha16; have HMO3 := Lib.hid hm16; have HK16 := Lib.hid k16; have HA16 := Lib.hid ha16; clear hm16 k16 ha16))
            have HAK2 : Hid (Kept (fun _ => False) w15 (w15.alloc (.cells p'.cs 37))) := Lib.hid ((Kept.refl _ _).alloc _)
            have HMI3 := Lib.hid ((HMI2.out.on HAK2.out).keptS HK16.out (fun k e e2 => HAP15.out k e e2) (fun k e => (ownsRow_lt HMO2.out.own e).2))
            have HT16 := Lib.hid (HK16.out.same (HAK2.out.same HT15.out (fun x => x)) (fun e => own_box HMO2.out.own HT15.out (by decide) e))
            have HB16 := Lib.hid (HK16.out.same (HAK2.out.same HB15.out (fun x => x)) (fun e => own_box HMO2.out.own HB15.out (by decide) e))
            have HAP16 : Hid (∀ k, vi'.ownBlock = some k → vo'.ownBlock ≠ some k) := Lib.hid (fun k e e2 => by rcases HA16.out with h | h; exact HAP15.out k e (by rw [← h]; exact e2); rw [h] at e2; injection e2 with e2; have := (ownsRow_lt HMI2.out.own e).1; simp at e2; omega)
            go_upto_region 5 with (first | (refine wpList_load_row rfl 32 (.tmp 11) rfl g11 rfl 32 _ (0, 0) _ HT16.out Try.underlying32 rfl HNT.out.1 ?_) | (refine wpList_store_to rfl 32 (.tmp 9) _ rfl g9 NT rfl rfl 32 NS HB16.out HNT.out.1 (HIS.out.2.trans HNT.out.2.1) HNT.out.2.2.1 ?_; intro w17 hb17 k17; have HB17 := Lib.hid hb17; have HK17 := Lib.hid k17; clear hb17 k17))
            go_wp2
            go_roundg (n - (i + 1))
            case measure => have := HD.out; omega
            case rel =>
              obtain ⟨q1, q2⟩ := playD_snoc most ((L.map PtV.x).take i) zeroSt p.x
              rw [if_pos HE.out] at q1 q2
              refine ⟨i + 1, HD.out, rfl, rfl, NT, ?_⟩
              rw [← HTS.out]
              have hnew : ∀ r : PtV, r.New w w14 → r.New w w17 := fun r n => (((n.on HAK.out).row (HMI.out.on HAK.out) HK15.out).on HAK2.out |>.row (HMO2.out.on HAK2.out) HK16.out).set HB16.out (by decide) (by decide) HPS.out.new HK17.out
              have hlast := (((HPN14.out.on HAK.out).row (HMI.out.on HAK.out) HK15.out).on HAK2.out |>.row (HMO2.out.on HAK2.out) HK16.out).set HB16.out (by decide) (by decide) HPS.out.new HK17.out
              have hne : ∀ (v : Value) (L' : List PtV), MineT w w16 v L' → MineT w w17 v L' := fun v L' m => m.keptS HK17.out (fun k e e2 => own_box m.own HB16.out (by decide) (e2 ▸ e)) (fun k e => by rw [e]; exact HPS.out.new)
              have h1 := HNT.out.2.2.2
              have r14 := (HKR.out.trans HK14.out).same HRS.out (fun x => x)
              have r15 := HK15.out.same (HAK.out.same r14 (fun x => x)) (fun e => own_box HMI.out.own r14 (by decide) e)
              have r16 := HK16.out.same (HAK2.out.same r15 (fun x => x)) (fun e => own_box HMO2.out.own r15 (by decide) e)
              have r17 := HK17.out.same r16 (fun e => by have := HG9.out; omega)
              refine ⟨⟨⟨I ++ [p], O ++ [p'], hne _ _ HMI3.out, hne _ _ HMO3.out, ?_, ?_, ?_⟩, ⟨t1, t2, by rw [q2]; exact h1, by rw [q2]; exact hlast.st⟩, HB17.out, HPS.out.new, HAP16.out⟩, r17⟩
              · rw [q1, List.map_append, List.map_append, HXX.out.1]; rfl
              · rw [q1, List.map_append, List.map_append, HXX.out.2]; show _ ++ [p'.x] = _; rw [HPP.out]; rfl
              · intro r hr
                rcases List.mem_append.1 hr with h | h
                · exact hnew r (HNO.out r h)
                · rw [List.mem_singleton] at h; rw [h]; exact hlast.pt
          · go_simp
            obtain ⟨g12, hg12⟩ : ∃ g, g = u_11.heap.size := ⟨_, rfl⟩
            obtain ⟨u_11_12, hnw⟩ : ∃ w', w' = u_11.alloc (.cells #[.string { data := #[] }, .slice none 0 0, .int .i64 0, .int .i64 0, .bool false, .int .i64 0, .int .i64 0, .int .i64 0, .int .u64 0, .int .u64 0, .int .i64 0, .int .u64 0, .int .i64 0, .slice none 0 0, .int .i64 0, .slice none 0 0, .int .i64 0] 37) := ⟨_, rfl⟩
            have kk : Kept (fun _ => False) u_11 u_11_12 := by rw [hnw]; exact (Kept.refl _ _).alloc _
            have HQ_11_12 : Hid (u_11_12.heap[g12]? = some (.cells #[.string { data := #[] }, .slice none 0 0, .int .i64 0, .int .i64 0, .bool false, .int .i64 0, .int .i64 0, .int .i64 0, .int .u64 0, .int .u64 0, .int .i64 0, .int .u64 0, .int .i64 0, .slice none 0 0, .int .i64 0, .slice none 0 0, .int .i64 0] 37 (0, 0))) := Lib.hid (by rw [hnw, hg12]; exact heap_alloc_new u_11 _)
            have HL12 : Hid (wD.heap.size ≤ g12) := Lib.hid (by rw [hg12]; exact HK_11.out.size)
            have HK_11_12 := Lib.hid (HK_11.out.trans kk)
            have HT_11_12 := Lib.hid (kk.same HT_11.out (fun x => x))
            have HS_11_12 := Lib.hid (HSB.out u_11_12 HK_11_12.out)
            rw [← hg12, ← hnw]
            clear hg12 hnw kk
            refine hK.out _ _ (HS_11_12.out) ?_
            clear hK K
            try simp only [Act.put, List.getElem_toArray, List.getElem_cons_succ, List.getElem_cons_zero, List.setIfInBounds_toArray, List.set_cons_zero, List.set_cons_succ]
            refine AnyBut.one (i := 6) (by kernel_rfl) rfl (fun K hK => ?_)
            go_simp
            go_wp2_with fail
            refine (HNX.out u_11_12 (HKR.out.trans HK_11_12.out)).mono ?_
            rintro e u_11_12_6 ⟨NT, p', t1, t2, rfl, hNT, hp', hnw, kk⟩
            have HPN_11_12_6 := Lib.hid (hnw.down ((HPS.out.kept.trans HKR.out).trans HK_11_12.out))
            have HK_11_12_6 := Lib.hid (HK_11_12.out.trans kk)
            have HT_11_12_6 := Lib.hid (kk.same HT_11_12.out (fun x => x))
            have HQ_11_12_6 := Lib.hid (kk.same HQ_11_12.out (fun x => x))
            have HNT := Lib.hid hNT
            have HPP := Lib.hid hp'
            have HS_11_12_6 := Lib.hid (HSB.out u_11_12_6 HK_11_12_6.out)
            obtain ⟨CY, hCY⟩ : ∃ c, c = p'.cs := ⟨_, rfl⟩
            rw [← hCY]
            have HCY := Lib.hid hCY
            have HIY : Hid ((Try.prog.info? 37).map (·.size) = some CY.size ∧ (#[.string { data := #[] }, .slice none 0 0, .int .i64 0, .int .i64 0, .bool false, .int .i64 0, .int .i64 0, .int .i64 0, .int .u64 0, .int .u64 0, .int .i64 0, .int .u64 0, .int .i64 0, .slice none 0 0, .int .i64 0, .slice none 0 0, .int .i64 0] : Array Value).size = CY.size ∧ CY.all (·.oneCell') = true) := Lib.hid (by rw [hCY]; exact ⟨pt_size p', rfl, cs_one p'⟩)
            clear kk hNT hp' hnw hCY
            go_wp2
            refine hK.out _ _ (HS_11_12_6.out) ?_
            clear hK K
            try simp only [Act.put, List.getElem_toArray, List.getElem_cons_succ, List.getElem_cons_zero, List.setIfInBounds_toArray, List.set_cons_zero, List.set_cons_succ]
            refine AnyBut.takeS (i := 7) (v := ?v18) rfl (by kernel_rfl) (Nat.le_of_eq (by kernel_rfl)) (by kernel_rfl) (by kernel_rfl) (fun _ _ _ h => h) (HS_11_12_6.out) (Or.inl ⟨by kernel_rfl, ?hy18⟩) ?r18
            case hy18 =>
              intro w hSw
              try dsimp only at hSw
              go_simp
              try with_reducible rfl
            try simp only [Act.put, List.getElem_toArray, List.getElem_cons_succ, List.getElem_cons_zero, List.setIfInBounds_toArray, List.set_cons_zero, List.set_cons_succ]
            refine AnyBut.takeS (i := 8) (v := ?v19) rfl (by kernel_rfl) (Nat.le_of_eq (by kernel_rfl)) (by kernel_rfl) (by kernel_rfl) (fun _ _ _ h => h) (HS_11_12_6.out) (Or.inl ⟨by kernel_rfl, ?hy19⟩) ?r19
            case hy19 =>
              intro w hSw
              try dsimp only at hSw
              go_simp
              try with_reducible rfl
            try simp only [Act.put, List.getElem_toArray, List.getElem_cons_succ, List.getElem_cons_zero, List.setIfInBounds_toArray, List.set_cons_zero, List.set_cons_succ]
            refine AnyBut.takeS (i := 9) (v := ?v20) rfl (by kernel_rfl) (Nat.le_of_eq (by kernel_rfl)) (by kernel_rfl) (by kernel_rfl) (fun _ _ _ h => h) (HS_11_12_6.out) (Or.inl ⟨by kernel_rfl, ?hy20⟩) ?r20
            case hy20 =>
              intro w hSw
              try dsimp only at hSw
              go_simp
              try with_reducible rfl
            try simp only [Act.put, List.getElem_toArray, List.getElem_cons_succ, List.getElem_cons_zero, List.setIfInBounds_toArray, List.set_cons_zero, List.set_cons_succ]
            refine AnyBut.takeS (i := 10) (v := ?v21) rfl (by kernel_rfl) (Nat.le_of_eq (by kernel_rfl)) (by kernel_rfl) (by kernel_rfl) (fun _ _ _ h => h) (HS_11_12_6.out) (Or.inl ⟨by kernel_rfl, ?hy21⟩) ?r21
            case hy21 =>
              intro w hSw
              try dsimp only at hSw
              go_simp
              try with_reducible rfl
            try simp only [Act.put, List.getElem_toArray, List.getElem_cons_succ, List.getElem_cons_zero, List.setIfInBounds_toArray, List.set_cons_zero, List.set_cons_succ]
            refine AnyBut.one (i := 13) (by kernel_rfl) rfl (fun K hK => ?_)
            refine step_store_to (by rfl) 32 (.tmp 11) (.tmp 29) (by rfl) g11 NT (by rfl) (by rfl) 32 #[.bool false, .int .i64 0, .int .i64 0, .int .i64 0, .int .u64 0, .int .u64 0, .int .i64 0, .int .u64 0, .int .i64 0, .slice none 0 0, .int .i64 0, .slice none 0 0] HT_11_12_6.out HNT.out.1 HNT.out.2.1 HNT.out.2.2.1 ?_
            intro w13 hb13 k13
            have HT13 := Lib.hid hb13
            have HPN13 := Lib.hid (HPN_11_12_6.out.set HT_11_12_6.out (by decide) (by decide) (by have := HL11.out; have := (HPS.out.kept.trans HKR.out).size; omega) k13)
            have HQ13 := Lib.hid (k13.same HQ_11_12_6.out (fun e => box_ne HT_11_12_6.out HQ_11_12_6.out (by decide) e.symm))
            have HK13 := Lib.hid (HK_11_12_6.out.newer k13 (fun i e => by rw [e]; exact HL11.out))
            have HS13 := Lib.hid (HSB.out w13 HK13.out)
            clear hb13 k13
            refine hK.out _ _ (HS13.out) ?_
            clear hK K
            try simp only [Act.put, List.getElem_toArray, List.getElem_cons_succ, List.getElem_cons_zero]
            refine AnyBut.one (i := 14) (by kernel_rfl) rfl (fun K hK => ?_)
            refine step_store_to (by rfl) 37 (.tmp 12) (.tmp 30) (by rfl) g12 CY (by rfl) (by rfl) 37 #[.string { data := #[] }, .slice none 0 0, .int .i64 0, .int .i64 0, .bool false, .int .i64 0, .int .i64 0, .int .i64 0, .int .u64 0, .int .u64 0, .int .i64 0, .int .u64 0, .int .i64 0, .slice none 0 0, .int .i64 0, .slice none 0 0, .int .i64 0] HQ13.out HIY.out.1 HIY.out.2.1 HIY.out.2.2 ?_
            intro w14 hb14 k14
            have HQ14 := Lib.hid hb14
            have HPN14 := Lib.hid (HPN13.out.set HQ13.out (by decide) (by decide) (by have := HL12.out; have := (HPS.out.kept.trans HKR.out).size; omega) k14)
            have HT14 := Lib.hid (k14.same HT13.out (fun e => box_ne HT13.out HQ13.out (by decide) e))
            have HK14 := Lib.hid (HK13.out.newer k14 (fun i e => by rw [e]; exact HL12.out))
            have HS14 := Lib.hid (HSB.out w14 HK14.out)
            clear hb14 k14
            refine hK.out _ _ (HS14.out) ?_
            clear hK K
            try simp only [Act.put, List.getElem_toArray, List.getElem_cons_succ, List.getElem_cons_zero]
            refine AnyBut.takeS (i := 15) (v := ?v22) rfl (by kernel_rfl) (Nat.le_of_eq (by kernel_rfl)) (by kernel_rfl) (by kernel_rfl) (fun _ _ _ h => h) (HS14.out) (Or.inl ⟨by kernel_rfl, ?hy22⟩) ?r22
            case hy22 =>
              intro w hSw
              try dsimp only at hSw
              go_simp
              try with_reducible rfl
            try simp only [Act.put, List.getElem_toArray, List.getElem_cons_succ, List.getElem_cons_zero, List.setIfInBounds_toArray, List.set_cons_zero, List.set_cons_succ]
            refine AnyBut.done (by kernel_rfl) ?_
            have HRx := Lib.hid (HSB.out w14 HK14.out).2
            have HPD := Lib.hid (HPS.out.on (HKR.out.trans HK14.out))
            obtain ⟨I, O, hI, hO, hIx, hOx, hNO⟩ := HPD.out.rows
            have HNO := Lib.hid hNO
            clear hNO
            have HMI := Lib.hid hI
            have HMO := Lib.hid hO
            have HXX := Lib.hid (And.intro hIx hOx)
            clear hI hO hIx hOx
            have HLN : Hid (I.length ≤ 20 ∧ O.length ≤ 20) := Lib.hid (by have h1 := congrArg List.length HXX.out.1; have h2 := congrArg List.length HXX.out.2; have h3 := playD_len most ((L.map PtV.x).take i) zeroSt; have h4 := HN.out; rw [List.length_map, List.length_map] at h1 h2; rw [List.length_take, List.length_map] at h3; omega)
            go_upto_region 9 with (first | (refine wpList_load_part rfl 37 (.tmp 37) rfl gb (ob + i * 17) rfl CP _ HRx.out Try.underlying37 rfl HIP.out ?_) | (refine wpList_build_pt rfl (.tmp 38) rfl p HCP.out ?_) | (at_builtin; refine wpList_mineG rfl (.tmp 34) (.tmp 39) rfl Try.underlying22 hi0 hz0 hz1 hz2 rfl w u7 I rfl (HMI.out.on ((Kept.refl _ _).alloc _)) _ [p] 1 rfl rfl (src_pt w14 p) (by have := HLN.out; omega) (by omega) ?_; intro vi' w15 hm15 k15 ha15; have HMI2 := Lib.hid hm15; have HK15 := Lib.hid k15; have HA15 := Lib.hid ha15; clear hm15 k15 ha15))
            have HAK : Hid (Kept (fun _ => False) w14 (w14.alloc (.cells p.cs 37))) := Lib.hid ((Kept.refl _ _).alloc _)
            have HMO2 := Lib.hid ((HMO.out.on HAK.out).keptS HK15.out (fun k e e2 => HPD.out.ap k e2 e) (fun k e => (ownsRow_lt HMI.out.own e).2))
            have HQ15 := Lib.hid (HK15.out.same (HAK.out.same HQ14.out (fun x => x)) (fun e => by obtain ⟨I', O', h1, _⟩ := (HPS.out.on HKR.out).rows; have := (ownsRow_lt h1.own e).1; have := HL12.out; omega))
            have HT15 := Lib.hid (HK15.out.same (HAK.out.same HT14.out (fun x => x)) (fun e => own_box HMI.out.own HT14.out (by decide) e))
            have HB15 := Lib.hid (HK15.out.same (HAK.out.same HPD.out.box (fun x => x)) (fun e => own_box HMI.out.own HPD.out.box (by decide) e))
            have HAP15 : Hid (∀ k, vi'.ownBlock = some k → u8.ownBlock ≠ some k) := Lib.hid (fun k e e2 => by rcases HA15.out with h | h; exact HPD.out.ap k (by rw [← h]; exact e) e2; rw [h] at e; injection e with e; have := (ownsRow_lt HMO.out.own e2).1; have h3 := HAK.out.size; simp at e; omega)
            go_upto_region 10 with (first | (refine wpList_load_row rfl 37 (.tmp 12) rfl g12 rfl 37 _ (0, 0) _ HQ15.out Try.underlying37 rfl HIY.out.1 ?_) | (refine wpList_build_pt rfl (.tmp 42) rfl p' (by rw [← HCY.out]; rfl) ?_) | (at_builtin; refine wpList_mineG rfl (.tmp 41) (.tmp 43) rfl Try.underlying22 hi0 hz0 hz1 hz2 rfl w u8 O rfl (HMO2.out.on ((Kept.refl _ _).alloc _)) _ [p'] 1 rfl rfl (src_pt w15 p') (by have := HLN.out; omega) (by omega) ?_; intro vo' w16 hm16 k16 ha16; have HMO3 := Lib.hid hm16; have HK16 := Lib.hid k16; have HA16 := Lib.hid ha16; clear hm16 k16 ha16))
            have HAK2 : Hid (Kept (fun _ => False) w15 (w15.alloc (.cells p'.cs 37))) := Lib.hid ((Kept.refl _ _).alloc _)
            have HMI3 := Lib.hid ((HMI2.out.on HAK2.out).keptS HK16.out (fun k e e2 => HAP15.out k e e2) (fun k e => (ownsRow_lt HMO2.out.own e).2))
            have HT16 := Lib.hid (HK16.out.same (HAK2.out.same HT15.out (fun x => x)) (fun e => own_box HMO2.out.own HT15.out (by decide) e))
            have HB16 := Lib.hid (HK16.out.same (HAK2.out.same HB15.out (fun x => x)) (fun e => own_box HMO2.out.own HB15.out (by decide) e))
            have HAP16 : Hid (∀ k, vi'.ownBlock = some k → vo'.ownBlock ≠ some k) := Lib.hid (fun k e e2 => by rcases HA16.out with h | h; exact HAP15.out k e (by rw [← h]; exact e2); rw [h] at e2; injection e2 with e2; have := (ownsRow_lt HMI2.out.own e).1; simp at e2; omega)
            go_upto_region 5 with (first | (refine wpList_load_row rfl 32 (.tmp 11) rfl g11 rfl 32 _ (0, 0) _ HT16.out Try.underlying32 rfl HNT.out.1 ?_) | (refine wpList_store_to rfl 32 (.tmp 9) _ rfl g9 NT rfl rfl 32 NS HB16.out HNT.out.1 (HIS.out.2.trans HNT.out.2.1) HNT.out.2.2.1 ?_; intro w17 hb17 k17; have HB17 := Lib.hid hb17; have HK17 := Lib.hid k17; clear hb17 k17))
            go_wp2
            go_roundg (n - (i + 1))
            case measure => have := HD.out; omega
            case rel =>
              obtain ⟨q1, q2⟩ := playD_snoc most ((L.map PtV.x).take i) zeroSt p.x
              rw [if_pos HE.out] at q1 q2
              refine ⟨i + 1, HD.out, rfl, rfl, NT, ?_⟩
              rw [← HTS.out]
              have hnew : ∀ r : PtV, r.New w w14 → r.New w w17 := fun r n => (((n.on HAK.out).row (HMI.out.on HAK.out) HK15.out).on HAK2.out |>.row (HMO2.out.on HAK2.out) HK16.out).set HB16.out (by decide) (by decide) HPS.out.new HK17.out
              have hlast := (((HPN14.out.on HAK.out).row (HMI.out.on HAK.out) HK15.out).on HAK2.out |>.row (HMO2.out.on HAK2.out) HK16.out).set HB16.out (by decide) (by decide) HPS.out.new HK17.out
              have hne : ∀ (v : Value) (L' : List PtV), MineT w w16 v L' → MineT w w17 v L' := fun v L' m => m.keptS HK17.out (fun k e e2 => own_box m.own HB16.out (by decide) (e2 ▸ e)) (fun k e => by rw [e]; exact HPS.out.new)
              have h1 := HNT.out.2.2.2
              have r14 := (HKR.out.trans HK14.out).same HRS.out (fun x => x)
              have r15 := HK15.out.same (HAK.out.same r14 (fun x => x)) (fun e => own_box HMI.out.own r14 (by decide) e)
              have r16 := HK16.out.same (HAK2.out.same r15 (fun x => x)) (fun e => own_box HMO2.out.own r15 (by decide) e)
              have r17 := HK17.out.same r16 (fun e => by have := HG9.out; omega)
              refine ⟨⟨⟨I ++ [p], O ++ [p'], hne _ _ HMI3.out, hne _ _ HMO3.out, ?_, ?_, ?_⟩, ⟨t1, t2, by rw [q2]; exact h1, by rw [q2]; exact hlast.st⟩, HB17.out, HPS.out.new, HAP16.out⟩, r17⟩
              · rw [q1, List.map_append, List.map_append, HXX.out.1]; rfl
              · rw [q1, List.map_append, List.map_append, HXX.out.2]; show _ ++ [p'.x] = _; rw [HPP.out]; rfl
              · intro r hr
                rcases List.mem_append.1 hr with h | h
                · exact hnew r (HNO.out r h)
                · rw [List.mem_singleton] at h; rw [h]; exact hlast.pt
        · go_simp
          obtain ⟨g12, hg12⟩ : ∃ g, g = wD.heap.size := ⟨_, rfl⟩
          obtain ⟨u_12, hnw⟩ : ∃ w', w' = wD.alloc (.cells #[.string { data := #[] }, .slice none 0 0, .int .i64 0, .int .i64 0, .bool false, .int .i64 0, .int .i64 0, .int .i64 0, .int .u64 0, .int .u64 0, .int .i64 0, .int .u64 0, .int .i64 0, .slice none 0 0, .int .i64 0, .slice none 0 0, .int .i64 0] 37) := ⟨_, rfl⟩
          have kk : Kept (fun _ => False) wD u_12 := by rw [hnw]; exact (Kept.refl _ _).alloc _
          have HQ_12 : Hid (u_12.heap[g12]? = some (.cells #[.string { data := #[] }, .slice none 0 0, .int .i64 0, .int .i64 0, .bool false, .int .i64 0, .int .i64 0, .int .i64 0, .int .u64 0, .int .u64 0, .int .i64 0, .int .u64 0, .int .i64 0, .slice none 0 0, .int .i64 0, .slice none 0 0, .int .i64 0] 37 (0, 0))) := Lib.hid (by rw [hnw, hg12]; exact heap_alloc_new wD _)
          have HL12 : Hid (wD.heap.size ≤ g12) := Lib.hid (by rw [hg12]; exact HKD.out.size)
          have HK_12 := Lib.hid (HKD.out.trans kk)
          have HS_12 := Lib.hid (HSB.out u_12 HK_12.out)
          rw [← hg12, ← hnw]
          clear hg12 hnw kk
          refine hK.out _ _ (HS_12.out) ?_
          clear hK K
          try simp only [Act.put, List.getElem_toArray, List.getElem_cons_succ, List.getElem_cons_zero, List.setIfInBounds_toArray, List.set_cons_zero, List.set_cons_succ]
          refine AnyBut.two (i := 6) (j := 11) (by kernel_rfl) rfl rfl (fun K hK => ?_) (fun K hK => ?_)
          · go_simp
            go_wp2_with fail
            refine (HNX.out u_12 (HKR.out.trans HK_12.out)).mono ?_
            rintro e u_12_6 ⟨NT, p', t1, t2, rfl, hNT, hp', hnw, kk⟩
            have HPN_12_6 := Lib.hid (hnw.down ((HPS.out.kept.trans HKR.out).trans HK_12.out))
            have HK_12_6 := Lib.hid (HK_12.out.trans kk)
            have HQ_12_6 := Lib.hid (kk.same HQ_12.out (fun x => x))
            have HNT := Lib.hid hNT
            have HPP := Lib.hid hp'
            have HS_12_6 := Lib.hid (HSB.out u_12_6 HK_12_6.out)
            obtain ⟨CY, hCY⟩ : ∃ c, c = p'.cs := ⟨_, rfl⟩
            rw [← hCY]
            have HCY := Lib.hid hCY
            have HIY : Hid ((Try.prog.info? 37).map (·.size) = some CY.size ∧ (#[.string { data := #[] }, .slice none 0 0, .int .i64 0, .int .i64 0, .bool false, .int .i64 0, .int .i64 0, .int .i64 0, .int .u64 0, .int .u64 0, .int .i64 0, .int .u64 0, .int .i64 0, .slice none 0 0, .int .i64 0, .slice none 0 0, .int .i64 0] : Array Value).size = CY.size ∧ CY.all (·.oneCell') = true) := Lib.hid (by rw [hCY]; exact ⟨pt_size p', rfl, cs_one p'⟩)
            clear kk hNT hp' hnw hCY
            go_wp2
            refine hK.out _ _ (HS_12_6.out) ?_
            clear hK K
            try simp only [Act.put, List.getElem_toArray, List.getElem_cons_succ, List.getElem_cons_zero, List.setIfInBounds_toArray, List.set_cons_zero, List.set_cons_succ]
            refine AnyBut.takeS (i := 7) (v := ?v23) rfl (by kernel_rfl) (Nat.le_of_eq (by kernel_rfl)) (by kernel_rfl) (by kernel_rfl) (fun _ _ _ h => h) (HS_12_6.out) (Or.inl ⟨by kernel_rfl, ?hy23⟩) ?r23
            case hy23 =>
              intro w hSw
              try dsimp only at hSw
              go_simp
              try with_reducible rfl
            try simp only [Act.put, List.getElem_toArray, List.getElem_cons_succ, List.getElem_cons_zero, List.setIfInBounds_toArray, List.set_cons_zero, List.set_cons_succ]
            refine AnyBut.takeS (i := 8) (v := ?v24) rfl (by kernel_rfl) (Nat.le_of_eq (by kernel_rfl)) (by kernel_rfl) (by kernel_rfl) (fun _ _ _ h => h) (HS_12_6.out) (Or.inl ⟨by kernel_rfl, ?hy24⟩) ?r24
            case hy24 =>
              intro w hSw
              try dsimp only at hSw
              go_simp
              try with_reducible rfl
            try simp only [Act.put, List.getElem_toArray, List.getElem_cons_succ, List.getElem_cons_zero, List.setIfInBounds_toArray, List.set_cons_zero, List.set_cons_succ]
            refine AnyBut.takeS (i := 9) (v := ?v25) rfl (by kernel_rfl) (Nat.le_of_eq (by kernel_rfl)) (by kernel_rfl) (by kernel_rfl) (fun _ _ _ h => h) (HS_12_6.out) (Or.inl ⟨by kernel_rfl, ?hy25⟩) ?r25
            case hy25 =>
              intro w hSw
              try dsimp only at hSw
              go_simp
              try with_reducible rfl
            try simp only [Act.put, List.getElem_toArray, List.getElem_cons_succ, List.getElem_cons_zero, List.setIfInBounds_toArray, List.set_cons_zero, List.set_cons_succ]
            refine AnyBut.takeS (i := 10) (v := ?v26) rfl (by kernel_rfl) (Nat.le_of_eq (by kernel_rfl)) (by kernel_rfl) (by kernel_rfl) (fun _ _ _ h => h) (HS_12_6.out) (Or.inl ⟨by kernel_rfl, ?hy26⟩) ?r26
            case hy26 =>
              intro w hSw
              try dsimp only at hSw
              go_simp
              try with_reducible rfl
            try simp only [Act.put, List.getElem_toArray, List.getElem_cons_succ, List.getElem_cons_zero, List.setIfInBounds_toArray, List.set_cons_zero, List.set_cons_succ]
            refine AnyBut.one (i := 11) (by kernel_rfl) rfl (fun K hK => ?_)
            go_simp
            obtain ⟨g11, hg11⟩ : ∃ g, g = u_12_6.heap.size := ⟨_, rfl⟩
            obtain ⟨u_12_6_11, hnw⟩ : ∃ w', w' = u_12_6.alloc (.cells #[.bool false, .int .i64 0, .int .i64 0, .int .i64 0, .int .u64 0, .int .u64 0, .int .i64 0, .int .u64 0, .int .i64 0, .slice none 0 0, .int .i64 0, .slice none 0 0] 32) := ⟨_, rfl⟩
            have kk : Kept (fun _ => False) u_12_6 u_12_6_11 := by rw [hnw]; exact (Kept.refl _ _).alloc _
            have HT_12_6_11 : Hid (u_12_6_11.heap[g11]? = some (.cells #[.bool false, .int .i64 0, .int .i64 0, .int .i64 0, .int .u64 0, .int .u64 0, .int .i64 0, .int .u64 0, .int .i64 0, .slice none 0 0, .int .i64 0, .slice none 0 0] 32 (0, 0))) := Lib.hid (by rw [hnw, hg11]; exact heap_alloc_new u_12_6 _)
            have HL11 : Hid (wD.heap.size ≤ g11) := Lib.hid (by rw [hg11]; exact HK_12_6.out.size)
            have HK_12_6_11 := Lib.hid (HK_12_6.out.trans kk)
            have HPN_12_6_11 := Lib.hid (HPN_12_6.out.on kk)
            have HQ_12_6_11 := Lib.hid (kk.same HQ_12_6.out (fun x => x))
            have HS_12_6_11 := Lib.hid (HSB.out u_12_6_11 HK_12_6_11.out)
            rw [← hg11, ← hnw]
            clear hg11 hnw kk
            refine hK.out _ _ (HS_12_6_11.out) ?_
            clear hK K
            try simp only [Act.put, List.getElem_toArray, List.getElem_cons_succ, List.getElem_cons_zero, List.setIfInBounds_toArray, List.set_cons_zero, List.set_cons_succ]
            refine AnyBut.one (i := 13) (by kernel_rfl) rfl (fun K hK => ?_)
            refine step_store_to (by rfl) 32 (.tmp 11) (.tmp 29) (by rfl) g11 NT (by rfl) (by rfl) 32 #[.bool false, .int .i64 0, .int .i64 0, .int .i64 0, .int .u64 0, .int .u64 0, .int .i64 0, .int .u64 0, .int .i64 0, .slice none 0 0, .int .i64 0, .slice none 0 0] HT_12_6_11.out HNT.out.1 HNT.out.2.1 HNT.out.2.2.1 ?_
            intro w13 hb13 k13
            have HT13 := Lib.hid hb13
            have HPN13 := Lib.hid (HPN_12_6_11.out.set HT_12_6_11.out (by decide) (by decide) (by have := HL11.out; have := (HPS.out.kept.trans HKR.out).size; omega) k13)
            have HQ13 := Lib.hid (k13.same HQ_12_6_11.out (fun e => box_ne HT_12_6_11.out HQ_12_6_11.out (by decide) e.symm))
            have HK13 := Lib.hid (HK_12_6_11.out.newer k13 (fun i e => by rw [e]; exact HL11.out))
            have HS13 := Lib.hid (HSB.out w13 HK13.out)
            clear hb13 k13
            refine hK.out _ _ (HS13.out) ?_
            clear hK K
            try simp only [Act.put, List.getElem_toArray, List.getElem_cons_succ, List.getElem_cons_zero]
            refine AnyBut.one (i := 14) (by kernel_rfl) rfl (fun K hK => ?_)
            refine step_store_to (by rfl) 37 (.tmp 12) (.tmp 30) (by rfl) g12 CY (by rfl) (by rfl) 37 #[.string { data := #[] }, .slice none 0 0, .int .i64 0, .int .i64 0, .bool false, .int .i64 0, .int .i64 0, .int .i64 0, .int .u64 0, .int .u64 0, .int .i64 0, .int .u64 0, .int .i64 0, .slice none 0 0, .int .i64 0, .slice none 0 0, .int .i64 0] HQ13.out HIY.out.1 HIY.out.2.1 HIY.out.2.2 ?_
            intro w14 hb14 k14
            have HQ14 := Lib.hid hb14
            have HPN14 := Lib.hid (HPN13.out.set HQ13.out (by decide) (by decide) (by have := HL12.out; have := (HPS.out.kept.trans HKR.out).size; omega) k14)
            have HT14 := Lib.hid (k14.same HT13.out (fun e => box_ne HT13.out HQ13.out (by decide) e))
            have HK14 := Lib.hid (HK13.out.newer k14 (fun i e => by rw [e]; exact HL12.out))
            have HS14 := Lib.hid (HSB.out w14 HK14.out)
            clear hb14 k14
            refine hK.out _ _ (HS14.out) ?_
            clear hK K
            try simp only [Act.put, List.getElem_toArray, List.getElem_cons_succ, List.getElem_cons_zero]
            refine AnyBut.takeS (i := 15) (v := ?v27) rfl (by kernel_rfl) (Nat.le_of_eq (by kernel_rfl)) (by kernel_rfl) (by kernel_rfl) (fun _ _ _ h => h) (HS14.out) (Or.inl ⟨by kernel_rfl, ?hy27⟩) ?r27
            case hy27 =>
              intro w hSw
              try dsimp only at hSw
              go_simp
              try with_reducible rfl
            try simp only [Act.put, List.getElem_toArray, List.getElem_cons_succ, List.getElem_cons_zero, List.setIfInBounds_toArray, List.set_cons_zero, List.set_cons_succ]
            refine AnyBut.done (by kernel_rfl) ?_
            have HRx := Lib.hid (HSB.out w14 HK14.out).2
            have HPD := Lib.hid (HPS.out.on (HKR.out.trans HK14.out))
            obtain ⟨I, O, hI, hO, hIx, hOx, hNO⟩ := HPD.out.rows
            have HNO := Lib.hid hNO
            clear hNO
            have HMI := Lib.hid hI
            have HMO := Lib.hid hO
            have HXX := Lib.hid (And.intro hIx hOx)
            clear hI hO hIx hOx
            have HLN : Hid (I.length ≤ 20 ∧ O.length ≤ 20) := Lib.hid (by have h1 := congrArg List.length HXX.out.1; have h2 := congrArg List.length HXX.out.2; have h3 := playD_len most ((L.map PtV.x).take i) zeroSt; have h4 := HN.out; rw [List.length_map, List.length_map] at h1 h2; rw [List.length_take, List.length_map] at h3; omega)
            go_upto_region 9 with (first | (refine wpList_load_part rfl 37 (.tmp 37) rfl gb (ob + i * 17) rfl CP _ HRx.out Try.underlying37 rfl HIP.out ?_) | (refine wpList_build_pt rfl (.tmp 38) rfl p HCP.out ?_) | (at_builtin; refine wpList_mineG rfl (.tmp 34) (.tmp 39) rfl Try.underlying22 hi0 hz0 hz1 hz2 rfl w u7 I rfl (HMI.out.on ((Kept.refl _ _).alloc _)) _ [p] 1 rfl rfl (src_pt w14 p) (by have := HLN.out; omega) (by omega) ?_; intro vi' w15 hm15 k15 ha15; have HMI2 := Lib.hid hm15; have HK15 := Lib.hid k15; have HA15 := Lib.hid ha15; clear hm15 k15 ha15))
            have HAK : Hid (Kept (fun _ => False) w14 (w14.alloc (.cells p.cs 37))) := Lib.hid ((Kept.refl _ _).alloc _)
            have HMO2 := Lib.hid ((HMO.out.on HAK.out).keptS HK15.out (fun k e e2 => HPD.out.ap k e2 e) (fun k e => (ownsRow_lt HMI.out.own e).2))
            have HQ15 := Lib.hid (HK15.out.same (HAK.out.same HQ14.out (fun x => x)) (fun e => by obtain ⟨I', O', h1, _⟩ := (HPS.out.on HKR.out).rows; have := (ownsRow_lt h1.own e).1; have := HL12.out; omega))
            have HT15 := Lib.hid (HK15.out.same (HAK.out.same HT14.out (fun x => x)) (fun e => own_box HMI.out.own HT14.out (by decide) e))
            have HB15 := Lib.hid (HK15.out.same (HAK.out.same HPD.out.box (fun x => x)) (fun e => own_box HMI.out.own HPD.out.box (by decide) e))
            have HAP15 : Hid (∀ k, vi'.ownBlock = some k → u8.ownBlock ≠ some k) := Lib.hid (fun k e e2 => by rcases HA15.out with h | h; exact HPD.out.ap k (by rw [← h]; exact e) e2; rw [h] at e; injection e with e; have := (ownsRow_lt HMO.out.own e2).1; have h3 := HAK.out.size; simp at e; omega)
            go_upto_region 10 with (first | (refine wpList_load_row rfl 37 (.tmp 12) rfl g12 rfl 37 _ (0, 0) _ HQ15.out Try.underlying37 rfl HIY.out.1 ?_) | (refine wpList_build_pt rfl (.tmp 42) rfl p' (by rw [← HCY.out]; rfl) ?_) | (at_builtin; refine wpList_mineG rfl (.tmp 41) (.tmp 43) rfl Try.underlying22 hi0 hz0 hz1 hz2 rfl w u8 O rfl (HMO2.out.on ((Kept.refl _ _).alloc _)) _ [p'] 1 rfl rfl (src_pt w15 p') (by have := HLN.out; omega) (by omega) ?_; intro vo' w16 hm16 k16 ha16; have HMO3 := Lib.hid hm16; have HK16 := Lib.hid k16; have HA16 := Lib.hid ha16; clear hm16 k16 ha16))
            have HAK2 : Hid (Kept (fun _ => False) w15 (w15.alloc (.cells p'.cs 37))) := Lib.hid ((Kept.refl _ _).alloc _)
            have HMI3 := Lib.hid ((HMI2.out.on HAK2.out).keptS HK16.out (fun k e e2 => HAP15.out k e e2) (fun k e => (ownsRow_lt HMO2.out.own e).2))
            have HT16 := Lib.hid (HK16.out.same (HAK2.out.same HT15.out (fun x => x)) (fun e => own_box HMO2.out.own HT15.out (by decide) e))
            have HB16 := Lib.hid (HK16.out.same (HAK2.out.same HB15.out (fun x => x)) (fun e => own_box HMO2.out.own HB15.out (by decide) e))
            have HAP16 : Hid (∀ k, vi'.ownBlock = some k → vo'.ownBlock ≠ some k) := Lib.hid (fun k e e2 => by rcases HA16.out with h | h; exact HAP15.out k e (by rw [← h]; exact e2); rw [h] at e2; injection e2 with e2; have := (ownsRow_lt HMI2.out.own e).1; simp at e2; omega)
            go_upto_region 5 with (first | (refine wpList_load_row rfl 32 (.tmp 11) rfl g11 rfl 32 _ (0, 0) _ HT16.out Try.underlying32 rfl HNT.out.1 ?_) | (refine wpList_store_to rfl 32 (.tmp 9) _ rfl g9 NT rfl rfl 32 NS HB16.out HNT.out.1 (HIS.out.2.trans HNT.out.2.1) HNT.out.2.2.1 ?_; intro w17 hb17 k17; have HB17 := Lib.hid hb17; have HK17 := Lib.hid k17; clear hb17 k17))
            go_wp2
            go_roundg (n - (i + 1))
            case measure => have := HD.out; omega
            case rel =>
              obtain ⟨q1, q2⟩ := playD_snoc most ((L.map PtV.x).take i) zeroSt p.x
              rw [if_pos HE.out] at q1 q2
              refine ⟨i + 1, HD.out, rfl, rfl, NT, ?_⟩
              rw [← HTS.out]
              have hnew : ∀ r : PtV, r.New w w14 → r.New w w17 := fun r n => (((n.on HAK.out).row (HMI.out.on HAK.out) HK15.out).on HAK2.out |>.row (HMO2.out.on HAK2.out) HK16.out).set HB16.out (by decide) (by decide) HPS.out.new HK17.out
              have hlast := (((HPN14.out.on HAK.out).row (HMI.out.on HAK.out) HK15.out).on HAK2.out |>.row (HMO2.out.on HAK2.out) HK16.out).set HB16.out (by decide) (by decide) HPS.out.new HK17.out
              have hne : ∀ (v : Value) (L' : List PtV), MineT w w16 v L' → MineT w w17 v L' := fun v L' m => m.keptS HK17.out (fun k e e2 => own_box m.own HB16.out (by decide) (e2 ▸ e)) (fun k e => by rw [e]; exact HPS.out.new)
              have h1 := HNT.out.2.2.2
              have r14 := (HKR.out.trans HK14.out).same HRS.out (fun x => x)
              have r15 := HK15.out.same (HAK.out.same r14 (fun x => x)) (fun e => own_box HMI.out.own r14 (by decide) e)
              have r16 := HK16.out.same (HAK2.out.same r15 (fun x => x)) (fun e => own_box HMO2.out.own r15 (by decide) e)
              have r17 := HK17.out.same r16 (fun e => by have := HG9.out; omega)
              refine ⟨⟨⟨I ++ [p], O ++ [p'], hne _ _ HMI3.out, hne _ _ HMO3.out, ?_, ?_, ?_⟩, ⟨t1, t2, by rw [q2]; exact h1, by rw [q2]; exact hlast.st⟩, HB17.out, HPS.out.new, HAP16.out⟩, r17⟩
              · rw [q1, List.map_append, List.map_append, HXX.out.1]; rfl
              · rw [q1, List.map_append, List.map_append, HXX.out.2]; show _ ++ [p'.x] = _; rw [HPP.out]; rfl
              · intro r hr
                rcases List.mem_append.1 hr with h | h
                · exact hnew r (HNO.out r h)
                · rw [List.mem_singleton] at h; rw [h]; exact hlast.pt
          · go_simp
            obtain ⟨g11, hg11⟩ : ∃ g, g = u_12.heap.size := ⟨_, rfl⟩
            obtain ⟨u_12_11, hnw⟩ : ∃ w', w' = u_12.alloc (.cells #[.bool false, .int .i64 0, .int .i64 0, .int .i64 0, .int .u64 0, .int .u64 0, .int .i64 0, .int .u64 0, .int .i64 0, .slice none 0 0, .int .i64 0, .slice none 0 0] 32) := ⟨_, rfl⟩
            have kk : Kept (fun _ => False) u_12 u_12_11 := by rw [hnw]; exact (Kept.refl _ _).alloc _
            have HT_12_11 : Hid (u_12_11.heap[g11]? = some (.cells #[.bool false, .int .i64 0, .int .i64 0, .int .i64 0, .int .u64 0, .int .u64 0, .int .i64 0, .int .u64 0, .int .i64 0, .slice none 0 0, .int .i64 0, .slice none 0 0] 32 (0, 0))) := Lib.hid (by rw [hnw, hg11]; exact heap_alloc_new u_12 _)
            have HL11 : Hid (wD.heap.size ≤ g11) := Lib.hid (by rw [hg11]; exact HK_12.out.size)
            have HK_12_11 := Lib.hid (HK_12.out.trans kk)
            have HQ_12_11 := Lib.hid (kk.same HQ_12.out (fun x => x))
            have HS_12_11 := Lib.hid (HSB.out u_12_11 HK_12_11.out)
            rw [← hg11, ← hnw]
            clear hg11 hnw kk
            refine hK.out _ _ (HS_12_11.out) ?_
            clear hK K
            try simp only [Act.put, List.getElem_toArray, List.getElem_cons_succ, List.getElem_cons_zero, List.setIfInBounds_toArray, List.set_cons_zero, List.set_cons_succ]
            refine AnyBut.one (i := 6) (by kernel_rfl) rfl (fun K hK => ?_)
            go_simp
            go_wp2_with fail
            refine (HNX.out u_12_11 (HKR.out.trans HK_12_11.out)).mono ?_
            rintro e u_12_11_6 ⟨NT, p', t1, t2, rfl, hNT, hp', hnw, kk⟩
            have HPN_12_11_6 := Lib.hid (hnw.down ((HPS.out.kept.trans HKR.out).trans HK_12_11.out))
            have HK_12_11_6 := Lib.hid (HK_12_11.out.trans kk)
            have HT_12_11_6 := Lib.hid (kk.same HT_12_11.out (fun x => x))
            have HQ_12_11_6 := Lib.hid (kk.same HQ_12_11.out (fun x => x))
            have HNT := Lib.hid hNT
            have HPP := Lib.hid hp'
            have HS_12_11_6 := Lib.hid (HSB.out u_12_11_6 HK_12_11_6.out)
            obtain ⟨CY, hCY⟩ : ∃ c, c = p'.cs := ⟨_, rfl⟩
            rw [← hCY]
            have HCY := Lib.hid hCY
            have HIY : Hid ((Try.prog.info? 37).map (·.size) = some CY.size ∧ (#[.string { data := #[] }, .slice none 0 0, .int .i64 0, .int .i64 0, .bool false, .int .i64 0, .int .i64 0, .int .i64 0, .int .u64 0, .int .u64 0, .int .i64 0, .int .u64 0, .int .i64 0, .slice none 0 0, .int .i64 0, .slice none 0 0, .int .i64 0] : Array Value).size = CY.size ∧ CY.all (·.oneCell') = true) := Lib.hid (by rw [hCY]; exact ⟨pt_size p', rfl, cs_one p'⟩)
            clear kk hNT hp' hnw hCY
            go_wp2
            refine hK.out _ _ (HS_12_11_6.out) ?_
            clear hK K
            try simp only [Act.put, List.getElem_toArray, List.getElem_cons_succ, List.getElem_cons_zero, List.setIfInBounds_toArray, List.set_cons_zero, List.set_cons_succ]
            refine AnyBut.takeS (i := 7) (v := ?v28) rfl (by kernel_rfl) (Nat.le_of_eq (by kernel_rfl)) (by kernel_rfl) (by kernel_rfl) (fun _ _ _ h => h) (HS_12_11_6.out) (Or.inl ⟨by kernel_rfl, ?hy28⟩) ?r28
            case hy28 =>
              intro w hSw
              try dsimp only at hSw
              go_simp
              try with_reducible rfl
            try simp only [Act.put, List.getElem_toArray, List.getElem_cons_succ, List.getElem_cons_zero, List.setIfInBounds_toArray, List.set_cons_zero, List.set_cons_succ]
            refine AnyBut.takeS (i := 8) (v := ?v29) rfl (by kernel_rfl) (Nat.le_of_eq (by kernel_rfl)) (by kernel_rfl) (by kernel_rfl) (fun _ _ _ h => h) (HS_12_11_6.out) (Or.inl ⟨by kernel_rfl, ?hy29⟩) ?r29
            case hy29 =>
              intro w hSw
              try dsimp only at hSw
              go_simp
              try with_reducible rfl
            try simp only [Act.put, List.getElem_toArray, List.getElem_cons_succ, List.getElem_cons_zero, List.setIfInBounds_toArray, List.set_cons_zero, List.set_cons_succ]
            refine AnyBut.takeS (i := 9) (v := ?v30) rfl (by kernel_rfl) (Nat.le_of_eq (by kernel_rfl)) (by kernel_rfl) (by kernel_rfl) (fun _ _ _ h => h) (HS_12_11_6.out) (Or.inl ⟨by kernel_rfl, ?hy30⟩) ?r30
            case hy30 =>
              intro w hSw
              try dsimp only at hSw
              go_simp
              try with_reducible rfl
            try simp only [Act.put, List.getElem_toArray, List.getElem_cons_succ, List.getElem_cons_zero, List.setIfInBounds_toArray, List.set_cons_zero, List.set_cons_succ]
            refine AnyBut.takeS (i := 10) (v := ?v31) rfl (by kernel_rfl) (Nat.le_of_eq (by kernel_rfl)) (by kernel_rfl) (by kernel_rfl) (fun _ _ _ h => h) (HS_12_11_6.out) (Or.inl ⟨by kernel_rfl, ?hy31⟩) ?r31
            case hy31 =>
              intro w hSw
              try dsimp only at hSw
              go_simp
              try with_reducible rfl
            try simp only [Act.put, List.getElem_toArray, List.getElem_cons_succ, List.getElem_cons_zero, List.setIfInBounds_toArray, List.set_cons_zero, List.set_cons_succ]
            refine AnyBut.one (i := 13) (by kernel_rfl) rfl (fun K hK => ?_)
            refine step_store_to (by rfl) 32 (.tmp 11) (.tmp 29) (by rfl) g11 NT (by rfl) (by rfl) 32 #[.bool false, .int .i64 0, .int .i64 0, .int .i64 0, .int .u64 0, .int .u64 0, .int .i64 0, .int .u64 0, .int .i64 0, .slice none 0 0, .int .i64 0, .slice none 0 0] HT_12_11_6.out HNT.out.1 HNT.out.2.1 HNT.out.2.2.1 ?_
            intro w13 hb13 k13
            have HT13 := Lib.hid hb13
            have HPN13 := Lib.hid (HPN_12_11_6.out.set HT_12_11_6.out (by decide) (by decide) (by have := HL11.out; have := (HPS.out.kept.trans HKR.out).size; omega) k13)
            have HQ13 := Lib.hid (k13.same HQ_12_11_6.out (fun e => box_ne HT_12_11_6.out HQ_12_11_6.out (by decide) e.symm))
            have HK13 := Lib.hid (HK_12_11_6.out.newer k13 (fun i e => by rw [e]; exact HL11.out))
            have HS13 := Lib.hid (HSB.out w13 HK13.out)
            clear hb13 k13
            refine hK.out _ _ (HS13.out) ?_
            clear hK K
            try simp only [Act.put, List.getElem_toArray, List.getElem_cons_succ, List.getElem_cons_zero]
            refine AnyBut.one (i := 14) (by kernel_rfl) rfl (fun K hK => ?_)
            refine step_store_to (by rfl) 37 (.tmp 12) (.tmp 30) (by rfl) g12 CY (by rfl) (by rfl) 37 #[.string { data := #[] }, .slice none 0 0, .int .i64 0, .int .i64 0, .bool false, .int .i64 0, .int .i64 0, .int .i64 0, .int .u64 0, .int .u64 0, .int .i64 0, .int .u64 0, .int .i64 0, .slice none 0 0, .int .i64 0, .slice none 0 0, .int .i64 0] HQ13.out HIY.out.1 HIY.out.2.1 HIY.out.2.2 ?_
            intro w14 hb14 k14
            have HQ14 := Lib.hid hb14
            have HPN14 := Lib.hid (HPN13.out.set HQ13.out (by decide) (by decide) (by have := HL12.out; have := (HPS.out.kept.trans HKR.out).size; omega) k14)
            have HT14 := Lib.hid (k14.same HT13.out (fun e => box_ne HT13.out HQ13.out (by decide) e))
            have HK14 := Lib.hid (HK13.out.newer k14 (fun i e => by rw [e]; exact HL12.out))
            have HS14 := Lib.hid (HSB.out w14 HK14.out)
            clear hb14 k14
            refine hK.out _ _ (HS14.out) ?_
            clear hK K
            try simp only [Act.put, List.getElem_toArray, List.getElem_cons_succ, List.getElem_cons_zero]
            refine AnyBut.takeS (i := 15) (v := ?v32) rfl (by kernel_rfl) (Nat.le_of_eq (by kernel_rfl)) (by kernel_rfl) (by kernel_rfl) (fun _ _ _ h => h) (HS14.out) (Or.inl ⟨by kernel_rfl, ?hy32⟩) ?r32
            case hy32 =>
              intro w hSw
              try dsimp only at hSw
              go_simp
              try with_reducible rfl
            try simp only [Act.put, List.getElem_toArray, List.getElem_cons_succ, List.getElem_cons_zero, List.setIfInBounds_toArray, List.set_cons_zero, List.set_cons_succ]
            refine AnyBut.done (by kernel_rfl) ?_
            have HRx := Lib.hid (HSB.out w14 HK14.out).2
            have HPD := Lib.hid (HPS.out.on (HKR.out.trans HK14.out))
            obtain ⟨I, O, hI, hO, hIx, hOx, hNO⟩ := HPD.out.rows
            have HNO := Lib.hid hNO
            clear hNO
            have HMI := Lib.hid hI
            have HMO := Lib.hid hO
            have HXX := Lib.hid (And.intro hIx hOx)
            clear hI hO hIx hOx
            have HLN : Hid (I.length ≤ 20 ∧ O.length ≤ 20) := Lib.hid (by have h1 := congrArg List.length HXX.out.1; have h2 := congrArg List.length HXX.out.2; have h3 := playD_len most ((L.map PtV.x).take i) zeroSt; have h4 := HN.out; rw [List.length_map, List.length_map] at h1 h2; rw [List.length_take, List.length_map] at h3; omega)
            go_upto_region 9 with (first | (refine wpList_load_part rfl 37 (.tmp 37) rfl gb (ob + i * 17) rfl CP _ HRx.out Try.underlying37 rfl HIP.out ?_) | (refine wpList_build_pt rfl (.tmp 38) rfl p HCP.out ?_) | (at_builtin; refine wpList_mineG rfl (.tmp 34) (.tmp 39) rfl Try.underlying22 hi0 hz0 hz1 hz2 rfl w u7 I rfl (HMI.out.on ((Kept.refl _ _).alloc _)) _ [p] 1 rfl rfl (src_pt w14 p) (by have := HLN.out; omega) (by omega) ?_; intro vi' w15 hm15 k15 ha15; have HMI2 := Lib.hid hm15; have HK15 := Lib.hid k15; have HA15 := Lib.hid ha15; clear hm15 k15 ha15))
            have HAK : Hid (Kept (fun _ => False) w14 (w14.alloc (.cells p.cs 37))) := Lib.hid ((Kept.refl _ _).alloc _)
            have HMO2 := Lib.hid ((HMO.out.on HAK.out).keptS HK15.out (fun k e e2 => HPD.out.ap k e2 e) (fun k e => (ownsRow_lt HMI.out.own e).2))
            have HQ15 := Lib.hid (HK15.out.same (HAK.out.same HQ14.out (fun x => x)) (fun e => by obtain ⟨I', O', h1, _⟩ := (HPS.out.on HKR.out).rows; have := (ownsRow_lt h1.own e).1; have := HL12.out; omega))
            have HT15 := Lib.hid (HK15.out.same (HAK.out.same HT14.out (fun x => x)) (fun e => own_box HMI.out.own HT14.out (by decide) e))
            have HB15 := Lib.hid (HK15.out.same (HAK.out.same HPD.out.box (fun x => x)) (fun e => own_box HMI.out.own HPD.out.box (by decide) e))
            have HAP15 : Hid (∀ k, vi'.ownBlock = some k → u8.ownBlock ≠ some k) := Lib.hid (fun k e e2 => by rcases HA15.out with h | h; exact HPD.out.ap k (by rw [← h]; exact e) e2; rw [h] at e; injection e with e; have := (ownsRow_lt HMO.out.own e2).1; have h3 := HAK.out.size; simp at e; omega)
            go_upto_region 10 with (first | (refine wpList_load_row rfl 37 (.tmp 12) rfl g12 rfl 37 _ (0, 0) _ HQ15.out Try.underlying37 rfl HIY.out.1 ?_) | (refine wpList_build_pt rfl (.tmp 42) rfl p' (by rw [← HCY.out]; rfl) ?_) | (at_builtin; refine wpList_mineG rfl (.tmp 41) (.tmp 43) rfl Try.underlying22 hi0 hz0 hz1 hz2 rfl w u8 O rfl (HMO2.out.on ((Kept.refl _ _).alloc _)) _ [p'] 1 rfl rfl (src_pt w15 p') (by have := HLN.out; omega) (by omega) ?_; intro vo' w16 hm16 k16 ha16; have HMO3 := Lib.hid hm16; have HK16 := Lib.hid k16; have HA16 := Lib.hid ha16; clear hm16 k16 ha16))
            have HAK2 : Hid (Kept (fun _ => False) w15 (w15.alloc (.cells p'.cs 37))) := Lib.hid ((Kept.refl _ _).alloc _)
            have HMI3 := Lib.hid ((HMI2.out.on HAK2.out).keptS HK16.out (fun k e e2 => HAP15.out k e e2) (fun k e => (ownsRow_lt HMO2.out.own e).2))
            have HT16 := Lib.hid (HK16.out.same (HAK2.out.same HT15.out (fun x => x)) (fun e => own_box HMO2.out.own HT15.out (by decide) e))
            have HB16 := Lib.hid (HK16.out.same (HAK2.out.same HB15.out (fun x => x)) (fun e => own_box HMO2.out.own HB15.out (by decide) e))
            have HAP16 : Hid (∀ k, vi'.ownBlock = some k → vo'.ownBlock ≠ some k) := Lib.hid (fun k e e2 => by rcases HA16.out with h | h; exact HAP15.out k e (by rw [← h]; exact e2); rw [h] at e2; injection e2 with e2; have := (ownsRow_lt HMI2.out.own e).1; simp at e2; omega)
            go_upto_region 5 with (first | (refine wpList_load_row rfl 32 (.tmp 11) rfl g11 rfl 32 _ (0, 0) _ HT16.out Try.underlying32 rfl HNT.out.1 ?_) | (refine wpList_store_to rfl 32 (.tmp 9) _ rfl g9 NT rfl rfl 32 NS HB16.out HNT.out.1 (HIS.out.2.trans HNT.out.2.1) HNT.out.2.2.1 ?_; intro w17 hb17 k17; have HB17 := Lib.hid hb17; have HK17 := Lib.hid k17; clear hb17 k17))
            go_wp2
            go_roundg (n - (i + 1))
            case measure => have := HD.out; omega
            case rel =>
              obtain ⟨q1, q2⟩ := playD_snoc most ((L.map PtV.x).take i) zeroSt p.x
              rw [if_pos HE.out] at q1 q2
              refine ⟨i + 1, HD.out, rfl, rfl, NT, ?_⟩
              rw [← HTS.out]
              have hnew : ∀ r : PtV, r.New w w14 → r.New w w17 := fun r n => (((n.on HAK.out).row (HMI.out.on HAK.out) HK15.out).on HAK2.out |>.row (HMO2.out.on HAK2.out) HK16.out).set HB16.out (by decide) (by decide) HPS.out.new HK17.out
              have hlast := (((HPN14.out.on HAK.out).row (HMI.out.on HAK.out) HK15.out).on HAK2.out |>.row (HMO2.out.on HAK2.out) HK16.out).set HB16.out (by decide) (by decide) HPS.out.new HK17.out
              have hne : ∀ (v : Value) (L' : List PtV), MineT w w16 v L' → MineT w w17 v L' := fun v L' m => m.keptS HK17.out (fun k e e2 => own_box m.own HB16.out (by decide) (e2 ▸ e)) (fun k e => by rw [e]; exact HPS.out.new)
              have h1 := HNT.out.2.2.2
              have r14 := (HKR.out.trans HK14.out).same HRS.out (fun x => x)
              have r15 := HK15.out.same (HAK.out.same r14 (fun x => x)) (fun e => own_box HMI.out.own r14 (by decide) e)
              have r16 := HK16.out.same (HAK2.out.same r15 (fun x => x)) (fun e => own_box HMO2.out.own r15 (by decide) e)
              have r17 := HK17.out.same r16 (fun e => by have := HG9.out; omega)
              refine ⟨⟨⟨I ++ [p], O ++ [p'], hne _ _ HMI3.out, hne _ _ HMO3.out, ?_, ?_, ?_⟩, ⟨t1, t2, by rw [q2]; exact h1, by rw [q2]; exact hlast.st⟩, HB17.out, HPS.out.new, HAP16.out⟩, r17⟩
              · rw [q1, List.map_append, List.map_append, HXX.out.1]; rfl
              · rw [q1, List.map_append, List.map_append, HXX.out.2]; show _ ++ [p'.x] = _; rw [HPP.out]; rfl
              · intro r hr
                rcases List.mem_append.1 hr with h | h
                · exact hnew r (HNO.out r h)
                · rw [List.mem_singleton] at h; rw [h]; exact hlast.pt
      · have HE := Lib.hid hE
        obtain ⟨nE, hnE⟩ : ∃ e, e = stepD (stDD most zeroSt ((L.map PtV.x).take i)) p.x most := ⟨_, rfl⟩
        rw [← hnE] at HNX
        have qE : (nE == 0) = false := by rw [beq_eq_false_iff_ne, hnE]; exact hE
        clear hd hin hiL hp hpp hmem hts hst ho hCP hE hfine hnE
        go_upto_region 6 with fail
        obtain ⟨wD, hwd⟩ : ∃ w', w' = wr.drew := ⟨_, rfl⟩
        refine AnyBut.start (S := fun w' => w'.heap[g9]? = some (.cells NS 32 (0, 0)) ∧ w'.rangeAt gb (ob + i * 17) CP.toList) (k := 16) (by kernel_rfl) ?_
        rw [← hwd]
        have HKR : Hid (Kept (fun _ => False) wr wD) := Lib.hid (by rw [hwd]; exact (Kept.refl _ _).drew)
        have HKD : Hid (Kept (fun _ => False) wD wD) := Lib.hid (Kept.refl _ _)
        have HSB : Hid (∀ w', Kept (fun _ => False) wD w' → (fun w' => w'.heap[g9]? = some (.cells NS 32 (0, 0)) ∧ w'.rangeAt gb (ob + i * 17) CP.toList) w') := Lib.hid (fun w' k => ⟨(HKR.out.trans k).same HPS.out.box (fun x => x), (HRG.out _ (HKR.out.trans k))⟩)
        have HS0 := Lib.hid (HSB.out wD HKD.out)
        clear hwd
        refine AnyBut.takeS (i := 0) (v := ?v33) rfl (by kernel_rfl) (Nat.le_of_eq (by kernel_rfl)) (by kernel_rfl) (by kernel_rfl) (fun _ _ _ h => h) (HS0.out) (Or.inl ⟨by kernel_rfl, ?hy33⟩) ?r33
        case hy33 =>
          intro w hSw
          try dsimp only at hSw
          refine exec_load_row 32 (.tmp 9) ?_ g9 ?_ 32 _ (0, 0) _ hSw.1 Try.underlying32 rfl HIS.out.1
          · rfl
          · rfl
        try simp only [Act.put, List.getElem_toArray, List.getElem_cons_zero, List.setIfInBounds_toArray, List.set_cons_zero, List.set_cons_succ]
        refine AnyBut.takeS (i := 1) (v := ?v34) rfl (by kernel_rfl) (Nat.le_of_eq (by kernel_rfl)) (by kernel_rfl) (by kernel_rfl) (fun _ _ _ h => h) (HS0.out) (Or.inl ⟨by kernel_rfl, ?hy34⟩) ?r34
        case hy34 =>
          intro w hSw
          try dsimp only at hSw
          go_simp
          try with_reducible rfl
        try simp only [Act.put, List.getElem_toArray, List.getElem_cons_succ, List.getElem_cons_zero, List.setIfInBounds_toArray, List.set_cons_zero, List.set_cons_succ]
        refine AnyBut.takeS (i := 2) (v := ?v35) rfl (by kernel_rfl) (Nat.le_of_eq (by kernel_rfl)) (by kernel_rfl) (by kernel_rfl) (fun _ _ _ h => h) (HS0.out) (Or.inl ⟨by kernel_rfl, ?hy35⟩) ?r35
        case hy35 =>
          intro w hSw
          try dsimp only at hSw
          go_simp
          try with_reducible rfl
        try simp only [Act.put, List.getElem_toArray, List.getElem_cons_succ, List.getElem_cons_zero, List.setIfInBounds_toArray, List.set_cons_zero, List.set_cons_succ]
        refine AnyBut.takeS (i := 3) (v := ?v36) rfl (by kernel_rfl) (Nat.le_of_eq (by kernel_rfl)) (by kernel_rfl) (by kernel_rfl) (fun _ _ _ h => h) (HS0.out) (Or.inl ⟨by kernel_rfl, ?hy36⟩) ?r36
        case hy36 =>
          intro w hSw
          try dsimp only at hSw
          go_simp
          try with_reducible rfl
        try simp only [Act.put, List.getElem_toArray, List.getElem_cons_succ, List.getElem_cons_zero, List.setIfInBounds_toArray, List.set_cons_zero, List.set_cons_succ]
        refine AnyBut.takeS (i := 4) (v := ?v37) rfl (by kernel_rfl) (Nat.le_of_eq (by kernel_rfl)) (by kernel_rfl) (by kernel_rfl) (fun _ _ _ h => h) (HS0.out) (Or.inl ⟨by kernel_rfl, ?hy37⟩) ?r37
        case hy37 =>
          intro w hSw
          try dsimp only at hSw
          refine exec_load_part 37 (.tmp 25) ?_ gb (ob + i * 17) ?_ CP _ hSw.2 Try.underlying37 rfl HIP.out
          · rfl
          · rfl
        try simp only [Act.put, List.getElem_toArray, List.getElem_cons_succ, List.getElem_cons_zero, List.setIfInBounds_toArray, List.set_cons_zero, List.set_cons_succ]
        refine AnyBut.takeS (i := 5) (v := ?v38) rfl (by kernel_rfl) (Nat.le_of_eq (by kernel_rfl)) (by kernel_rfl) (by kernel_rfl) (fun _ _ _ h => h) (HS0.out) (Or.inl ⟨by kernel_rfl, ?hy38⟩) ?r38
        case hy38 =>
          intro w hSw
          try dsimp only at hSw
          go_simp
          try with_reducible rfl
        try simp only [Act.put, List.getElem_toArray, List.getElem_cons_succ, List.getElem_cons_zero, List.setIfInBounds_toArray, List.set_cons_zero, List.set_cons_succ]
        refine AnyBut.three (i := 6) (j := 11) (m := 12) (by kernel_rfl) rfl rfl rfl (fun K hK => ?_) (fun K hK => ?_) (fun K hK => ?_)
        · go_simp
          go_wp2_with fail
          refine (HNX.out wD (HKR.out.trans HKD.out)).mono ?_
          rintro e u_6 ⟨NT, p', t1, t2, rfl, hNT, hp', hnw, kk⟩
          have HPN_6 := Lib.hid (hnw.down ((HPS.out.kept.trans HKR.out).trans HKD.out))
          have HK_6 := Lib.hid (HKD.out.trans kk)
          have HNT := Lib.hid hNT
          have HPP := Lib.hid hp'
          have HS_6 := Lib.hid (HSB.out u_6 HK_6.out)
          obtain ⟨CY, hCY⟩ : ∃ c, c = p'.cs := ⟨_, rfl⟩
          rw [← hCY]
          have HCY := Lib.hid hCY
          have HIY : Hid ((Try.prog.info? 37).map (·.size) = some CY.size ∧ (#[.string { data := #[] }, .slice none 0 0, .int .i64 0, .int .i64 0, .bool false, .int .i64 0, .int .i64 0, .int .i64 0, .int .u64 0, .int .u64 0, .int .i64 0, .int .u64 0, .int .i64 0, .slice none 0 0, .int .i64 0, .slice none 0 0, .int .i64 0] : Array Value).size = CY.size ∧ CY.all (·.oneCell') = true) := Lib.hid (by rw [hCY]; exact ⟨pt_size p', rfl, cs_one p'⟩)
          clear kk hNT hp' hnw hCY
          go_wp2
          refine hK.out _ _ (HS_6.out) ?_
          clear hK K
          try simp only [Act.put, List.getElem_toArray, List.getElem_cons_succ, List.getElem_cons_zero, List.setIfInBounds_toArray, List.set_cons_zero, List.set_cons_succ]
          refine AnyBut.takeS (i := 7) (v := ?v39) rfl (by kernel_rfl) (Nat.le_of_eq (by kernel_rfl)) (by kernel_rfl) (by kernel_rfl) (fun _ _ _ h => h) (HS_6.out) (Or.inl ⟨by kernel_rfl, ?hy39⟩) ?r39
          case hy39 =>
            intro w hSw
            try dsimp only at hSw
            go_simp
            try with_reducible rfl
          try simp only [Act.put, List.getElem_toArray, List.getElem_cons_succ, List.getElem_cons_zero, List.setIfInBounds_toArray, List.set_cons_zero, List.set_cons_succ]
          refine AnyBut.takeS (i := 8) (v := ?v40) rfl (by kernel_rfl) (Nat.le_of_eq (by kernel_rfl)) (by kernel_rfl) (by kernel_rfl) (fun _ _ _ h => h) (HS_6.out) (Or.inl ⟨by kernel_rfl, ?hy40⟩) ?r40
          case hy40 =>
            intro w hSw
            try dsimp only at hSw
            go_simp
            try with_reducible rfl
          try simp only [Act.put, List.getElem_toArray, List.getElem_cons_succ, List.getElem_cons_zero, List.setIfInBounds_toArray, List.set_cons_zero, List.set_cons_succ]
          refine AnyBut.takeS (i := 9) (v := ?v41) rfl (by kernel_rfl) (Nat.le_of_eq (by kernel_rfl)) (by kernel_rfl) (by kernel_rfl) (fun _ _ _ h => h) (HS_6.out) (Or.inl ⟨by kernel_rfl, ?hy41⟩) ?r41
          case hy41 =>
            intro w hSw
            try dsimp only at hSw
            go_simp
            try with_reducible rfl
          try simp only [Act.put, List.getElem_toArray, List.getElem_cons_succ, List.getElem_cons_zero, List.setIfInBounds_toArray, List.set_cons_zero, List.set_cons_succ]
          refine AnyBut.takeS (i := 10) (v := ?v42) rfl (by kernel_rfl) (Nat.le_of_eq (by kernel_rfl)) (by kernel_rfl) (by kernel_rfl) (fun _ _ _ h => h) (HS_6.out) (Or.inl ⟨by kernel_rfl, ?hy42⟩) ?r42
          case hy42 =>
            intro w hSw
            try dsimp only at hSw
            go_simp
            try with_reducible rfl
          try simp only [Act.put, List.getElem_toArray, List.getElem_cons_succ, List.getElem_cons_zero, List.setIfInBounds_toArray, List.set_cons_zero, List.set_cons_succ]
          refine AnyBut.two (i := 11) (j := 12) (by kernel_rfl) rfl rfl (fun K hK => ?_) (fun K hK => ?_)
          · go_simp
            obtain ⟨g11, hg11⟩ : ∃ g, g = u_6.heap.size := ⟨_, rfl⟩
            obtain ⟨u_6_11, hnw⟩ : ∃ w', w' = u_6.alloc (.cells #[.bool false, .int .i64 0, .int .i64 0, .int .i64 0, .int .u64 0, .int .u64 0, .int .i64 0, .int .u64 0, .int .i64 0, .slice none 0 0, .int .i64 0, .slice none 0 0] 32) := ⟨_, rfl⟩
            have kk : Kept (fun _ => False) u_6 u_6_11 := by rw [hnw]; exact (Kept.refl _ _).alloc _
            have HT_6_11 : Hid (u_6_11.heap[g11]? = some (.cells #[.bool false, .int .i64 0, .int .i64 0, .int .i64 0, .int .u64 0, .int .u64 0, .int .i64 0, .int .u64 0, .int .i64 0, .slice none 0 0, .int .i64 0, .slice none 0 0] 32 (0, 0))) := Lib.hid (by rw [hnw, hg11]; exact heap_alloc_new u_6 _)
            have HL11 : Hid (wD.heap.size ≤ g11) := Lib.hid (by rw [hg11]; exact HK_6.out.size)
            have HK_6_11 := Lib.hid (HK_6.out.trans kk)
            have HPN_6_11 := Lib.hid (HPN_6.out.on kk)
            have HS_6_11 := Lib.hid (HSB.out u_6_11 HK_6_11.out)
            rw [← hg11, ← hnw]
            clear hg11 hnw kk
            refine hK.out _ _ (HS_6_11.out) ?_
            clear hK K
            try simp only [Act.put, List.getElem_toArray, List.getElem_cons_succ, List.getElem_cons_zero, List.setIfInBounds_toArray, List.set_cons_zero, List.set_cons_succ]
            refine AnyBut.one (i := 12) (by kernel_rfl) rfl (fun K hK => ?_)
            go_simp
            obtain ⟨g12, hg12⟩ : ∃ g, g = u_6_11.heap.size := ⟨_, rfl⟩
            obtain ⟨u_6_11_12, hnw⟩ : ∃ w', w' = u_6_11.alloc (.cells #[.string { data := #[] }, .slice none 0 0, .int .i64 0, .int .i64 0, .bool false, .int .i64 0, .int .i64 0, .int .i64 0, .int .u64 0, .int .u64 0, .int .i64 0, .int .u64 0, .int .i64 0, .slice none 0 0, .int .i64 0, .slice none 0 0, .int .i64 0] 37) := ⟨_, rfl⟩
            have kk : Kept (fun _ => False) u_6_11 u_6_11_12 := by rw [hnw]; exact (Kept.refl _ _).alloc _
            have HQ_6_11_12 : Hid (u_6_11_12.heap[g12]? = some (.cells #[.string { data := #[] }, .slice none 0 0, .int .i64 0, .int .i64 0, .bool false, .int .i64 0, .int .i64 0, .int .i64 0, .int .u64 0, .int .u64 0, .int .i64 0, .int .u64 0, .int .i64 0, .slice none 0 0, .int .i64 0, .slice none 0 0, .int .i64 0] 37 (0, 0))) := Lib.hid (by rw [hnw, hg12]; exact heap_alloc_new u_6_11 _)
            have HL12 : Hid (wD.heap.size ≤ g12) := Lib.hid (by rw [hg12]; exact HK_6_11.out.size)
            have HK_6_11_12 := Lib.hid (HK_6_11.out.trans kk)
            have HT_6_11_12 := Lib.hid (kk.same HT_6_11.out (fun x => x))
            have HPN_6_11_12 := Lib.hid (HPN_6_11.out.on kk)
            have HS_6_11_12 := Lib.hid (HSB.out u_6_11_12 HK_6_11_12.out)
            rw [← hg12, ← hnw]
            clear hg12 hnw kk
            refine hK.out _ _ (HS_6_11_12.out) ?_
            clear hK K
            try simp only [Act.put, List.getElem_toArray, List.getElem_cons_succ, List.getElem_cons_zero, List.setIfInBounds_toArray, List.set_cons_zero, List.set_cons_succ]
            refine AnyBut.one (i := 13) (by kernel_rfl) rfl (fun K hK => ?_)
            refine step_store_to (by rfl) 32 (.tmp 11) (.tmp 29) (by rfl) g11 NT (by rfl) (by rfl) 32 #[.bool false, .int .i64 0, .int .i64 0, .int .i64 0, .int .u64 0, .int .u64 0, .int .i64 0, .int .u64 0, .int .i64 0, .slice none 0 0, .int .i64 0, .slice none 0 0] HT_6_11_12.out HNT.out.1 HNT.out.2.1 HNT.out.2.2.1 ?_
            intro w13 hb13 k13
            have HT13 := Lib.hid hb13
            have HPN13 := Lib.hid (HPN_6_11_12.out.set HT_6_11_12.out (by decide) (by decide) (by have := HL11.out; have := (HPS.out.kept.trans HKR.out).size; omega) k13)
            have HQ13 := Lib.hid (k13.same HQ_6_11_12.out (fun e => box_ne HT_6_11_12.out HQ_6_11_12.out (by decide) e.symm))
            have HK13 := Lib.hid (HK_6_11_12.out.newer k13 (fun i e => by rw [e]; exact HL11.out))
            have HS13 := Lib.hid (HSB.out w13 HK13.out)
            clear hb13 k13
            refine hK.out _ _ (HS13.out) ?_
            clear hK K
            try simp only [Act.put, List.getElem_toArray, List.getElem_cons_succ, List.getElem_cons_zero]
            refine AnyBut.one (i := 14) (by kernel_rfl) rfl (fun K hK => ?_)
            refine step_store_to (by rfl) 37 (.tmp 12) (.tmp 30) (by rfl) g12 CY (by rfl) (by rfl) 37 #[.string { data := #[] }, .slice none 0 0, .int .i64 0, .int .i64 0, .bool false, .int .i64 0, .int .i64 0, .int .i64 0, .int .u64 0, .int .u64 0, .int .i64 0, .int .u64 0, .int .i64 0, .slice none 0 0, .int .i64 0, .slice none 0 0, .int .i64 0] HQ13.out HIY.out.1 HIY.out.2.1 HIY.out.2.2 ?_
            intro w14 hb14 k14
            have HQ14 := Lib.hid hb14
            have HPN14 := Lib.hid (HPN13.out.set HQ13.out (by decide) (by decide) (by have := HL12.out; have := (HPS.out.kept.trans HKR.out).size; omega) k14)
            have HT14 := Lib.hid (k14.same HT13.out (fun e => box_ne HT13.out HQ13.out (by decide) e))
            have HK14 := Lib.hid (HK13.out.newer k14 (fun i e => by rw [e]; exact HL12.out))
            have HS14 := Lib.hid (HSB.out w14 HK14.out)
            clear hb14 k14
            refine hK.out _ _ (HS14.out) ?_
            clear hK K
            try simp only [Act.put, List.getElem_toArray, List.getElem_cons_succ, List.getElem_cons_zero]
            refine AnyBut.takeS (i := 15) (v := ?v43) rfl (by kernel_rfl) (Nat.le_of_eq (by kernel_rfl)) (by kernel_rfl) (by kernel_rfl) (fun _ _ _ h => h) (HS14.out) (Or.inl ⟨by kernel_rfl, ?hy43⟩) ?r43
            case hy43 =>
              intro w hSw
              try dsimp only at hSw
              go_simp
              try with_reducible rfl
            try simp only [Act.put, List.getElem_toArray, List.getElem_cons_succ, List.getElem_cons_zero, List.setIfInBounds_toArray, List.set_cons_zero, List.set_cons_succ]
            refine AnyBut.done (by kernel_rfl) ?_
            go_wp2
            go_roundg (n - (i + 1))
            case measure => have := HD.out; omega
            case rel => exact ⟨i + 1, HD.out, rfl, rfl, NS, HTS.out ▸ (HPS.out.on (HKR.out.trans HK14.out)).skip HE.out, (HKR.out.trans HK14.out).same HRS.out (fun x => x)⟩
          · go_simp
            obtain ⟨g12, hg12⟩ : ∃ g, g = u_6.heap.size := ⟨_, rfl⟩
            obtain ⟨u_6_12, hnw⟩ : ∃ w', w' = u_6.alloc (.cells #[.string { data := #[] }, .slice none 0 0, .int .i64 0, .int .i64 0, .bool false, .int .i64 0, .int .i64 0, .int .i64 0, .int .u64 0, .int .u64 0, .int .i64 0, .int .u64 0, .int .i64 0, .slice none 0 0, .int .i64 0, .slice none 0 0, .int .i64 0] 37) := ⟨_, rfl⟩
            have kk : Kept (fun _ => False) u_6 u_6_12 := by rw [hnw]; exact (Kept.refl _ _).alloc _
            have HQ_6_12 : Hid (u_6_12.heap[g12]? = some (.cells #[.string { data := #[] }, .slice none 0 0, .int .i64 0, .int .i64 0, .bool false, .int .i64 0, .int .i64 0, .int .i64 0, .int .u64 0, .int .u64 0, .int .i64 0, .int .u64 0, .int .i64 0, .slice none 0 0, .int .i64 0, .slice none 0 0, .int .i64 0] 37 (0, 0))) := Lib.hid (by rw [hnw, hg12]; exact heap_alloc_new u_6 _)
            have HL12 : Hid (wD.heap.size ≤ g12) := Lib.hid (by rw [hg12]; exact HK_6.out.size)
            have HK_6_12 := Lib.hid (HK_6.out.trans kk)
            have HPN_6_12 := Lib.hid (HPN_6.out.on kk)
            have HS_6_12 := Lib.hid (HSB.out u_6_12 HK_6_12.out)
            rw [← hg12, ← hnw]
            clear hg12 hnw kk
            refine hK.out _ _ (HS_6_12.out) ?_
            clear hK K
            try simp only [Act.put, List.getElem_toArray, List.getElem_cons_succ, List.getElem_cons_zero, List.setIfInBounds_toArray, List.set_cons_zero, List.set_cons_succ]
            refine AnyBut.one (i := 11) (by kernel_rfl) rfl (fun K hK => ?_)
            go_simp
            obtain ⟨g11, hg11⟩ : ∃ g, g = u_6_12.heap.size := ⟨_, rfl⟩
            obtain ⟨u_6_12_11, hnw⟩ : ∃ w', w' = u_6_12.alloc (.cells #[.bool false, .int .i64 0, .int .i64 0, .int .i64 0, .int .u64 0, .int .u64 0, .int .i64 0, .int .u64 0, .int .i64 0, .slice none 0 0, .int .i64 0, .slice none 0 0] 32) := ⟨_, rfl⟩
            have kk : Kept (fun _ => False) u_6_12 u_6_12_11 := by rw [hnw]; exact (Kept.refl _ _).alloc _
            have HT_6_12_11 : Hid (u_6_12_11.heap[g11]? = some (.cells #[.bool false, .int .i64 0, .int .i64 0, .int .i64 0, .int .u64 0, .int .u64 0, .int .i64 0, .int .u64 0, .int .i64 0, .slice none 0 0, .int .i64 0, .slice none 0 0] 32 (0, 0))) := Lib.hid (by rw [hnw, hg11]; exact heap_alloc_new u_6_12 _)
            have HL11 : Hid (wD.heap.size ≤ g11) := Lib.hid (by rw [hg11]; exact HK_6_12.out.size)
            have HK_6_12_11 := Lib.hid (HK_6_12.out.trans kk)
            have HPN_6_12_11 := Lib.hid (HPN_6_12.out.on kk)
            have HQ_6_12_11 := Lib.hid (kk.same HQ_6_12.out (fun x => x))
            have HS_6_12_11 := Lib.hid (HSB.out u_6_12_11 HK_6_12_11.out)
            rw [← hg11, ← hnw]
            clear hg11 hnw kk
            refine hK.out _ _ (HS_6_12_11.out) ?_
            clear hK K
            try simp only [Act.put, List.getElem_toArray, List.getElem_cons_succ, List.getElem_cons_zero, List.setIfInBounds_toArray, List.set_cons_zero, List.set_cons_succ]
            refine AnyBut.one (i := 13) (by kernel_rfl) rfl (fun K hK => ?_)
            refine step_store_to (by rfl) 32 (.tmp 11) (.tmp 29) (by rfl) g11 NT (by rfl) (by rfl) 32 #[.bool false, .int .i64 0, .int .i64 0, .int .i64 0, .int .u64 0, .int .u64 0, .int .i64 0, .int .u64 0, .int .i64 0, .slice none 0 0, .int .i64 0, .slice none 0 0] HT_6_12_11.out HNT.out.1 HNT.out.2.1 HNT.out.2.2.1 ?_
            intro w13 hb13 k13
            have HT13 := Lib.hid hb13
            have HPN13 := Lib.hid (HPN_6_12_11.out.set HT_6_12_11.out (by decide) (by decide) (by have := HL11.out; have := (HPS.out.kept.trans HKR.out).size; omega) k13)
            have HQ13 := Lib.hid (k13.same HQ_6_12_11.out (fun e => box_ne HT_6_12_11.out HQ_6_12_11.out (by decide) e.symm))
            have HK13 := Lib.hid (HK_6_12_11.out.newer k13 (fun i e => by rw [e]; exact HL11.out))
            have HS13 := Lib.hid (HSB.out w13 HK13.out)
            clear hb13 k13
            refine hK.out _ _ (HS13.out) ?_
            clear hK K
            try simp only [Act.put, List.getElem_toArray, List.getElem_cons_succ, List.getElem_cons_zero]
            refine AnyBut.one (i := 14) (by kernel_rfl) rfl (fun K hK => ?_)
            refine step_store_to (by rfl) 37 (.tmp 12) (.tmp 30) (by rfl) g12 CY (by rfl) (by rfl) 37 #[.string { data := #[] }, .slice none 0 0, .int .i64 0, .int .i64 0, .bool false, .int .i64 0, .int .i64 0, .int .i64 0, .int .u64 0, .int .u64 0, .int .i64 0, .int .u64 0, .int .i64 0, .slice none 0 0, .int .i64 0, .slice none 0 0, .int .i64 0] HQ13.out HIY.out.1 HIY.out.2.1 HIY.out.2.2 ?_
            intro w14 hb14 k14
            have HQ14 := Lib.hid hb14
            have HPN14 := Lib.hid (HPN13.out.set HQ13.out (by decide) (by decide) (by have := HL12.out; have := (HPS.out.kept.trans HKR.out).size; omega) k14)
            have HT14 := Lib.hid (k14.same HT13.out (fun e => box_ne HT13.out HQ13.out (by decide) e))
            have HK14 := Lib.hid (HK13.out.newer k14 (fun i e => by rw [e]; exact HL12.out))
            have HS14 := Lib.hid (HSB.out w14 HK14.out)
            clear hb14 k14
            refine hK.out _ _ (HS14.out) ?_
            clear hK K
            try simp only [Act.put, List.getElem_toArray, List.getElem_cons_succ, List.getElem_cons_zero]
            refine AnyBut.takeS (i := 15) (v := ?v44) rfl (by kernel_rfl) (Nat.le_of_eq (by kernel_rfl)) (by kernel_rfl) (by kernel_rfl) (fun _ _ _ h => h) (HS14.out) (Or.inl ⟨by kernel_rfl, ?hy44⟩) ?r44
            case hy44 =>
              intro w hSw
              try dsimp only at hSw
              go_simp
              try with_reducible rfl
            try simp only [Act.put, List.getElem_toArray, List.getElem_cons_succ, List.getElem_cons_zero, List.setIfInBounds_toArray, List.set_cons_zero, List.set_cons_succ]
            refine AnyBut.done (by kernel_rfl) ?_
            go_wp2
            go_roundg (n - (i + 1))
            case measure => have := HD.out; omega
            case rel => exact ⟨i + 1, HD.out, rfl, rfl, NS, HTS.out ▸ (HPS.out.on (HKR.out.trans HK14.out)).skip HE.out, (HKR.out.trans HK14.out).same HRS.out (fun x => x)⟩
        · go_simp
          obtain ⟨g11, hg11⟩ : ∃ g, g = wD.heap.size := ⟨_, rfl⟩
          obtain ⟨u_11, hnw⟩ : ∃ w', w' = wD.alloc (.cells #[.bool false, .int .i64 0, .int .i64 0, .int .i64 0, .int .u64 0, .int .u64 0, .int .i64 0, .int .u64 0, .int .i64 0, .slice none 0 0, .int .i64 0, .slice none 0 0] 32) := ⟨_, rfl⟩
          have kk : Kept (fun _ => False) wD u_11 := by rw [hnw]; exact (Kept.refl _ _).alloc _
          have HT_11 : Hid (u_11.heap[g11]? = some (.cells #[.bool false, .int .i64 0, .int .i64 0, .int .i64 0, .int .u64 0, .int .u64 0, .int .i64 0, .int .u64 0, .int .i64 0, .slice none 0 0, .int .i64 0, .slice none 0 0] 32 (0, 0))) := Lib.hid (by rw [hnw, hg11]; exact heap_alloc_new wD _)
          have HL11 : Hid (wD.heap.size ≤ g11) := Lib.hid (by rw [hg11]; exact HKD.out.size)
          have HK_11 := Lib.hid (HKD.out.trans kk)
          have HS_11 := Lib.hid (HSB.out u_11 HK_11.out)
          rw [← hg11, ← hnw]
          clear hg11 hnw kk
          refine hK.out _ _ (HS_11.out) ?_
          clear hK K
          try simp only [Act.put, List.getElem_toArray, List.getElem_cons_succ, List.getElem_cons_zero, List.setIfInBounds_toArray, List.set_cons_zero, List.set_cons_succ]
          refine AnyBut.two (i := 6) (j := 12) (by kernel_rfl) rfl rfl (fun K hK => ?_) (fun K hK => ?_)
          · go_simp
            go_wp2_with fail
            refine (HNX.out u_11 (HKR.out.trans HK_11.out)).mono ?_
            rintro e u_11_6 ⟨NT, p', t1, t2, rfl, hNT, hp', hnw, kk⟩
            have HPN_11_6 := Lib.hid (hnw.down ((HPS.out.kept.trans HKR.out).trans HK_11.out))
            have HK_11_6 := Lib.hid (HK_11.out.trans kk)
            have HT_11_6 := Lib.hid (kk.same HT_11.out (fun x => x))
            have HNT := Lib.hid hNT
            have HPP := Lib.hid hp'
            have HS_11_6 := Lib.hid (HSB.out u_11_6 HK_11_6.out)
            obtain ⟨CY, hCY⟩ : ∃ c, c = p'.cs := ⟨_, rfl⟩
            rw [← hCY]
            have HCY := Lib.hid hCY
            have HIY : Hid ((Try.prog.info? 37).map (·.size) = some CY.size ∧ (#[.string { data := #[] }, .slice none 0 0, .int .i64 0, .int .i64 0, .bool false, .int .i64 0, .int .i64 0, .int .i64 0, .int .u64 0, .int .u64 0, .int .i64 0, .int .u64 0, .int .i64 0, .slice none 0 0, .int .i64 0, .slice none 0 0, .int .i64 0] : Array Value).size = CY.size ∧ CY.all (·.oneCell') = true) := Lib.hid (by rw [hCY]; exact ⟨pt_size p', rfl, cs_one p'⟩)
            clear kk hNT hp' hnw hCY
            go_wp2
            refine hK.out _ _ (HS_11_6.out) ?_
            clear hK K
            try simp only [Act.put, List.getElem_toArray, List.getElem_cons_succ, List.getElem_cons_zero, List.setIfInBounds_toArray, List.set_cons_zero, List.set_cons_succ]
            refine AnyBut.takeS (i := 7) (v := ?v45) rfl (by kernel_rfl) (Nat.le_of_eq (by kernel_rfl)) (by kernel_rfl) (by kernel_rfl) (fun _ _ _ h => h) (HS_11_6.out) (Or.inl ⟨by kernel_rfl, ?hy45⟩) ?r45
            case hy45 =>
              intro w hSw
              try dsimp only at hSw
              go_simp
              try with_reducible rfl
            try simp only [Act.put, List.getElem_toArray, List.getElem_cons_succ, List.getElem_cons_zero, List.setIfInBounds_toArray, List.set_cons_zero, List.set_cons_succ]
            refine AnyBut.takeS (i := 8) (v := ?v46) rfl (by kernel_rfl) (Nat.le_of_eq (by kernel_rfl)) (by kernel_rfl) (by kernel_rfl) (fun _ _ _ h => h) (HS_11_6.out) (Or.inl ⟨by kernel_rfl, ?hy46⟩) ?r46
            case hy46 =>
              intro w hSw
              try dsimp only at hSw
              go_simp
              try with_reducible rfl
            try simp only [Act.put, List.getElem_toArray, List.getElem_cons_succ, List.getElem_cons_zero, List.setIfInBounds_toArray, List.set_cons_zero, List.set_cons_succ]
            refine AnyBut.takeS (i := 9) (v := ?v47) rfl (by kernel_rfl) (Nat.le_of_eq (by kernel_rfl)) (by kernel_rfl) (by kernel_rfl) (fun _ _ _ h => h) (HS_11_6.out) (Or.inl ⟨by kernel_rfl, ?hy47⟩) ?r47
            case hy47 =>
              intro w hSw
              try dsimp only at hSw
              go_simp
              try with_reducible rfl
            try simp only [Act.put, List.getElem_toArray, List.getElem_cons_succ, List.getElem_cons_zero, List.setIfInBounds_toArray, List.set_cons_zero, List.set_cons_succ]
            refine AnyBut.takeS (i := 10) (v := ?v48) rfl (by kernel_rfl) (Nat.le_of_eq (by kernel_rfl)) (by kernel_rfl) (by kernel_rfl) (fun _ _ _ h => h) (HS_11_6.out) (Or.inl ⟨by kernel_rfl, ?hy48⟩) ?r48
            case hy48 =>
              intro w hSw
              try dsimp only at hSw
              go_simp
              try with_reducible rfl
            try simp only [Act.put, List.getElem_toArray, List.getElem_cons_succ, List.getElem_cons_zero, List.setIfInBounds_toArray, List.set_cons_zero, List.set_cons_succ]
            refine AnyBut.one (i := 12) (by kernel_rfl) rfl (fun K hK => ?_)
            go_simp
            obtain ⟨g12, hg12⟩ : ∃ g, g = u_11_6.heap.size := ⟨_, rfl⟩
            obtain ⟨u_11_6_12, hnw⟩ : ∃ w', w' = u_11_6.alloc (.cells #[.string { data := #[] }, .slice none 0 0, .int .i64 0, .int .i64 0, .bool false, .int .i64 0, .int .i64 0, .int .i64 0, .int .u64 0, .int .u64 0, .int .i64 0, .int .u64 0, .int .i64 0, .slice none 0 0, .int .i64 0, .slice none 0 0, .int .i64 0] 37) := ⟨_, rfl⟩
            have kk : Kept (fun _ => False) u_11_6 u_11_6_12 := by rw [hnw]; exact (Kept.refl _ _).alloc _
            have HQ_11_6_12 : Hid (u_11_6_12.heap[g12]? = some (.cells #[.string { data := #[] }, .slice none 0 0, .int .i64 0, .int .i64 0, .bool false, .int .i64 0, .int .i64 0, .int .i64 0, .int .u64 0, .int .u64 0, .int .i64 0, .int .u64 0, .int .i64 0, .slice none 0 0, .int .i64 0, .slice none 0 0, .int .i64 0] 37 (0, 0))) := Lib.hid (by rw [hnw, hg12]; exact heap_alloc_new u_11_6 _)
            have HL12 : Hid (wD.heap.size ≤ g12) := Lib.hid (by rw [hg12]; exact HK_11_6.out.size)
            have HK_11_6_12 := Lib.hid (HK_11_6.out.trans kk)
            have HT_11_6_12 := Lib.hid (kk.same HT_11_6.out (fun x => x))
            have HPN_11_6_12 := Lib.hid (HPN_11_6.out.on kk)
            have HS_11_6_12 := Lib.hid (HSB.out u_11_6_12 HK_11_6_12.out)
            rw [← hg12, ← hnw]
            clear hg12 hnw kk
            refine hK.out _ _ (HS_11_6_12.out) ?_
            clear hK K
            try simp only [Act.put, List.getElem_toArray, List.getElem_cons_succ, List.getElem_cons_zero, List.setIfInBounds_toArray, List.set_cons_zero, List.set_cons_succ]
            refine AnyBut.one (i := 13) (by kernel_rfl) rfl (fun K hK => ?_)
            refine step_store_to (by rfl) 32 (.tmp 11) (.tmp 29) (by rfl) g11 NT (by rfl) (by rfl) 32 #[.bool false, .int .i64 0, .int .i64 0, .int .i64 0, .int .u64 0, .int .u64 0, .int .i64 0, .int .u64 0, .int .i64 0, .slice none 0 0, .int .i64 0, .slice none 0 0] HT_11_6_12.out HNT.out.1 HNT.out.2.1 HNT.out.2.2.1 ?_
            intro w13 hb13 k13
            have HT13 := Lib.hid hb13
            have HPN13 := Lib.hid (HPN_11_6_12.out.set HT_11_6_12.out (by decide) (by decide) (by have := HL11.out; have := (HPS.out.kept.trans HKR.out).size; omega) k13)
            have HQ13 := Lib.hid (k13.same HQ_11_6_12.out (fun e => box_ne HT_11_6_12.out HQ_11_6_12.out (by decide) e.symm))
            have HK13 := Lib.hid (HK_11_6_12.out.newer k13 (fun i e => by rw [e]; exact HL11.out))
            have HS13 := Lib.hid (HSB.out w13 HK13.out)
            clear hb13 k13
            refine hK.out _ _ (HS13.out) ?_
            clear hK K
            try simp only [Act.put, List.getElem_toArray, List.getElem_cons_succ, List.getElem_cons_zero]
            refine AnyBut.one (i := 14) (by kernel_rfl) rfl (fun K hK => ?_)
            refine step_store_to (by rfl) 37 (.tmp 12) (.tmp 30) (by rfl) g12 CY (by rfl) (by rfl) 37 #[.string { data := #[] }, .slice none 0 0, .int .i64 0, .int .i64 0, .bool false, .int .i64 0, .int .i64 0, .int .i64 0, .int .u64 0, .int .u64 0, .int .i64 0, .int .u64 0, .int .i64 0, .slice none 0 0, .int .i64 0, .slice none 0 0, .int .i64 0] HQ13.out HIY.out.1 HIY.out.2.1 HIY.out.2.2 ?_
            intro w14 hb14 k14
            have HQ14 := Lib.hid hb14
            have HPN14 := Lib.hid (HPN13.out.set HQ13.out (by decide) (by decide) (by have := HL12.out; have := (HPS.out.kept.trans HKR.out).size; omega) k14)
            have HT14 := Lib.hid (k14.same HT13.out (fun e => box_ne HT13.out HQ13.out (by decide) e))
            have HK14 := Lib.hid (HK13.out.newer k14 (fun i e => by rw [e]; exact HL12.out))
            have HS14 := Lib.hid (HSB.out w14 HK14.out)
            clear hb14 k14
            refine hK.out _ _ (HS14.out) ?_
            clear hK K
            try simp only [Act.put, List.getElem_toArray, List.getElem_cons_succ, List.getElem_cons_zero]
            refine AnyBut.takeS (i := 15) (v := ?v49) rfl (by kernel_rfl) (Nat.le_of_eq (by kernel_rfl)) (by kernel_rfl) (by kernel_rfl) (fun _ _ _ h => h) (HS14.out) (Or.inl ⟨by kernel_rfl, ?hy49⟩) ?r49
            case hy49 =>
              intro w hSw
              try dsimp only at hSw
              go_simp
              try with_reducible rfl
            try simp only [Act.put, List.getElem_toArray, List.getElem_cons_succ, List.getElem_cons_zero, List.setIfInBounds_toArray, List.set_cons_zero, List.set_cons_succ]
            refine AnyBut.done (by kernel_rfl) ?_
            go_wp2
            go_roundg (n - (i + 1))
            case measure => have := HD.out; omega
            case rel => exact ⟨i + 1, HD.out, rfl, rfl, NS, HTS.out ▸ (HPS.out.on (HKR.out.trans HK14.out)).skip HE.out, (HKR.out.trans HK14.out).same HRS.out (fun x => x)⟩
          · go_simp
            obtain ⟨g12, hg12⟩ : ∃ g, g = u_11.heap.size := ⟨_, rfl⟩
            obtain ⟨u_11_12, hnw⟩ : ∃ w', w' = u_11.alloc (.cells #[.string { data := #[] }, .slice none 0 0, .int .i64 0, .int .i64 0, .bool false, .int .i64 0, .int .i64 0, .int .i64 0, .int .u64 0, .int .u64 0, .int .i64 0, .int .u64 0, .int .i64 0, .slice none 0 0, .int .i64 0, .slice none 0 0, .int .i64 0] 37) := ⟨_, rfl⟩
            have kk : Kept (fun _ => False) u_11 u_11_12 := by rw [hnw]; exact (Kept.refl _ _).alloc _
            have HQ_11_12 : Hid (u_11_12.heap[g12]? = some (.cells #[.string { data := #[] }, .slice none 0 0, .int .i64 0, .int .i64 0, .bool false, .int .i64 0, .int .i64 0, .int .i64 0, .int .u64 0, .int .u64 0, .int .i64 0, .int .u64 0, .int .i64 0, .slice none 0 0, .int .i64 0, .slice none 0 0, .int .i64 0] 37 (0, 0))) := Lib.hid (by rw [hnw, hg12]; exact heap_alloc_new u_11 _)
            have HL12 : Hid (wD.heap.size ≤ g12) := Lib.hid (by rw [hg12]; exact HK_11.out.size)
            have HK_11_12 := Lib.hid (HK_11.out.trans kk)
            have HT_11_12 := Lib.hid (kk.same HT_11.out (fun x => x))
            have HS_11_12 := Lib.hid (HSB.out u_11_12 HK_11_12.out)
            rw [← hg12, ← hnw]
            clear hg12 hnw kk
            refine hK.out _ _ (HS_11_12.out) ?_
            clear hK K
            try simp only [Act.put, List.getElem_toArray, List.getElem_cons_succ, List.getElem_cons_zero, List.setIfInBounds_toArray, List.set_cons_zero, List.set_cons_succ]
            refine AnyBut.one (i := 6) (by kernel_rfl) rfl (fun K hK => ?_)
            go_simp
            go_wp2_with fail
            refine (HNX.out u_11_12 (HKR.out.trans HK_11_12.out)).mono ?_
            rintro e u_11_12_6 ⟨NT, p', t1, t2, rfl, hNT, hp', hnw, kk⟩
            have HPN_11_12_6 := Lib.hid (hnw.down ((HPS.out.kept.trans HKR.out).trans HK_11_12.out))
            have HK_11_12_6 := Lib.hid (HK_11_12.out.trans kk)
            have HT_11_12_6 := Lib.hid (kk.same HT_11_12.out (fun x => x))
            have HQ_11_12_6 := Lib.hid (kk.same HQ_11_12.out (fun x => x))
            have HNT := Lib.hid hNT
            have HPP := Lib.hid hp'
            have HS_11_12_6 := Lib.hid (HSB.out u_11_12_6 HK_11_12_6.out)
            obtain ⟨CY, hCY⟩ : ∃ c, c = p'.cs := ⟨_, rfl⟩
            rw [← hCY]
            have HCY := Lib.hid hCY
            have HIY : Hid ((Try.prog.info? 37).map (·.size) = some CY.size ∧ (#[.string { data := #[] }, .slice none 0 0, .int .i64 0, .int .i64 0, .bool false, .int .i64 0, .int .i64 0, .int .i64 0, .int .u64 0, .int .u64 0, .int .i64 0, .int .u64 0, .int .i64 0, .slice none 0 0, .int .i64 0, .slice none 0 0, .int .i64 0] : Array Value).size = CY.size ∧ CY.all (·.oneCell') = true) := Lib.hid (by rw [hCY]; exact ⟨pt_size p', rfl, cs_one p'⟩)
            clear kk hNT hp' hnw hCY
            go_wp2
            refine hK.out _ _ (HS_11_12_6.out) ?_
            clear hK K
            try simp only [Act.put, List.getElem_toArray, List.getElem_cons_succ, List.getElem_cons_zero, List.setIfInBounds_toArray, List.set_cons_zero, List.set_cons_succ]
            refine AnyBut.takeS (i := 7) (v := ?v50) rfl (by kernel_rfl) (Nat.le_of_eq (by kernel_rfl)) (by kernel_rfl) (by kernel_rfl) (fun _ _ _ h => h) (HS_11_12_6.out) (Or.inl ⟨by kernel_rfl, ?hy50⟩) ?r50
            case hy50 =>
              intro w hSw
              try dsimp only at hSw
              go_simp
              try with_reducible rfl
            try simp only [Act.put, List.getElem_toArray, List.getElem_cons_succ, List.getElem_cons_zero, List.setIfInBounds_toArray, List.set_cons_zero, List.set_cons_succ]
            refine AnyBut.takeS (i := 8) (v := ?v51) rfl (by kernel_rfl) (Nat.le_of_eq (by kernel_rfl)) (by kernel_rfl) (by kernel_rfl) (fun _ _ _ h => h) (HS_11_12_6.out) (Or.inl ⟨by kernel_rfl, ?hy51⟩) ?r51
            case hy51 =>
              intro w hSw
              try dsimp only at hSw
              go_simp
              try with_reducible rfl
            try simp only [Act.put, List.getElem_toArray, List.getElem_cons_succ, List.getElem_cons_zero, List.setIfInBounds_toArray, List.set_cons_zero, List.set_cons_succ]
            refine AnyBut.takeS (i := 9) (v := ?v52) rfl (by kernel_rfl) (Nat.le_of_eq (by kernel_rfl)) (by kernel_rfl) (by kernel_rfl) (fun _ _ _ h => h) (HS_11_12_6.out) (Or.inl ⟨by kernel_rfl, ?hy52⟩) ?r52
            case hy52 =>
              intro w hSw
              try dsimp only at hSw
              go_simp
              try with_reducible rfl
            try simp only [Act.put, List.getElem_toArray, List.getElem_cons_succ, List.getElem_cons_zero, List.setIfInBounds_toArray, List.set_cons_zero, List.set_cons_succ]
            refine AnyBut.takeS (i := 10) (v := ?v53) rfl (by kernel_rfl) (Nat.le_of_eq (by kernel_rfl)) (by kernel_rfl) (by kernel_rfl) (fun _ _ _ h => h) (HS_11_12_6.out) (Or.inl ⟨by kernel_rfl, ?hy53⟩) ?r53
            case hy53 =>
              intro w hSw
              try dsimp only at hSw
              go_simp
              try with_reducible rfl
            try simp only [Act.put, List.getElem_toArray, List.getElem_cons_succ, List.getElem_cons_zero, List.setIfInBounds_toArray, List.set_cons_zero, List.set_cons_succ]
            refine AnyBut.one (i := 13) (by kernel_rfl) rfl (fun K hK => ?_)
            refine step_store_to (by rfl) 32 (.tmp 11) (.tmp 29) (by rfl) g11 NT (by rfl) (by rfl) 32 #[.bool false, .int .i64 0, .int .i64 0, .int .i64 0, .int .u64 0, .int .u64 0, .int .i64 0, .int .u64 0, .int .i64 0, .slice none 0 0, .int .i64 0, .slice none 0 0] HT_11_12_6.out HNT.out.1 HNT.out.2.1 HNT.out.2.2.1 ?_
            intro w13 hb13 k13
            have HT13 := Lib.hid hb13
            have HPN13 := Lib.hid (HPN_11_12_6.out.set HT_11_12_6.out (by decide) (by decide) (by have := HL11.out; have := (HPS.out.kept.trans HKR.out).size; omega) k13)
            have HQ13 := Lib.hid (k13.same HQ_11_12_6.out (fun e => box_ne HT_11_12_6.out HQ_11_12_6.out (by decide) e.symm))
            have HK13 := Lib.hid (HK_11_12_6.out.newer k13 (fun i e => by rw [e]; exact HL11.out))
            have HS13 := Lib.hid (HSB.out w13 HK13.out)
            clear hb13 k13
            refine hK.out _ _ (HS13.out) ?_
            clear hK K
            try simp only [Act.put, List.getElem_toArray, List.getElem_cons_succ, List.getElem_cons_zero]
            refine AnyBut.one (i := 14) (by kernel_rfl) rfl (fun K hK => ?_)
            refine step_store_to (by rfl) 37 (.tmp 12) (.tmp 30) (by rfl) g12 CY (by rfl) (by rfl) 37 #[.string { data := #[] }, .slice none 0 0, .int .i64 0, .int .i64 0, .bool false, .int .i64 0, .int .i64 0, .int .i64 0, .int .u64 0, .int .u64 0, .int .i64 0, .int .u64 0, .int .i64 0, .slice none 0 0, .int .i64 0, .slice none 0 0, .int .i64 0] HQ13.out HIY.out.1 HIY.out.2.1 HIY.out.2.2 ?_
            intro w14 hb14 k14
            have HQ14 := Lib.hid hb14
            have HPN14 := Lib.hid (HPN13.out.set HQ13.out (by decide) (by decide) (by have := HL12.out; have := (HPS.out.kept.trans HKR.out).size; omega) k14)
            have HT14 := Lib.hid (k14.same HT13.out (fun e => box_ne HT13.out HQ13.out (by decide) e))
            have HK14 := Lib.hid (HK13.out.newer k14 (fun i e => by rw [e]; exact HL12.out))
            have HS14 := Lib.hid (HSB.out w14 HK14.out)
            clear hb14 k14
            refine hK.out _ _ (HS14.out) ?_
            clear hK K
            try simp only [Act.put, List.getElem_toArray, List.getElem_cons_succ, List.getElem_cons_zero]
            refine AnyBut.takeS (i := 15) (v := ?v54) rfl (by kernel_rfl) (Nat.le_of_eq (by kernel_rfl)) (by kernel_rfl) (by kernel_rfl) (fun _ _ _ h => h) (HS14.out) (Or.inl ⟨by kernel_rfl, ?hy54⟩) ?r54
            case hy54 =>
              intro w hSw
              try dsimp only at hSw
              go_simp
              try with_reducible rfl
            try simp only [Act.put, List.getElem_toArray, List.getElem_cons_succ, List.getElem_cons_zero, List.setIfInBounds_toArray, List.set_cons_zero, List.set_cons_succ]
            refine AnyBut.done (by kernel_rfl) ?_
            go_wp2
            go_roundg (n - (i + 1))
            case measure => have := HD.out; omega
            case rel => exact ⟨i + 1, HD.out, rfl, rfl, NS, HTS.out ▸ (HPS.out.on (HKR.out.trans HK14.out)).skip HE.out, (HKR.out.trans HK14.out).same HRS.out (fun x => x)⟩
        · go_simp
          obtain ⟨g12, hg12⟩ : ∃ g, g = wD.heap.size := ⟨_, rfl⟩
          obtain ⟨u_12, hnw⟩ : ∃ w', w' = wD.alloc (.cells #[.string { data := #[] }, .slice none 0 0, .int .i64 0, .int .i64 0, .bool false, .int .i64 0, .int .i64 0, .int .i64 0, .int .u64 0, .int .u64 0, .int .i64 0, .int .u64 0, .int .i64 0, .slice none 0 0, .int .i64 0, .slice none 0 0, .int .i64 0] 37) := ⟨_, rfl⟩
          have kk : Kept (fun _ => False) wD u_12 := by rw [hnw]; exact (Kept.refl _ _).alloc _
          have HQ_12 : Hid (u_12.heap[g12]? = some (.cells #[.string { data := #[] }, .slice none 0 0, .int .i64 0, .int .i64 0, .bool false, .int .i64 0, .int .i64 0, .int .i64 0, .int .u64 0, .int .u64 0, .int .i64 0, .int .u64 0, .int .i64 0, .slice none 0 0, .int .i64 0, .slice none 0 0, .int .i64 0] 37 (0, 0))) := Lib.hid (by rw [hnw, hg12]; exact heap_alloc_new wD _)
          have HL12 : Hid (wD.heap.size ≤ g12) := Lib.hid (by rw [hg12]; exact HKD.out.size)
          have HK_12 := Lib.hid (HKD.out.trans kk)
          have HS_12 := Lib.hid (HSB.out u_12 HK_12.out)
          rw [← hg12, ← hnw]
          clear hg12 hnw kk
          refine hK.out _ _ (HS_12.out) ?_
          clear hK K
          try simp only [Act.put, List.getElem_toArray, List.getElem_cons_succ, List.getElem_cons_zero, List.setIfInBounds_toArray, List.set_cons_zero, List.set_cons_succ]
          refine AnyBut.two (i := 6) (j := 11) (by kernel_rfl) rfl rfl (fun K hK => ?_) (fun K hK => ?_)
          · go_simp
            go_wp2_with fail
            refine (HNX.out u_12 (HKR.out.trans HK_12.out)).mono ?_
            rintro e u_12_6 ⟨NT, p', t1, t2, rfl, hNT, hp', hnw, kk⟩
            have HPN_12_6 := Lib.hid (hnw.down ((HPS.out.kept.trans HKR.out).trans HK_12.out))
            have HK_12_6 := Lib.hid (HK_12.out.trans kk)
            have HQ_12_6 := Lib.hid (kk.same HQ_12.out (fun x => x))
            have HNT := Lib.hid hNT
            have HPP := Lib.hid hp'
            have HS_12_6 := Lib.hid (HSB.out u_12_6 HK_12_6.out)
            obtain ⟨CY, hCY⟩ : ∃ c, c = p'.cs := ⟨_, rfl⟩
            rw [← hCY]
            have HCY := Lib.hid hCY
            have HIY : Hid ((Try.prog.info? 37).map (·.size) = some CY.size ∧ (#[.string { data := #[] }, .slice none 0 0, .int .i64 0, .int .i64 0, .bool false, .int .i64 0, .int .i64 0, .int .i64 0, .int .u64 0, .int .u64 0, .int .i64 0, .int .u64 0, .int .i64 0, .slice none 0 0, .int .i64 0, .slice none 0 0, .int .i64 0] : Array Value).size = CY.size ∧ CY.all (·.oneCell') = true) := Lib.hid (by rw [hCY]; exact ⟨pt_size p', rfl, cs_one p'⟩)
            clear kk hNT hp' hnw hCY
            go_wp2
            refine hK.out _ _ (HS_12_6.out) ?_
            clear hK K
            try simp only [Act.put, List.getElem_toArray, List.getElem_cons_succ, List.getElem_cons_zero, List.setIfInBounds_toArray, List.set_cons_zero, List.set_cons_succ]
            refine AnyBut.takeS (i := 7) (v := ?v55) rfl (by kernel_rfl) (Nat.le_of_eq (by kernel_rfl)) (by kernel_rfl) (by kernel_rfl) (fun _ _ _ h => h) (HS_12_6.out) (Or.inl ⟨by kernel_rfl, ?hy55⟩) ?r55
            case hy55 =>
              intro w hSw
              try dsimp only at hSw
              go_simp
              try with_reducible rfl
            try simp only [Act.put, List.getElem_toArray, List.getElem_cons_succ, List.getElem_cons_zero, List.setIfInBounds_toArray, List.set_cons_zero, List.set_cons_succ]
            refine AnyBut.takeS (i := 8) (v := ?v56) rfl (by kernel_rfl) (Nat.le_of_eq (by kernel_rfl)) (by kernel_rfl) (by kernel_rfl) (fun _ _ _ h => h) (HS_12_6.out) (Or.inl ⟨by kernel_rfl, ?hy56⟩) ?r56
            case hy56 =>
              intro w hSw
              try dsimp only at hSw
              go_simp
              try with_reducible rfl
            try simp only [Act.put, List.getElem_toArray, List.getElem_cons_succ, List.getElem_cons_zero, List.setIfInBounds_toArray, List.set_cons_zero, List.set_cons_succ]
            refine AnyBut.takeS (i := 9) (v := ?v57) rfl (by kernel_rfl) (Nat.le_of_eq (by kernel_rfl)) (by kernel_rfl) (by kernel_rfl) (fun _ _ _ h => h) (HS_12_6.out) (Or.inl ⟨by kernel_rfl, ?hy57⟩) ?r57
            case hy57 =>
              intro w hSw
              try dsimp only at hSw
              go_simp
              try with_reducible rfl
            try simp only [Act.put, List.getElem_toArray, List.getElem_cons_succ, List.getElem_cons_zero, List.setIfInBounds_toArray, List.set_cons_zero, List.set_cons_succ]
            refine AnyBut.takeS (i := 10) (v := ?v58) rfl (by kernel_rfl) (Nat.le_of_eq (by kernel_rfl)) (by kernel_rfl) (by kernel_rfl) (fun _ _ _ h => h) (HS_12_6.out) (Or.inl ⟨by kernel_rfl, ?hy58⟩) ?r58
            case hy58 =>
              intro w hSw
              try dsimp only at hSw
              go_simp
              try with_reducible rfl
            try simp only [Act.put, List.getElem_toArray, List.getElem_cons_succ, List.getElem_cons_zero, List.setIfInBounds_toArray, List.set_cons_zero, List.set_cons_succ]
            refine AnyBut.one (i := 11) (by kernel_rfl) rfl (fun K hK => ?_)
            go_simp
            obtain ⟨g11, hg11⟩ : ∃ g, g = u_12_6.heap.size := ⟨_, rfl⟩
            obtain ⟨u_12_6_11, hnw⟩ : ∃ w', w' = u_12_6.alloc (.cells #[.bool false, .int .i64 0, .int .i64 0, .int .i64 0, .int .u64 0, .int .u64 0, .int .i64 0, .int .u64 0, .int .i64 0, .slice none 0 0, .int .i64 0, .slice none 0 0] 32) := ⟨_, rfl⟩
            have kk : Kept (fun _ => False) u_12_6 u_12_6_11 := by rw [hnw]; exact (Kept.refl _ _).alloc _
            have HT_12_6_11 : Hid (u_12_6_11.heap[g11]? = some (.cells #[.bool false, .int .i64 0, .int .i64 0, .int .i64 0, .int .u64 0, .int .u64 0, .int .i64 0, .int .u64 0, .int .i64 0, .slice none 0 0, .int .i64 0, .slice none 0 0] 32 (0, 0))) := Lib.hid (by rw [hnw, hg11]; exact heap_alloc_new u_12_6 _)
            have HL11 : Hid (wD.heap.size ≤ g11) := Lib.hid (by rw [hg11]; exact HK_12_6.out.size)
            have HK_12_6_11 := Lib.hid (HK_12_6.out.trans kk)
            have HPN_12_6_11 := Lib.hid (HPN_12_6.out.on kk)
            have HQ_12_6_11 := Lib.hid (kk.same HQ_12_6.out (fun x => x))
            have HS_12_6_11 := Lib.hid (HSB.out u_12_6_11 HK_12_6_11.out)
            rw [← hg11, ← hnw]
            clear hg11 hnw kk
            refine hK.out _ _ (HS_12_6_11.out) ?_
            clear hK K
            try simp only [Act.put, List.getElem_toArray, List.getElem_cons_succ, List.getElem_cons_zero, List.setIfInBounds_toArray, List.set_cons_zero, List.set_cons_succ]
            refine AnyBut.one (i := 13) (by kernel_rfl) rfl (fun K hK => ?_)
            refine step_store_to (by rfl) 32 (.tmp 11) (.tmp 29) (by rfl) g11 NT (by rfl) (by rfl) 32 #[.bool false, .int .i64 0, .int .i64 0, .int .i64 0, .int .u64 0, .int .u64 0, .int .i64 0, .int .u64 0, .int .i64 0, .slice none 0 0, .int .i64 0, .slice none 0 0] HT_12_6_11.out HNT.out.1 HNT.out.2.1 HNT.out.2.2.1 ?_
            intro w13 hb13 k13
            have HT13 := Lib.hid hb13
            have HPN13 := Lib.hid (HPN_12_6_11.out.set HT_12_6_11.out (by decide) (by decide) (by have := HL11.out; have := (HPS.out.kept.trans HKR.out).size; omega) k13)
            have HQ13 := Lib.hid (k13.same HQ_12_6_11.out (fun e => box_ne HT_12_6_11.out HQ_12_6_11.out (by decide) e.symm))
            have HK13 := Lib.hid (HK_12_6_11.out.newer k13 (fun i e => by rw [e]; exact HL11.out))
            have HS13 := Lib.hid (HSB.out w13 HK13.out)
            clear hb13 k13
            refine hK.out _ _ (HS13.out) ?_
            clear hK K
            try simp only [Act.put, List.getElem_toArray, List.getElem_cons_succ, List.getElem_cons_zero]
            refine AnyBut.one (i := 14) (by kernel_rfl) rfl (fun K hK => ?_)
            refine step_store_to (by rfl) 37 (.tmp 12) (.tmp 30) (by rfl) g12 CY (by rfl) (by rfl) 37 #[.string { data := #[] }, .slice none 0 0, .int .i64 0, .int .i64 0, .bool false, .int .i64 0, .int .i64 0, .int .i64 0, .int .u64 0, .int .u64 0, .int .i64 0, .int .u64 0, .int .i64 0, .slice none 0 0, .int .i64 0, .slice none 0 0, .int .i64 0] HQ13.out HIY.out.1 HIY.out.2.1 HIY.out.2.2 ?_
            intro w14 hb14 k14
            have HQ14 := Lib.hid hb14
            have HPN14 := Lib.hid (HPN13.out.set HQ13.out (by decide) (by decide) (by have := HL12.out; have := (HPS.out.kept.trans HKR.out).size; omega) k14)
            have HT14 := Lib.hid (k14.same HT13.out (fun e => box_ne HT13.out HQ13.out (by decide) e))
            have HK14 := Lib.hid (HK13.out.newer k14 (fun i e => by rw [e]; exact HL12.out))
            have HS14 := Lib.hid (HSB.out w14 HK14.out)
            clear hb14 k14
            refine hK.out _ _ (HS14.out) ?_
            clear hK K
            try simp only [Act.put, List.getElem_toArray, List.getElem_cons_succ, List.getElem_cons_zero]
            refine AnyBut.takeS (i := 15) (v := ?v59) rfl (by kernel_rfl) (Nat.le_of_eq (by kernel_rfl)) (by kernel_rfl) (by kernel_rfl) (fun _ _ _ h => h) (HS14.out) (Or.inl ⟨by kernel_rfl, ?hy59⟩) ?r59
            case hy59 =>
              intro w hSw
              try dsimp only at hSw
              go_simp
              try with_reducible rfl
            try simp only [Act.put, List.getElem_toArray, List.getElem_cons_succ, List.getElem_cons_zero, List.setIfInBounds_toArray, List.set_cons_zero, List.set_cons_succ]
            refine AnyBut.done (by kernel_rfl) ?_
            go_wp2
            go_roundg (n - (i + 1))
            case measure => have := HD.out; omega
            case rel => exact ⟨i + 1, HD.out, rfl, rfl, NS, HTS.out ▸ (HPS.out.on (HKR.out.trans HK14.out)).skip HE.out, (HKR.out.trans HK14.out).same HRS.out (fun x => x)⟩
          · go_simp
            obtain ⟨g11, hg11⟩ : ∃ g, g = u_12.heap.size := ⟨_, rfl⟩
            obtain ⟨u_12_11, hnw⟩ : ∃ w', w' = u_12.alloc (.cells #[.bool false, .int .i64 0, .int .i64 0, .int .i64 0, .int .u64 0, .int .u64 0, .int .i64 0, .int .u64 0, .int .i64 0, .slice none 0 0, .int .i64 0, .slice none 0 0] 32) := ⟨_, rfl⟩
            have kk : Kept (fun _ => False) u_12 u_12_11 := by rw [hnw]; exact (Kept.refl _ _).alloc _
            have HT_12_11 : Hid (u_12_11.heap[g11]? = some (.cells #[.bool false, .int .i64 0, .int .i64 0, .int .i64 0, .int .u64 0, .int .u64 0, .int .i64 0, .int .u64 0, .int .i64 0, .slice none 0 0, .int .i64 0, .slice none 0 0] 32 (0, 0))) := Lib.hid (by rw [hnw, hg11]; exact heap_alloc_new u_12 _)
            have HL11 : Hid (wD.heap.size ≤ g11) := Lib.hid (by rw [hg11]; exact HK_12.out.size)
            have HK_12_11 := Lib.hid (HK_12.out.trans kk)
            have HQ_12_11 := Lib.hid (kk.same HQ_12.out (fun x => x))
            have HS_12_11 := Lib.hid (HSB.out u_12_11 HK_12_11.out)
            rw [← hg11, ← hnw]
            clear hg11 hnw kk
            refine hK.out _ _ (HS_12_11.out) ?_
            clear hK K
            try simp only [Act.put, List.getElem_toArray, List.getElem_cons_succ, List.getElem_cons_zero, List.setIfInBounds_toArray, List.set_cons_zero, List.set_cons_succ]
            refine AnyBut.one (i := 6) (by kernel_rfl) rfl (fun K hK => ?_)
            go_simp
            go_wp2_with fail
            refine (HNX.out u_12_11 (HKR.out.trans HK_12_11.out)).mono ?_
            rintro e u_12_11_6 ⟨NT, p', t1, t2, rfl, hNT, hp', hnw, kk⟩
            have HPN_12_11_6 := Lib.hid (hnw.down ((HPS.out.kept.trans HKR.out).trans HK_12_11.out))
            have HK_12_11_6 := Lib.hid (HK_12_11.out.trans kk)
            have HT_12_11_6 := Lib.hid (kk.same HT_12_11.out (fun x => x))
            have HQ_12_11_6 := Lib.hid (kk.same HQ_12_11.out (fun x => x))
            have HNT := Lib.hid hNT
            have HPP := Lib.hid hp'
            have HS_12_11_6 := Lib.hid (HSB.out u_12_11_6 HK_12_11_6.out)
            obtain ⟨CY, hCY⟩ : ∃ c, c = p'.cs := ⟨_, rfl⟩
            rw [← hCY]
            have HCY := Lib.hid hCY
            have HIY : Hid ((Try.prog.info? 37).map (·.size) = some CY.size ∧ (#[.string { data := #[] }, .slice none 0 0, .int .i64 0, .int .i64 0, .bool false, .int .i64 0, .int .i64 0, .int .i64 0, .int .u64 0, .int .u64 0, .int .i64 0, .int .u64 0, .int .i64 0, .slice none 0 0, .int .i64 0, .slice none 0 0, .int .i64 0] : Array Value).size = CY.size ∧ CY.all (·.oneCell') = true) := Lib.hid (by rw [hCY]; exact ⟨pt_size p', rfl, cs_one p'⟩)
            clear kk hNT hp' hnw hCY
            go_wp2
            refine hK.out _ _ (HS_12_11_6.out) ?_
            clear hK K
            try simp only [Act.put, List.getElem_toArray, List.getElem_cons_succ, List.getElem_cons_zero, List.setIfInBounds_toArray, List.set_cons_zero, List.set_cons_succ]
            refine AnyBut.takeS (i := 7) (v := ?v60) rfl (by kernel_rfl) (Nat.le_of_eq (by kernel_rfl)) (by kernel_rfl) (by kernel_rfl) (fun _ _ _ h => h) (HS_12_11_6.out) (Or.inl ⟨by kernel_rfl, ?hy60⟩) ?r60
            case hy60 =>
              intro w hSw
              try dsimp only at hSw
              go_simp
              try with_reducible rfl
            try simp only [Act.put, List.getElem_toArray, List.getElem_cons_succ, List.getElem_cons_zero, List.setIfInBounds_toArray, List.set_cons_zero, List.set_cons_succ]
            refine AnyBut.takeS (i := 8) (v := ?v61) rfl (by kernel_rfl) (Nat.le_of_eq (by kernel_rfl)) (by kernel_rfl) (by kernel_rfl) (fun _ _ _ h => h) (HS_12_11_6.out) (Or.inl ⟨by kernel_rfl, ?hy61⟩) ?r61
            case hy61 =>
              intro w hSw
              try dsimp only at hSw
              go_simp
              try with_reducible rfl
            try simp only [Act.put, List.getElem_toArray, List.getElem_cons_succ, List.getElem_cons_zero, List.setIfInBounds_toArray, List.set_cons_zero, List.set_cons_succ]
            refine AnyBut.takeS (i := 9) (v := ?v62) rfl (by kernel_rfl) (Nat.le_of_eq (by kernel_rfl)) (by kernel_rfl) (by kernel_rfl) (fun _ _ _ h => h) (HS_12_11_6.out) (Or.inl ⟨by kernel_rfl, ?hy62⟩) ?r62
            case hy62 =>
              intro w hSw
              try dsimp only at hSw
              go_simp
              try with_reducible rfl
            try simp only [Act.put, List.getElem_toArray, List.getElem_cons_succ, List.getElem_cons_zero, List.setIfInBounds_toArray, List.set_cons_zero, List.set_cons_succ]
            refine AnyBut.takeS (i := 10) (v := ?v63) rfl (by kernel_rfl) (Nat.le_of_eq (by kernel_rfl)) (by kernel_rfl) (by kernel_rfl) (fun _ _ _ h => h) (HS_12_11_6.out) (Or.inl ⟨by kernel_rfl, ?hy63⟩) ?r63
            case hy63 =>
              intro w hSw
              try dsimp only at hSw
              go_simp
              try with_reducible rfl
            try simp only [Act.put, List.getElem_toArray, List.getElem_cons_succ, List.getElem_cons_zero, List.setIfInBounds_toArray, List.set_cons_zero, List.set_cons_succ]
            refine AnyBut.one (i := 13) (by kernel_rfl) rfl (fun K hK => ?_)
            refine step_store_to (by rfl) 32 (.tmp 11) (.tmp 29) (by rfl) g11 NT (by rfl) (by rfl) 32 #[.bool false, .int .i64 0, .int .i64 0, .int .i64 0, .int .u64 0, .int .u64 0, .int .i64 0, .int .u64 0, .int .i64 0, .slice none 0 0, .int .i64 0, .slice none 0 0] HT_12_11_6.out HNT.out.1 HNT.out.2.1 HNT.out.2.2.1 ?_
            intro w13 hb13 k13
            have HT13 := Lib.hid hb13
            have HPN13 := Lib.hid (HPN_12_11_6.out.set HT_12_11_6.out (by decide) (by decide) (by have := HL11.out; have := (HPS.out.kept.trans HKR.out).size; omega) k13)
            have HQ13 := Lib.hid (k13.same HQ_12_11_6.out (fun e => box_ne HT_12_11_6.out HQ_12_11_6.out (by decide) e.symm))
            have HK13 := Lib.hid (HK_12_11_6.out.newer k13 (fun i e => by rw [e]; exact HL11.out))
            have HS13 := Lib.hid (HSB.out w13 HK13.out)
            clear hb13 k13
            refine hK.out _ _ (HS13.out) ?_
            clear hK K
            try simp only [Act.put, List.getElem_toArray, List.getElem_cons_succ, List.getElem_cons_zero]
            refine AnyBut.one (i := 14) (by kernel_rfl) rfl (fun K hK => ?_)
            refine step_store_to (by rfl) 37 (.tmp 12) (.tmp 30) (by rfl) g12 CY (by rfl) (by rfl) 37 #[.string { data := #[] }, .slice none 0 0, .int .i64 0, .int .i64 0, .bool false, .int .i64 0, .int .i64 0, .int .i64 0, .int .u64 0, .int .u64 0, .int .i64 0, .int .u64 0, .int .i64 0, .slice none 0 0, .int .i64 0, .slice none 0 0, .int .i64 0] HQ13.out HIY.out.1 HIY.out.2.1 HIY.out.2.2 ?_
            intro w14 hb14 k14
            have HQ14 := Lib.hid hb14
            have HPN14 := Lib.hid (HPN13.out.set HQ13.out (by decide) (by decide) (by have := HL12.out; have := (HPS.out.kept.trans HKR.out).size; omega) k14)
            have HT14 := Lib.hid (k14.same HT13.out (fun e => box_ne HT13.out HQ13.out (by decide) e))
            have HK14 := Lib.hid (HK13.out.newer k14 (fun i e => by rw [e]; exact HL12.out))
            have HS14 := Lib.hid (HSB.out w14 HK14.out)
            clear hb14 k14
            refine hK.out _ _ (HS14.out) ?_
            clear hK K
            try simp only [Act.put, List.getElem_toArray, List.getElem_cons_succ, List.getElem_cons_zero]
            refine AnyBut.takeS (i := 15) (v := ?v64) rfl (by kernel_rfl) (Nat.le_of_eq (by kernel_rfl)) (by kernel_rfl) (by kernel_rfl) (fun _ _ _ h => h) (HS14.out) (Or.inl ⟨by kernel_rfl, ?hy64⟩) ?r64
            case hy64 =>
              intro w hSw
              try dsimp only at hSw
              go_simp
              try with_reducible rfl
            try simp only [Act.put, List.getElem_toArray, List.getElem_cons_succ, List.getElem_cons_zero, List.setIfInBounds_toArray, List.set_cons_zero, List.set_cons_succ]
            refine AnyBut.done (by kernel_rfl) ?_
            go_wp2
            go_roundg (n - (i + 1))
            case measure => have := HD.out; omega
            case rel => exact ⟨i + 1, HD.out, rfl, rfl, NS, HTS.out ▸ (HPS.out.on (HKR.out.trans HK14.out)).skip HE.out, (HKR.out.trans HK14.out).same HRS.out (fun x => x)⟩
    · obtain rfl : n = i := by omega
      have hfin : (L.map PtV.x).take n = L.map PtV.x := List.take_of_length_le (by rw [List.length_map, HN.out.1]; exact Nat.le_refl _)
      have hps := HPS.out
      rw [hfin] at hps
      have HPF := Lib.hid hps
      have HON : Hid (NS.all (·.oneCell') = true) := Lib.hid (by rw [hst]; exact stC_one ho.one)
      have HKD : Hid (Kept (fun _ => False) wr wr.drew) := Lib.hid (Kept.refl _ _).drew
      have HS0 : Hid ((fun w' => w'.heap[g9]? = some (.cells NS 32 (0, 0))) wr.drew) := Lib.hid (HKD.out.same HPS.out.box (fun x => x))
      have HRD := Lib.hid (HKD.out.same HRS.out (fun x => x))
      clear hd hfin hps hst ho hin
      go_upto_region 11 with fail
      refine AnyBut.start (S := fun w' => w'.heap[g9]? = some (.cells NS 32 (0, 0))) (k := 6) (by kernel_rfl) ?_
      refine AnyBut.takeS (i := 0) (v := ?v65) rfl (by kernel_rfl) (Nat.le_of_eq (by kernel_rfl)) (by kernel_rfl) (by kernel_rfl) (fun _ _ _ h => h) (HS0.out) (Or.inl ⟨by kernel_rfl, ?hy65⟩) ?r65
      case hy65 =>
        intro w hSw
        try dsimp only at hSw
        go_simp
        try with_reducible rfl
      try simp only [Act.put, List.getElem_toArray, List.getElem_cons_zero, List.setIfInBounds_toArray, List.set_cons_zero, List.set_cons_succ]
      refine AnyBut.takeS (i := 1) (v := ?v66) rfl (by kernel_rfl) (Nat.le_of_eq (by kernel_rfl)) (by kernel_rfl) (by kernel_rfl) (fun _ _ _ h => h) (HS0.out) (Or.inl ⟨by kernel_rfl, ?hy66⟩) ?r66
      case hy66 =>
        intro w hSw
        try dsimp only at hSw
        go_simp
        try with_reducible rfl
      try simp only [Act.put, List.getElem_toArray, List.getElem_cons_succ, List.getElem_cons_zero, List.setIfInBounds_toArray, List.set_cons_zero, List.set_cons_succ]
      refine AnyBut.takeS (i := 2) (v := ?v67) rfl (by kernel_rfl) (Nat.le_of_eq (by kernel_rfl)) (by kernel_rfl) (by kernel_rfl) (fun _ _ _ h => h) (HS0.out) (Or.inl ⟨by kernel_rfl, ?hy67⟩) ?r67
      case hy67 =>
        intro w hSw
        try dsimp only at hSw
        refine exec_load_row 32 (.tmp 9) ?_ g9 ?_ 32 _ (0, 0) _ hSw Try.underlying32 rfl HIS.out.1
        · rfl
        · rfl
      try simp only [Act.put, List.getElem_toArray, List.getElem_cons_succ, List.getElem_cons_zero, List.setIfInBounds_toArray, List.set_cons_zero, List.set_cons_succ]
      refine AnyBut.takeS (i := 3) (v := ?v68) rfl (by kernel_rfl) (Nat.le_of_eq (by kernel_rfl)) (by kernel_rfl) (by kernel_rfl) (fun _ _ _ h => h) (HS0.out) (Or.inl ⟨by kernel_rfl, ?hy68⟩) ?r68
      case hy68 =>
        intro w hSw
        try dsimp only at hSw
        go_simp
        try with_reducible rfl
      try simp only [Act.put, List.getElem_toArray, List.getElem_cons_succ, List.getElem_cons_zero, List.setIfInBounds_toArray, List.set_cons_zero, List.set_cons_succ]
      refine AnyBut.takeS (i := 4) (v := ?v69) rfl (by kernel_rfl) (Nat.le_of_eq (by kernel_rfl)) (by kernel_rfl) (by kernel_rfl) (fun _ _ _ h => h) (HS0.out) (Or.inl ⟨by kernel_rfl, ?hy69⟩) ?r69
      case hy69 =>
        intro w hSw
        try dsimp only at hSw
        go_simp
        try with_reducible rfl
      try simp only [Act.put, List.getElem_toArray, List.getElem_cons_succ, List.getElem_cons_zero, List.setIfInBounds_toArray, List.set_cons_zero, List.set_cons_succ]
      refine AnyBut.one (i := 5) (by kernel_rfl) rfl (fun K hK => ?_)
      refine step_store_to (by rfl) 32 (.tmp 6) (.tmp 48) (by rfl) q6 NS (by rfl) (by rfl) 32 #[.bool false, .int .i64 0, .int .i64 0, .int .i64 0, .int .u64 0, .int .u64 0, .int .i64 0, .int .u64 0, .int .i64 0, .slice none 0 0, .int .i64 0, .slice none 0 0] HRD.out HIS.out.1 HIS.out.2.symm HON.out ?_
      intro wf hbf kf
      have HBF := Lib.hid hbf
      have HKF := Lib.hid kf
      have HSF : Hid ((fun w' => w'.heap[g9]? = some (.cells NS 32 (0, 0))) wf) := Lib.hid (kf.same HS0.out (fun e => by have := HG9.out; omega))
      clear hbf kf
      refine hK.out _ _ (HSF.out) ?_
      clear hK K
      try simp only [Act.put, List.getElem_toArray, List.getElem_cons_succ, List.getElem_cons_zero]
      refine AnyBut.done (by kernel_rfl) ?_
      go_wp2
      refine bodyPost_ret (results_ttc Try.results13 _ _ q6 32 _ (0, 0) _ rfl HBF.out Try.underlying32 rfl HIS.out.1) rfl ?_
      obtain ⟨I, O, hI, hO, hIx, hOx, hN⟩ := (HPF.out.on HKD.out).rows
      have hne : ∀ (v : Value) (L' : List PtV), MineT w wr.drew v L' → MineT w wf v L' := fun v L' m => m.keptS HKF.out (fun k e e2 => own_box m.own HRD.out (by decide) (e2 ▸ e)) (fun k e => by rw [e]; exact HGE.out)
      obtain ⟨tp, tn, hst, ho⟩ := (HPF.out.on HKD.out).st
      exact ⟨_, _, NS, tp, tn, I, O, rfl, hst, ho.set HRD.out (by decide) HGE.out HKF.out, hne _ _ hI, hne _ _ hO, hIx, hOx, fun p hp => (hN p hp).set HRD.out (by decide) (by decide) HGE.out HKF.out⟩
end Go.Proofs.Ytiiibhdohlpodaa

