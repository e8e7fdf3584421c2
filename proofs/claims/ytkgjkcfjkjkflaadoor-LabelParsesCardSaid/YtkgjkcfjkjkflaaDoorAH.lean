/- Layer 11: label.Parse. -/
import Derived.Test.YtkgjkcfjkjkflaaDoorAG
namespace Go.Proofs.YtkgjkcfjkjkflaaDoor
open Go.RowKit
attribute [local go_sem ↓] Go.wp_at_zero Go.wp_at_succ

theorem results_tmp4 {fn : Func} {t u v x : Tmp} (h : fn.results = #[.tmp t, .tmp u, .tmp v, .tmp x]) (tmps : Array Value) (P : Program) (w : World) :
    (results fn tmps).run P w = .ok (.tuple #[tmps.getD t undef, tmps.getD u undef, tmps.getD v undef, tmps.getD x undef]) w := by
  simp [results, h]
/-- How far attributes are read, of so many parts: the attributes, the place, the first fault. -/
def prsN (at0 : Nat) (parts : List ByteArray) : Nat → List Pr × Nat × Nat
  | 0 => ([], at0, 0)
  | k + 1 =>
    let s := prsN at0 parts k
    if s.2.2 ≠ 0 then s
    else
      let r := nextE s.1 (parts.getD k ByteArray.empty)
      if r.2 ≠ 0 then (s.1, s.2.1, r.2) else (s.1 ++ [r.1], s.2.1 + (parts.getD k ByteArray.empty).size + 1, 0)
theorem prsN_stop {at0 : Nat} {parts : List ByteArray} {k : Nat} (h : (prsN at0 parts k).2.2 ≠ 0) (j : Nat) : prsN at0 parts (k + j) = prsN at0 parts k := by
  induction j with
  | zero => rfl
  | succ j ih =>
    rw [← Nat.add_assoc, prsN]
    dsimp only
    rw [ih, if_pos h]
theorem prsN_good {at0 : Nat} {parts : List ByteArray} {k at_ : Nat} {A : List Pr} (h : prsN at0 parts k = (A, at_, 0)) (hr : (nextE A (parts.getD k ByteArray.empty)).2 = 0) : prsN at0 parts (k + 1) = (A ++ [(nextE A (parts.getD k ByteArray.empty)).1], at_ + (parts.getD k ByteArray.empty).size + 1, 0) := by
  rw [prsN]
  dsimp only
  rw [h]
  dsimp only
  rw [if_neg (fun e => e rfl), if_neg (fun e => e hr)]
theorem prsN_bad {at0 : Nat} {parts : List ByteArray} {k n at_ : Nat} {A : List Pr} (h : prsN at0 parts k = (A, at_, 0)) (hr : (nextE A (parts.getD k ByteArray.empty)).2 ≠ 0) (hk : k < n) : (prsN at0 parts n).2 = (at_, (nextE A (parts.getD k ByteArray.empty)).2) := by
  have h1 : prsN at0 parts (k + 1) = (A, at_, (nextE A (parts.getD k ByteArray.empty)).2) := by
    rw [prsN]
    dsimp only
    rw [h]
    dsimp only
    rw [if_neg (fun e => e rfl), if_pos hr]
  have h2 := prsN_stop (at0 := at0) (parts := parts) (k := k + 1) (by rw [h1]; exact hr) (n - (k + 1))
  rw [Nat.add_sub_cancel' hk] at h2
  rw [h2, h1]
/-- The label whose text that is: name, attributes, place, fault. -/
def parseL (s : ByteArray) : ByteArray × List Pr × Nat × Nat :=
  let parts := splitA 59 s
  let name := parts.headD ByteArray.empty
  if nameB name = true then
    let r := prsN (name.size + 1) parts.tail parts.tail.length
    if r.2.2 ≠ 0 then (ByteArray.empty, [], r.2.1, r.2.2) else (name, r.1, 0, 0)
  else (ByteArray.empty, [], 0, 3)
theorem splitS_sizes (c : UInt8) (k : Nat) (s : ByteArray) : ∀ p ∈ splitS c k s, p.size ≤ s.size := by
  induction k generalizing s with
  | zero => intro p hp; rw [splitS, List.mem_singleton] at hp; rw [hp]; exact Nat.le_refl _
  | succ k ih =>
    intro p hp
    rw [splitS] at hp
    split at hp
    · rw [List.mem_singleton] at hp; rw [hp]; exact Nat.le_refl _
    · rcases List.mem_cons.1 hp with h | h
      · rw [h]; exact extract_le _ _ _
      · exact Nat.le_trans (ih _ p h) (extract_le _ _ _)
theorem splitS_ne (c : UInt8) (k : Nat) (s : ByteArray) : splitS c k s ≠ [] := by
  cases k with
  | zero => rw [splitS]; exact List.cons_ne_nil _ _
  | succ k => rw [splitS]; split <;> exact List.cons_ne_nil _ _
theorem splitS_len (c : UInt8) (k : Nat) (s : ByteArray) : (splitS c k s).length ≤ k + 1 := by
  induction k generalizing s with
  | zero => exact Nat.le_refl _
  | succ k ih =>
    rw [splitS]
    split
    · simp
    · rw [List.length_cons]; have := ih (s.extract ((ixB s c).toNat + 1) s.size); omega
theorem nextE_few {A : List Pr} {part : ByteArray} (h4 : A.length ≤ 4) (h : (nextE A part).2 = 0) : A.length < 4 := by
  rcases Nat.lt_or_ge A.length 4 with h1 | h1
  · exact h1
  · exfalso
    unfold nextE at h
    rw [if_pos (by omega)] at h
    cases h
theorem strs_get {l : List ByteArray} {i : Nat} (h : i < l.length) : (l.map Value.string)[i]? = some (.string (l.getD i ByteArray.empty)) := by
  rw [List.getElem?_map, List.getElem?_eq_getElem h, List.getD_eq_getElem?_getD, List.getElem?_eq_getElem h]; rfl

set_option maxHeartbeats 8000000 in
theorem parse_any (s : ByteArray) (w : World) (hs : s.size ≤ 100000) :
    Calls Tryd.prog 15 #[.string s] w fun e w' => ∃ v, e = .returned (.tuple #[.string (parseL s).1, v, .int .i64 ((parseL s).2.2.1 : Int), .int .i64 ((parseL s).2.2.2 : Int)]) ∧ MineP w w' v (parseL s).2.1 := by
  have HSP := Lib.hid (split1_any s 59 w hs)
  have hne := splitS_ne 59 (s.toList.count 59) s
  have hsz := splitS_sizes 59 (s.toList.count 59) s
  have hpl := splitS_len 59 (s.toList.count 59) s
  have hcl : s.toList.count 59 ≤ s.size := by rw [← toList_size]; exact List.count_le_length
  have hPL : parseL s = if nameB ((splitA 59 s).headD ByteArray.empty) = true then (if (prsN (((splitA 59 s).headD ByteArray.empty).size + 1) (splitA 59 s).tail (splitA 59 s).tail.length).2.2 ≠ 0 then (ByteArray.empty, [], (prsN (((splitA 59 s).headD ByteArray.empty).size + 1) (splitA 59 s).tail (splitA 59 s).tail.length).2.1, (prsN (((splitA 59 s).headD ByteArray.empty).size + 1) (splitA 59 s).tail (splitA 59 s).tail.length).2.2) else ((splitA 59 s).headD ByteArray.empty, (prsN (((splitA 59 s).headD ByteArray.empty).size + 1) (splitA 59 s).tail (splitA 59 s).tail.length).1, 0, 0)) else (ByteArray.empty, [], 0, 3) := rfl
  obtain ⟨PL, hPLL⟩ : ∃ x, x = parseL s := ⟨_, rfl⟩
  rw [← hPLL] at hPL ⊢
  obtain ⟨parts, hparts⟩ : ∃ p, p = splitA 59 s := ⟨_, rfl⟩
  rw [← hparts] at HSP hPL
  have hne2 : parts ≠ [] := by rw [hparts]; exact hne
  have hsz2 : ∀ p ∈ parts, p.size ≤ 100000 := fun p hp => by rw [hparts] at hp; have := hsz p hp; omega
  have hpl2 : parts.length ≤ 100001 := by rw [hparts]; show (splitS 59 (s.toList.count 59) s).length ≤ 100001; omega
  obtain ⟨name, rest, rfl⟩ : ∃ n r, parts = n :: r := by cases parts with | nil => exact absurd rfl hne2 | cons n r => exact ⟨n, r, rfl⟩
  rw [List.headD_cons, List.tail_cons] at hPL
  have hnz := hsz2 name (List.mem_cons_self)
  have HRZ := Lib.hid (show ∀ i, i < rest.length → (rest.getD i ByteArray.empty).size ≤ 100000 from fun i hi => by
    rw [List.getD_eq_getElem?_getD, List.getElem?_eq_getElem hi]
    exact hsz2 _ (List.mem_cons_of_mem _ (List.getElem_mem hi)))
  have HN := Lib.hid fun w => isName_any name w (by omega)
  obtain ⟨NB, hNB⟩ : ∃ b, b = nameB name := ⟨_, rfl⟩
  rw [← hNB] at HN hPL
  obtain ⟨iS, hiS, hzS0, hzS1, hzS2⟩ := info_parts Tryd.infoStr
  obtain ⟨M, hM⟩ : ∃ m, m = (name :: rest).length := ⟨_, rfl⟩
  have hMr : M = rest.length + 1 := by rw [hM]; rfl
  have wz : IntKind.i64.wrap ((name.size : Int) + 1) = ((name.size + 1 : Nat) : Int) := by rw [IntWalk.i64_in _ ⟨by omega, by omega⟩]; omega
  rw [← hM] at HSP
  have HPL := Lib.hid hPL
  have HMB := Lib.hid (show M ≤ 100001 by rw [hM]; exact hpl2)
  have HNZ := Lib.hid hnz
  have HMR := Lib.hid hMr
  obtain ⟨at0, hat0⟩ : ∃ k, k = name.size + 1 := ⟨_, rfl⟩
  rw [← hat0] at wz HPL
  have HAT0 := Lib.hid hat0
  clear hs hne hsz hpl hcl hpl2 hPL hPLL hparts hne2 hsz2 hnz hNB hM hMr hzS0 hzS2 hat0
  go_enter Tryd.func15, Tryd.ntmps15
  go_wp2_with fail
  refine HSP.out.mono ?_
  rintro e w1 ⟨a, cp, rfl, hsl, hMc, k1⟩
  have HK1 := Lib.hid k1
  obtain ⟨g, off, hga, hc0⟩ := hsl.elem (i := 0) (strs_get (l := name :: rest) (by simp))
  subst hga
  rw [Nat.add_zero, List.getD_cons_zero] at hc0
  have hM0 : (0 : Int) < (M : Int) := by have := HMR.out; omega
  have hcutS : ∀ w, (Instr.slice 45 (.slice (some ⟨g, off, none⟩) M cp) (some (.int .i64 1)) none none).run Tryd.prog w = .ok (.slice (if cp = 1 then (some ⟨g, off, none⟩ : Option Addr) else (some (⟨g, off, none⟩ : Addr)).map (·.add 1)) (M - 1) (cp - 1)) w := fun w => run_cutL (P := Tryd.prog) Tryd.underlying45 hiS hzS1 (some ⟨g, off, none⟩) M cp 1 (by have := HMR.out; omega) w
  have hsl2 := hsl.cutL (lo := 1) (by have := HMR.out; omega) hMc
  rw [List.map_cons, List.drop_succ_cons, List.drop_zero] at hsl2
  obtain ⟨ax, hax⟩ : ∃ a : Option Addr, a = (if cp = 1 then (some ⟨g, off, none⟩ : Option Addr) else (some (⟨g, off, none⟩ : Addr)).map (·.add 1)) := ⟨_, rfl⟩
  rw [← hax] at hcutS hsl2
  obtain ⟨R, hR⟩ : ∃ k, k = M - 1 := ⟨_, rfl⟩
  obtain ⟨cx, hcx⟩ : ∃ k, k = cp - 1 := ⟨_, rfl⟩
  rw [← hR, ← hcx] at hcutS hsl2
  have HRL := Lib.hid (show R = rest.length by have := HMR.out; omega)
  have HSL2 := Lib.hid hsl2
  have HRB := Lib.hid (show R ≤ 100001 by have := HMB.out; omega)
  clear k1 hsl hMc hsl2 hax hR hcx
  cases NB with
  | false =>
    have HF := Lib.hid (HPL.out.trans (if_neg (by decide)))
    go_wp2_with fail
    refine (HN.out _).mono ?_
    rintro e w' ⟨rfl, rfl⟩
    go_wp2
    try simp only [Exit.inBlock, Exit.then]
    refine bodyPost_ret (results_tmp4 Tryd.results15 _ _ _) rfl ?_
    rw [HF.out]
    exact ⟨_, rfl, MineP.nil HK1.out⟩
  | true =>
    have HF := Lib.hid (HPL.out.trans (if_pos rfl))
    go_wp2_with fail
    refine (HN.out _).mono ?_
    rintro e w' ⟨rfl, rfl⟩
    go_wp2
    go_loopg [2, 3, 4, 25] R (fun g s2 s3 s4 s25 wr => ∃ (k : Nat) (A : List Pr) (at_ : Nat), k ≤ R ∧ g = R - k ∧ s2 = .string name ∧ s25 = .int .i64 k ∧ s4 = .int .i64 at_ ∧ MineP w1 wr s3 A ∧ prsN at0 rest k = (A, at_, 0) ∧ A.length ≤ 4 ∧ at_ ≤ 100001 * (1 + A.length))
    case atStart => exact ⟨0, [], at0, Nat.zero_le _, rfl, rfl, rfl, rfl, MineP.nil (Kept.refl _ _), rfl, Nat.zero_le _, by have := HAT0.out; have := HNZ.out; simp; omega⟩
    case round =>
      obtain ⟨k, A, at_, hk, rfl, rfl, rfl, rfl, hm, hp, hA4, hat⟩ := hrel
      obtain ⟨xa, xc, ev⟩ := hm.slice
      obtain ⟨n, hn⟩ : ∃ n, n = A.length := ⟨_, rfl⟩
      rw [← hn] at ev
      subst ev
      have HNN := Lib.hid hn
      have HM := Lib.hid hm
      have HP := Lib.hid hp
      have HA4 := Lib.hid hA4
      have HAT := Lib.hid hat
      clear hm hp hA4 hat hn
      by_cases hd : k < R
      · have hdi : (k : Int) < (R : Int) := by omega
        have hk0 : (0 : Int) ≤ (k : Int) := by omega
        have HD := Lib.hid hd
        have hkr : k < rest.length := by have := HRL.out; omega
        obtain ⟨g2, off2, hg2, hc2⟩ := (HSL2.out.kept HM.out.kept (fun _ _ x => x)).elem (strs_get hkr)
        have hpz := HRZ.out k hkr
        have wk : IntKind.i64.wrap ((k : Int) + 1) = ((k + 1 : Nat) : Int) := by rw [IntWalk.i64_in _ ⟨by omega, by have := HRB.out; omega⟩]; omega
        obtain ⟨part, hpart⟩ : ∃ p, p = rest.getD k ByteArray.empty := ⟨_, rfl⟩
        rw [← hpart] at hc2 hpz
        subst hg2
        have wp1 : IntKind.i64.wrap ((part.size : Int) + 1) = ((part.size + 1 : Nat) : Int) := by rw [IntWalk.i64_in _ ⟨by omega, by omega⟩]; omega
        have wp2 : IntKind.i64.wrap ((at_ : Int) + ((part.size + 1 : Nat) : Int)) = ((at_ + part.size + 1 : Nat) : Int) := by rw [IntWalk.i64_in _ ⟨by omega, by have := HAT.out; have := HA4.out; omega⟩]; omega
        have hnx := next_any xa xc A part wr HM.out.at_ HA4.out hpz
        rw [← HNN.out] at hnx
        have hgood := prsN_good HP.out
        have hbad := prsN_bad (n := rest.length) HP.out
        rw [← hpart] at hgood hbad
        have hlen4 : (nextE A part).2 = 0 → A.length < 4 := nextE_few HA4.out
        obtain ⟨NX, hNX⟩ : ∃ x, x = nextE A part := ⟨_, rfl⟩
        rw [← hNX] at hnx hgood hbad hlen4
        obtain ⟨⟨pk, pv⟩, E⟩ := NX
        dsimp only at hnx hgood hbad hlen4
        have HNX := Lib.hid hnx
        obtain ⟨ps1, hps1⟩ : ∃ k, k = part.size + 1 := ⟨_, rfl⟩
        rw [← hps1] at wp1 wp2
        obtain ⟨at2, hat2⟩ : ∃ k, k = at_ + part.size + 1 := ⟨_, rfl⟩
        rw [← hat2] at wp2 hgood
        have HAT2 := Lib.hid (show at2 ≤ 100001 * (1 + (A.length + 1)) by have := HAT.out; omega)
        by_cases hE : E = 0
        · have HG := Lib.hid (hgood hE)
          have HL4 := Lib.hid (hlen4 hE)
          subst hE
          clear hd hk hkr hpz hpart hnx hgood hbad hlen4 hNX hps1 hat2
          go_wp2_with fail
          refine HNX.out.mono ?_
          rintro e w2 ⟨rfl, k2⟩
          obtain ⟨w3, hw3⟩ : ∃ w', w' = w2.alloc (.cells #[.string pk, .string pv] 40) := ⟨_, rfl⟩
          have k3 : Kept (fun _ => False) w2 w3 := by rw [hw3]; exact (Kept.refl _ _).alloc _
          obtain ⟨qa, hqa⟩ : ∃ q, q = w2.heap.size := ⟨_, rfl⟩
          have hb : PBox w3 qa ⟨pk, pv⟩ := by rw [hw3, hqa]; exact heap_alloc_new w2 _
          have HW3 := Lib.hid (And.intro hw3 hqa)
          have HM3 := Lib.hid (HM.out.on (k2.trans k3))
          have y0 : w3.cell? ⟨qa, 0, none⟩ = some (.string pk) := (cell_of_row _ _ 0 _ _ _ hb).trans rfl
          have y1 : w3.cell? ⟨qa, 1, none⟩ = some (.string pv) := (cell_of_row _ _ 1 _ _ _ hb).trans rfl
          clear k2 hw3 k3 hqa hb
          go_upto_region 10 with fail
          rw [← HW3.out.1, ← HW3.out.2]
          have ke : Kept (fun _ => False) w3 (w3.alloc (.cells #[.string pk, .string pv] 40)) := (Kept.refl _ _).alloc _
          have HM4 := Lib.hid (HM3.out.on ke)
          have HSe := Lib.hid (src_oneP w3 ⟨pk, pv⟩)
          dsimp only at HSe
          clear ke
          go_wp2_with (at_builtin; refine wpList_mineP rfl (.tmp 39) (.tmp 41) rfl w1 _ A rfl HM4.out _ [(⟨pk, pv⟩ : Pr)] 1 rfl rfl HSe.out (by have := HL4.out; omega) ?_; intro v5 w5 hm5 hk5; have HM5 := Lib.hid hm5; clear hm5 hk5 y0 y1)
          go_roundg (R - (k + 1))
          case measure => have := HD.out; omega
          case rel => exact ⟨k + 1, _, at2, HD.out, rfl, rfl, rfl, rfl, HM5.out, HG.out, by rw [List.length_append]; have := HL4.out; simp; omega, by rw [List.length_append]; have := HAT2.out; simp; omega⟩
        · have HB := Lib.hid (hbad hE (by have := HRL.out; omega))
          have qE : ((E : Int) != 0) = true := bneT (by omega)
          have HF2 := Lib.hid (HF.out.trans (if_pos (show (prsN at0 rest rest.length).2.2 ≠ 0 by rw [HB.out]; exact hE)))
          clear hd hk hkr hpz hpart hnx hgood hbad hlen4 hNX hps1 hat2 hE
          go_wp2_with fail
          refine HNX.out.mono ?_
          rintro e w2 ⟨rfl, k2⟩
          go_wp2
          try simp only [Exit.inBlock, Exit.then]
          refine bodyPost_ret (results_tmp4 Tryd.results15 _ _ _) rfl ?_
          rw [HF2.out, HB.out]
          exact ⟨_, rfl, MineP.nil (((HK1.out.trans HM.out.kept).trans k2).trans ((Kept.refl _ _).alloc _))⟩
      · obtain rfl : R = k := by omega
        have hp := HP.out
        rw [HRL.out] at hp
        have HF2 := Lib.hid (HF.out.trans (if_neg (show ¬ (prsN at0 rest rest.length).2.2 ≠ 0 by rw [hp]; exact fun e => e rfl)))
        have HPP := Lib.hid hp
        clear hd hk hp
        go_wp2
        try simp only [Exit.inBlock, Exit.then]
        refine bodyPost_ret (results_tmp4 Tryd.results15 _ _ _) rfl ?_
        rw [HF2.out, HPP.out]
        exact ⟨_, rfl, HM.out.down HK1.out⟩
end Go.Proofs.YtkgjkcfjkjkflaaDoor
