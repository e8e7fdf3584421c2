/- package pack's reader, whatever its error: Raw, Text, Fix. -/
import Derived.Test.YtkidbbmdlmnokaaQ6
import Derived.Deep.LoopGhost
namespace Go.Proofs.Ytkidbbmdlmnokaa
open Go.RowKit
attribute [local go_sem ↓] Go.wp_at_zero Go.wp_at_succ

set_option maxHeartbeats 1000000 in
set_option maxRecDepth 100000 in
theorem rraw_all (B p : Nat) (v : Value) (l : List Int) (t : Nat) (e n : Int) (w : World) (HR : RdAt 113 5 w B p v l t e) (hl : l.length ≤ 100000000000) :
    Calls Try.prog 67 #[.pointer (some ⟨p, 0, none⟩), .int .i64 n] w fun e' w' => ∃ vb, e' = .returned vb ∧ w'.ownsRow w.heap.size 5 1 vb (nextF l t e n).1.length (u8s (nextF l t e n).1) ∧ RdAt 113 5 w' B p v l (t + (nextF l t e n).2.1) (nextF l t e n).2.2 ∧ Kept (fun k => k = p) w w' := by
  have HN := Lib.hid (rnext_all B p v l t e n w HR hl)
  have hlen := nextF_len l t e n
  obtain ⟨r, hr⟩ : ∃ r, r = nextF l t e n := ⟨_, rfl⟩
  rw [← hr] at HN hlen ⊢
  clear hr HR
  go_enter Try.func67, Try.ntmps67
  go_wp2_with fail
  refine HN.out.mono ?_
  rintro e' w1 ⟨vs, ao, c, rfl, hsl, HR1, K1, _⟩
  have HC := Lib.hid (clone_any vs ao c r.1 w1 hsl (by omega))
  clear hsl
  go_wp2_with fail
  refine HC.out.mono ?_
  rintro e' w2 ⟨vb, rfl, ho, K2⟩
  have fin : Hid (w2.ownsRow w.heap.size 5 1 vb r.1.length (u8s r.1) ∧ RdAt 113 5 w2 B p v l (t + r.2.1) r.2.2 ∧ Kept (fun k => k = p) w w2) := by
    show _ ∧ _ ∧ _
    exact ⟨wown_base ho K1.size, HR1.kept K2 (fun x => x) (fun _ _ x => x), K1.trans (K2.mono (fun _ _ x => x.elim))⟩
  clear HR1 K1 K2 ho
  go_wp2
  go_ret
  exact ⟨vb, rfl, fin.out⟩

theorem nextF_err {l : List Int} {t : Nat} {e n : Int} (h : (nextF l t e n).2.2 ≠ 0) : (nextF l t e n).1 = [] ∧ (nextF l t e n).2.1 = 0 := by
  unfold nextF at h ⊢
  split
  · exact ⟨rfl, rfl⟩
  · split
    · exact ⟨rfl, rfl⟩
    · split
      · exact ⟨rfl, rfl⟩
      · rename_i h1 h2 h3
        rw [if_neg h1, if_neg h2, if_neg h3] at h
        exact absurd rfl h

/-- What Text answers. -/
def textF (l : List Int) (t : Nat) (e most : Int) : List Int × Nat × Int :=
  if (nextF l (t + (countF l t e most).2.1) (countF l t e most).2.2 (countF l t e most).1).2.2 ≠ 0 then ([], 0, (nextF l (t + (countF l t e most).2.1) (countF l t e most).2.2 (countF l t e most).1).2.2)
  else ((nextF l (t + (countF l t e most).2.1) (countF l t e most).2.2 (countF l t e most).1).1, (countF l t e most).2.1 + (nextF l (t + (countF l t e most).2.1) (countF l t e most).2.2 (countF l t e most).1).2.1, 0)

set_option maxHeartbeats 1000000 in
set_option maxRecDepth 100000 in
theorem rtext_all (B p : Nat) (v : Value) (l : List Int) (t : Nat) (e most : Int) (w : World) (HR : RdAt 113 5 w B p v l t e) (hl : l.length ≤ 100000000000) (hm0 : -9223372036854775808 ≤ most) (hm1 : most ≤ 9223372036854775807) :
    Calls Try.prog 66 #[.pointer (some ⟨p, 0, none⟩), .int .i64 most] w fun e' w' => e' = .returned (.string (strOfNums (textF l t e most).1)) ∧ RdAt 113 5 w' B p v l (t + (textF l t e most).2.1) (textF l t e most).2.2 ∧ Kept (fun k => k = p) w w' := by
  have HC := Lib.hid (rcount_all B p v l t e most w HR hl hm0 hm1)
  have htl := HR.taken
  have hcr := HR.c1
  have htf : textF l t e most = if (nextF l (t + (countF l t e most).2.1) (countF l t e most).2.2 (countF l t e most).1).2.2 ≠ 0 then ([], 0, (nextF l (t + (countF l t e most).2.1) (countF l t e most).2.2 (countF l t e most).1).2.2)
    else ((nextF l (t + (countF l t e most).2.1) (countF l t e most).2.2 (countF l t e most).1).1, (countF l t e most).2.1 + (nextF l (t + (countF l t e most).2.1) (countF l t e most).2.2 (countF l t e most).1).2.1, 0) := rfl
  obtain ⟨c, hc⟩ : ∃ c, c = countF l t e most := ⟨_, rfl⟩
  obtain ⟨T, hT⟩ : ∃ T, T = textF l t e most := ⟨_, rfl⟩
  rw [← hc] at HC htf
  rw [← hT] at htf ⊢
  obtain ⟨x, m, e1⟩ := c
  simp only at HC htf
  have hne := @nextF_err l (t + m) e1 x
  obtain ⟨r, hr⟩ : ∃ r, r = nextF l (t + m) e1 x := ⟨_, rfl⟩
  have HN : Hid (∀ w1, RdAt 113 5 w1 B p v l (t + m) e1 → Calls Try.prog 92 #[.pointer (some ⟨p, 0, none⟩), .int .i64 x] w1 (Nexted w1 B p v l (t + m) r)) := by
    show ∀ w1, _ → _
    rw [hr]; exact fun w1 h => rnext_all B p v l (t + m) e1 x w1 h hl
  rw [← hr] at htf hne
  obtain ⟨bs, k, e2⟩ := r
  simp only at htf hne
  have HTF := Lib.hid htf
  have HNE := Lib.hid hne
  clear hr hc hT HR htf hne
  go_enter Try.func66, Try.ntmps66
  go_wp2_with fail
  refine HC.out.mono ?_
  rintro e' w1 ⟨rfl, HR1, K1⟩
  have HN1 := Lib.hid (HN.out w1 HR1)
  clear HR1
  go_wp2_with fail
  refine HN1.out.mono ?_
  rintro e' w2 ⟨vs, ao, cc, rfl, hsl, HR2, K2, _⟩
  simp only at hsl HR2
  have hc2 := HR2.c2
  have hc1 := HR2.c1
  have hf1 := HR2.free 1
  have H2 := Lib.hid HR2
  have K12 := Lib.hid (K1.trans K2)
  clear K1 K2 HR2
  obtain ⟨STR, hSTR⟩ : ∃ S, S = strOfNums bs := ⟨_, rfl⟩
  by_cases he : e2 = 0
  · subst he
    have hcv := hsl.run_str (P := Try.prog) 27 5 9 Try.underlying27 Try.underlying5 Try.underlying9
    have fin : Hid (STR = strOfNums T.1 ∧ RdAt 113 5 w2 B p v l (t + T.2.1) T.2.2) := by
      show _ ∧ _
      rw [HTF.out, if_neg (by simp), hSTR]
      refine ⟨rfl, ?_⟩
      have := H2.out
      rw [Nat.add_assoc] at this
      exact this
    rw [← hSTR] at hcv
    clear hSTR hsl
    go_wp2
    go_ret
    exact ⟨by rw [← fin.out.1]; rfl, fin.out.2, K12.out⟩
  · have q2 : (e2 != 0) = true := by simp [he]
    obtain ⟨hb, hk⟩ := HNE.out he
    subst hb
    have hcv : ∀ w3, (convert 27 9 vs).run Try.prog w3 = .ok (.string STR) w3 := fun w3 => by
      have h3 : SliceAt w3 vs ao ([] : List Int).length cc (u8s []) := ⟨hsl.val, rfl, hsl.none, fun a _ j u h => by cases h⟩
      rw [hSTR]
      exact h3.run_str (P := Try.prog) 27 5 9 Try.underlying27 Try.underlying5 Try.underlying9
    have fin : Hid (STR = strOfNums T.1 ∧ RdAt 113 5 (w2.setCell ⟨p, 1, none⟩ (.int .i64 (t : Int))) B p v l (t + T.2.1) T.2.2) := by
      show _ ∧ _
      rw [HTF.out, if_pos he, hSTR]
      exact ⟨rfl, H2.out.setAt (t2 := t) htl⟩
    clear hSTR hsl hk
    go_wp2
    go_ret
    exact ⟨by rw [← fin.out.1]; rfl, fin.out.2, K12.out.setCell (fun _ => rfl) _⟩

/-- What Fix answers. -/
def fixF (l : List Int) (t : Nat) (e : Int) : Int × Nat × Int := if (nextF l t e 8).2.2 ≠ 0 then (0, 0, (nextF l t e 8).2.2) else (leV (l.drop t) 8, 8, 0)

theorem leV_take (l : List Int) (n k : Nat) (h : k ≤ n) : leV (l.take n) k = leV l k := by
  induction k with
  | zero => rfl
  | succ k ih =>
    unfold leV
    rw [ih (by omega), List.getD_eq_getElem?_getD, List.getElem?_take, if_pos (by omega), List.getD_eq_getElem?_getD]

set_option maxHeartbeats 1000000 in
set_option maxRecDepth 100000 in
theorem rfix_all (B p : Nat) (v : Value) (l : List Int) (t : Nat) (e : Int) (w : World) (HR : RdAt 113 5 w B p v l t e) (hl : l.length ≤ 100000000000) :
    Calls Try.prog 65 #[.pointer (some ⟨p, 0, none⟩)] w fun e' w' => e' = .returned (.int .u64 (fixF l t e).1) ∧ RdAt 113 5 w' B p v l (t + (fixF l t e).2.1) (fixF l t e).2.2 ∧ Kept (fun k => k = p) w w' := by
  have HN := Lib.hid (rnext_all B p v l t e 8 w HR hl)
  have hff : fixF l t e = if (nextF l t e 8).2.2 ≠ 0 then (0, 0, (nextF l t e 8).2.2) else (leV (l.drop t) 8, 8, 0) := rfl
  have hne := @nextF_err l t e 8
  have hok : (nextF l t e 8).2.2 = 0 → (nextF l t e 8).1 = (l.drop t).take 8 ∧ (nextF l t e 8).2.1 = 8 ∧ t + 8 ≤ l.length := by
    unfold nextF
    split
    · intro h; simp only at h; contradiction
    · split
      · intro h; omega
      · split
        · intro h; simp at h
        · intro _; exact ⟨rfl, rfl, by omega⟩
  obtain ⟨T, hT⟩ : ∃ T, T = fixF l t e := ⟨_, rfl⟩
  obtain ⟨r, hr⟩ : ∃ r, r = nextF l t e 8 := ⟨_, rfl⟩
  rw [← hr] at HN hff hne hok
  rw [← hT] at hff ⊢
  obtain ⟨bs, k, e2⟩ := r
  simp only at hff hne hok
  have hbyte := HR.byte
  have HFF := Lib.hid hff
  have HNE := Lib.hid hne
  have HOK := Lib.hid hok
  clear hr hT HR hff hne hok
  go_enter Try.func65, Try.ntmps65
  go_wp2_with fail
  refine HN.out.mono ?_
  rintro e' w2 ⟨vs, ao, cc, rfl, hsl, HR2, K2, _⟩
  simp only at hsl HR2
  have hc2 := HR2.c2
  have H2 := Lib.hid HR2
  have K12 := Lib.hid K2
  clear K2 HR2
  by_cases he : e2 = 0
  · subst he
    obtain ⟨hb, hk, h8⟩ := HOK.out rfl
    have hbl : bs.length = 8 := by rw [hb, List.length_take, List.length_drop]; omega
    have hbb : ∀ x ∈ bs, 0 ≤ x ∧ x < 256 := fun x hx => by rw [hb] at hx; exact hbyte x (List.mem_of_mem_drop (List.mem_of_mem_take hx))
    have hfv : T = (leV bs 8, 8, 0) := by rw [HFF.out, if_neg (by simp), hb, leV_take _ 8 8 (by omega)]
    obtain ⟨g, off, rfl, hcells⟩ := hsl.addr (by omega)
    obtain rfl := hsl.val
    rw [hbl]
    have HC := Lib.hid hcells
    have HBB := Lib.hid hbb
    have HFV := Lib.hid hfv
    have fin : Hid (RdAt 113 5 w2 B p v l (t + T.2.1) T.2.2 ∧ T.1 = leV bs 8) := by
      show _ ∧ _
      rw [HFV.out]
      have := H2.out
      rw [hk] at this
      exact ⟨this, rfl⟩
    have HBL := Lib.hid hbl
    have hst : leV bs 0 = 0 := rfl
    clear hb hk h8 hfv hbb hcells hsl hbyte hbl
    go_wp2
    go_loopg [4, 13] 8 (fun g0 s4 s13 wr => ∃ j : Nat, j ≤ 8 ∧ g0 = 8 - j ∧ s13 = .int .i64 j ∧ s4 = .int .u64 (leV bs j) ∧ w2 = wr)
    case atStart => exact ⟨0, Nat.zero_le _, rfl, rfl, by rw [hst], rfl⟩
    case round =>
      obtain ⟨j, hj, rfl, rfl, rfl, rfl⟩ := hrel
      clear hst
      by_cases hd : j < 8
      · have hcl := HC.out j (by rw [HBL.out]; exact hd)
        have hyr := HBB.out _ (getD_mem (l := bs) (i := j) (by rw [HBL.out]; exact hd))
        obtain ⟨y, hy⟩ : ∃ y, y = bs.getD j 0 := ⟨_, rfl⟩
        obtain ⟨V, hV⟩ : ∃ V, V = leV bs j := ⟨_, rfl⟩
        have hVr := leV_range bs HBB.out j
        have hnx : leV bs (j + 1) = leV bs j + bs.getD j 0 * ((256 ^ j : Nat) : Int) := rfl
        rw [← hy] at hcl hyr hnx
        rw [← hV] at hVr hnx ⊢
        obtain ⟨s1, s2⟩ := or_shift V y j hd hVr.1 hVr.2 hyr.1 hyr.2
        rw [← hnx] at s2
        have hp : 256 ^ j = 2 ^ (8 * j) := by rw [Nat.pow_mul]
        obtain ⟨d, hdd⟩ : ∃ d, d = 8 * j := ⟨_, rfl⟩
        have e6 : IntKind.i64.wrap (8 * (j : Int)) = (d : Int) := by rw [IntWalk.i64_in _ ⟨by omega, by omega⟩]; omega
        have e7 : 8 * (j : Int) = (d : Int) := by omega
        have e8 : (d : Int) ≤ 64 := by omega
        have e10 : IntKind.i64.wrap (d : Int) = (d : Int) := IntWalk.i64_in _ ⟨by omega, by omega⟩
        have e9 : (0 : Int) ≤ (d : Int) := by omega
        rw [hp, ← hdd] at s1 s2
        obtain ⟨Z, hZ⟩ : ∃ Z, Z = y * ((2 ^ d : Nat) : Int) := ⟨_, rfl⟩
        rw [← hZ] at s1 s2
        have z1 : y * 2 ^ d = Z := by rw [hZ]; simp
        obtain ⟨V2, hV2⟩ : ∃ V2, V2 = leV bs (j + 1) := ⟨_, rfl⟩
        rw [← hV2] at s2
        have y3 : IntKind.u64.wrap y = y := wrap_u64_of _ (by omega) (by omega)
        have HD := Lib.hid hd
        have HV2 := Lib.hid hV2
        have hj0 : (0 : Int) ≤ (j : Int) := by omega
        have hj1 : (j : Int) < 8 := by omega
        have hjn : ((j : Int)).toNat = j := by omega
        clear hp hdd hZ hV2 hnx hV hy hVr hyr
        go_wp2
        go_roundg (8 - (j + 1))
        case measure => have := HD.out; omega
        case rel => exact ⟨j + 1, HD.out, rfl, by go_num, by rw [← HV2.out], rfl⟩
      · obtain rfl : j = 8 := by omega
        obtain ⟨V, hV⟩ : ∃ V, V = leV bs 8 := ⟨_, rfl⟩
        rw [← hV] at fin ⊢
        clear hV
        go_wp2
        go_ret
        exact ⟨by rw [fin.out.2]; rfl, fin.out.1, K12.out⟩
  · have q2 : (e2 != 0) = true := by simp [he]
    obtain ⟨hb, hk⟩ := HNE.out he
    have fin : Hid (RdAt 113 5 w2 B p v l (t + T.2.1) T.2.2 ∧ T.1 = 0) := by
      show _ ∧ _
      rw [HFF.out, if_pos he]
      have := H2.out
      rw [hk] at this
      exact ⟨this, rfl⟩
    clear hb hk hsl hbyte
    go_wp2
    go_ret
    exact ⟨by rw [fin.out.2]; rfl, fin.out.1, K12.out⟩

/-- What the document reads as a fixed number. -/
def getFixF (l : List Int) (t : Nat) : Int × Nat × Int := if l.length - t < 8 then (0, 0, 2) else (leV (l.drop t) 8, 8, 0)

set_option maxHeartbeats 1000000 in
set_option maxRecDepth 100000 in
theorem getFix_any (v : Value) (ao : Option Addr) (c : Nat) (l : List Int) (t : Nat) (w : World) (hv : SliceAt w v ao l.length c (u8s l)) (hb : ∀ x ∈ l, 0 ≤ x ∧ x < 256) (hl : l.length ≤ 100000000000) (ht : t ≤ l.length) :
    Calls Try.prog 61 #[v, .int .i64 t] w fun e w' => e = .returned (Got (getFixF l t)) ∧ Kept (fun _ => False) w w' := by
  obtain rfl := hv.val
  by_cases hA : l.length - t < 8
  · have HL : Hid (getFixF l t = (0, 0, 2)) := by show _ = _; unfold getFixF; rw [if_pos hA]
    have q1 : (l.length : Int) - (t : Int) < 8 := by omega
    go_enter Try.func61, Try.ntmps61
    go_wp2
    exact bodyPost_ret (v := Got (0, 0, 2)) (by simp [results, Try.results61, go_sem, Got]) rfl ⟨by rw [HL.out], (Kept.refl _ _).alloc _⟩
  · have q1 : ¬ (l.length : Int) - (t : Int) < 8 := by omega
    obtain ⟨g, off, rfl, hcells⟩ := hv.addr (by omega)
    have hg : g < w.heap.size := World.block_lt_of_cell? w ⟨g, off + t, none⟩ (hcells t (by omega))
    obtain ⟨bs, hbs⟩ : ∃ bs, bs = l.drop t := ⟨_, rfl⟩
    have HL : Hid (getFixF l t = (hiV bs 8, 8, 0)) := by show _ = _; unfold getFixF; rw [if_neg hA, hiV_leV, hbs]
    have HC : Hid (∀ j, j < 8 → w.cell? ⟨g, off + (t + j), none⟩ = some (.int .u8 (bs.getD j 0)) ∧ 0 ≤ bs.getD j 0 ∧ bs.getD j 0 < 256) := by
      show ∀ j, _ → _
      intro j hj
      have h1 := hcells (t + j) (by omega)
      have h2 : l.getD (t + j) 0 = bs.getD j 0 := by rw [hbs, List.getD_eq_getElem?_getD, List.getD_eq_getElem?_getD, List.getElem?_drop]
      rw [h2] at h1
      exact ⟨h1, by rw [← h2]; exact hb _ (getD_mem (by omega))⟩
    have HTL : Hid (t + 8 ≤ l.length) := by show t + 8 ≤ l.length; omega
    have t0 : (0 : Int) ≤ (t : Int) := by omega
    have hst : hiV bs 0 = 0 := rfl
    clear hbs hcells hA hb
    go_enter Try.func61, Try.ntmps61
    go_wp2
    go_loopg [5, 6] 8 (fun g0 s5 s6 wr => ∃ m : Nat, m ≤ 8 ∧ m = g0 ∧ s6 = .int .i64 ((m : Int) - 1) ∧ s5 = .int .u64 (hiV bs (8 - m)) ∧ 0 ≤ hiV bs (8 - m) ∧ hiV bs (8 - m) < ((256 ^ (8 - m) : Nat) : Int) ∧ wr = w.alloc (.cells #[.int .u64 0, .int .i64 0, .int .i64 0] 90))
    case atStart => exact ⟨8, Nat.le_refl _, rfl, rfl, by rw [Nat.sub_self, hst], by rw [Nat.sub_self, hst]; omega, by rw [Nat.sub_self, hst]; decide, rfl⟩
    case round =>
      obtain ⟨m, hm, rfl, h6, rfl, hr0, hr1, rfl⟩ := hrel
      clear hst
      by_cases hd : 0 < m
      · obtain ⟨i, rfl⟩ : ∃ i, m = i + 1 := ⟨m - 1, by omega⟩
        have h7 : u6 = .int .i64 (i : Int) := by rw [h6]; congr 1; omega
        subst h7
        obtain ⟨hcl, y0, y1⟩ := HC.out i (by omega)
        have htl := HTL.out
        obtain ⟨k, hk⟩ : ∃ k, 8 - (i + 1) = k := ⟨_, rfl⟩
        have hk2 : 8 - i = k + 1 := by omega
        have hki : 7 - k = i := by omega
        have hnx : hiV bs (k + 1) = 256 * hiV bs k + bs.getD (7 - k) 0 := rfl
        rw [hki] at hnx
        rw [hk] at hr0 hr1 ⊢
        have hpk : 256 ^ k ≤ 256 ^ 7 := Nat.pow_le_pow_right (by decide) (by omega)
        have h87 : (256 : Nat) ^ 7 = 72057594037927936 := by decide
        have hps : 256 ^ (k + 1) = 256 ^ k * 256 := Nat.pow_succ ..
        obtain ⟨y, hy⟩ : ∃ y, y = bs.getD i 0 := ⟨_, rfl⟩
        obtain ⟨V, hV⟩ : ∃ V, V = hiV bs k := ⟨_, rfl⟩
        obtain ⟨V2, hV2⟩ : ∃ V2, V2 = hiV bs (k + 1) := ⟨_, rfl⟩
        rw [← hy] at hcl y0 y1 hnx
        rw [← hV] at hr0 hr1 hnx ⊢
        rw [← hV2] at hnx
        obtain ⟨V1, hV1⟩ : ∃ V1, V1 = 256 * V := ⟨_, rfl⟩
        have s1 : IntKind.u64.wrap V1 = V1 := wrap_u64_of _ (by omega) (by omega)
        have s0 : 256 * V = V1 := hV1.symm
        have s2 : V1 + y = V2 := by omega
        have s3 : IntKind.u64.wrap V2 = V2 := wrap_u64_of _ (by omega) (by omega)
        have hV2b : Hid (0 ≤ V2 ∧ V2 < ((256 ^ (k + 1) : Nat) : Int)) := by show _ ∧ _; rw [hps]; omega
        have s4 : IntKind.u64.wrap y = y := wrap_u64_of _ (by omega) (by omega)
        obtain ⟨N, hN⟩ : ∃ N, N = t + i := ⟨_, rfl⟩
        have n1 : (t : Int) + (i : Int) = (N : Int) := by omega
        have n2 : IntKind.i64.wrap (N : Int) = (N : Int) := IntWalk.i64_in _ ⟨by omega, by omega⟩
        have n3 : (0 : Int) ≤ (N : Int) := by omega
        have n4 : (N : Int) < (l.length : Int) := by omega
        have n5 : ((N : Int)).toNat = N := by omega
        have i0 : (0 : Int) ≤ (i : Int) := by omega
        have i1 : IntKind.i64.wrap ((i : Int) - 1) = (i : Int) - 1 := IntWalk.i64_in _ ⟨by omega, by omega⟩
        rw [← hN] at hcl
        have hgn : ¬ (w.heap.size = g) := by omega
        have hcl2 : ∀ o, (w.alloc o).cell? ⟨g, off + N, none⟩ = some (.int .u8 y) := fun o => ((Kept.refl (fun _ => False) w).alloc o).cell hcl (fun x => x)
        have HK2 := Lib.hid hk2
        have HV2 := Lib.hid hV2
        have HMM := Lib.hid hm
        clear hk hk2 hki hnx hV hV2 hV1 hy hN hr0 hr1 hps hpk h87 htl h6 hm
        go_wp2
        go_roundg i
        case measure => omega
        case rel => exact ⟨i, by have := HMM.out; omega, rfl, rfl, by rw [HK2.out, ← HV2.out], by rw [HK2.out, ← HV2.out]; exact hV2b.out.1, by rw [HK2.out, ← HV2.out]; exact hV2b.out.2, rfl⟩
      · obtain rfl : m = 0 := by omega
        have h7 : u6 = .int .i64 (-1) := h6
        subst h7
        obtain ⟨V, hV⟩ : ∃ V, V = hiV bs 8 := ⟨_, rfl⟩
        have hz : hiV bs (8 - 0) = V := by rw [hV]
        rw [hz]
        rw [← hV] at HL
        clear hV hz hr0 hr1 hm h6
        go_wp2
        exact bodyPost_ret (v := Got (V, 8, 0)) (by simp [results, Try.results61, go_sem, Got]) rfl ⟨by rw [HL.out], by first | exact (Kept.refl _ _).alloc _ | exact ((Kept.refl _ _).alloc _).setCell (fun h => by simp at h) _⟩
end Go.Proofs.Ytkidbbmdlmnokaa
