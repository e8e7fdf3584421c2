/- Texts put together: WN. -/
import Derived.Test.YtficodklidaheaaDoorZz16
import Derived.Test.YtficodklidaheaaDoorZz17
/- Layer 19: the walk of WalKeeps (written by tools/gen_XWN.py). -/
namespace Go.Proofs.YtficodklidaheaaDoor
open Go.RowKit
attribute [local go_sem ↓] Go.wp_at_zero Go.wp_at_succ

/-- What the law asks of its records before it begins. -/
def keepsFew (Ls : List (List Nat)) (ns nk n : Nat) : Bool := decide (40 < Ls.length) || (decide (100 < ns) || (decide (10 < nk) || decide (8000 < n)))
/-- In memory, while records are appended. -/
structure KI (W w : World) (db mb lb : Nat) (L : List (ByteArray × Fi)) (D : DA) (cap : Int) (v : Value) (vs : List Value) (In : List (List Nat)) (sure i : Nat) : Prop where
  d : DK W.heap.size w db mb L D
  p : KD D cap In sure
  log : LogAt w lb db nmW (In.length : Int) ((allL In).length : Int)
  row : RIn W w v vs In
  kept : Kept (fun _ => False) W w
  len : In.length ≤ i
  small : ∀ l ∈ In, l.length ≤ 8000
section
variable {W w w' : World} {db mb lb : Nat} {L L' : List (ByteArray × Fi)} {D : DA} {cap : Int} {v : Value} {vs : List Value} {In : List (List Nat)} {sure i : Nat}
theorem allL_len8 : ∀ (In : List (List Nat)), (∀ l ∈ In, l.length ≤ 8000) → (allL In).length ≤ 8009 * In.length
  | [], _ => by simp [allL]
  | l :: r, h => by
    rw [allL_cons, List.length_append, frameL_len, List.length_cons]
    have h1 := h l (List.mem_cons_self ..)
    have h2 := allL_len8 r (fun x hx => h x (List.mem_cons_of_mem _ hx))
    omega
theorem KI.size (h : KI W w db mb lb L D cap v vs In sure i) (hi : i ≤ 40) : (allL In).length ≤ 320360 := by
  have h1 := allL_len8 In h.small
  have h2 := h.len
  omega
theorem KI.apart (h : KI W w db mb lb L D cap v vs In sure i) : ¬ foot db mb L lb := h.log.apart h.d
theorem KI.noRow (h : KI W w db mb lb L D cap v vs In sure i) {S : Nat → Prop} (hS : ∀ j, S j → j = lb ∨ foot db mb L j) : ∀ j cur fr, w.heap[j]? = some (.cells cur 22 fr) → ¬ S j := fun j cur fr hj x => by
  rcases hS j x with e | e
  · subst e
    have h1 := h.log
    unfold LogAt BoxAt at h1
    rw [h1] at hj
    injection hj with hj
    simp at hj
  · exact h.d.noRow hj e
end

theorem KI.move {W w w' : World} {db mb lb : Nat} {L L' : List (ByteArray × Fi)} {D D' : DA} {cap : Int} {v : Value} {vs : List Value} {In : List (List Nat)} {sure sure' i : Nat} (h : KI W w db mb lb L D cap v vs In sure i) (hd : DK W.heap.size w' db mb L' D') (k : Kept (fun j => j = db ∧ False ∨ foot db mb L j) w w') (hp : KD D' cap In sure') : KI W w' db mb lb L' D' cap v vs In sure' i := by
  have k' : Kept (foot db mb L) w w' := k.mono (fun _ _ e => e.elim (fun x => x.2.elim) id)
  exact ⟨hd, hp, h.log.kept k' h.apart, h.row.kept k' (fun j e => (h.d.lt e).2) (h.noRow (fun _ x => .inr x)), h.kept.newer k' (fun j e => (h.d.lt e).2), h.len, h.small⟩
theorem KI.moveLog {W w w' : World} {db mb lb : Nat} {L L' : List (ByteArray × Fi)} {D D' : DA} {cap : Int} {v : Value} {vs : List Value} {In : List (List Nat)} {sure i : Nat} (h : KI W w db mb lb L D cap v vs In sure i) (hd : DK W.heap.size w' db mb L' D') (k : Kept (fun j => j = lb ∨ foot db mb L j) w w') (hlb : W.heap.size ≤ lb) (hp : KD D' cap In sure) (hl : LogAt w' lb db nmW (In.length : Int) ((allL In).length : Int)) : KI W w' db mb lb L' D' cap v vs In sure i := by
  have hS : ∀ j, (j = lb ∨ foot db mb L j) → W.heap.size ≤ j := fun j e => by
    rcases e with e | e
    · rw [e]; exact hlb
    · exact (h.d.lt e).2
  exact ⟨hd, hp, hl, h.row.kept k hS (h.noRow (fun _ x => x)), h.kept.newer k hS, h.len, h.small⟩
theorem KI.next {W w : World} {db mb lb : Nat} {L : List (ByteArray × Fi)} {D : DA} {cap : Int} {v : Value} {vs : List Value} {In : List (List Nat)} {sure i : Nat} (h : KI W w db mb lb L D cap v vs In sure i) : KI W w db mb lb L D cap v vs In sure (i + 1) :=
  ⟨h.d, h.p, h.log, h.row, h.kept, Nat.le_succ_of_le h.len, h.small⟩

theorem RIn.foot {W w w' : World} {db mb : Nat} {L : List (ByteArray × Fi)} {D : DA} {v : Value} {vs : List Value} {In : List (List Nat)} (h : RIn W w v vs In) (hd : DK W.heap.size w db mb L D) (k : Kept (foot db mb L) w w') : RIn W w' v vs In :=
  h.kept k (fun _ e => (hd.lt e).2) (fun _ _ _ hc f => hd.noRow hc f)
def mWd : List Nat := [109, 111, 114, 101]
/-- What x.Append makes of the log that was opened again. -/
theorem more_app {D : DA} {cap : Int} {R : List (List Nat)} {s : Nat} (h : D.L = [(nmW, ⟨allL R, s⟩)]) (hc : Calm D) (hcap : D.cap = cap) :
    ((appendD D nmW (frameL mWd)).2 = 0 ∧ ∃ s, (appendD D nmW (frameL mWd)).1.L = [(nmW, ⟨allL (R ++ [mWd]), s⟩)] ∧ Calm (appendD D nmW (frameL mWd)).1) ∨
    ((appendD D nmW (frameL mWd)).2 = 12 ∧ cap < ((allL R).length : Int) + 13 ∧ ∃ s, (appendD D nmW (frameL mWd)).1.L = [(nmW, ⟨allL R, s⟩)] ∧ Calm (appendD D nmW (frameL mWd)).1) := by
  rcases append_calm h hc (frameL mWd) with ⟨a1, a2, a3, a4⟩ | ⟨a1, a2, a3⟩
  · refine .inr ⟨a2, ?_, s, a3, a4⟩
    rw [hcap, frameL_len] at a1
    simp only [mWd, List.length_cons, List.length_nil] at a1
    omega
  · exact .inl ⟨a1, s, by rw [a2, allL_snoc], a3⟩
/-- A log that is whole, opened. -/
theorem whole_get {D : DA} {R : List (List Nat)} {s : Nat} (h : D.L = [(nmW, ⟨allL R, s⟩)]) (hc : Calm D) : D.down = false ∧ getM D.L nmW = some ⟨allL R, s⟩ := ⟨hc.down, by rw [h, getM_one]⟩

set_option maxRecDepth 100000 in
set_option maxHeartbeats 16000000 in
theorem keeps_walk (ao : Option Addr) (cl : Nat) (Ls : List (List Nat)) (so : Option Addr) (ns cs : Nat) (sy : List Int) (crash : Int) (ko : Option Addr) (nk ck : Nat) (keep : List Int) (cap : Int) (W : World) (HN : Nibs W)
    (HR : RowsAt W (.slice ao Ls.length cl) Ls) (hL : Ls.length ≤ 9223372036854775807) (hb : ∀ l ∈ Ls, l.length ≤ 9223372036854775807) (hns : ns ≤ 9223372036854775807) (hnk : nk ≤ 9223372036854775807)
    (hsy : SlAt W (.slice so ns cs) (vals sy)) (hsl : sy.length = ns) (hke : SlAt W (.slice ko nk ck) (vals keep)) (hkl : keep.length = nk) (hcr : I64 crash) :
    Calls Tryd.prog 7 #[.slice ao Ls.length cl, .slice so ns cs, .int .i64 crash, .slice ko nk ck, .int .i64 cap] W fun e w' => e = .returned (.bool true) ∧ Kept (fun _ => False) W w' := by
  have HAW := Lib.hid (awake19_any W HN)
  have hb0 := nibs_pos HN
  have HNI := Lib.hid HN
  have HRR := Lib.hid HR
  have HBK := Lib.hid (fun w' (k : Kept (fun _ => False) W w') => bulk8_any (.slice ao Ls.length cl) Ls hL w' (HR.kept k) hb)
  have HSY := Lib.hid (And.intro hsy hsl)
  have HKE := Lib.hid (And.intro hke hkl)
  have HCR := Lib.hid hcr
  obtain ⟨n, hn⟩ : ∃ n, n = Ls.length := ⟨_, rfl⟩
  rw [← hn] at HBK HRR ⊢
  have HNN := Lib.hid hn
  have HW := Lib.hid (show Kept (fun _ => False) W W from Kept.refl _ _)
  clear HN HR hsy hke hsl hkl hcr hL hb hn
  by_cases h1 : 40 < n
  · have q1 : (40 : Int) < (n : Int) := by omega
    go_enter Tryd.func7, Tryd.ntmps7
    go_wp2_with fail
    refine HAW.out.mono ?_
    rintro e w1 ⟨rfl, k1⟩
    have HK1 := Lib.hid k1
    clear k1
    go_wp2
    go_ret
    exact ⟨rfl, HK1.out⟩
  have q1 : ¬ (40 : Int) < (n : Int) := by omega
  by_cases h2 : 100 < ns
  · have q2 : (100 : Int) < (ns : Int) := by omega
    go_enter Tryd.func7, Tryd.ntmps7
    go_wp2_with fail
    refine HAW.out.mono ?_
    rintro e w1 ⟨rfl, k1⟩
    have HK1 := Lib.hid k1
    clear k1
    go_wp2
    go_ret
    exact ⟨rfl, HK1.out⟩
  have q2 : ¬ (100 : Int) < (ns : Int) := by omega
  by_cases h3 : 10 < nk
  · have q3 : (10 : Int) < (nk : Int) := by omega
    go_enter Tryd.func7, Tryd.ntmps7
    go_wp2_with fail
    refine HAW.out.mono ?_
    rintro e w1 ⟨rfl, k1⟩
    have HK1 := Lib.hid k1
    clear k1
    go_wp2
    go_ret
    exact ⟨rfl, HK1.out⟩
  have q3 : ¬ (10 : Int) < (nk : Int) := by omega
  have HSM := Lib.hid (show n ≤ 40 ∧ ns ≤ 100 by omega)
  clear h1 h2 h3 hns hnk
  go_enter Tryd.func7, Tryd.ntmps7
  go_wp2_with fail
  refine HAW.out.mono ?_
  rintro e w1 ⟨rfl, k1⟩
  have HK1 := Lib.hid k1
  go_wp2_with fail
  refine (HBK.out w1 k1).mono ?_
  rintro e w2 ⟨bn, rfl, hbn, rfl⟩
  clear k1
  by_cases h4 : 8000 < bn
  · have q4 : (8000 : Int) < (bn : Int) := by omega
    clear h4
    go_wp2
    go_ret
    exact ⟨rfl, HK1.out⟩
  have q4 : ¬ (8000 : Int) < (bn : Int) := by omega
  have H8 := Lib.hid (hbn (by omega))
  have HNEW := Lib.hid (dNew_any none 0 0 [] rfl cap (by decide) w1 (fun h => absurd h (by simp)) (fun f hf => by cases hf))
  rw [show List.map AF.t [] = [] from rfl] at HNEW
  clear h4 hbn
  go_wp2_with fail
  refine HNEW.out.mono ?_
  rintro e w3 ⟨hno, hyes⟩
  cases hD : newD [] cap with
  | none =>
    obtain ⟨rfl, k3⟩ := hno hD
    have HK3 := Lib.hid (HK1.out.trans k3)
    clear hno hyes hD k3
    go_wp2
    go_ret
    exact ⟨rfl, HK3.out⟩
  | some D0 =>
    obtain ⟨db, mb, L, rfl, h3, k3⟩ := hyes D0 hD
    have hD0 : D0 = freshD cap [] := by
      by_cases hbad : cap < 1 ∨ 4194304 < cap ∨ 4096 < ([] : List (ByteArray × List Nat)).length
      · rw [newD_bad hbad] at hD; cases hD
      · rw [newD_good hbad] at hD; injection hD with hD; exact hD.symm
    subst hD0
    have HK3 := Lib.hid (HK1.out.trans k3)
    have HD3 := Lib.hid (h3.downB HK1.out.size)
    have hc0 : Calm (freshD cap []) := ⟨rfl, rfl, rfl⟩
    obtain ⟨cr1, cr2, cr3, cr4⟩ := create_calm (s := nmW) (D := freshD cap []) rfl hc0 (by decide +kernel)
    have HCD := Lib.hid (And.intro cr1 (And.intro cr2 (And.intro cr3 cr4)))
    have HOP := Lib.hid (wOpen_new W.heap.size db mb hb0 L (freshD cap []) nmW wv_size w3 HD3.out rfl rfl (HNI.out.kept HK3.out))
    rw [show nmW = { data := #[119] } from rfl] at HOP
    clear hno hyes hD k3 h3 hc0 cr1 cr2 cr3 cr4
    go_wp2_with fail
    refine HOP.out.mono ?_
    rintro e w4 (⟨_, L4, lb, v, B, H, rfl, h4, k4, f4, hlog, hB, hlb, hH, hg, _⟩ | ⟨h0, _⟩)
    case inr => exact absurd HCD.out.1 h0
    obtain ⟨va, vc, hv, _⟩ := hg
    subst hv
    have HK4 := Lib.hid (HK3.out.newer k4 (fun j e => (HD3.out.lt e).2))
    obtain ⟨D1, hD1⟩ : ∃ D1, D1 = (createD (freshD cap []) { data := #[119] }).1 := ⟨_, rfl⟩
    rw [← hD1] at h4
    have HD1 : Hid (KD (crashD D1 crash) cap [] 0) := Lib.hid (by
      rw [hD1]
      exact (⟨⟨0, HCD.out.2.1, Nat.le_refl _⟩, Nat.le_refl _, HCD.out.2.2.1.fail, HCD.out.2.2.2⟩ : KD _ cap [] 0).crash crash)
    have HCH := Lib.hid (dCrash_any W.heap.size db mb L4 D1 crash HCR.out w4 h4)
    have HLB := Lib.hid (show W.heap.size ≤ lb from Nat.le_trans HK3.out.size hlb)
    have HL4 := Lib.hid (And.intro hlog (hlog.apart h4))
    have HF4 := Lib.hid h4
    clear h4 k4 f4 hlog hB hlb hH hD1
    dsimp only [List.length_nil]
    go_wp2_with fail
    refine HCH.out.mono ?_
    rintro e w5 ⟨rfl, h5, k5⟩
    have HI5 : Hid (KI W w5 db mb lb L4 (crashD D1 crash) cap (.slice none 0 0) [] [] 0 0) := Lib.hid ⟨h5, HD1.out, HL4.out.1.kept k5 (fun e => HL4.out.2 (.inl e)), ⟨Mine.nil' _ (HK4.out.newer k5 (fun j e => by rw [e]; exact HF4.out.base.1)), rfl, fun i hi => absurd hi (by simp)⟩, HK4.out.newer k5 (fun j e => by rw [e]; exact HF4.out.base.1), Nat.le_refl _, fun l hl => by cases hl⟩
    clear h5 k5
    go_wp2
    go_loopg [15, 16, 17] n (fun g s15 s16 s17 wr => ∃ i : Nat, i ≤ n ∧ g = n - i ∧ s17 = .int .i64 i ∧ ∃ L D vs In sure, s16 = .int .i64 ((sure : Nat) : Int) ∧ KI W wr db mb lb L D cap s15 vs In sure i)
    case atStart => exact ⟨0, Nat.zero_le _, rfl, rfl, L4, crashD D1 crash, [], [], 0, rfl, HI5.out⟩
    case round =>
      obtain ⟨i, hin, rfl, rfl, L, D, vs, In, sure, rfl, hi⟩ := hrel
      have HI := Lib.hid hi
      obtain ⟨pa, pc, hpv⟩ := hi.row.mine.slice
      subst hpv
      by_cases hd : i < n
      · have hdi : (i : Int) < (n : Int) := by omega
        have hdi0 : (0 : Int) ≤ (i : Int) := by omega
        have HID := Lib.hid hd
        have HI40 : Hid (i < 40) := Lib.hid (by have := HSM.out.1; omega)
        obtain ⟨l, hl⟩ : ∃ l, l = Ls.getD i [] := ⟨_, rfl⟩
        have hlm : l ∈ Ls := by rw [hl, List.getD_eq_getElem?_getD, List.getElem?_eq_getElem (by have := HNN.out; omega)]; simp
        obtain ⟨ao', cl', e0, hrow⟩ := HRR.out
        rw [HNN.out] at e0
        injection e0 with e1 _ e3
        obtain ⟨a, ai, ci, ha, hc, h8⟩ := hrow i (by have := HNN.out; omega)
        rw [← hl] at hc h8
        have HL8 : Hid (l.length ≤ 8000) := Lib.hid (H8.out l hlm)
        have HROW := Lib.hid (And.intro h8 hc)
        obtain ⟨m, hm⟩ : ∃ m, m = l.length := ⟨_, rfl⟩
        rw [← hm] at hc h8
        have c0 := hi.kept.cell hc (fun x => x)
        have wi : IntKind.i64.wrap ((i : Int) + 1) = ((i + 1 : Nat) : Int) := by have := HSM.out.1; rw [IntWalk.i64_in _ ⟨by omega, by omega⟩]; omega
        have HSZ := Lib.hid (wSize_any db lb nmW _ _ wr hi.log)
        have HAP := Lib.hid (wAppend_any W.heap.size db mb lb L D nmW wv_size _ _ ⟨by omega, by have := hi.len; have := HI40.out; omega⟩ ⟨by omega, by have := hi.size (by have := HI40.out; omega); omega⟩ (.slice ai m ci) l (by have := HL8.out; omega) wr hi.d hi.log (by rw [hm] at h8 ⊢; exact h8.kept hi.kept) (HNI.out.kept hi.kept))
        obtain ⟨r, hr⟩ : ∃ r, r = appendD D nmW (frameL l) := ⟨_, rfl⟩
        have HKA := Lib.hid (hi.p.app l)
        rw [← hr] at HAP HKA
        have HMM := Lib.hid hm
        subst e1
        subst ha
        obtain ⟨inl, hinl⟩ : ∃ inl, inl = In.length := ⟨_, rfl⟩
        have hvl : vs.length = inl := by rw [hinl]; exact hi.row.rows.1
        have HVL := Lib.hid (And.intro hvl hinl)
        clear hi hin hd hl hlm hrow e3 hc h8 hm hr hvl hinl
        go_wp2_with fail
        refine HSZ.out.mono ?_
        rintro e w6 ⟨rfl, rfl⟩
        go_wp2_with fail
        refine HAP.out.mono ?_
        rintro e w6 ⟨L6, rfl, h6, k6, f6, hok, hno⟩
        obtain ⟨z, hz⟩ : ∃ z : Int, z = r.2 := ⟨_, rfl⟩
        rw [← hz] at HKA hok hno ⊢
        rcases HKA.out with ⟨rfl, hp⟩ | ⟨hze, hp⟩
        · have hlog := hok rfl
          have HRB := Lib.hid (HI.out.row.kept k6 (fun j e => by
            rcases e with e | e
            · rw [e]; exact HLB.out
            · exact (HI.out.d.lt e).2) (HI.out.noRow (fun j x => x)))
          have HK6 := Lib.hid (HI.out.kept.newer k6 (fun j e => by
            rcases e with e | e
            · rw [e]; exact HLB.out
            · exact (HI.out.d.lt e).2))
          have c0 := HK6.out.cell HROW.out.2 (fun x => x)
          rw [← HMM.out] at c0
          have H6 := Lib.hid (And.intro h6 (And.intro hp hlog))
          obtain ⟨wz, hwz⟩ : ∃ wz, wz = w6.alloc (.cells #[.slice ai m ci] 22) := ⟨_, rfl⟩
          have kz : Kept (fun _ => False) w6 wz := by rw [hwz]; exact (Kept.refl _ _).alloc _
          have HZ := Lib.hid hwz
          have HM2 := Lib.hid (HRB.out.mine.on kz)
          have HS2 := Lib.hid (src_oneRB w6 (.slice ai m ci) rfl)
          rw [← hwz] at HS2
          have HDZ := Lib.hid (And.intro (h6.kept kz (fun _ _ x => x)) (And.intro (hlog.kept kz (fun x => x)) (HK6.out.trans kz)))
          clear h6 k6 f6 hok hno hz hp hlog hwz kz
          go_upto_region 20 with fail
          go_wp2_with (at_builtin; rw [← HZ.out]; refine wpList_mineRB rfl (.tmp 83) (.tmp 88) rfl W _ vs rfl HM2.out _ [Value.slice ai m ci] rfl HS2.out (by rw [HVL.out.1, HVL.out.2]; have := HI.out.len; have := HI40.out; simp; omega) ?_)
          intro v' w8 hm8 k8 _
          obtain ⟨a8, c8, e8⟩ := hm8.slice
          subst e8
          have HI2 : Hid (KI W w8 db mb lb L6 r.1 cap (.slice a8 (vs ++ [Value.slice ai m ci]).length c8) (vs ++ [Value.slice ai m ci]) (In ++ [l]) sure (i + 1)) := Lib.hid (by
            have hrow : RowsV W (vs ++ [Value.slice ai m ci]) (In ++ [l]) := by
              rw [HMM.out]
              exact HI.out.row.rows.snoc HROW.out.1
            have hno : ∀ j, (Value.slice pa vs.length pc).ownBlock = some j → ¬ foot db mb L6 j := fun j e => by
              obtain ⟨cur, hc⟩ := ownsRow_block HM2.out.own e
              exact HDZ.out.1.noRow hc
            have hlb : (Value.slice pa vs.length pc).ownBlock ≠ some lb := fun e => by
              obtain ⟨cur, hc⟩ := ownsRow_block HM2.out.own e
              have h1 := HDZ.out.2.1
              unfold LogAt BoxAt at h1
              rw [h1] at hc
              injection hc with hc
              simp at hc
            refine ⟨HDZ.out.1.kept k8 (fun j f e => hno j e f), H6.out.2.1, ?_, ⟨hm8, hrow⟩, hm8.kept, ?_, ?_⟩
            · have h1 := HDZ.out.2.1.kept k8 hlb
              rw [allL_snoc, List.length_append, List.length_append, frameL_len, List.length_singleton]
              have e1 : ((In.length + 1 : Nat) : Int) = (In.length : Int) + 1 := by omega
              have e2 : (((allL In).length + (9 + l.length) : Nat) : Int) = ((allL In).length : Int) + ((9 + l.length : Nat) : Int) := by omega
              rw [e1, e2]
              exact h1
            · rw [List.length_append]; have := HI.out.len; simp; omega
            · intro x hx
              rcases List.mem_append.1 hx with e | e
              · exact HI.out.small x e
              · rw [List.mem_singleton.1 e]; exact HL8.out)
          have HIL : Hid ((vs ++ [Value.slice ai m ci]).length = (In ++ [l]).length) := Lib.hid HI2.out.row.rows.1
          obtain ⟨vs2, hvs2⟩ : ∃ vs2, vs2 = vs ++ [Value.slice ai m ci] := ⟨_, rfl⟩
          obtain ⟨In2, hIn2⟩ : ∃ In2, In2 = In ++ [l] := ⟨_, rfl⟩
          rw [← hvs2, ← hIn2] at HI2 HIL
          rw [← hvs2]
          obtain ⟨nv, hnv⟩ : ∃ nv, nv = vs2.length := ⟨_, rfl⟩
          rw [← hnv] at HI2 HIL ⊢
          clear hm8 k8 hvs2 hIn2 hnv
          go_wp2
          go_loopg [16, 20] ns (fun g s16 s20 wr => ∃ k : Nat, k ≤ ns ∧ g = ns - k ∧ s20 = .int .i64 k ∧ ∃ L D sure, s16 = .int .i64 ((sure : Nat) : Int) ∧ KI W wr db mb lb L D cap (.slice a8 nv c8) vs2 In2 sure (i + 1))
          case atStart => exact ⟨0, Nat.zero_le _, rfl, rfl, _, _, sure, rfl, HI2.out⟩
          case round =>
            obtain ⟨k, hkn, rfl, rfl, L2, D2, sure2, rfl, hi2⟩ := hrel
            have HI3 := Lib.hid hi2
            by_cases hd : k < ns
            · have hdk : (k : Int) < (ns : Int) := by omega
              have hdk0 : (0 : Int) ≤ (k : Int) := by omega
              have HKD := Lib.hid hd
              obtain ⟨y, hy⟩ : ∃ y, sy[k]? = some y := ⟨_, List.getElem?_eq_getElem (by rw [HSY.out.2]; exact hd)⟩
              obtain ⟨sg, so2, hso, hsc⟩ := (HSY.out.1.kept hi2.kept (fun _ _ x => x)).elem (i := k) (u := .int .i64 y) (by unfold vals; rw [List.getElem?_map, hy]; rfl)
              have wk : IntKind.i64.wrap ((k : Int) + 1) = ((k + 1 : Nat) : Int) := by have := HSM.out.2; rw [IntWalk.i64_in _ ⟨by omega, by omega⟩]; omega
              have HS := Lib.hid (wSync_any W.heap.size db mb lb L2 D2 nmW wv_size _ _ wr hi2.d hi2.log)
              have HKS := Lib.hid hi2.p.sync
              obtain ⟨r2, hr2⟩ : ∃ r2, r2 = syncD D2 nmW := ⟨_, rfl⟩
              rw [← hr2] at HS HKS
              have HSO := Lib.hid hso
              subst hso
              clear hi2 hkn hd hy hr2
              by_cases he : y = (i : Int)
              · subst he
                go_wp2_with fail
                refine HS.out.mono ?_
                rintro e w7 ⟨L7, rfl, h7, k7, f7⟩
                have HI7 := Lib.hid (fun sure3 (hp : KD r2.1 cap In2 sure3) => HI3.out.move h7 (k7.mono (fun _ _ x => .inr x)) hp)
                obtain ⟨z2, hz2⟩ : ∃ z2 : Int, z2 = r2.2 := ⟨_, rfl⟩
                rw [← hz2] at HKS ⊢
                clear h7 k7 f7 hz2
                rcases HKS.out with ⟨rfl, hp⟩ | ⟨rfl, hp⟩
                · have HP := Lib.hid (HI7.out _ hp)
                  rw [← HIL.out] at HP
                  clear hp
                  go_wp2
                  go_roundg (ns - (k + 1))
                  case measure => have := HKD.out; omega
                  case rel => exact ⟨k + 1, HKD.out, rfl, rfl, _, _, _, rfl, HP.out⟩
                · have HP := Lib.hid (HI7.out _ hp)
                  clear hp
                  go_wp2
                  go_roundg (ns - (k + 1))
                  case measure => have := HKD.out; omega
                  case rel => exact ⟨k + 1, HKD.out, rfl, rfl, _, _, _, rfl, HP.out⟩
              · have q5 : (y == (i : Int)) = false := beq_eq_false_iff_ne.2 he
                clear he
                go_wp2
                go_roundg (ns - (k + 1))
                case measure => have := HKD.out; omega
                case rel => exact ⟨k + 1, HKD.out, rfl, rfl, _, _, _, rfl, HI3.out⟩
            · have hdk : ¬ (k : Int) < (ns : Int) := by omega
              clear hi2 hkn hd
              go_wp2
              go_roundg (n - (i + 1))
              case measure => have := HID.out; omega
              case rel => exact ⟨i + 1, HID.out, rfl, by first | rfl | go_num, _, _, _, _, _, rfl, HI3.out⟩
        · have HI2 : Hid (KI W w6 db mb lb L6 r.1 cap (.slice pa vs.length pc) vs In sure (i + 1)) := Lib.hid ((HI.out.moveLog h6 k6 HLB.out hp (hno (by rcases hze with e | e <;> rw [e] <;> decide))).next)
          have HIL : Hid (vs.length = In.length) := Lib.hid HI.out.row.rows.1
          have HSZ2 := Lib.hid (wSize_any db lb nmW _ _ w6 HI2.out.log)
          obtain ⟨nv, hnv⟩ : ∃ nv, nv = vs.length := ⟨_, rfl⟩
          rw [← hnv] at HI2 HIL ⊢
          clear h6 k6 f6 hok hno hp hz hnv
          rcases hze with rfl | rfl
          · go_wp2_with fail
            refine HSZ2.out.mono ?_
            rintro e w9 ⟨rfl, rfl⟩
            go_wp2
            go_loopg [16, 20] ns (fun g s16 s20 wr => ∃ k : Nat, k ≤ ns ∧ g = ns - k ∧ s20 = .int .i64 k ∧ ∃ L D sure, s16 = .int .i64 ((sure : Nat) : Int) ∧ KI W wr db mb lb L D cap (.slice pa nv pc) vs In sure (i + 1))
            case atStart => exact ⟨0, Nat.zero_le _, rfl, rfl, _, _, sure, rfl, HI2.out⟩
            case round =>
              obtain ⟨k, hkn, rfl, rfl, L2, D2, sure2, rfl, hi2⟩ := hrel
              have HI3 := Lib.hid hi2
              by_cases hd : k < ns
              · have hdk : (k : Int) < (ns : Int) := by omega
                have hdk0 : (0 : Int) ≤ (k : Int) := by omega
                have HKD := Lib.hid hd
                obtain ⟨y, hy⟩ : ∃ y, sy[k]? = some y := ⟨_, List.getElem?_eq_getElem (by rw [HSY.out.2]; exact hd)⟩
                obtain ⟨sg, so2, hso, hsc⟩ := (HSY.out.1.kept hi2.kept (fun _ _ x => x)).elem (i := k) (u := .int .i64 y) (by unfold vals; rw [List.getElem?_map, hy]; rfl)
                have wk : IntKind.i64.wrap ((k : Int) + 1) = ((k + 1 : Nat) : Int) := by have := HSM.out.2; rw [IntWalk.i64_in _ ⟨by omega, by omega⟩]; omega
                have HS := Lib.hid (wSync_any W.heap.size db mb lb L2 D2 nmW wv_size _ _ wr hi2.d hi2.log)
                have HKS := Lib.hid hi2.p.sync
                obtain ⟨r2, hr2⟩ : ∃ r2, r2 = syncD D2 nmW := ⟨_, rfl⟩
                rw [← hr2] at HS HKS
                have HSO := Lib.hid hso
                subst hso
                clear hi2 hkn hd hy hr2
                by_cases he : y = (i : Int)
                · subst he
                  go_wp2_with fail
                  refine HS.out.mono ?_
                  rintro e w7 ⟨L7, rfl, h7, k7, f7⟩
                  have HI7 := Lib.hid (fun sure3 (hp : KD r2.1 cap In sure3) => HI3.out.move h7 (k7.mono (fun _ _ x => .inr x)) hp)
                  obtain ⟨z2, hz2⟩ : ∃ z2 : Int, z2 = r2.2 := ⟨_, rfl⟩
                  rw [← hz2] at HKS ⊢
                  clear h7 k7 f7 hz2
                  rcases HKS.out with ⟨rfl, hp⟩ | ⟨rfl, hp⟩
                  · have HP := Lib.hid (HI7.out _ hp)
                    rw [← HIL.out] at HP
                    clear hp
                    go_wp2
                    go_roundg (ns - (k + 1))
                    case measure => have := HKD.out; omega
                    case rel => exact ⟨k + 1, HKD.out, rfl, rfl, _, _, _, rfl, HP.out⟩
                  · have HP := Lib.hid (HI7.out _ hp)
                    clear hp
                    go_wp2
                    go_roundg (ns - (k + 1))
                    case measure => have := HKD.out; omega
                    case rel => exact ⟨k + 1, HKD.out, rfl, rfl, _, _, _, rfl, HP.out⟩
                · have q5 : (y == (i : Int)) = false := beq_eq_false_iff_ne.2 he
                  clear he
                  go_wp2
                  go_roundg (ns - (k + 1))
                  case measure => have := HKD.out; omega
                  case rel => exact ⟨k + 1, HKD.out, rfl, rfl, _, _, _, rfl, HI3.out⟩
              · have hdk : ¬ (k : Int) < (ns : Int) := by omega
                clear hi2 hkn hd
                go_wp2
                go_roundg (n - (i + 1))
                case measure => have := HID.out; omega
                case rel => exact ⟨i + 1, HID.out, rfl, by first | rfl | go_num, _, _, _, _, _, rfl, HI3.out⟩
          · go_wp2_with fail
            refine HSZ2.out.mono ?_
            rintro e w9 ⟨rfl, rfl⟩
            go_wp2
            go_loopg [16, 20] ns (fun g s16 s20 wr => ∃ k : Nat, k ≤ ns ∧ g = ns - k ∧ s20 = .int .i64 k ∧ ∃ L D sure, s16 = .int .i64 ((sure : Nat) : Int) ∧ KI W wr db mb lb L D cap (.slice pa nv pc) vs In sure (i + 1))
            case atStart => exact ⟨0, Nat.zero_le _, rfl, rfl, _, _, sure, rfl, HI2.out⟩
            case round =>
              obtain ⟨k, hkn, rfl, rfl, L2, D2, sure2, rfl, hi2⟩ := hrel
              have HI3 := Lib.hid hi2
              by_cases hd : k < ns
              · have hdk : (k : Int) < (ns : Int) := by omega
                have hdk0 : (0 : Int) ≤ (k : Int) := by omega
                have HKD := Lib.hid hd
                obtain ⟨y, hy⟩ : ∃ y, sy[k]? = some y := ⟨_, List.getElem?_eq_getElem (by rw [HSY.out.2]; exact hd)⟩
                obtain ⟨sg, so2, hso, hsc⟩ := (HSY.out.1.kept hi2.kept (fun _ _ x => x)).elem (i := k) (u := .int .i64 y) (by unfold vals; rw [List.getElem?_map, hy]; rfl)
                have wk : IntKind.i64.wrap ((k : Int) + 1) = ((k + 1 : Nat) : Int) := by have := HSM.out.2; rw [IntWalk.i64_in _ ⟨by omega, by omega⟩]; omega
                have HS := Lib.hid (wSync_any W.heap.size db mb lb L2 D2 nmW wv_size _ _ wr hi2.d hi2.log)
                have HKS := Lib.hid hi2.p.sync
                obtain ⟨r2, hr2⟩ : ∃ r2, r2 = syncD D2 nmW := ⟨_, rfl⟩
                rw [← hr2] at HS HKS
                have HSO := Lib.hid hso
                subst hso
                clear hi2 hkn hd hy hr2
                by_cases he : y = (i : Int)
                · subst he
                  go_wp2_with fail
                  refine HS.out.mono ?_
                  rintro e w7 ⟨L7, rfl, h7, k7, f7⟩
                  have HI7 := Lib.hid (fun sure3 (hp : KD r2.1 cap In sure3) => HI3.out.move h7 (k7.mono (fun _ _ x => .inr x)) hp)
                  obtain ⟨z2, hz2⟩ : ∃ z2 : Int, z2 = r2.2 := ⟨_, rfl⟩
                  rw [← hz2] at HKS ⊢
                  clear h7 k7 f7 hz2
                  rcases HKS.out with ⟨rfl, hp⟩ | ⟨rfl, hp⟩
                  · have HP := Lib.hid (HI7.out _ hp)
                    rw [← HIL.out] at HP
                    clear hp
                    go_wp2
                    go_roundg (ns - (k + 1))
                    case measure => have := HKD.out; omega
                    case rel => exact ⟨k + 1, HKD.out, rfl, rfl, _, _, _, rfl, HP.out⟩
                  · have HP := Lib.hid (HI7.out _ hp)
                    clear hp
                    go_wp2
                    go_roundg (ns - (k + 1))
                    case measure => have := HKD.out; omega
                    case rel => exact ⟨k + 1, HKD.out, rfl, rfl, _, _, _, rfl, HP.out⟩
                · have q5 : (y == (i : Int)) = false := beq_eq_false_iff_ne.2 he
                  clear he
                  go_wp2
                  go_roundg (ns - (k + 1))
                  case measure => have := HKD.out; omega
                  case rel => exact ⟨k + 1, HKD.out, rfl, rfl, _, _, _, rfl, HI3.out⟩
              · have hdk : ¬ (k : Int) < (ns : Int) := by omega
                clear hi2 hkn hd
                go_wp2
                go_roundg (n - (i + 1))
                case measure => have := HID.out; omega
                case rel => exact ⟨i + 1, HID.out, rfl, by first | rfl | go_num, _, _, _, _, _, rfl, HI3.out⟩
      · obtain rfl : i = n := by omega
        have hdi : ¬ (i : Int) < (i : Int) := by omega
        obtain ⟨nv, hnv⟩ : ∃ nv, nv = vs.length := ⟨_, rfl⟩
        have HNV : Hid (nv = In.length) := Lib.hid (by rw [hnv]; exact hi.row.rows.1)
        rw [← hnv] at HI ⊢
        have HLN0 := Lib.hid (wLen_any db lb nmW _ _ wr hi.log)
        rw [← HNV.out] at HLN0
        have HDW := Lib.hid (dDown_any W.heap.size db mb L D wr hi.d)
        clear hi hin hd hnv
        go_wp2_with fail
        refine HLN0.out.mono ?_
        rintro e w2' ⟨rfl, rfl⟩
        go_wp2_with fail
        refine HDW.out.mono ?_
        rintro e w2' ⟨rfl, rfl⟩
        cases hdn : D.down with
        | false =>
          have HCH0 := Lib.hid (dCrash_any W.heap.size db mb L D 0 (by unfold I64; omega) wr HI.out.d)
          obtain ⟨p1, p2⟩ := HI.out.p.off hdn
          have HPO := Lib.hid (And.intro p1 p2)
          clear hdn p1 p2
          go_wp2_with fail
          refine HCH0.out.mono ?_
          rintro e w2' ⟨rfl, h2, k2⟩
          have k2' : Kept (foot db mb L) wr w2' := k2.mono (fun _ _ e => .inl e)
          have HK2 := Lib.hid (HI.out.kept.newer k2' (fun j e => (HI.out.d.lt e).2))
          have HR2 := Lib.hid (HI.out.row.foot HI.out.d k2')
          have HD2 := Lib.hid h2
          have HSY0 := Lib.hid (wSync_any W.heap.size db mb lb L (crashD D 0) nmW wv_size _ _ w2' h2 (HI.out.log.kept k2' HI.out.apart))
          clear h2 k2 k2'
          go_wp2_with fail
          refine HSY0.out.mono ?_
          rintro e w3 ⟨L3, rfl, h3, k3, f3⟩
          have HK3x := Lib.hid (HK2.out.newer k3 (fun j e => (HD2.out.lt e).2))
          have HR3 := Lib.hid (HR2.out.foot HD2.out k3)
          obtain ⟨D3, hD3⟩ : ∃ D3, D3 = (syncD (crashD D 0) nmW).1 := ⟨_, rfl⟩
          rw [← hD3] at h3 HPO
          have HD3x := Lib.hid h3
          have HP3 := Lib.hid HPO.out.2
          have HDN := Lib.hid HPO.out.1
          clear h3 k3 f3 hD3
          obtain ⟨b1, kk, hkb⟩ := HP3.out.boot HD3x.out.ok HDN.out keep
          have HBT := Lib.hid (dBoot_any W.heap.size db mb L3 D3 ko nk ck keep HKE.out.2 w3 HD3x.out (HKE.out.1.kept HK3x.out (fun _ _ x => x)) (fun hx j e f => by have h1 := (HKE.out.1.blk hx e).1; have h2 := (HD3x.out.lt f).2; omega))
          obtain ⟨r4, hr4⟩ : ∃ r4, r4 = bootD D3 keep := ⟨_, rfl⟩
          rw [← hr4] at HBT b1 hkb
          have HB1 := Lib.hid b1
          have HKB := Lib.hid hkb
          clear b1 hkb hr4
          go_wp2_with fail
          refine HBT.out.mono ?_
          rintro e w4' ⟨L4', rfl, h4, k4, f4⟩
          rw [HB1.out]
          have HD4 := Lib.hid h4
          have HK4x := Lib.hid (HK3x.out.newer k4 (fun j e => (HD3x.out.lt e).2))
          have HR4 := Lib.hid (HR3.out.foot HD3x.out k4)
          obtain ⟨m, en, f, m1, m2, o1, o2, o3, o4, o5, s5, o6, o7, o8⟩ := HKB.out.opened (fun l hl => by have := HI.out.small l hl; omega)
          have HOP4 := Lib.hid (wOpen_there W.heap.size db mb L4' r4.1 nmW wv_size f (In.take m) (enL In m) en w4' h4 HKB.out.calm.down o1 (by have := HI.out.size HSM.out.1; omega) o2 o3 o5 (HNI.out.kept HK4x.out))
          obtain ⟨D5, hD5⟩ : ∃ D5, D5 = (if enL In m < f.b.length then (cutD r4.1 nmW (enL In m : Nat)).1 else r4.1) := ⟨_, rfl⟩
          rw [← hD5] at HOP4 o6 o7 o8
          rw [show nmW = { data := #[119] } from rfl] at HOP4
          have HO5 := Lib.hid (And.intro m1 (And.intro m2 (And.intro o6 (And.intro o7 o8))))
          clear h4 k4 f4 m1 m2 o1 o2 o3 o4 o5 o6 o7 o8 hD5
          go_wp2_with fail
          refine HOP4.out.mono ?_
          rintro e w5' ⟨L5, lb5, v5, B5, H5, rfl, h5, k5, f5, hlog5, hB5, hlb5, hH5, hg5, hf5⟩
          have HGT5 := Lib.hid hg5
          obtain ⟨ga, gc, hgv, _⟩ := hg5
          subst hgv
          obtain ⟨G, hG⟩ : ∃ G, G = In.take m := ⟨_, rfl⟩
          rw [← hG] at HGT5 hlog5 ⊢
          obtain ⟨gl, hgl⟩ : ∃ gl, gl = G.length := ⟨_, rfl⟩
          rw [← hgl] at HGT5 hlog5 ⊢
          have hglm : gl = m := by rw [hgl, hG, List.length_take]; have := HO5.out.1; omega
          have HGL := Lib.hid (show gl = G.length ∧ gl ≤ 40 ∧ gl = m from ⟨hgl, by have := HO5.out.1; have := HI.out.len; have := HSM.out.1; omega, hglm⟩)
          have HGQ : Hid (G = In.take m) := Lib.hid hG
          have HEN : Hid (enL In m = (allL G).length) := Lib.hid (by unfold enL; rw [hG])
          have HGI : Hid (∀ l ∈ G, l.length ≤ 8000) := Lib.hid (fun l hl => HI.out.small l (by rw [hG] at hl; exact List.mem_of_mem_take hl))
          have HK5x := Lib.hid (HK4x.out.newer k5 (fun j e => (HD4.out.lt e).2))
          have HR5 := Lib.hid (HR4.out.foot HD4.out k5)
          have HX5 := Lib.hid (And.intro h5 (And.intro hlog5 (And.intro hlb5 (And.intro hH5 hf5))))
          obtain ⟨iR, hiR, _⟩ := Option.map_eq_some_iff.1 infoRow
          have hcpr : nv ≤ pc := own_capB HR5.out.mine.own
          have qg1 : ¬ (gl : Int) < (sure : Int) := by have := HO5.out.2.1; omega
          have qg2 : ¬ (nv : Int) < (gl : Int) := by have := HO5.out.1; have := HNV.out; omega
          have hgn : gl ≤ nv := by have := HO5.out.1; have := HNV.out; omega
          have hca := fun w => run_cutHr (P := Tryd.prog) Tryd.underlying30 hiR pa nv pc gl (Nat.le_trans hgn hcpr) w
          have hcb := fun w => run_cutHrAt (P := Tryd.prog) Tryd.underlying30 hiR pa nv pc gl (Nat.le_trans hgn hcpr) w
          have hrt : RowsAt w5' (.slice pa gl pc) G := by
            have h1 := RowsAt.take (k := gl) (by have := HR5.out.at_; rw [show Value.slice pa nv pc = Value.slice pa nv pc from rfl] at this; exact this) (by rw [← HNV.out]; exact hgn)
            rw [hG, ← hglm]
            exact h1
          have HSM5 := Lib.hid (same_any (.slice ga gl gc) (.slice pa gl pc) G (by have := HGL.out.2.1; rw [← HGL.out.1]; omega) w5' HGT5.out.at_ hrt)
          clear h5 k5 f5 hlog5 hB5 hlb5 hH5 hf5 hgl hglm hG hgn hcpr hrt
          go_wp2_with fail
          refine HSM5.out.mono ?_
          rintro e w6' ⟨rfl, k6⟩
          have HX6 := Lib.hid (And.intro (HX5.out.1.kept k6 (fun _ _ x => x)) (HX5.out.2.1.kept k6 (fun x => x)))
          have HGT6 := Lib.hid (HGT5.out.kept k6 (fun _ _ _ x => x))
          have HK6x := Lib.hid (HK5x.out.trans k6)
          have HLN6 := Lib.hid (wLen_any db lb5 { data := #[119] } _ _ w6' HX6.out.2)
          have HSZ6 := Lib.hid (dSize_any W.heap.size db mb L5 D5 nmW wv_size w6' HX6.out.1)
          have hsz : sizeA D5 nmW = (((allL (In.take m)).length : Int), (s5 : Int), 0) := by unfold sizeA; rw [HO5.out.2.2.2.1.down, HO5.out.2.2.1, getM_one]; rfl
          rw [hsz, show nmW = { data := #[119] } from rfl] at HSZ6
          dsimp only at HSZ6
          rw [show (allL (In.take m)).length = enL In m from rfl] at HSZ6
          obtain ⟨u, hu⟩ : ∃ u, u = enL In m := ⟨_, rfl⟩
          rw [← hu] at HSZ6 HX6
          have HU := Lib.hid (show u = enL In m ∧ u ≤ 320360 by
            have h1 := enL_mono In HO5.out.1
            rw [enL_all] at h1
            have h2 := HI.out.size HSM.out.1
            omega)
          clear k6 hsz hca hcb hu
          go_wp2_with fail
          refine HLN6.out.mono ?_
          rintro e w7' ⟨rfl, rfl⟩
          go_wp2_with fail
          refine HSZ6.out.mono ?_
          rintro e w7' ⟨rfl, k7⟩
          have HX7 := Lib.hid (And.intro (HX6.out.1.kept k7 (fun _ _ x => x)) (HX6.out.2.kept k7 (fun x => x)))
          have HK7 := Lib.hid (HK6x.out.trans k7)
          have HGT7 := Lib.hid (HGT6.out.kept k7 (fun _ _ _ x => x))
          have HSI7 := Lib.hid (wSize_any db lb5 nmW _ _ w7' HX7.out.2)
          clear k7
          go_wp2_with fail
          refine HSI7.out.mono ?_
          rintro e w8' ⟨rfl, rfl⟩
          obtain ⟨wm, hwm⟩ : ∃ wm, wm = w7'.alloc (.cells #[.int .u8 109, .int .u8 111, .int .u8 114, .int .u8 101] 5 (4, 5)) := ⟨_, rfl⟩
          have km : Kept (fun _ => False) w7' wm := by rw [hwm]; exact (Kept.refl _ _).alloc _
          have HWM := Lib.hid hwm
          have HXM := Lib.hid (And.intro (HX7.out.1.kept km (fun _ _ x => x)) (HX7.out.2.kept km (fun x => x)))
          have HKM := Lib.hid (HK7.out.trans km)
          have HGTM := Lib.hid (HGT7.out.kept km (fun _ _ _ x => x))
          have HAP7 := Lib.hid (wAppend_any W.heap.size db mb lb5 L5 D5 nmW wv_size _ _ ⟨by omega, by have := HGL.out.2.1; omega⟩ ⟨by omega, by have := HU.out.2; omega⟩ (.slice (some ⟨w7'.heap.size, 0, none⟩) 4 4) mWd (by decide) wm HXM.out.1 HXM.out.2 (by rw [hwm]; exact row8_fresh w7' mWd _ _ 4 4 rfl rfl (by decide)) (HNI.out.kept HKM.out))
          have hcv : (convert 22 22 (.slice (some ⟨w7'.heap.size, 0, none⟩) 4 4)).run Tryd.prog (w7'.alloc (.cells #[.int .u8 109, .int .u8 111, .int .u8 114, .int .u8 101] 5)) = .ok (.slice (some ⟨w7'.heap.size, 0, none⟩) 4 4) (w7'.alloc (.cells #[.int .u8 109, .int .u8 111, .int .u8 114, .int .u8 101] 5 (4, 5))) := Go.Joins.run_convert_bytes_const_at w7' 22 5 _ _ _ _ (by simp) Tryd.underlying22 Tryd.underlying5
          have hma := more_app (R := In.take m) (s := s5) (cap := cap) HO5.out.2.2.1 HO5.out.2.2.2.1 HO5.out.2.2.2.2
          obtain ⟨r8, hr8⟩ : ∃ r8, r8 = appendD D5 nmW (frameL mWd) := ⟨_, rfl⟩
          rw [← hr8] at HAP7 hma
          have HMA := Lib.hid hma
          clear hma hr8 hwm km
          go_wp2_with fail
          rw [← HWM.out]
          refine HAP7.out.mono ?_
          rintro e w8 ⟨L8, rfl, h8, k8, f8, hok8, hno8⟩
          obtain ⟨z8, hz8⟩ : ∃ z8 : Int, z8 = r8.2 := ⟨_, rfl⟩
          rw [← hz8] at HMA hok8 hno8 ⊢
          have HK8 := Lib.hid (HKM.out.newer k8 (fun j e => by
            rcases e with e | e
            · rw [e]; have := HX5.out.2.2.1; have := HK4x.out.size; omega
            · exact (HXM.out.1.lt e).2))
          have HGT8 := Lib.hid (HGTM.out.kept k8 (fun j h1 h2 e => by
            rcases e with e | e
            · have := HX5.out.2.2.2.1; omega
            · rcases HX5.out.2.2.2.2 j e with x | x <;> omega))
          have HF8 : Hid (∀ j, foot db mb L8 j → j < B5 ∨ H5 ≤ j) := Lib.hid (fun j e => by
            rcases f8 j e with x | x
            · exact HX5.out.2.2.2.2 j x
            · have h1 := HX5.out.2.2.2.1
              have h2 := BoxAt.lt HXM.out.2
              exact .inr (by omega))
          clear k8 f8 hz8 hcv
          rcases HMA.out with ⟨rfl, s6, hfile6, hcalm6⟩ | ⟨rfl, hcapm, s6, hfile6, hcalm6⟩
          · have HX8 := Lib.hid (hok8 rfl)
            have HS8 : Hid (∀ l ∈ In.take m ++ [mWd], l.length ≤ 65536) := Lib.hid (fun l hl => by
              rcases List.mem_append.1 hl with e | e
              · have := HI.out.small l (List.mem_of_mem_take e); omega
              · rw [List.mem_singleton.1 e]; decide)
            have HR8 : Hid ((allL (In.take m ++ [mWd])).length ≤ 320400) := Lib.hid (by
              have h9 := HU.out
              rw [allL_snoc, List.length_append, frameL_len]
              have e1 : (allL (In.take m)).length = enL In m := rfl
              have e2 : mWd.length = 4 := rfl
              omega)
            clear hok8 hno8
            have HTK : Hid ((In.take m ++ [mWd]).take G.length = G) := Lib.hid (by rw [HGQ.out, List.take_left])
            have HI6 := Lib.hid hfile6
            obtain ⟨g1, g2⟩ := whole_get hfile6 hcalm6
            have HOP6 := Lib.hid (wOpen_there W.heap.size db mb L8 r8.1 nmW wv_size ⟨allL (In.take m ++ [mWd]), s6⟩ (In.take m ++ [mWd]) (allL (In.take m ++ [mWd])).length 0 w8 h8 g1 g2 (by dsimp only; have := HR8.out; omega) (scan_all (In.take m ++ [mWd]) HS8.out) (.inl rfl) (fun x => absurd x (Nat.lt_irrefl _)) (HNI.out.kept HK8.out))
            dsimp only at HOP6
            rw [if_neg (Nat.lt_irrefl _), show nmW = { data := #[119] } from rfl] at HOP6
            have HD8 := Lib.hid h8
            clear h8 hfile6 hcalm6 g1 g2

            go_wp2_with fail
            refine HOP6.out.mono ?_
            rintro e w9 ⟨L9, lb9, v9, B9, H9, rfl, h9, k9, f9, hlog9, hB9, hlb9, hH9, hg9, _⟩
            have HR9 := Lib.hid hg9.at_
            obtain ⟨ya, yc, hy9, hyc, _⟩ := hg9
            subst hy9
            have HX9 := Lib.hid (HX8.out.kept k9 (HX8.out.apart HD8.out))
            have HGT9 := Lib.hid (HGT8.out.kept k9 (fun j h1 h2 f => by rcases HF8.out j f with x | x <;> omega))
            have HK9 := Lib.hid (HK8.out.newer k9 (fun j e => (HD8.out.lt e).2))
            have HLA := Lib.hid (wLen_any db lb9 { data := #[119] } _ _ w9 hlog9)
            have HLB2 := Lib.hid (wLen_any db lb5 nmW _ _ w9 HX9.out)
            obtain ⟨iR, hiR, _⟩ := Option.map_eq_some_iff.1 infoRow
            obtain ⟨yl, hyl⟩ : ∃ yl, yl = ((In.take m ++ [mWd])).length := ⟨_, rfl⟩
            rw [← hyl] at hyc HLA HR9 ⊢
            have hgy : gl ≤ yl := by rw [hyl, HGL.out.1]; have := HGL.out; rw [List.length_append, List.length_take]; have := HO5.out.1; simp only [List.length_singleton]; omega
            have hca := fun w => run_cutHr (P := Tryd.prog) Tryd.underlying30 hiR ya yl yc gl (Nat.le_trans hgy hyc) w
            have hcb := fun w => run_cutHrAt (P := Tryd.prog) Tryd.underlying30 hiR ya yl yc gl (Nat.le_trans hgy hyc) w
            have hrt : RowsAt w9 (.slice ya gl yc) G := by
              have h1 := RowsAt.take (k := gl) HR9.out (by rw [← hyl]; exact hgy)
              rw [HGL.out.1] at h1 ⊢
              rw [show ((In.take m ++ [mWd])).take G.length = G from HTK.out] at h1
              exact h1
            have HSM := Lib.hid (same_any (.slice ya gl yc) (.slice ga gl gc) G (by have := HGL.out.2; rw [← HGL.out.1]; omega) w9 hrt HGT9.out.at_)
            have hxe : (yl : Int) = (gl : Int) + 1 := by rw [hyl]; have := HGL.out; have := HO5.out.1; rw [List.length_append, List.length_take]; simp only [List.length_singleton]; omega
            rw [← hxe] at HLB2
            clear hxe
            clear k9 f9 h9 hlog9 hB9 hlb9 hH9 hyc hgy hrt hyl
            go_wp2_with fail
            refine HLA.out.mono ?_
            rintro e w10 ⟨rfl, rfl⟩
            go_wp2_with fail
            refine HLB2.out.mono ?_
            rintro e w10 ⟨rfl, rfl⟩
            go_wp2_with fail
            refine HSM.out.mono ?_
            rintro e w10 ⟨rfl, k10⟩
            have HK10 := Lib.hid (HK9.out.trans k10)
            clear k10
            go_wp2
            go_ret
            exact ⟨rfl, HK10.out⟩
          · have HX8 := Lib.hid (hno8 (by decide))
            have HS8 : Hid (∀ l ∈ In.take m, l.length ≤ 65536) := Lib.hid (fun l hl => by have := HI.out.small l (List.mem_of_mem_take hl); omega)
            have HR8 : Hid ((allL (In.take m)).length ≤ 320400) := Lib.hid (by
              have h9 := HU.out
              have e1 : (allL (In.take m)).length = enL In m := rfl
              omega)
            have q13 : ¬ ((u : Int) + 13 ≤ cap) := by
              have h9 := HU.out
              have e1 : (allL (In.take m)).length = enL In m := rfl
              omega
            have w13 : IntKind.i64.wrap ((u : Int) + 13) = (u : Int) + 13 := by have := HU.out.2; rw [IntWalk.i64_in _ ⟨by omega, by omega⟩]
            clear hok8 hno8 hcapm
            have HTK : Hid ((In.take m).take G.length = G) := Lib.hid (by rw [HGQ.out, List.take_length])
            have HI6 := Lib.hid hfile6
            obtain ⟨g1, g2⟩ := whole_get hfile6 hcalm6
            have HOP6 := Lib.hid (wOpen_there W.heap.size db mb L8 r8.1 nmW wv_size ⟨allL (In.take m), s6⟩ (In.take m) (allL (In.take m)).length 0 w8 h8 g1 g2 (by dsimp only; have := HR8.out; omega) (scan_all (In.take m) HS8.out) (.inl rfl) (fun x => absurd x (Nat.lt_irrefl _)) (HNI.out.kept HK8.out))
            dsimp only at HOP6
            rw [if_neg (Nat.lt_irrefl _), show nmW = { data := #[119] } from rfl] at HOP6
            have HD8 := Lib.hid h8
            clear h8 hfile6 hcalm6 g1 g2

            go_wp2_with fail
            refine HOP6.out.mono ?_
            rintro e w9 ⟨L9, lb9, v9, B9, H9, rfl, h9, k9, f9, hlog9, hB9, hlb9, hH9, hg9, _⟩
            have HR9 := Lib.hid hg9.at_
            obtain ⟨ya, yc, hy9, hyc, _⟩ := hg9
            subst hy9
            have HX9 := Lib.hid (HX8.out.kept k9 (HX8.out.apart HD8.out))
            have HGT9 := Lib.hid (HGT8.out.kept k9 (fun j h1 h2 f => by rcases HF8.out j f with x | x <;> omega))
            have HK9 := Lib.hid (HK8.out.newer k9 (fun j e => (HD8.out.lt e).2))
            have HLA := Lib.hid (wLen_any db lb9 { data := #[119] } _ _ w9 hlog9)
            have HLB2 := Lib.hid (wLen_any db lb5 nmW _ _ w9 HX9.out)
            obtain ⟨iR, hiR, _⟩ := Option.map_eq_some_iff.1 infoRow
            obtain ⟨yl, hyl⟩ : ∃ yl, yl = ((In.take m)).length := ⟨_, rfl⟩
            rw [← hyl] at hyc HLA HR9 ⊢
            have hgy : gl ≤ yl := by rw [hyl, HGL.out.1]; rw [HGQ.out]; exact Nat.le_refl _
            have hca := fun w => run_cutHr (P := Tryd.prog) Tryd.underlying30 hiR ya yl yc gl (Nat.le_trans hgy hyc) w
            have hcb := fun w => run_cutHrAt (P := Tryd.prog) Tryd.underlying30 hiR ya yl yc gl (Nat.le_trans hgy hyc) w
            have hrt : RowsAt w9 (.slice ya gl yc) G := by
              have h1 := RowsAt.take (k := gl) HR9.out (by rw [← hyl]; exact hgy)
              rw [HGL.out.1] at h1 ⊢
              rw [show ((In.take m)).take G.length = G from HTK.out] at h1
              exact h1
            have HSM := Lib.hid (same_any (.slice ya gl yc) (.slice ga gl gc) G (by have := HGL.out.2; rw [← HGL.out.1]; omega) w9 hrt HGT9.out.at_)
            have hxe : (yl : Int) = (gl : Int) := by rw [hyl]; have := HGL.out; have := HO5.out.1; rw [List.length_take]; omega
            rw [← hxe] at HLB2
            clear hxe
            clear k9 f9 h9 hlog9 hB9 hlb9 hH9 hyc hgy hrt hyl
            go_wp2_with fail
            refine HLA.out.mono ?_
            rintro e w10 ⟨rfl, rfl⟩
            go_wp2_with fail
            refine HLB2.out.mono ?_
            rintro e w10 ⟨rfl, rfl⟩
            go_wp2_with fail
            refine HSM.out.mono ?_
            rintro e w10 ⟨rfl, k10⟩
            have HK10 := Lib.hid (HK9.out.trans k10)
            clear k10
            go_wp2
            go_ret
            exact ⟨rfl, HK10.out⟩
        | true =>
          have HK3x := Lib.hid HI.out.kept
          have HR3 := Lib.hid HI.out.row
          have HD3x := Lib.hid HI.out.d
          have HP3 := Lib.hid HI.out.p
          have HDN := Lib.hid hdn
          obtain ⟨D3, hD3⟩ : ∃ D3, D3 = D := ⟨_, rfl⟩
          obtain ⟨L3, hL3⟩ : ∃ L3, L3 = L := ⟨_, rfl⟩
          rw [← hD3, ← hL3] at HD3x
          rw [← hD3] at HP3 HDN
          obtain ⟨w3, hw3⟩ : ∃ w3, w3 = wr := ⟨_, rfl⟩
          rw [← hw3] at HK3x HR3 HD3x ⊢
          clear hdn hD3 hL3 hw3
          obtain ⟨b1, kk, hkb⟩ := HP3.out.boot HD3x.out.ok HDN.out keep
          have HBT := Lib.hid (dBoot_any W.heap.size db mb L3 D3 ko nk ck keep HKE.out.2 w3 HD3x.out (HKE.out.1.kept HK3x.out (fun _ _ x => x)) (fun hx j e f => by have h1 := (HKE.out.1.blk hx e).1; have h2 := (HD3x.out.lt f).2; omega))
          obtain ⟨r4, hr4⟩ : ∃ r4, r4 = bootD D3 keep := ⟨_, rfl⟩
          rw [← hr4] at HBT b1 hkb
          have HB1 := Lib.hid b1
          have HKB := Lib.hid hkb
          clear b1 hkb hr4
          go_wp2_with fail
          refine HBT.out.mono ?_
          rintro e w4' ⟨L4', rfl, h4, k4, f4⟩
          rw [HB1.out]
          have HD4 := Lib.hid h4
          have HK4x := Lib.hid (HK3x.out.newer k4 (fun j e => (HD3x.out.lt e).2))
          have HR4 := Lib.hid (HR3.out.foot HD3x.out k4)
          obtain ⟨m, en, f, m1, m2, o1, o2, o3, o4, o5, s5, o6, o7, o8⟩ := HKB.out.opened (fun l hl => by have := HI.out.small l hl; omega)
          have HOP4 := Lib.hid (wOpen_there W.heap.size db mb L4' r4.1 nmW wv_size f (In.take m) (enL In m) en w4' h4 HKB.out.calm.down o1 (by have := HI.out.size HSM.out.1; omega) o2 o3 o5 (HNI.out.kept HK4x.out))
          obtain ⟨D5, hD5⟩ : ∃ D5, D5 = (if enL In m < f.b.length then (cutD r4.1 nmW (enL In m : Nat)).1 else r4.1) := ⟨_, rfl⟩
          rw [← hD5] at HOP4 o6 o7 o8
          rw [show nmW = { data := #[119] } from rfl] at HOP4
          have HO5 := Lib.hid (And.intro m1 (And.intro m2 (And.intro o6 (And.intro o7 o8))))
          clear h4 k4 f4 m1 m2 o1 o2 o3 o4 o5 o6 o7 o8 hD5
          go_wp2_with fail
          refine HOP4.out.mono ?_
          rintro e w5' ⟨L5, lb5, v5, B5, H5, rfl, h5, k5, f5, hlog5, hB5, hlb5, hH5, hg5, hf5⟩
          have HGT5 := Lib.hid hg5
          obtain ⟨ga, gc, hgv, _⟩ := hg5
          subst hgv
          obtain ⟨G, hG⟩ : ∃ G, G = In.take m := ⟨_, rfl⟩
          rw [← hG] at HGT5 hlog5 ⊢
          obtain ⟨gl, hgl⟩ : ∃ gl, gl = G.length := ⟨_, rfl⟩
          rw [← hgl] at HGT5 hlog5 ⊢
          have hglm : gl = m := by rw [hgl, hG, List.length_take]; have := HO5.out.1; omega
          have HGL := Lib.hid (show gl = G.length ∧ gl ≤ 40 ∧ gl = m from ⟨hgl, by have := HO5.out.1; have := HI.out.len; have := HSM.out.1; omega, hglm⟩)
          have HGQ : Hid (G = In.take m) := Lib.hid hG
          have HEN : Hid (enL In m = (allL G).length) := Lib.hid (by unfold enL; rw [hG])
          have HGI : Hid (∀ l ∈ G, l.length ≤ 8000) := Lib.hid (fun l hl => HI.out.small l (by rw [hG] at hl; exact List.mem_of_mem_take hl))
          have HK5x := Lib.hid (HK4x.out.newer k5 (fun j e => (HD4.out.lt e).2))
          have HR5 := Lib.hid (HR4.out.foot HD4.out k5)
          have HX5 := Lib.hid (And.intro h5 (And.intro hlog5 (And.intro hlb5 (And.intro hH5 hf5))))
          obtain ⟨iR, hiR, _⟩ := Option.map_eq_some_iff.1 infoRow
          have hcpr : nv ≤ pc := own_capB HR5.out.mine.own
          have qg1 : ¬ (gl : Int) < (sure : Int) := by have := HO5.out.2.1; omega
          have qg2 : ¬ (nv : Int) < (gl : Int) := by have := HO5.out.1; have := HNV.out; omega
          have hgn : gl ≤ nv := by have := HO5.out.1; have := HNV.out; omega
          have hca := fun w => run_cutHr (P := Tryd.prog) Tryd.underlying30 hiR pa nv pc gl (Nat.le_trans hgn hcpr) w
          have hcb := fun w => run_cutHrAt (P := Tryd.prog) Tryd.underlying30 hiR pa nv pc gl (Nat.le_trans hgn hcpr) w
          have hrt : RowsAt w5' (.slice pa gl pc) G := by
            have h1 := RowsAt.take (k := gl) (by have := HR5.out.at_; rw [show Value.slice pa nv pc = Value.slice pa nv pc from rfl] at this; exact this) (by rw [← HNV.out]; exact hgn)
            rw [hG, ← hglm]
            exact h1
          have HSM5 := Lib.hid (same_any (.slice ga gl gc) (.slice pa gl pc) G (by have := HGL.out.2.1; rw [← HGL.out.1]; omega) w5' HGT5.out.at_ hrt)
          clear h5 k5 f5 hlog5 hB5 hlb5 hH5 hf5 hgl hglm hG hgn hcpr hrt
          go_wp2_with fail
          refine HSM5.out.mono ?_
          rintro e w6' ⟨rfl, k6⟩
          have HX6 := Lib.hid (And.intro (HX5.out.1.kept k6 (fun _ _ x => x)) (HX5.out.2.1.kept k6 (fun x => x)))
          have HGT6 := Lib.hid (HGT5.out.kept k6 (fun _ _ _ x => x))
          have HK6x := Lib.hid (HK5x.out.trans k6)
          have HLN6 := Lib.hid (wLen_any db lb5 { data := #[119] } _ _ w6' HX6.out.2)
          have HSZ6 := Lib.hid (dSize_any W.heap.size db mb L5 D5 nmW wv_size w6' HX6.out.1)
          have hsz : sizeA D5 nmW = (((allL (In.take m)).length : Int), (s5 : Int), 0) := by unfold sizeA; rw [HO5.out.2.2.2.1.down, HO5.out.2.2.1, getM_one]; rfl
          rw [hsz, show nmW = { data := #[119] } from rfl] at HSZ6
          dsimp only at HSZ6
          rw [show (allL (In.take m)).length = enL In m from rfl] at HSZ6
          obtain ⟨u, hu⟩ : ∃ u, u = enL In m := ⟨_, rfl⟩
          rw [← hu] at HSZ6 HX6
          have HU := Lib.hid (show u = enL In m ∧ u ≤ 320360 by
            have h1 := enL_mono In HO5.out.1
            rw [enL_all] at h1
            have h2 := HI.out.size HSM.out.1
            omega)
          clear k6 hsz hca hcb hu
          go_wp2_with fail
          refine HLN6.out.mono ?_
          rintro e w7' ⟨rfl, rfl⟩
          go_wp2_with fail
          refine HSZ6.out.mono ?_
          rintro e w7' ⟨rfl, k7⟩
          have HX7 := Lib.hid (And.intro (HX6.out.1.kept k7 (fun _ _ x => x)) (HX6.out.2.kept k7 (fun x => x)))
          have HK7 := Lib.hid (HK6x.out.trans k7)
          have HGT7 := Lib.hid (HGT6.out.kept k7 (fun _ _ _ x => x))
          have HSI7 := Lib.hid (wSize_any db lb5 nmW _ _ w7' HX7.out.2)
          clear k7
          go_wp2_with fail
          refine HSI7.out.mono ?_
          rintro e w8' ⟨rfl, rfl⟩
          obtain ⟨wm, hwm⟩ : ∃ wm, wm = w7'.alloc (.cells #[.int .u8 109, .int .u8 111, .int .u8 114, .int .u8 101] 5 (4, 5)) := ⟨_, rfl⟩
          have km : Kept (fun _ => False) w7' wm := by rw [hwm]; exact (Kept.refl _ _).alloc _
          have HWM := Lib.hid hwm
          have HXM := Lib.hid (And.intro (HX7.out.1.kept km (fun _ _ x => x)) (HX7.out.2.kept km (fun x => x)))
          have HKM := Lib.hid (HK7.out.trans km)
          have HGTM := Lib.hid (HGT7.out.kept km (fun _ _ _ x => x))
          have HAP7 := Lib.hid (wAppend_any W.heap.size db mb lb5 L5 D5 nmW wv_size _ _ ⟨by omega, by have := HGL.out.2.1; omega⟩ ⟨by omega, by have := HU.out.2; omega⟩ (.slice (some ⟨w7'.heap.size, 0, none⟩) 4 4) mWd (by decide) wm HXM.out.1 HXM.out.2 (by rw [hwm]; exact row8_fresh w7' mWd _ _ 4 4 rfl rfl (by decide)) (HNI.out.kept HKM.out))
          have hcv : (convert 22 22 (.slice (some ⟨w7'.heap.size, 0, none⟩) 4 4)).run Tryd.prog (w7'.alloc (.cells #[.int .u8 109, .int .u8 111, .int .u8 114, .int .u8 101] 5)) = .ok (.slice (some ⟨w7'.heap.size, 0, none⟩) 4 4) (w7'.alloc (.cells #[.int .u8 109, .int .u8 111, .int .u8 114, .int .u8 101] 5 (4, 5))) := Go.Joins.run_convert_bytes_const_at w7' 22 5 _ _ _ _ (by simp) Tryd.underlying22 Tryd.underlying5
          have hma := more_app (R := In.take m) (s := s5) (cap := cap) HO5.out.2.2.1 HO5.out.2.2.2.1 HO5.out.2.2.2.2
          obtain ⟨r8, hr8⟩ : ∃ r8, r8 = appendD D5 nmW (frameL mWd) := ⟨_, rfl⟩
          rw [← hr8] at HAP7 hma
          have HMA := Lib.hid hma
          clear hma hr8 hwm km
          go_wp2_with fail
          rw [← HWM.out]
          refine HAP7.out.mono ?_
          rintro e w8 ⟨L8, rfl, h8, k8, f8, hok8, hno8⟩
          obtain ⟨z8, hz8⟩ : ∃ z8 : Int, z8 = r8.2 := ⟨_, rfl⟩
          rw [← hz8] at HMA hok8 hno8 ⊢
          have HK8 := Lib.hid (HKM.out.newer k8 (fun j e => by
            rcases e with e | e
            · rw [e]; have := HX5.out.2.2.1; have := HK4x.out.size; omega
            · exact (HXM.out.1.lt e).2))
          have HGT8 := Lib.hid (HGTM.out.kept k8 (fun j h1 h2 e => by
            rcases e with e | e
            · have := HX5.out.2.2.2.1; omega
            · rcases HX5.out.2.2.2.2 j e with x | x <;> omega))
          have HF8 : Hid (∀ j, foot db mb L8 j → j < B5 ∨ H5 ≤ j) := Lib.hid (fun j e => by
            rcases f8 j e with x | x
            · exact HX5.out.2.2.2.2 j x
            · have h1 := HX5.out.2.2.2.1
              have h2 := BoxAt.lt HXM.out.2
              exact .inr (by omega))
          clear k8 f8 hz8 hcv
          rcases HMA.out with ⟨rfl, s6, hfile6, hcalm6⟩ | ⟨rfl, hcapm, s6, hfile6, hcalm6⟩
          · have HX8 := Lib.hid (hok8 rfl)
            have HS8 : Hid (∀ l ∈ In.take m ++ [mWd], l.length ≤ 65536) := Lib.hid (fun l hl => by
              rcases List.mem_append.1 hl with e | e
              · have := HI.out.small l (List.mem_of_mem_take e); omega
              · rw [List.mem_singleton.1 e]; decide)
            have HR8 : Hid ((allL (In.take m ++ [mWd])).length ≤ 320400) := Lib.hid (by
              have h9 := HU.out
              rw [allL_snoc, List.length_append, frameL_len]
              have e1 : (allL (In.take m)).length = enL In m := rfl
              have e2 : mWd.length = 4 := rfl
              omega)
            clear hok8 hno8
            have HTK : Hid ((In.take m ++ [mWd]).take G.length = G) := Lib.hid (by rw [HGQ.out, List.take_left])
            have HI6 := Lib.hid hfile6
            obtain ⟨g1, g2⟩ := whole_get hfile6 hcalm6
            have HOP6 := Lib.hid (wOpen_there W.heap.size db mb L8 r8.1 nmW wv_size ⟨allL (In.take m ++ [mWd]), s6⟩ (In.take m ++ [mWd]) (allL (In.take m ++ [mWd])).length 0 w8 h8 g1 g2 (by dsimp only; have := HR8.out; omega) (scan_all (In.take m ++ [mWd]) HS8.out) (.inl rfl) (fun x => absurd x (Nat.lt_irrefl _)) (HNI.out.kept HK8.out))
            dsimp only at HOP6
            rw [if_neg (Nat.lt_irrefl _), show nmW = { data := #[119] } from rfl] at HOP6
            have HD8 := Lib.hid h8
            clear h8 hfile6 hcalm6 g1 g2

            go_wp2_with fail
            refine HOP6.out.mono ?_
            rintro e w9 ⟨L9, lb9, v9, B9, H9, rfl, h9, k9, f9, hlog9, hB9, hlb9, hH9, hg9, _⟩
            have HR9 := Lib.hid hg9.at_
            obtain ⟨ya, yc, hy9, hyc, _⟩ := hg9
            subst hy9
            have HX9 := Lib.hid (HX8.out.kept k9 (HX8.out.apart HD8.out))
            have HGT9 := Lib.hid (HGT8.out.kept k9 (fun j h1 h2 f => by rcases HF8.out j f with x | x <;> omega))
            have HK9 := Lib.hid (HK8.out.newer k9 (fun j e => (HD8.out.lt e).2))
            have HLA := Lib.hid (wLen_any db lb9 { data := #[119] } _ _ w9 hlog9)
            have HLB2 := Lib.hid (wLen_any db lb5 nmW _ _ w9 HX9.out)
            obtain ⟨iR, hiR, _⟩ := Option.map_eq_some_iff.1 infoRow
            obtain ⟨yl, hyl⟩ : ∃ yl, yl = ((In.take m ++ [mWd])).length := ⟨_, rfl⟩
            rw [← hyl] at hyc HLA HR9 ⊢
            have hgy : gl ≤ yl := by rw [hyl, HGL.out.1]; have := HGL.out; rw [List.length_append, List.length_take]; have := HO5.out.1; simp only [List.length_singleton]; omega
            have hca := fun w => run_cutHr (P := Tryd.prog) Tryd.underlying30 hiR ya yl yc gl (Nat.le_trans hgy hyc) w
            have hcb := fun w => run_cutHrAt (P := Tryd.prog) Tryd.underlying30 hiR ya yl yc gl (Nat.le_trans hgy hyc) w
            have hrt : RowsAt w9 (.slice ya gl yc) G := by
              have h1 := RowsAt.take (k := gl) HR9.out (by rw [← hyl]; exact hgy)
              rw [HGL.out.1] at h1 ⊢
              rw [show ((In.take m ++ [mWd])).take G.length = G from HTK.out] at h1
              exact h1
            have HSM := Lib.hid (same_any (.slice ya gl yc) (.slice ga gl gc) G (by have := HGL.out.2; rw [← HGL.out.1]; omega) w9 hrt HGT9.out.at_)
            have hxe : (yl : Int) = (gl : Int) + 1 := by rw [hyl]; have := HGL.out; have := HO5.out.1; rw [List.length_append, List.length_take]; simp only [List.length_singleton]; omega
            rw [← hxe] at HLB2
            clear hxe
            clear k9 f9 h9 hlog9 hB9 hlb9 hH9 hyc hgy hrt hyl
            go_wp2_with fail
            refine HLA.out.mono ?_
            rintro e w10 ⟨rfl, rfl⟩
            go_wp2_with fail
            refine HLB2.out.mono ?_
            rintro e w10 ⟨rfl, rfl⟩
            go_wp2_with fail
            refine HSM.out.mono ?_
            rintro e w10 ⟨rfl, k10⟩
            have HK10 := Lib.hid (HK9.out.trans k10)
            clear k10
            go_wp2
            go_ret
            exact ⟨rfl, HK10.out⟩
          · have HX8 := Lib.hid (hno8 (by decide))
            have HS8 : Hid (∀ l ∈ In.take m, l.length ≤ 65536) := Lib.hid (fun l hl => by have := HI.out.small l (List.mem_of_mem_take hl); omega)
            have HR8 : Hid ((allL (In.take m)).length ≤ 320400) := Lib.hid (by
              have h9 := HU.out
              have e1 : (allL (In.take m)).length = enL In m := rfl
              omega)
            have q13 : ¬ ((u : Int) + 13 ≤ cap) := by
              have h9 := HU.out
              have e1 : (allL (In.take m)).length = enL In m := rfl
              omega
            have w13 : IntKind.i64.wrap ((u : Int) + 13) = (u : Int) + 13 := by have := HU.out.2; rw [IntWalk.i64_in _ ⟨by omega, by omega⟩]
            clear hok8 hno8 hcapm
            have HTK : Hid ((In.take m).take G.length = G) := Lib.hid (by rw [HGQ.out, List.take_length])
            have HI6 := Lib.hid hfile6
            obtain ⟨g1, g2⟩ := whole_get hfile6 hcalm6
            have HOP6 := Lib.hid (wOpen_there W.heap.size db mb L8 r8.1 nmW wv_size ⟨allL (In.take m), s6⟩ (In.take m) (allL (In.take m)).length 0 w8 h8 g1 g2 (by dsimp only; have := HR8.out; omega) (scan_all (In.take m) HS8.out) (.inl rfl) (fun x => absurd x (Nat.lt_irrefl _)) (HNI.out.kept HK8.out))
            dsimp only at HOP6
            rw [if_neg (Nat.lt_irrefl _), show nmW = { data := #[119] } from rfl] at HOP6
            have HD8 := Lib.hid h8
            clear h8 hfile6 hcalm6 g1 g2

            go_wp2_with fail
            refine HOP6.out.mono ?_
            rintro e w9 ⟨L9, lb9, v9, B9, H9, rfl, h9, k9, f9, hlog9, hB9, hlb9, hH9, hg9, _⟩
            have HR9 := Lib.hid hg9.at_
            obtain ⟨ya, yc, hy9, hyc, _⟩ := hg9
            subst hy9
            have HX9 := Lib.hid (HX8.out.kept k9 (HX8.out.apart HD8.out))
            have HGT9 := Lib.hid (HGT8.out.kept k9 (fun j h1 h2 f => by rcases HF8.out j f with x | x <;> omega))
            have HK9 := Lib.hid (HK8.out.newer k9 (fun j e => (HD8.out.lt e).2))
            have HLA := Lib.hid (wLen_any db lb9 { data := #[119] } _ _ w9 hlog9)
            have HLB2 := Lib.hid (wLen_any db lb5 nmW _ _ w9 HX9.out)
            obtain ⟨iR, hiR, _⟩ := Option.map_eq_some_iff.1 infoRow
            obtain ⟨yl, hyl⟩ : ∃ yl, yl = ((In.take m)).length := ⟨_, rfl⟩
            rw [← hyl] at hyc HLA HR9 ⊢
            have hgy : gl ≤ yl := by rw [hyl, HGL.out.1]; rw [HGQ.out]; exact Nat.le_refl _
            have hca := fun w => run_cutHr (P := Tryd.prog) Tryd.underlying30 hiR ya yl yc gl (Nat.le_trans hgy hyc) w
            have hcb := fun w => run_cutHrAt (P := Tryd.prog) Tryd.underlying30 hiR ya yl yc gl (Nat.le_trans hgy hyc) w
            have hrt : RowsAt w9 (.slice ya gl yc) G := by
              have h1 := RowsAt.take (k := gl) HR9.out (by rw [← hyl]; exact hgy)
              rw [HGL.out.1] at h1 ⊢
              rw [show ((In.take m)).take G.length = G from HTK.out] at h1
              exact h1
            have HSM := Lib.hid (same_any (.slice ya gl yc) (.slice ga gl gc) G (by have := HGL.out.2; rw [← HGL.out.1]; omega) w9 hrt HGT9.out.at_)
            have hxe : (yl : Int) = (gl : Int) := by rw [hyl]; have := HGL.out; have := HO5.out.1; rw [List.length_take]; omega
            rw [← hxe] at HLB2
            clear hxe
            clear k9 f9 h9 hlog9 hB9 hlb9 hH9 hyc hgy hrt hyl
            go_wp2_with fail
            refine HLA.out.mono ?_
            rintro e w10 ⟨rfl, rfl⟩
            go_wp2_with fail
            refine HLB2.out.mono ?_
            rintro e w10 ⟨rfl, rfl⟩
            go_wp2_with fail
            refine HSM.out.mono ?_
            rintro e w10 ⟨rfl, k10⟩
            have HK10 := Lib.hid (HK9.out.trans k10)
            clear k10
            go_wp2
            go_ret
            exact ⟨rfl, HK10.out⟩
end Go.Proofs.YtficodklidaheaaDoor
