/- Layer 18: the walk of DiskSure. -/
import Derived.Test.YtdhfalcjohfdkaaSU
import Derived.Test.YtdhfalcjohfdkaaSR
import Derived.Test.YtdhfalcjohfdkaaSK
namespace Go.Proofs.Ytdhfalcjohfdkaa
open Go.RowKit
attribute [local go_sem ↓] Go.wp_at_zero Go.wp_at_succ

set_option maxHeartbeats 16000000 in
set_option maxRecDepth 100000 in
theorem diskSure_walk (ba : Option Addr) (bn bc : Nat) (zb : List Int) (ma : Option Addr) (mn mc : Nat) (zm : List Int) (la : Option Addr) (lc : Nat) (l : List Ac) (ka : Option Addr) (kn kc : Nat) (zk : List Int) (W : World)
    (hb0 : IsRow .u8 W ba bn bc zb) (hm0 : IsRow .u8 W ma mn mc zm) (hl : ActsIn W la l) (hll : l.length ≤ 9223372036854775807) (hk0 : IsRow .i64 W ka kn kc zk) :
    Calls Try.prog 4 #[.slice ba bn bc, .slice ma mn mc, .slice la l.length lc, .slice ka kn kc] W fun e w' => e = .returned (.bool true) ∧ Kept (fun _ => False) W w' := by
  have HA := Lib.hid (awake18_any W)
  obtain ⟨b, hbl, hbb, hbs⟩ := hb0.slAtN 256 wf_u8
  obtain ⟨m, hml, hmb, hms⟩ := hm0.slAtN 256 wf_u8
  obtain ⟨keep, hkl, hkw, hks⟩ := hk0.slAtI
  change SlAt W _ (byV b) at hbs
  change SlAt W _ (byV m) at hms
  change SlAt W _ (vals keep) at hks
  have hbc := (isRow_cap hb0)
  have hmc := (isRow_cap hm0)
  unfold maxLen at hbc hmc
  by_cases h1 : 1000 < bn
  · have q1 : decide (1000 < bn) = true := decide_eq_true h1
    have q1' : (1000 : Int) < (bn : Int) := by omega
    clear hbs hms hks hb0 hm0 hk0 hl
    go_enter Try.func4, Try.ntmps4
    go_wp2_with fail
    refine HA.out.mono ?_
    rintro e w1 ⟨rfl, k1⟩
    have HK1 := Lib.hid k1
    clear k1
    go_wp2
    go_ret
    exact ⟨rfl, HK1.out⟩
  have q1 : decide (1000 < bn) = false := decide_eq_false h1
  have q1' : ¬ (1000 : Int) < (bn : Int) := by omega
  by_cases h2 : 1000 < mn
  · have q2 : decide (1000 < mn) = true := decide_eq_true h2
    have q2' : (1000 : Int) < (mn : Int) := by omega
    clear hbs hms hks hb0 hm0 hk0 hl
    go_enter Try.func4, Try.ntmps4
    go_wp2_with fail
    refine HA.out.mono ?_
    rintro e w1 ⟨rfl, k1⟩
    have HK1 := Lib.hid k1
    clear k1
    go_wp2
    go_ret
    exact ⟨rfl, HK1.out⟩
  have q2 : decide (1000 < mn) = false := decide_eq_false h2
  have q2' : ¬ (1000 : Int) < (mn : Int) := by omega
  have HF := Lib.hid (fun w (k : Kept (fun _ => False) W w) => few18_any la lc l w (hl.at_.kept k) hll (fun x hx => ⟨(hl.ok x hx).A, (hl.ok x hx).B⟩))
  have HFO := Lib.hid (fun h : fewC l = true => fewC_ok h hl.ok)
  have HL := Lib.hid hl
  obtain ⟨fw, hfw⟩ : ∃ f, f = fewC l := ⟨_, rfl⟩
  rw [← hfw] at HF
  have HFW := Lib.hid hfw
  obtain ⟨D1, D2, D3, D4, t0, t1, t2, t3, t4, t5⟩ := sure_begin b m (by omega) (by omega)
  have HT := Lib.hid (And.intro t0 (And.intro t1 (And.intro t2 (And.intro t3 (And.intro t4 t5)))))
  have HB := Lib.hid (And.intro hbl (And.intro hbb hbs))
  have HM := Lib.hid (And.intro hml (And.intro hmb hms))
  have HKEEP := Lib.hid (And.intro hkl (And.intro hkw hks))
  clear hbs hms hks hb0 hm0 hk0 hl hfw t0 t1 t2 t3 t4 t5 hbl hbb hml hmb hkl hkw h1 h2
  go_enter Try.func4, Try.ntmps4
  go_wp2_with fail
  refine HA.out.mono ?_
  rintro e w1 ⟨rfl, k1⟩
  have HK1 := Lib.hid k1
  clear k1
  go_wp2_with fail
  refine (HF.out w1 HK1.out).mono ?_
  rintro e w2 ⟨rfl, rfl⟩
  cases fw with
  | false =>
    go_wp2
    go_ret
    exact ⟨rfl, HK1.out⟩
  | true =>
    have HOK := Lib.hid (HFO.out HFW.out.symm)
    have HNEW := Lib.hid (dNew_any none 0 0 [] rfl 1048576 (by omega) w1 (fun h => absurd h (by simp)) (fun f hf => by cases hf))
    rw [show ([] : List AF).map AF.t = [] from rfl, HT.out.1] at HNEW
    go_wp2_with fail
    refine HNEW.out.mono ?_
    rintro e w2 ⟨_, h2⟩
    obtain ⟨db, mb, L, rfl, h3, k3⟩ := h2 _ rfl
    have h3 := h3.down HK1.out.size
    have HK2 := Lib.hid (HK1.out.trans k3)
    have HDB : Hid (W.heap.size ≤ db) := Lib.hid h3.base.1
    have HC := Lib.hid (dCreate_any W.heap.size db mb L _ nmS (by unfold maxLen; decide) w2 h3)
    rw [HT.out.2.1, show nmS = { data := #[115] } from rfl] at HC
    have HX2 := Lib.hid (fun k hk => (h3.lt (k := k) hk).2)
    clear h2 h3 k3
    go_wp2_with fail
    refine HC.out.mono ?_
    rintro e w3 ⟨L3, rfl, h3, k3, f3⟩
    have HK3 := Lib.hid (HK2.out.newer k3 HX2.out)
    have HC2 := Lib.hid (dAppend_any W.heap.size db mb L3 _ nmS (by unfold maxLen; decide) ba bn bc b HB.out.1 HB.out.2.1 (by omega) w3 h3 (HB.out.2.2.kept HK3.out (fun _ _ x => x)) (fun h0 j e => by have h4 := (HB.out.2.2.blk h0 e).1; have := HDB.out; omega))
    rw [HT.out.2.2.1, show nmS = { data := #[115] } from rfl] at HC2
    have HX3 := Lib.hid (fun k hk => (h3.lt (k := k) hk).2)
    clear h3 k3 f3
    go_wp2_with fail
    refine HC2.out.mono ?_
    rintro e w4 ⟨L4, rfl, h3, k3, f3⟩
    have HK4 := Lib.hid (HK3.out.newer k3 HX3.out)
    have HC3 := Lib.hid (dSync_any W.heap.size db mb L4 _ nmS (by unfold maxLen; decide) w4 h3)
    rw [HT.out.2.2.2.1, show nmS = { data := #[115] } from rfl] at HC3
    have HX4 := Lib.hid (fun k hk => (h3.lt (k := k) hk).2)
    clear h3 k3 f3
    go_wp2_with fail
    refine HC3.out.mono ?_
    rintro e w5 ⟨L5, rfl, h3, k3, f3⟩
    have HK5 := Lib.hid (HK4.out.newer k3 HX4.out)
    have HC4 := Lib.hid (dAppend_any W.heap.size db mb L5 _ nmS (by unfold maxLen; decide) ma mn mc m HM.out.1 HM.out.2.1 (by omega) w5 h3 (HM.out.2.2.kept HK5.out (fun _ _ x => x)) (fun h0 j e => by have h4 := (HM.out.2.2.blk h0 e).1; have := HDB.out; omega))
    rw [HT.out.2.2.2.2.1, show nmS = { data := #[115] } from rfl] at HC4
    have HX5 := Lib.hid (fun k hk => (h3.lt (k := k) hk).2)
    clear h3 k3 f3
    go_wp2_with fail
    refine HC4.out.mono ?_
    rintro e w6 ⟨L6, rfl, h3, k3, f3⟩
    have HK6 := Lib.hid (HK5.out.newer k3 HX5.out)
    have HD6 := Lib.hid h3
    have HRN := Lib.hid (refNewNil_any 1048576 (by omega) w6)
    clear h3 k3 f3
    go_wp2_with fail
    refine HRN.out.mono ?_
    rintro e w7 ⟨rb, rfl, r7, k7, hrb⟩
    have H7 : Half W w7 db mb L6 rb none 0 [] D4 (freshD 1048576 []) := ⟨HD6.out.kept k7 (fun _ _ x => x), r7, (fun k a b => by
      have h4 := (HD6.out.lt a).1
      rcases b with b | ⟨b, _⟩ | ⟨f, b, _⟩
      · omega
      · exact b rfl
      · cases b), (by have := HK6.out.size; omega), HK6.out.trans k7⟩
    have HH7 := Lib.hid H7
    clear r7 k7 hrb H7
    go_wp2
    go_loopg [11] l.length (fun g s11 wr => ∃ i : Nat, i ≤ l.length ∧ g = l.length - i ∧ s11 = .int .i64 (i : Int) ∧ ∃ Lx ao cp LR D D', Half W wr db mb Lx rb ao cp LR D D' ∧ getM D.L nmS = some ⟨b ++ m, b.length⟩)
    case atStart => exact ⟨0, Nat.zero_le _, rfl, rfl, _, _, _, _, _, _, HH7.out, HT.out.2.2.2.2.2⟩
    case round =>
      obtain ⟨i, hil, rfl, rfl, Lx, ao, cp, LR, D, D', hH, hg⟩ := hrel
      have HH := Lib.hid (And.intro hH hg)
      by_cases hd : i < l.length
      · obtain ⟨g, o, hla, hrec⟩ := (HL.out.at_.kept hH.k) (by omega)
        subst hla
        have hi := List.getElem?_eq_getElem hd
        have hmem : l[i] ∈ l := List.getElem_mem hd
        obtain ⟨x, hx⟩ : ∃ x, x = l[i] := ⟨_, rfl⟩
        rw [← hx] at hi hmem
        have HXO := Lib.hid (HOK.out.2 x hmem)
        have HXI := Lib.hid (HL.out.ok x hmem)
        have c0 := hrec i x hi 0 (.int .i64 x.kind) rfl
        have c1 := hrec i x hi 1 (.string x.A) rfl
        have c2 := hrec i x hi 2 (.string x.B) rfl
        have c3 := hrec i x hi 3 (.int .i64 x.N) rfl
        have c4 := hrec i x hi 4 (.int .i64 x.code) rfl
        have c5 := hrec i x hi 5 (.slice x.ka x.keep.length x.kc) rfl
        rw [Nat.add_zero] at c0
        have hdi : (i : Int) < (l.length : Int) := by omega
        have wi : IntKind.i64.wrap ((i : Int) + 1) = ((i + 1 : Nat) : Int) := by rw [IntWalk.i64_in _ ⟨by omega, by omega⟩]; omega
        have HD := Lib.hid hd
        clear hrec hi hmem hx hd hH hg
        obtain ⟨wa, hwa⟩ : ∃ wa, wa = wr.alloc (.cells x.box 36) := ⟨_, rfl⟩
        obtain ⟨q, hq⟩ : ∃ q, q = wr.heap.size := ⟨_, rfl⟩
        have ka : Kept (fun _ => False) wr wa := by rw [hwa]; exact (Kept.refl _ _).alloc _
        have ba : BoxAt wa q 36 x.box := by rw [hwa, hq]; exact BoxAt.new wr _ _
        have HWA := Lib.hid (And.intro hwa hq)
        have HHA := Lib.hid (HH.out.1.on ka)
        have HDO := Lib.hid (do_any W db mb Lx rb ao cp LR D D' x wa (HH.out.1.on ka) HXO.out)
        clear hwa hq ka
        unfold Ac.box at ba HDO HWA
        obtain ⟨xk, xA, xB, xN, xz, xka, xkc, xkeep⟩ := x
        obtain ⟨xkn, hxkn⟩ : ∃ n, n = xkeep.length := ⟨_, rfl⟩
        dsimp only at c0 c1 c2 c3 c4 c5 ba HDO HWA
        rw [← hxkn] at c5 ba HDO HWA
        have a0 : wa.cell? ⟨q, 0, none⟩ = some (.int .i64 xk) := ba.cell rfl
        have a1 : wa.cell? ⟨q, 1, none⟩ = some (.string xA) := ba.cell rfl
        have a2 : wa.cell? ⟨q, 2, none⟩ = some (.string xB) := ba.cell rfl
        have a3 : wa.cell? ⟨q, 3, none⟩ = some (.int .i64 xN) := ba.cell rfl
        have a4 : wa.cell? ⟨q, 4, none⟩ = some (.int .i64 xz) := ba.cell rfl
        have a5 : wa.cell? ⟨q, 5, none⟩ = some (.slice xka xkn xkc) := ba.cell rfl
        clear ba hxkn
        go_upto_region 13 with fail
        rw [← HWA.out.1, ← HWA.out.2]
        cases eA : (xA.toList == [115]) with
        | true =>
          go_wp2
          go_roundg (l.length - (i + 1))
          case measure => have := HD.out; omega
          case rel => exact ⟨i + 1, HD.out, rfl, rfl, _, _, _, _, _, _, HHA.out, HH.out.2⟩
        | false =>
          cases eB : (xB.toList == [115]) with
          | true =>
            go_wp2
            go_roundg (l.length - (i + 1))
            case measure => have := HD.out; omega
            case rel => exact ⟨i + 1, HD.out, rfl, rfl, _, _, _, _, _, _, HHA.out, HH.out.2⟩
          | false =>
            cases e8 : (xk != 8) with
            | false =>
              go_wp2
              go_roundg (l.length - (i + 1))
              case measure => have := HD.out; omega
              case rel => exact ⟨i + 1, HD.out, rfl, rfl, _, _, _, _, _, _, HHA.out, HH.out.2⟩
            | true =>
              have HGS : Hid (getM (actD D ⟨xk, xA, xB, xN, xz, xka, xkc, xkeep⟩).1.L nmS = some ⟨b ++ m, b.length⟩) := Lib.hid (by
                rw [act_other (fun e => ?_) (fun e => ?_) (bne_iff_ne.1 e8)]
                · exact HH.out.2
                · rw [show xA = nmS from e] at eA; exact absurd eA (by decide +kernel)
                · rw [show xB = nmS from e] at eB; exact absurd eB (by decide +kernel))
              go_wp2_with fail
              refine HDO.out.mono ?_
              rintro e w9 ⟨rfl, L9, ao9, cp9, LR9, H9⟩
              have HH9 := Lib.hid H9
              clear H9
              go_wp2
              go_roundg (l.length - (i + 1))
              case measure => have := HD.out; omega
              case rel => exact ⟨i + 1, HD.out, rfl, rfl, _, _, _, _, _, _, HH9.out, HGS.out⟩
      · obtain rfl : i = l.length := by omega
        have hdi : ¬ (l.length : Int) < (l.length : Int) := by omega
        have hdi' : decide (l.length < l.length) = false := decide_eq_false hd
        have HCR := Lib.hid (dCrash_any W.heap.size db mb Lx D 0 (by unfold I64; omega) wr hH.d)
        obtain ⟨E, hE1, hE2, hE3⟩ := crash_now D
        obtain ⟨G, k, hG1, hG2, hG3, hG4, hG5⟩ := boot_sure (m := m) hE2 (by rw [hE3]; exact hg) keep
        have HE := Lib.hid (And.intro hE1 hE2)
        obtain ⟨C, hC⟩ : ∃ C, C = (b ++ m).take k := ⟨_, rfl⟩
        rw [← hC] at hG4
        have HC := Lib.hid hC
        have HG := Lib.hid (And.intro hG1 (And.intro hG4 hG5))
        have hk1 : bn ≤ k := by have := HB.out.1; omega
        have hk2 : k ≤ bn + mn := by have := HB.out.1; have := HM.out.1; omega
        have HKK := Lib.hid (show Kept (fun _ => False) W wr from hH.k)
        have HXR := Lib.hid (fun k hk => (hH.d.lt (k := k) hk).2)
        clear hH hg hE1 hE2 hE3 hG1 hG2 hG3 hG4 hG5 hil hC
        go_wp2_with fail
        refine HCR.out.mono ?_
        rintro e w10 ⟨rfl, h3, k3⟩
        have HK10 := Lib.hid (HKK.out.newer k3 (fun j e => by rw [e]; exact HDB.out))
        have HSY := Lib.hid (dSync_any W.heap.size db mb Lx _ nmNone (by unfold maxLen; decide) w10 h3)
        rw [HE.out.1, show nmNone = { data := #[110, 111, 110, 101] } from rfl] at HSY
        have HX10 := Lib.hid (fun k hk => (h3.lt (k := k) hk).2)
        clear h3 k3
        go_wp2_with fail
        refine HSY.out.mono ?_
        rintro e w11 ⟨L11, rfl, h3, k3, f3⟩
        have HK11 := Lib.hid (HK10.out.newer k3 HX10.out)
        have HDN := Lib.hid (dDown_any W.heap.size db mb L11 _ w11 h3)
        rw [show (E, (13 : Int)).1.down = true from HE.out.2] at HDN
        have HBT := Lib.hid (dBoot_any W.heap.size db mb L11 _ ka kn kc keep HKEEP.out.1 w11 h3 (HKEEP.out.2.2.kept HK11.out (fun _ _ x => x)) (fun h0 j e x => by have h4 := (HKEEP.out.2.2.blk h0 e).1; have := (h3.lt x).2; omega))
        rw [HG.out.1] at HBT
        have HX11 := Lib.hid (fun k hk => (h3.lt (k := k) hk).2)
        clear h3 k3 f3
        go_wp2_with fail
        refine HDN.out.mono ?_
        rintro e w11' ⟨rfl, rfl⟩
        go_wp2_with fail
        refine HBT.out.mono ?_
        rintro e w12 ⟨L12, rfl, h3, k3, f3⟩
        have HK12 := Lib.hid (HK11.out.newer k3 HX11.out)
        have HRD := Lib.hid (dRead_any W.heap.size db mb L12 _ nmS (by unfold maxLen; decide) w12 h3)
        rw [HG.out.2.1, show nmS = { data := #[115] } from rfl] at HRD
        have HSZ := Lib.hid (fun w (q : Kept (fun _ => False) w12 w) => dSize_any W.heap.size db mb L12 _ nmS (by unfold maxLen; decide) w (h3.kept q (fun _ _ x => x)))
        rw [HG.out.2.2, show nmS = { data := #[115] } from rfl] at HSZ
        clear h3 k3 f3
        go_wp2_with fail
        refine HRD.out.mono ?_
        rintro e w13 ⟨a13, c13, rfl, m13⟩
        have hlk : C.length = k := by rw [HC.out, List.length_take, List.length_append, HB.out.1, HM.out.1, Nat.min_eq_left hk2]
        dsimp only at m13 ⊢
        rw [hlk] at m13 ⊢
        have HM13 := Lib.hid m13
        clear m13 hlk
        go_wp2_with fail
        refine (HSZ.out w13 HM13.out.kept).mono ?_
        rintro e w14 ⟨rfl, k14⟩
        have hsl : SlAt w14 (.slice a13 k c13) (byV C) := HM13.out.at_.kept k14 (fun _ _ x => x)
        have HK14 := Lib.hid ((HK12.out.trans HM13.out.kept).trans k14)
        have cv1 := run_strL (HB.out.2.2.kept HK14.out (fun _ _ x => x)) 39 5 9 Try.underlying39 Try.underlying5 Try.underlying9
        have cv2 := run_strL (HM.out.2.2.kept HK14.out (fun _ _ x => x)) 39 5 9 Try.underlying39 Try.underlying5 Try.underlying9
        have sad := strL_add (P := Try.prog) w14 b m (by have := HB.out.1; have := HM.out.1; omega)
        have cv3 := run_strL (hsl.kept ((Kept.refl (fun _ => False) w14).drew) (fun _ _ x => x)) 39 5 9 Try.underlying39 Try.underlying5 Try.underlying9
        rw [HC.out, ← strL_take] at cv3
        obtain ⟨A, hA⟩ : ∃ A, A = strL (b ++ m) := ⟨_, rfl⟩
        have hAs : A.size = bn + mn := by rw [hA, strL_size, List.length_append, HB.out.1, HM.out.1]
        rw [← hA] at cv3 sad
        obtain ⟨X, hX⟩ : ∃ X, X = strL b := ⟨_, rfl⟩
        obtain ⟨Y, hY⟩ : ∃ Y, Y = strL m := ⟨_, rfl⟩
        rw [← hX] at cv1 sad
        rw [← hY] at cv2 sad
        clear hsl hA hX hY k14
        have hge : (bn : Int) ≤ (k : Int) := by omega
        have hA2 : k ≤ A.size := by omega
        have hle : (k : Int) ≤ (A.size : Int) := by omega
        have hbm : (k : Int) ≤ (bn : Int) + (mn : Int) := by omega
        have hA3 : A.size ≤ 2000 := by omega
        have hk0 : (0 : Int) ≤ (k : Int) := by omega
        go_upto_region 21 with fail
        go_wp2
        have HSS : Hid ((fun w' => (convert 39 9 (.slice a13 k c13)).run Try.prog w' = .ok (.string (A.extract 0 k)) w') w14.drew) := Lib.hid cv3
        clear cv1 cv2 cv3 sad
        go_upto_region 22 with fail
        refine AnyBut.start (S := fun w' => (convert 39 9 (.slice a13 k c13)).run Try.prog w' = .ok (.string (A.extract 0 k)) w') (k := 37) (by kernel_rfl) ?_
        refine AnyBut.takeS (i := 0) (v := ?v1) rfl (by kernel_rfl) (Nat.le_of_eq (by kernel_rfl)) (by kernel_rfl) (by kernel_rfl) (fun _ _ _ h => h) (HSS.out) (Or.inl ⟨by kernel_rfl, ?hy1⟩) ?r1
        case hy1 =>
          intro w hSw
          try dsimp only at hSw
          go_simp
          first | (have y0 := hSw; go_simp) | skip
          try with_reducible rfl
        try simp only [Act.put, List.getElem_toArray, List.getElem_cons_zero, List.setIfInBounds_toArray, List.set_cons_zero, List.set_cons_succ]
        refine AnyBut.takeS (i := 1) (v := ?v2) rfl (by kernel_rfl) (Nat.le_of_eq (by kernel_rfl)) (by kernel_rfl) (by kernel_rfl) (fun _ _ _ h => h) (HSS.out) (Or.inl ⟨by kernel_rfl, ?hy2⟩) ?r2
        case hy2 =>
          intro w hSw
          try dsimp only at hSw
          go_simp
          first | (have y0 := hSw; go_simp) | skip
          try with_reducible rfl
        try simp only [Act.put, List.getElem_toArray, List.getElem_cons_succ, List.getElem_cons_zero, List.setIfInBounds_toArray, List.set_cons_zero, List.set_cons_succ]
        refine AnyBut.takeS (i := 2) (v := ?v3) rfl (by kernel_rfl) (Nat.le_of_eq (by kernel_rfl)) (by kernel_rfl) (by kernel_rfl) (fun _ _ _ h => h) (HSS.out) (Or.inl ⟨by kernel_rfl, ?hy3⟩) ?r3
        case hy3 =>
          intro w hSw
          try dsimp only at hSw
          go_simp
          first | (have y0 := hSw; go_simp) | skip
          try with_reducible rfl
        try simp only [Act.put, List.getElem_toArray, List.getElem_cons_succ, List.getElem_cons_zero, List.setIfInBounds_toArray, List.set_cons_zero, List.set_cons_succ]
        refine AnyBut.takeS (i := 3) (v := ?v4) rfl (by kernel_rfl) (Nat.le_of_eq (by kernel_rfl)) (by kernel_rfl) (by kernel_rfl) (fun _ _ _ h => h) (HSS.out) (Or.inl ⟨by kernel_rfl, ?hy4⟩) ?r4
        case hy4 =>
          intro w hSw
          try dsimp only at hSw
          go_simp
          first | (have y0 := hSw; go_simp) | skip
          try with_reducible rfl
        try simp only [Act.put, List.getElem_toArray, List.getElem_cons_succ, List.getElem_cons_zero, List.setIfInBounds_toArray, List.set_cons_zero, List.set_cons_succ]
        refine AnyBut.takeS (i := 4) (v := ?v5) rfl (by kernel_rfl) (Nat.le_of_eq (by kernel_rfl)) (by kernel_rfl) (by kernel_rfl) (fun _ _ _ h => h) (HSS.out) (Or.inl ⟨by kernel_rfl, ?hy5⟩) ?r5
        case hy5 =>
          intro w hSw
          try dsimp only at hSw
          go_simp
          first | (have y0 := hSw; go_simp) | skip
          try with_reducible rfl
        try simp only [Act.put, List.getElem_toArray, List.getElem_cons_succ, List.getElem_cons_zero, List.setIfInBounds_toArray, List.set_cons_zero, List.set_cons_succ]
        refine AnyBut.takeS (i := 5) (v := ?v6) rfl (by kernel_rfl) (Nat.le_of_eq (by kernel_rfl)) (by kernel_rfl) (by kernel_rfl) (fun _ _ _ h => h) (HSS.out) (Or.inl ⟨by kernel_rfl, ?hy6⟩) ?r6
        case hy6 =>
          intro w hSw
          try dsimp only at hSw
          go_simp
          first | (have y0 := hSw; go_simp) | skip
          try with_reducible rfl
        try simp only [Act.put, List.getElem_toArray, List.getElem_cons_succ, List.getElem_cons_zero, List.setIfInBounds_toArray, List.set_cons_zero, List.set_cons_succ]
        refine AnyBut.takeS (i := 6) (v := ?v7) rfl (by kernel_rfl) (Nat.le_of_eq (by kernel_rfl)) (by kernel_rfl) (by kernel_rfl) (fun _ _ _ h => h) (HSS.out) (Or.inl ⟨by kernel_rfl, ?hy7⟩) ?r7
        case hy7 =>
          intro w hSw
          try dsimp only at hSw
          go_simp
          first | (have y0 := hSw; go_simp) | skip
          try with_reducible rfl
        try simp only [Act.put, List.getElem_toArray, List.getElem_cons_succ, List.getElem_cons_zero, List.setIfInBounds_toArray, List.set_cons_zero, List.set_cons_succ]
        refine AnyBut.takeS (i := 7) (v := ?v8) rfl (by kernel_rfl) (Nat.le_of_eq (by kernel_rfl)) (by kernel_rfl) (by kernel_rfl) (fun _ _ _ h => h) (HSS.out) (Or.inl ⟨by kernel_rfl, ?hy8⟩) ?r8
        case hy8 =>
          intro w hSw
          try dsimp only at hSw
          go_simp
          first | (have y0 := hSw; go_simp) | skip
          try with_reducible rfl
        try simp only [Act.put, List.getElem_toArray, List.getElem_cons_succ, List.getElem_cons_zero, List.setIfInBounds_toArray, List.set_cons_zero, List.set_cons_succ]
        refine AnyBut.takeS (i := 8) (v := ?v9) rfl (by kernel_rfl) (Nat.le_of_eq (by kernel_rfl)) (by kernel_rfl) (by kernel_rfl) (fun _ _ _ h => h) (HSS.out) (Or.inl ⟨by kernel_rfl, ?hy9⟩) ?r9
        case hy9 =>
          intro w hSw
          try dsimp only at hSw
          go_simp
          first | (have y0 := hSw; go_simp) | skip
          try with_reducible rfl
        try simp only [Act.put, List.getElem_toArray, List.getElem_cons_succ, List.getElem_cons_zero, List.setIfInBounds_toArray, List.set_cons_zero, List.set_cons_succ]
        refine AnyBut.takeS (i := 9) (v := ?v10) rfl (by kernel_rfl) (Nat.le_of_eq (by kernel_rfl)) (by kernel_rfl) (by kernel_rfl) (fun _ _ _ h => h) (HSS.out) (Or.inl ⟨by kernel_rfl, ?hy10⟩) ?r10
        case hy10 =>
          intro w hSw
          try dsimp only at hSw
          go_simp
          first | (have y0 := hSw; go_simp) | skip
          try with_reducible rfl
        try simp only [Act.put, List.getElem_toArray, List.getElem_cons_succ, List.getElem_cons_zero, List.setIfInBounds_toArray, List.set_cons_zero, List.set_cons_succ]
        refine AnyBut.takeS (i := 10) (v := ?v11) rfl (by kernel_rfl) (Nat.le_of_eq (by kernel_rfl)) (by kernel_rfl) (by kernel_rfl) (fun _ _ _ h => h) (HSS.out) (Or.inl ⟨by kernel_rfl, ?hy11⟩) ?r11
        case hy11 =>
          intro w hSw
          try dsimp only at hSw
          go_simp
          first | (have y0 := hSw; go_simp) | skip
          try with_reducible rfl
        try simp only [Act.put, List.getElem_toArray, List.getElem_cons_succ, List.getElem_cons_zero, List.setIfInBounds_toArray, List.set_cons_zero, List.set_cons_succ]
        refine AnyBut.takeS (i := 11) (v := ?v12) rfl (by kernel_rfl) (Nat.le_of_eq (by kernel_rfl)) (by kernel_rfl) (by kernel_rfl) (fun _ _ _ h => h) (HSS.out) (Or.inl ⟨by kernel_rfl, ?hy12⟩) ?r12
        case hy12 =>
          intro w hSw
          try dsimp only at hSw
          go_simp
          first | (have y0 := hSw; go_simp) | skip
          try with_reducible rfl
        try simp only [Act.put, List.getElem_toArray, List.getElem_cons_succ, List.getElem_cons_zero, List.setIfInBounds_toArray, List.set_cons_zero, List.set_cons_succ]
        refine AnyBut.takeS (i := 12) (v := ?v13) rfl (by kernel_rfl) (Nat.le_of_eq (by kernel_rfl)) (by kernel_rfl) (by kernel_rfl) (fun _ _ _ h => h) (HSS.out) (Or.inl ⟨by kernel_rfl, ?hy13⟩) ?r13
        case hy13 =>
          intro w hSw
          try dsimp only at hSw
          go_simp
          first | (have y0 := hSw; go_simp) | skip
          try with_reducible rfl
        try simp only [Act.put, List.getElem_toArray, List.getElem_cons_succ, List.getElem_cons_zero, List.setIfInBounds_toArray, List.set_cons_zero, List.set_cons_succ]
        refine AnyBut.takeS (i := 13) (v := ?v14) rfl (by kernel_rfl) (Nat.le_of_eq (by kernel_rfl)) (by kernel_rfl) (by kernel_rfl) (fun _ _ _ h => h) (HSS.out) (Or.inl ⟨by kernel_rfl, ?hy14⟩) ?r14
        case hy14 =>
          intro w hSw
          try dsimp only at hSw
          go_simp
          first | (have y0 := hSw; go_simp) | skip
          try with_reducible rfl
        try simp only [Act.put, List.getElem_toArray, List.getElem_cons_succ, List.getElem_cons_zero, List.setIfInBounds_toArray, List.set_cons_zero, List.set_cons_succ]
        refine AnyBut.takeS (i := 14) (v := ?v15) rfl (by kernel_rfl) (Nat.le_of_eq (by kernel_rfl)) (by kernel_rfl) (by kernel_rfl) (fun _ _ _ h => h) (HSS.out) (Or.inl ⟨by kernel_rfl, ?hy15⟩) ?r15
        case hy15 =>
          intro w hSw
          try dsimp only at hSw
          go_simp
          first | (have y0 := hSw; go_simp) | skip
          try with_reducible rfl
        try simp only [Act.put, List.getElem_toArray, List.getElem_cons_succ, List.getElem_cons_zero, List.setIfInBounds_toArray, List.set_cons_zero, List.set_cons_succ]
        refine AnyBut.takeS (i := 15) (v := ?v16) rfl (by kernel_rfl) (Nat.le_of_eq (by kernel_rfl)) (by kernel_rfl) (by kernel_rfl) (fun _ _ _ h => h) (HSS.out) (Or.inl ⟨by kernel_rfl, ?hy16⟩) ?r16
        case hy16 =>
          intro w hSw
          try dsimp only at hSw
          go_simp
          first | (have y0 := hSw; go_simp) | skip
          try with_reducible rfl
        try simp only [Act.put, List.getElem_toArray, List.getElem_cons_succ, List.getElem_cons_zero, List.setIfInBounds_toArray, List.set_cons_zero, List.set_cons_succ]
        refine AnyBut.takeS (i := 16) (v := ?v17) rfl (by kernel_rfl) (Nat.le_of_eq (by kernel_rfl)) (by kernel_rfl) (by kernel_rfl) (fun _ _ _ h => h) (HSS.out) (Or.inl ⟨by kernel_rfl, ?hy17⟩) ?r17
        case hy17 =>
          intro w hSw
          try dsimp only at hSw
          go_simp
          first | (have y0 := hSw; go_simp) | skip
          try with_reducible rfl
        try simp only [Act.put, List.getElem_toArray, List.getElem_cons_succ, List.getElem_cons_zero, List.setIfInBounds_toArray, List.set_cons_zero, List.set_cons_succ]
        refine AnyBut.takeS (i := 17) (v := ?v18) rfl (by kernel_rfl) (Nat.le_of_eq (by kernel_rfl)) (by kernel_rfl) (by kernel_rfl) (fun _ _ _ h => h) (HSS.out) (Or.inl ⟨by kernel_rfl, ?hy18⟩) ?r18
        case hy18 =>
          intro w hSw
          try dsimp only at hSw
          go_simp
          first | (have y0 := hSw; go_simp) | skip
          try with_reducible rfl
        try simp only [Act.put, List.getElem_toArray, List.getElem_cons_succ, List.getElem_cons_zero, List.setIfInBounds_toArray, List.set_cons_zero, List.set_cons_succ]
        refine AnyBut.takeS (i := 18) (v := ?v19) rfl (by kernel_rfl) (Nat.le_of_eq (by kernel_rfl)) (by kernel_rfl) (by kernel_rfl) (fun _ _ _ h => h) (HSS.out) (Or.inl ⟨by kernel_rfl, ?hy19⟩) ?r19
        case hy19 =>
          intro w hSw
          try dsimp only at hSw
          go_simp
          first | (have y0 := hSw; go_simp) | skip
          try with_reducible rfl
        try simp only [Act.put, List.getElem_toArray, List.getElem_cons_succ, List.getElem_cons_zero, List.setIfInBounds_toArray, List.set_cons_zero, List.set_cons_succ]
        refine AnyBut.takeS (i := 19) (v := ?v20) rfl (by kernel_rfl) (Nat.le_of_eq (by kernel_rfl)) (by kernel_rfl) (by kernel_rfl) (fun _ _ _ h => h) (HSS.out) (Or.inl ⟨by kernel_rfl, ?hy20⟩) ?r20
        case hy20 =>
          intro w hSw
          try dsimp only at hSw
          go_simp
          first | (have y0 := hSw; go_simp) | skip
          try with_reducible rfl
        try simp only [Act.put, List.getElem_toArray, List.getElem_cons_succ, List.getElem_cons_zero, List.setIfInBounds_toArray, List.set_cons_zero, List.set_cons_succ]
        refine AnyBut.takeS (i := 20) (v := ?v21) rfl (by kernel_rfl) (Nat.le_of_eq (by kernel_rfl)) (by kernel_rfl) (by kernel_rfl) (fun _ _ _ h => h) (HSS.out) (Or.inl ⟨by kernel_rfl, ?hy21⟩) ?r21
        case hy21 =>
          intro w hSw
          try dsimp only at hSw
          go_simp
          first | (have y0 := hSw; go_simp) | skip
          try with_reducible rfl
        try simp only [Act.put, List.getElem_toArray, List.getElem_cons_succ, List.getElem_cons_zero, List.setIfInBounds_toArray, List.set_cons_zero, List.set_cons_succ]
        refine AnyBut.takeS (i := 21) (v := ?v22) rfl (by kernel_rfl) (Nat.le_of_eq (by kernel_rfl)) (by kernel_rfl) (by kernel_rfl) (fun _ _ _ h => h) (HSS.out) (Or.inl ⟨by kernel_rfl, ?hy22⟩) ?r22
        case hy22 =>
          intro w hSw
          try dsimp only at hSw
          go_simp
          first | (have y0 := hSw; go_simp) | skip
          try with_reducible rfl
        try simp only [Act.put, List.getElem_toArray, List.getElem_cons_succ, List.getElem_cons_zero, List.setIfInBounds_toArray, List.set_cons_zero, List.set_cons_succ]
        refine AnyBut.takeS (i := 22) (v := ?v23) rfl (by kernel_rfl) (Nat.le_of_eq (by kernel_rfl)) (by kernel_rfl) (by kernel_rfl) (fun _ _ _ h => h) (HSS.out) (Or.inl ⟨by kernel_rfl, ?hy23⟩) ?r23
        case hy23 =>
          intro w hSw
          try dsimp only at hSw
          go_simp
          first | (have y0 := hSw; go_simp) | skip
          try with_reducible rfl
        try simp only [Act.put, List.getElem_toArray, List.getElem_cons_succ, List.getElem_cons_zero, List.setIfInBounds_toArray, List.set_cons_zero, List.set_cons_succ]
        refine AnyBut.takeS (i := 23) (v := ?v24) rfl (by kernel_rfl) (Nat.le_of_eq (by kernel_rfl)) (by kernel_rfl) (by kernel_rfl) (fun _ _ _ h => h) (HSS.out) (Or.inl ⟨by kernel_rfl, ?hy24⟩) ?r24
        case hy24 =>
          intro w hSw
          try dsimp only at hSw
          go_simp
          first | (have y0 := hSw; go_simp) | skip
          try with_reducible rfl
        try simp only [Act.put, List.getElem_toArray, List.getElem_cons_succ, List.getElem_cons_zero, List.setIfInBounds_toArray, List.set_cons_zero, List.set_cons_succ]
        refine AnyBut.takeS (i := 24) (v := ?v25) rfl (by kernel_rfl) (Nat.le_of_eq (by kernel_rfl)) (by kernel_rfl) (by kernel_rfl) (fun _ _ _ h => h) (HSS.out) (Or.inl ⟨by kernel_rfl, ?hy25⟩) ?r25
        case hy25 =>
          intro w hSw
          try dsimp only at hSw
          go_simp
          first | (have y0 := hSw; go_simp) | skip
          try with_reducible rfl
        try simp only [Act.put, List.getElem_toArray, List.getElem_cons_succ, List.getElem_cons_zero, List.setIfInBounds_toArray, List.set_cons_zero, List.set_cons_succ]
        refine AnyBut.takeS (i := 25) (v := ?v26) rfl (by kernel_rfl) (Nat.le_of_eq (by kernel_rfl)) (by kernel_rfl) (by kernel_rfl) (fun _ _ _ h => h) (HSS.out) (Or.inl ⟨by kernel_rfl, ?hy26⟩) ?r26
        case hy26 =>
          intro w hSw
          try dsimp only at hSw
          go_simp
          first | (have y0 := hSw; go_simp) | skip
          try with_reducible rfl
        try simp only [Act.put, List.getElem_toArray, List.getElem_cons_succ, List.getElem_cons_zero, List.setIfInBounds_toArray, List.set_cons_zero, List.set_cons_succ]
        refine AnyBut.takeS (i := 26) (v := ?v27) rfl (by kernel_rfl) (Nat.le_of_eq (by kernel_rfl)) (by kernel_rfl) (by kernel_rfl) (fun _ _ _ h => h) (HSS.out) (Or.inl ⟨by kernel_rfl, ?hy27⟩) ?r27
        case hy27 =>
          intro w hSw
          try dsimp only at hSw
          go_simp
          first | (have y0 := hSw; go_simp) | skip
          try with_reducible rfl
        try simp only [Act.put, List.getElem_toArray, List.getElem_cons_succ, List.getElem_cons_zero, List.setIfInBounds_toArray, List.set_cons_zero, List.set_cons_succ]
        refine AnyBut.takeS (i := 27) (v := ?v28) rfl (by kernel_rfl) (Nat.le_of_eq (by kernel_rfl)) (by kernel_rfl) (by kernel_rfl) (fun _ _ _ h => h) (HSS.out) (Or.inl ⟨by kernel_rfl, ?hy28⟩) ?r28
        case hy28 =>
          intro w hSw
          try dsimp only at hSw
          go_simp
          first | (have y0 := hSw; go_simp) | skip
          try with_reducible rfl
        try simp only [Act.put, List.getElem_toArray, List.getElem_cons_succ, List.getElem_cons_zero, List.setIfInBounds_toArray, List.set_cons_zero, List.set_cons_succ]
        refine AnyBut.takeS (i := 28) (v := ?v29) rfl (by kernel_rfl) (Nat.le_of_eq (by kernel_rfl)) (by kernel_rfl) (by kernel_rfl) (fun _ _ _ h => h) (HSS.out) (Or.inl ⟨by kernel_rfl, ?hy29⟩) ?r29
        case hy29 =>
          intro w hSw
          try dsimp only at hSw
          go_simp
          first | (have y0 := hSw; go_simp) | skip
          try with_reducible rfl
        try simp only [Act.put, List.getElem_toArray, List.getElem_cons_succ, List.getElem_cons_zero, List.setIfInBounds_toArray, List.set_cons_zero, List.set_cons_succ]
        refine AnyBut.takeS (i := 29) (v := ?v30) rfl (by kernel_rfl) (Nat.le_of_eq (by kernel_rfl)) (by kernel_rfl) (by kernel_rfl) (fun _ _ _ h => h) (HSS.out) (Or.inl ⟨by kernel_rfl, ?hy30⟩) ?r30
        case hy30 =>
          intro w hSw
          try dsimp only at hSw
          go_simp
          first | (have y0 := hSw; go_simp) | skip
          try with_reducible rfl
        try simp only [Act.put, List.getElem_toArray, List.getElem_cons_succ, List.getElem_cons_zero, List.setIfInBounds_toArray, List.set_cons_zero, List.set_cons_succ]
        refine AnyBut.takeS (i := 30) (v := ?v31) rfl (by kernel_rfl) (Nat.le_of_eq (by kernel_rfl)) (by kernel_rfl) (by kernel_rfl) (fun _ _ _ h => h) (HSS.out) (Or.inl ⟨by kernel_rfl, ?hy31⟩) ?r31
        case hy31 =>
          intro w hSw
          try dsimp only at hSw
          go_simp
          first | (have y0 := hSw; go_simp) | skip
          try with_reducible rfl
        try simp only [Act.put, List.getElem_toArray, List.getElem_cons_succ, List.getElem_cons_zero, List.setIfInBounds_toArray, List.set_cons_zero, List.set_cons_succ]
        refine AnyBut.takeS (i := 31) (v := ?v32) rfl (by kernel_rfl) (Nat.le_of_eq (by kernel_rfl)) (by kernel_rfl) (by kernel_rfl) (fun _ _ _ h => h) (HSS.out) (Or.inl ⟨by kernel_rfl, ?hy32⟩) ?r32
        case hy32 =>
          intro w hSw
          try dsimp only at hSw
          go_simp
          first | (have y0 := hSw; go_simp) | skip
          try with_reducible rfl
        try simp only [Act.put, List.getElem_toArray, List.getElem_cons_succ, List.getElem_cons_zero, List.setIfInBounds_toArray, List.set_cons_zero, List.set_cons_succ]
        refine AnyBut.takeS (i := 32) (v := ?v33) rfl (by kernel_rfl) (Nat.le_of_eq (by kernel_rfl)) (by kernel_rfl) (by kernel_rfl) (fun _ _ _ h => h) (HSS.out) (Or.inl ⟨by kernel_rfl, ?hy33⟩) ?r33
        case hy33 =>
          intro w hSw
          try dsimp only at hSw
          go_simp
          first | (have y0 := hSw; go_simp) | skip
          try with_reducible rfl
        try simp only [Act.put, List.getElem_toArray, List.getElem_cons_succ, List.getElem_cons_zero, List.setIfInBounds_toArray, List.set_cons_zero, List.set_cons_succ]
        refine AnyBut.takeS (i := 33) (v := ?v34) rfl (by kernel_rfl) (Nat.le_of_eq (by kernel_rfl)) (by kernel_rfl) (by kernel_rfl) (fun _ _ _ h => h) (HSS.out) (Or.inl ⟨by kernel_rfl, ?hy34⟩) ?r34
        case hy34 =>
          intro w hSw
          try dsimp only at hSw
          go_simp
          first | (have y0 := hSw; go_simp) | skip
          try with_reducible rfl
        try simp only [Act.put, List.getElem_toArray, List.getElem_cons_succ, List.getElem_cons_zero, List.setIfInBounds_toArray, List.set_cons_zero, List.set_cons_succ]
        refine AnyBut.takeS (i := 34) (v := ?v35) rfl (by kernel_rfl) (Nat.le_of_eq (by kernel_rfl)) (by kernel_rfl) (by kernel_rfl) (fun _ _ _ h => h) (HSS.out) (Or.inl ⟨by kernel_rfl, ?hy35⟩) ?r35
        case hy35 =>
          intro w hSw
          try dsimp only at hSw
          go_simp
          first | (have y0 := hSw; go_simp) | skip
          try with_reducible rfl
        try simp only [Act.put, List.getElem_toArray, List.getElem_cons_succ, List.getElem_cons_zero, List.setIfInBounds_toArray, List.set_cons_zero, List.set_cons_succ]
        refine AnyBut.takeS (i := 35) (v := ?v36) rfl (by kernel_rfl) (Nat.le_of_eq (by kernel_rfl)) (by kernel_rfl) (by kernel_rfl) (fun _ _ _ h => h) (HSS.out) (Or.inl ⟨by kernel_rfl, ?hy36⟩) ?r36
        case hy36 =>
          intro w hSw
          try dsimp only at hSw
          go_simp
          first | (have y0 := hSw; go_simp) | skip
          try with_reducible rfl
        try simp only [Act.put, List.getElem_toArray, List.getElem_cons_succ, List.getElem_cons_zero, List.setIfInBounds_toArray, List.set_cons_zero, List.set_cons_succ]
        refine AnyBut.takeS (i := 36) (v := ?v37) rfl (by kernel_rfl) (Nat.le_of_eq (by kernel_rfl)) (by kernel_rfl) (by kernel_rfl) (fun _ _ _ h => h) (HSS.out) (Or.inl ⟨by kernel_rfl, ?hy37⟩) ?r37
        case hy37 =>
          intro w hSw
          try dsimp only at hSw
          go_simp
          first | (have y0 := hSw; go_simp) | skip
          try with_reducible rfl
        try simp only [Act.put, List.getElem_toArray, List.getElem_cons_succ, List.getElem_cons_zero, List.setIfInBounds_toArray, List.set_cons_zero, List.set_cons_succ]
        refine AnyBut.done (by kernel_rfl) ?_
        go_wp2
        go_ret
        exact ⟨rfl, HK14.out.drew⟩
end Go.Proofs.Ytdhfalcjohfdkaa
