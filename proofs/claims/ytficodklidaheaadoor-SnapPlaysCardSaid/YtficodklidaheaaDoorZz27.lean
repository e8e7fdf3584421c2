/- Texts put together: X1. -/
import Derived.Test.YtficodklidaheaaDoorZz4
import Derived.Test.YtficodklidaheaaDoorZz15
import Derived.Test.YtficodklidaheaaDoorZz16
import Derived.Test.YtficodklidaheaaDoorZz24
import Derived.Test.YtficodklidaheaaDoorZz25
import Derived.Test.YtficodklidaheaaDoorZz26
/- Layer 20: the walk of SnapPlays (written by tools/gen_XX1.py). -/
namespace Go.Proofs.YtficodklidaheaaDoor
open Go.RowKit
attribute [local go_sem ↓] Go.wp_at_zero Go.wp_at_succ

theorem DK.downB3 {b0 base : Nat} {w : World} {db mb : Nat} {L : List (ByteArray × Fi)} {D : DA} (h : DK base w db mb L D) (hb : b0 ≤ base) : DK b0 w db mb L D :=
  ⟨h.box, h.map, h.perm, fun p hp => (h.data p hp).imp id (fun ⟨g, cur, h1, h2, h3⟩ => ⟨g, cur, h1, Nat.le_trans hb h2, h3⟩), h.sep, ⟨Nat.le_trans hb h.base.1, Nat.le_trans hb h.base.2⟩, h.ok⟩
set_option maxRecDepth 100000 in
set_option maxHeartbeats 32000000 in
theorem snapPlays_walk (fa : Option Addr) (fc : Nat) (F : List AF) (cap : Int) (la : Option Addr) (lc : Nat) (l : List Sa) (W : World)
    (hF : FilesIn W fa F) (hFl : F.length ≤ 9223372036854775807) (_hcap : -9223372036854775808 ≤ cap ∧ cap ≤ 9223372036854775807) (hl : SActs W la l) (hll : l.length ≤ 9223372036854775807) (HNB : Nibs W) :
    Calls Tryd.prog 8 #[.slice fa F.length fc, .int .i64 cap, .slice la l.length lc] W fun e w' => e = .returned (.bool true) ∧ Kept (fun _ => False) W w' := by
  have HA := Lib.hid (awake20_any W HNB)
  have hb0 := nibs_pos2 HNB
  have HNI := Lib.hid HNB
  have HBK := Lib.hid (fun w (k : Kept (fun _ => False) W w) => bulkF_any 2000 fa fc F w (hF.at_.kept k) hFl)
  have hfok : ∀ w, Kept (fun _ => False) W w → ∀ f ∈ F, f.Ok w := fun w k f hf => ⟨(hF.ok f hf).at_.kept k (fun _ _ x => x), (hF.ok f hf).byte, (hF.ok f hf).small, (hF.ok f hf).cap⟩
  obtain ⟨m, hm⟩ : ∃ m, m = F.length := ⟨_, rfl⟩
  have HNW := Lib.hid (fun w (k : Kept (fun _ => False) W w) => dNew_any fa m fc F hm.symm cap (by omega) w (hF.at_.kept k) (hfok w k))
  have HRN := Lib.hid (fun w (k : Kept (fun _ => False) W w) => refNew_any fa m fc F hm.symm cap (by omega) w (hF.at_.kept k) (hfok w k))
  have HOLDF : Hid (∀ k, (∃ f ∈ F, f.b ≠ [] ∧ (Value.slice f.a f.b.length f.c).ownBlock = some k) → k < W.heap.size) := Lib.hid (fun k ⟨f, hf, h0, e⟩ => ((hF.ok f hf).at_.blk (byV_ne' h0) e).1)
  obtain ⟨r, hr⟩ : ∃ r, r = newD (F.map AF.t) cap := ⟨_, rfl⟩
  rw [← hr] at HNW HRN
  have HL := Lib.hid hl
  obtain ⟨n, hn⟩ : ∃ n, n = l.length := ⟨_, rfl⟩
  have HLN := Lib.hid hn
  rw [← hm] at HBK ⊢
  rw [← hn] at hll ⊢
  clear hfok hF hl hr hm hFl hn HNB
  go_enter Tryd.func8, Tryd.ntmps8
  go_wp2_with fail
  refine HA.out.mono ?_
  rintro e w1 ⟨rfl, k1⟩
  have HK1 := Lib.hid k1
  clear k1
  go_wp2_with fail
  refine (HBK.out w1 HK1.out).mono ?_
  rintro e w2 ⟨z, rfl, rfl⟩
  by_cases hz : 2000 < z
  · have qz : decide (2000 < z) = true := decide_eq_true hz
    go_wp2
    go_ret
    exact ⟨rfl, HK1.out⟩
  have qz : decide (2000 < z) = false := decide_eq_false hz
  by_cases h10 : 10 < m
  · have q10 : (10 : Int) < (m : Int) := by omega
    have q10' : decide (10 < m) = true := decide_eq_true h10
    go_wp2
    go_ret
    exact ⟨rfl, HK1.out⟩
  have q10 : ¬ (10 : Int) < (m : Int) := by omega
  have q10' : decide (10 < m) = false := decide_eq_false h10
  by_cases h30 : 30 < n
  · have q30 : (30 : Int) < (n : Int) := by omega
    have q30' : decide (30 < n) = true := decide_eq_true h30
    go_wp2
    go_ret
    exact ⟨rfl, HK1.out⟩
  have q30 : ¬ (30 : Int) < (n : Int) := by omega
  have q30' : decide (30 < n) = false := decide_eq_false h30
  clear h10 h30 hz
  go_wp2_with fail
  refine (HNW.out w1 HK1.out).mono ?_
  intro e w2 hnew
  cases r with
  | none =>
    obtain ⟨rfl, k2⟩ := hnew.1 rfl
    have HK2 := Lib.hid (HK1.out.trans k2)
    clear hnew k2
    go_wp2_with fail
    refine (HRN.out w2 HK2.out).mono ?_
    intro e w3 hrn
    obtain ⟨rfl, k3⟩ := hrn.1 rfl
    have HK3 := Lib.hid (HK2.out.trans k3)
    clear hrn k3
    go_wp2
    go_ret
    exact ⟨rfl, HK3.out⟩
  | some D =>
    obtain ⟨db, mb, L, rfl, h2, k2⟩ := hnew.2 _ rfl
    have HK2 := Lib.hid (HK1.out.trans k2)
    have HD2 := Lib.hid h2
    clear hnew k2 h2
    go_wp2_with fail
    refine (HRN.out w2 HK2.out).mono ?_
    intro e w3 hrn
    obtain ⟨rb, ax, cx, LR, rfl, r3, k3, hrb, hft⟩ := hrn.2 _ rfl
    have HH : Hid (Half W w3 db mb L rb ax cx LR D D) := Lib.hid ⟨(HD2.out.kept k3 (fun _ _ x => x)).downB3 HK1.out.size, r3, (fun k a b => by
      have h4 := (HD2.out.lt a)
      have h5 := HK1.out.size
      rcases hft k b with x | x
      · omega
      · have := HOLDF.out k x
        omega), Nat.le_trans HK2.out.size hrb, HK2.out.trans k3⟩
    clear hrn r3 k3 hrb hft
    go_wp2
    go_loopg [9] n (fun g s9 wr => ∃ i : Nat, i ≤ n ∧ g = n - i ∧ s9 = .int .i64 (i : Int) ∧ ∃ Lx ao cp LR D, Half W wr db mb Lx rb ao cp LR D D)
    case atStart => exact ⟨0, Nat.zero_le _, rfl, rfl, _, _, _, _, _, HH.out⟩
    case round =>
      obtain ⟨i, hil, rfl, rfl, Lx, ao, cp, LRx, Dx, hH⟩ := hrel
      by_cases hd : i < n
      · obtain ⟨x, hx⟩ : ∃ x, l[i]? = some x := ⟨_, List.getElem?_eq_getElem (by rw [← HLN.out]; exact hd)⟩
        have hin := HL.out.ok x (List.mem_of_getElem? hx)
        obtain ⟨g, o, hla, hrec⟩ := (HL.out.at_.kept hH.k) (by rw [← HLN.out]; omega)
        subst hla
        have c0 := hrec i x hx 0 (.int .i64 x.kind) rfl
        have c1 := hrec i x hx 1 (.int .i64 x.N) rfl
        have c2 := hrec i x hx 2 (.string x.A) rfl
        have c3 := hrec i x hx 3 (.string x.B) rfl
        have c4 := hrec i x hx 4 (.int .i64 x.code) rfl
        have c5 := hrec i x hx 5 (.slice x.ka x.keep.length x.kc) rfl
        rw [Nat.add_zero] at c0
        have hdi : (i : Int) < (n : Int) := by omega
        have wi : IntKind.i64.wrap ((i : Int) + 1) = ((i + 1 : Nat) : Int) := by rw [IntWalk.i64_in _ ⟨by omega, by omega⟩]; omega
        have HD := Lib.hid hd
        obtain ⟨xk, xN, xA, xB, xz, xka, xkc, xkeep⟩ := x
        obtain ⟨kn, hkn⟩ : ∃ n, n = xkeep.length := ⟨_, rfl⟩
        have hAs := hin.A
        have hBs := hin.B
        dsimp only at c0 c1 c2 c3 c4 c5 hAs hBs
        unfold maxLen at hAs hBs
        have HIN : Hid (I64 xN ∧ (∀ k ∈ xkeep, I64 k) ∧ SlAt W (.slice xka kn xkc) (vals xkeep)) := Lib.hid ⟨hin.N, hin.keep, by rw [hkn]; exact hin.at_⟩
        rw [← hkn] at c5
        have HKN := Lib.hid hkn
        obtain ⟨q, hq⟩ : ∃ q, q = wr.heap.size := ⟨_, rfl⟩
        obtain ⟨wa, hwa⟩ : ∃ wa, wa = wr.alloc (.cells #[.int .i64 xk, .int .i64 xN, .string xA, .string xB, .int .i64 xz, .slice xka kn xkc] 71) := ⟨_, rfl⟩
        have ka : Kept (fun _ => False) wr wa := by rw [hwa]; exact (Kept.refl _ _).alloc _
        have BA : BoxAt wa q 71 #[.int .i64 xk, .int .i64 xN, .string xA, .string xB, .int .i64 xz, .slice xka kn xkc] := by rw [hwa, hq]; exact BoxAt.new wr _ _
        have HQ := Lib.hid (hH.old (q := q) (by omega))
        have HHA := Lib.hid (hH.on ka)
        have HBA := Lib.hid BA
        have HWA := Lib.hid (And.intro hwa hq)
        have d0 : wa.cell? ⟨q, 0, none⟩ = some (.int .i64 xk) := BA.cell rfl
        have d1 : wa.cell? ⟨q, 1, none⟩ = some (.int .i64 xN) := BA.cell rfl
        have d2 : wa.cell? ⟨q, 2, none⟩ = some (.string xA) := BA.cell rfl
        have d3 : wa.cell? ⟨q, 3, none⟩ = some (.string xB) := BA.cell rfl
        have d4 : wa.cell? ⟨q, 4, none⟩ = some (.int .i64 xz) := BA.cell rfl
        have d5 : wa.cell? ⟨q, 5, none⟩ = some (.slice xka kn xkc) := BA.cell rfl
        clear hrec hx hin hd hH hkn hwa hq ka BA
        go_upto_region 13 with fail
        rw [← HWA.out.1, ← HWA.out.2]
        clear c0 c1 c2 c3 c4 c5
        by_cases hB : 500 < xB.size
        · have q3 : (500 : Int) < (xB.size : Int) := by omega
          have q3' : decide (500 < xB.size) = true := decide_eq_true hB
          go_wp2
          go_ret
          exact ⟨rfl, HHA.out.k⟩
        have q3 : ¬ (500 : Int) < (xB.size : Int) := by omega
        have q3' : decide (500 < xB.size) = false := decide_eq_false hB
        by_cases hA : 100 < xA.size
        · have q2 : (100 : Int) < (xA.size : Int) := by omega
          have q2' : decide (100 < xA.size) = true := decide_eq_true hA
          go_wp2
          go_ret
          exact ⟨rfl, HHA.out.k⟩
        have q2 : ¬ (100 : Int) < (xA.size : Int) := by omega
        have q2' : decide (100 < xA.size) = false := decide_eq_false hA
        by_cases hK : 20 < kn
        · have q4 : (20 : Int) < (kn : Int) := by omega
          have q4' : decide (20 < kn) = true := decide_eq_true hK
          go_wp2
          go_ret
          exact ⟨rfl, HHA.out.k⟩
        have q4 : ¬ (20 : Int) < (kn : Int) := by omega
        have q4' : decide (20 < kn) = false := decide_eq_false hK
        have HSZ := Lib.hid (show xA.size ≤ 1000 ∧ xB.size ≤ 500 from ⟨by omega, by omega⟩)
        clear hA hB hK
        go_upto_region 16 with fail
        clear d0 q2 q2' q3 q3' q4 q4'
        by_cases e0 : xk = 0
        · subst e0
          obtain ⟨r, hr⟩ : ∃ r, r = saveD Dx xA (bl xB) := ⟨_, rfl⟩
          have HR := Lib.hid hr
          have kd : Kept (fun _ => False) wa wa.drew := (Kept.refl _ _).drew
          have HHD := Lib.hid (HHA.out.on kd)
          have HBD := Lib.hid (HBA.out.kept kd (fun x => x))
          have HS0 : Hid ((fun w' => w'.cell? ⟨q, 2, none⟩ = some (.string xA) ∧ w'.cell? ⟨q, 3, none⟩ = some (.string xB) ∧ w'.cell? ⟨q, 5, none⟩ = some (.slice xka kn xkc)) wa.drew) := Lib.hid ⟨HBD.out.cell rfl, HBD.out.cell rfl, HBD.out.cell rfl⟩
          have HZ0 : Hid (wa.heap.size ≤ wa.drew.heap.size) := Lib.hid (Nat.le_refl _)
          have HOLD : Hid (∀ j, wa.heap.size ≤ j → ¬ foot db mb Lx j) := Lib.hid (fun j hj x => by have := (HHA.out.d.lt x).1; omega)
          clear hr kd d1 d2 d3 d4 d5
          go_upto_region 17 with fail
          refine AnyBut.start (S := fun w' => w'.cell? ⟨q, 2, none⟩ = some (.string xA) ∧ w'.cell? ⟨q, 3, none⟩ = some (.string xB) ∧ w'.cell? ⟨q, 5, none⟩ = some (.slice xka kn xkc)) (k := 15) (by kernel_rfl) ?_
          refine AnyBut.takeS (i := 0) (v := ?v1) rfl (by kernel_rfl) (Nat.le_of_eq (by kernel_rfl)) (by kernel_rfl) (by kernel_rfl) (fun _ _ _ h => h) (HS0.out) (Or.inl ⟨by kernel_rfl, ?hy1⟩) ?r1
          case hy1 =>
            intro w hSw
            try dsimp only at hSw
            go_simp
            first | (obtain ⟨y0, y1, y2⟩ := hSw; go_simp) | skip
            try with_reducible rfl
          try simp only [Act.put, List.getElem_toArray, List.getElem_cons_zero, List.setIfInBounds_toArray, List.set_cons_zero, List.set_cons_succ]
          refine AnyBut.takeS (i := 1) (v := ?v2) rfl (by kernel_rfl) (Nat.le_of_eq (by kernel_rfl)) (by kernel_rfl) (by kernel_rfl) (fun _ _ _ h => h) (HS0.out) (Or.inl ⟨by kernel_rfl, ?hy2⟩) ?r2
          case hy2 =>
            intro w hSw
            try dsimp only at hSw
            go_simp
            first | (obtain ⟨y0, y1, y2⟩ := hSw; go_simp) | skip
            try with_reducible rfl
          try simp only [Act.put, List.getElem_toArray, List.getElem_cons_succ, List.getElem_cons_zero, List.setIfInBounds_toArray, List.set_cons_zero, List.set_cons_succ]
          refine AnyBut.takeS (i := 2) (v := ?v3) rfl (by kernel_rfl) (Nat.le_of_eq (by kernel_rfl)) (by kernel_rfl) (by kernel_rfl) (fun _ _ _ h => h) (HS0.out) (Or.inl ⟨by kernel_rfl, ?hy3⟩) ?r3
          case hy3 =>
            intro w hSw
            try dsimp only at hSw
            go_simp
            first | (obtain ⟨y0, y1, y2⟩ := hSw; go_simp) | skip
            try with_reducible rfl
          try simp only [Act.put, List.getElem_toArray, List.getElem_cons_succ, List.getElem_cons_zero, List.setIfInBounds_toArray, List.set_cons_zero, List.set_cons_succ]
          refine AnyBut.takeS (i := 3) (v := ?v4) rfl (by kernel_rfl) (Nat.le_of_eq (by kernel_rfl)) (by kernel_rfl) (by kernel_rfl) (fun _ _ _ h => h) (HS0.out) (Or.inl ⟨by kernel_rfl, ?hy4⟩) ?r4
          case hy4 =>
            intro w hSw
            try dsimp only at hSw
            go_simp
            first | (obtain ⟨y0, y1, y2⟩ := hSw; go_simp) | skip
            try with_reducible rfl
          try simp only [Act.put, List.getElem_toArray, List.getElem_cons_succ, List.getElem_cons_zero, List.setIfInBounds_toArray, List.set_cons_zero, List.set_cons_succ]
          refine AnyBut.takeS (i := 4) (v := ?v5) rfl (by kernel_rfl) (Nat.le_of_eq (by kernel_rfl)) (by kernel_rfl) (by kernel_rfl) (fun _ _ _ h => h) (HS0.out) (Or.inl ⟨by kernel_rfl, ?hy5⟩) ?r5
          case hy5 =>
            intro w hSw
            try dsimp only at hSw
            go_simp
            first | (obtain ⟨y0, y1, y2⟩ := hSw; go_simp) | skip
            try with_reducible rfl
          try simp only [Act.put, List.getElem_toArray, List.getElem_cons_succ, List.getElem_cons_zero, List.setIfInBounds_toArray, List.set_cons_zero, List.set_cons_succ]
          refine AnyBut.takeS (i := 7) (v := ?v6) rfl (by kernel_rfl) (Nat.le_of_eq (by kernel_rfl)) (by kernel_rfl) (by kernel_rfl) (fun _ _ _ h => h) (HS0.out) (Or.inl ⟨by kernel_rfl, ?hy6⟩) ?r6
          case hy6 =>
            intro w hSw
            try dsimp only at hSw
            go_simp
            first | (obtain ⟨y0, y1, y2⟩ := hSw; go_simp) | skip
            try with_reducible rfl
          try simp only [Act.put, List.getElem_toArray, List.getElem_cons_succ, List.getElem_cons_zero, List.setIfInBounds_toArray, List.set_cons_zero, List.set_cons_succ]
          refine AnyBut.takeS (i := 8) (v := ?v7) rfl (by kernel_rfl) (Nat.le_of_eq (by kernel_rfl)) (by kernel_rfl) (by kernel_rfl) (fun _ _ _ h => h) (HS0.out) (Or.inl ⟨by kernel_rfl, ?hy7⟩) ?r7
          case hy7 =>
            intro w hSw
            try dsimp only at hSw
            go_simp
            first | (obtain ⟨y0, y1, y2⟩ := hSw; go_simp) | skip
            try with_reducible rfl
          try simp only [Act.put, List.getElem_toArray, List.getElem_cons_succ, List.getElem_cons_zero, List.setIfInBounds_toArray, List.set_cons_zero, List.set_cons_succ]
          refine AnyBut.takeS (i := 9) (v := ?v8) rfl (by kernel_rfl) (Nat.le_of_eq (by kernel_rfl)) (by kernel_rfl) (by kernel_rfl) (fun _ _ _ h => h) (HS0.out) (Or.inl ⟨by kernel_rfl, ?hy8⟩) ?r8
          case hy8 =>
            intro w hSw
            try dsimp only at hSw
            go_simp
            first | (obtain ⟨y0, y1, y2⟩ := hSw; go_simp) | skip
            try with_reducible rfl
          try simp only [Act.put, List.getElem_toArray, List.getElem_cons_succ, List.getElem_cons_zero, List.setIfInBounds_toArray, List.set_cons_zero, List.set_cons_succ]
          refine AnyBut.takeS (i := 10) (v := ?v9) rfl (by kernel_rfl) (Nat.le_of_eq (by kernel_rfl)) (by kernel_rfl) (by kernel_rfl) (fun _ _ _ h => h) (HS0.out) (Or.inl ⟨by kernel_rfl, ?hy9⟩) ?r9
          case hy9 =>
            intro w hSw
            try dsimp only at hSw
            go_simp
            first | (obtain ⟨y0, y1, y2⟩ := hSw; go_simp) | skip
            try with_reducible rfl
          try simp only [Act.put, List.getElem_toArray, List.getElem_cons_succ, List.getElem_cons_zero, List.setIfInBounds_toArray, List.set_cons_zero, List.set_cons_succ]
          refine AnyBut.takeS (i := 11) (v := ?v10) rfl (by kernel_rfl) (Nat.le_of_eq (by kernel_rfl)) (by kernel_rfl) (by kernel_rfl) (fun _ _ _ h => h) (HS0.out) (Or.inl ⟨by kernel_rfl, ?hy10⟩) ?r10
          case hy10 =>
            intro w hSw
            try dsimp only at hSw
            go_simp
            first | (obtain ⟨y0, y1, y2⟩ := hSw; go_simp) | skip
            try with_reducible rfl
          try simp only [Act.put, List.getElem_toArray, List.getElem_cons_succ, List.getElem_cons_zero, List.setIfInBounds_toArray, List.set_cons_zero, List.set_cons_succ]
          refine AnyBut.two (i := 5) (j := 12) (by kernel_rfl) rfl rfl (fun K hK => ?_) (fun K hK => ?_)
          · obtain ⟨ga, hga⟩ : ∃ ga, ga = (wa.drew).heap.size := ⟨_, rfl⟩
            obtain ⟨ca, hca⟩ : ∃ ca, ca = grownCap (wa.drew) xB.size 0 5 := ⟨_, rfl⟩
            obtain ⟨ww5, hww5⟩ : ∃ ww5, ww5 = Lib.bytesWorld (wa.drew) 5 xB := ⟨_, rfl⟩
            have cv := bytes_run (wa.drew) xB
            rw [← hga, ← hca, ← hww5] at cv
            have kv : Kept (fun _ => False) (wa.drew) ww5 := by rw [hww5]; exact bytes_kept _ _
            have HV5 := Lib.hid (And.intro (slAt_row8 (show SlAt ww5 (.slice (some ⟨ga, 0, none⟩) xB.size ca) (byV (bl xB)) by rw [hww5, hga]; exact bytes_at _ _ _) (fun x hx => bl_lt hx)) (show wa.heap.size ≤ ga by rw [hga]; exact HZ0.out))
            have HH5 := Lib.hid (HHD.out.on kv)
            have HB5 := Lib.hid (HBD.out.kept kv (fun x => x))
            have HS5a : Hid ((fun w' => w'.cell? ⟨q, 2, none⟩ = some (.string xA) ∧ w'.cell? ⟨q, 3, none⟩ = some (.string xB) ∧ w'.cell? ⟨q, 5, none⟩ = some (.slice xka kn xkc)) ww5) := Lib.hid ⟨HB5.out.cell rfl, HB5.out.cell rfl, HB5.out.cell rfl⟩
            have HZ5 : Hid (wa.heap.size ≤ ww5.heap.size) := Lib.hid (Nat.le_trans HZ0.out kv.size)
            clear hga hca hww5 kv
            go_simp
            go_wp2
            clear cv
            refine hK.out _ _ (HS5a.out) ?_
            clear hK K
            try simp only [Act.put, List.getElem_toArray, List.getElem_cons_succ, List.getElem_cons_zero, List.setIfInBounds_toArray, List.set_cons_zero, List.set_cons_succ]
            refine AnyBut.two (i := 6) (j := 12) (by kernel_rfl) rfl rfl (fun K hK => ?_) (fun K hK => ?_)
            · have HC := Lib.hid (sSave_any W.heap.size db mb hb0 Lx Dx xA HSZ.out.1 (some ⟨ga, 0, none⟩) xB.size ca (bl xB) (bl_length xB).symm (ww5) HH5.out.d HV5.out.1 (HNI.out.kept HH5.out.k) (by rw [bl_length]; have := HSZ.out.2; omega))
              rw [← HR.out] at HC
              go_simp
              go_wp2_with fail
              refine HC.out.mono ?_
              intro e ww6 hq
              obtain ⟨L1, rfl, h1, k1⟩ := HH5.out.prog hq
              have HH6a := Lib.hid h1
              have HB6 := Lib.hid (HB5.out.kept k1 (HQ.out.1))
              have HS6 : Hid ((fun w' => w'.cell? ⟨q, 2, none⟩ = some (.string xA) ∧ w'.cell? ⟨q, 3, none⟩ = some (.string xB) ∧ w'.cell? ⟨q, 5, none⟩ = some (.slice xka kn xkc)) ww6) := Lib.hid ⟨HB6.out.cell rfl, HB6.out.cell rfl, HB6.out.cell rfl⟩
              have HZ6 : Hid (wa.heap.size ≤ ww6.heap.size) := Lib.hid (Nat.le_trans HZ5.out k1.size)
              clear hq h1 k1 HC
              go_wp2
              refine hK.out _ _ (HS6.out) ?_
              clear hK K
              try simp only [Act.put, List.getElem_toArray, List.getElem_cons_succ, List.getElem_cons_zero, List.setIfInBounds_toArray, List.set_cons_zero, List.set_cons_succ]
              refine AnyBut.one (i := 12) (by kernel_rfl) rfl (fun K hK => ?_)
              obtain ⟨gb, hgb⟩ : ∃ gb, gb = (ww6).heap.size := ⟨_, rfl⟩
              obtain ⟨cb, hcb⟩ : ∃ cb, cb = grownCap (ww6) xB.size 0 5 := ⟨_, rfl⟩
              obtain ⟨ww12, hww12⟩ : ∃ ww12, ww12 = Lib.bytesWorld (ww6) 5 xB := ⟨_, rfl⟩
              have cv := bytes_run (ww6) xB
              rw [← hgb, ← hcb, ← hww12] at cv
              have kv : Kept (fun _ => False) (ww6) ww12 := by rw [hww12]; exact bytes_kept _ _
              have HV12 := Lib.hid (And.intro (slAt_row8 (show SlAt ww12 (.slice (some ⟨gb, 0, none⟩) xB.size cb) (byV (bl xB)) by rw [hww12, hgb]; exact bytes_at _ _ _) (fun x hx => bl_lt hx)) (show wa.heap.size ≤ gb by rw [hgb]; exact HZ6.out))
              have HH12 := Lib.hid (HH6a.out.on kv)
              have HB12 := Lib.hid (HB6.out.kept kv (fun x => x))
              have HS12 : Hid ((fun w' => w'.cell? ⟨q, 2, none⟩ = some (.string xA) ∧ w'.cell? ⟨q, 3, none⟩ = some (.string xB) ∧ w'.cell? ⟨q, 5, none⟩ = some (.slice xka kn xkc)) ww12) := Lib.hid ⟨HB12.out.cell rfl, HB12.out.cell rfl, HB12.out.cell rfl⟩
              have HZ12 : Hid (wa.heap.size ≤ ww12.heap.size) := Lib.hid (Nat.le_trans HZ6.out kv.size)
              clear hgb hcb hww12 kv
              go_simp
              go_wp2
              clear cv
              refine hK.out _ _ (HS12.out) ?_
              clear hK K
              try simp only [Act.put, List.getElem_toArray, List.getElem_cons_succ, List.getElem_cons_zero, List.setIfInBounds_toArray, List.set_cons_zero, List.set_cons_succ]
              refine AnyBut.one (i := 13) (by kernel_rfl) rfl (fun K hK => ?_)
              have HC := Lib.hid (refSave_any rb ao cp LRx Dx xA HSZ.out.1 (some ⟨gb, 0, none⟩) xB.size cb (bl xB) (bl_length xB) (by rw [bl_length]; have := HSZ.out.2; omega) ww12 HH12.out.r HV12.out.1)
              rw [← HR.out] at HC
              go_simp
              go_wp2_with fail
              refine HC.out.mono ?_
              intro e ww13 hq
              obtain ⟨ao2, cp2, LR2, rfl, h2, k2⟩ := HH12.out.doc hq
              have HF := Lib.hid h2
              have HB13 := Lib.hid (HB12.out.kept k2 (fun e => HQ.out.2 e))
              have HS13 : Hid ((fun w' => w'.cell? ⟨q, 2, none⟩ = some (.string xA) ∧ w'.cell? ⟨q, 3, none⟩ = some (.string xB) ∧ w'.cell? ⟨q, 5, none⟩ = some (.slice xka kn xkc)) ww13) := Lib.hid ⟨HB13.out.cell rfl, HB13.out.cell rfl, HB13.out.cell rfl⟩
              have HZ13 : Hid (wa.heap.size ≤ ww13.heap.size) := Lib.hid (Nat.le_trans HZ12.out k2.size)
              clear hq h2 k2 HC
              go_wp2
              refine hK.out _ _ (HS13.out) ?_
              clear hK K
              try simp only [Act.put, List.getElem_toArray, List.getElem_cons_succ, List.getElem_cons_zero, List.setIfInBounds_toArray, List.set_cons_zero, List.set_cons_succ]
              refine AnyBut.takeS (i := 14) (v := ?v11) rfl (by kernel_rfl) (Nat.le_of_eq (by kernel_rfl)) (by kernel_rfl) (by kernel_rfl) (fun _ _ _ h => h) (HS13.out) (Or.inl ⟨by kernel_rfl, ?hy11⟩) ?r11
              case hy11 =>
                intro w hSw
                try dsimp only at hSw
                go_simp
                first | (obtain ⟨y0, y1, y2⟩ := hSw; go_simp) | skip
                try with_reducible rfl
              try simp only [Act.put, List.getElem_toArray, List.getElem_cons_succ, List.getElem_cons_zero, List.setIfInBounds_toArray, List.set_cons_zero, List.set_cons_succ]
              refine AnyBut.done (by kernel_rfl) ?_
              have HS5 := Lib.hid (same20_any W db mb L1 rb ao2 cp2 LR2 r.1 ww13 HF.out)
              go_wp2_with fail
              refine HS5.out.mono ?_
              rintro e w6 ⟨rfl, k6⟩
              have HH6 := Lib.hid (HF.out.on k6)
              clear k6
              go_wp2
              go_roundg (n - (i + 1))
              case measure => have := HD.out; omega
              case rel => exact ⟨i + 1, HD.out, rfl, rfl, _, _, _, _, _, HH6.out⟩
            · obtain ⟨gb, hgb⟩ : ∃ gb, gb = (ww5).heap.size := ⟨_, rfl⟩
              obtain ⟨cb, hcb⟩ : ∃ cb, cb = grownCap (ww5) xB.size 0 5 := ⟨_, rfl⟩
              obtain ⟨ww12, hww12⟩ : ∃ ww12, ww12 = Lib.bytesWorld (ww5) 5 xB := ⟨_, rfl⟩
              have cv := bytes_run (ww5) xB
              rw [← hgb, ← hcb, ← hww12] at cv
              have kv : Kept (fun _ => False) (ww5) ww12 := by rw [hww12]; exact bytes_kept _ _
              have HV12 := Lib.hid (And.intro (slAt_row8 (show SlAt ww12 (.slice (some ⟨gb, 0, none⟩) xB.size cb) (byV (bl xB)) by rw [hww12, hgb]; exact bytes_at _ _ _) (fun x hx => bl_lt hx)) (show wa.heap.size ≤ gb by rw [hgb]; exact HZ5.out))
              have HH12 := Lib.hid (HH5.out.on kv)
              have HB12 := Lib.hid (HB5.out.kept kv (fun x => x))
              have HS12 : Hid ((fun w' => w'.cell? ⟨q, 2, none⟩ = some (.string xA) ∧ w'.cell? ⟨q, 3, none⟩ = some (.string xB) ∧ w'.cell? ⟨q, 5, none⟩ = some (.slice xka kn xkc)) ww12) := Lib.hid ⟨HB12.out.cell rfl, HB12.out.cell rfl, HB12.out.cell rfl⟩
              have HZ12 : Hid (wa.heap.size ≤ ww12.heap.size) := Lib.hid (Nat.le_trans HZ5.out kv.size)
              replace HV5 := Lib.hid (And.intro (HV5.out.1.kept kv) HV5.out.2)
              clear hgb hcb hww12 kv
              go_simp
              go_wp2
              clear cv
              refine hK.out _ _ (HS12.out) ?_
              clear hK K
              try simp only [Act.put, List.getElem_toArray, List.getElem_cons_succ, List.getElem_cons_zero, List.setIfInBounds_toArray, List.set_cons_zero, List.set_cons_succ]
              refine AnyBut.one (i := 6) (by kernel_rfl) rfl (fun K hK => ?_)
              have HC := Lib.hid (sSave_any W.heap.size db mb hb0 Lx Dx xA HSZ.out.1 (some ⟨ga, 0, none⟩) xB.size ca (bl xB) (bl_length xB).symm (ww12) HH12.out.d HV5.out.1 (HNI.out.kept HH12.out.k) (by rw [bl_length]; have := HSZ.out.2; omega))
              rw [← HR.out] at HC
              go_simp
              go_wp2_with fail
              refine HC.out.mono ?_
              intro e ww6 hq
              obtain ⟨L1, rfl, h1, k1⟩ := HH12.out.prog hq
              have HH6a := Lib.hid h1
              have HB6 := Lib.hid (HB12.out.kept k1 (HQ.out.1))
              have HS6 : Hid ((fun w' => w'.cell? ⟨q, 2, none⟩ = some (.string xA) ∧ w'.cell? ⟨q, 3, none⟩ = some (.string xB) ∧ w'.cell? ⟨q, 5, none⟩ = some (.slice xka kn xkc)) ww6) := Lib.hid ⟨HB6.out.cell rfl, HB6.out.cell rfl, HB6.out.cell rfl⟩
              have HZ6 : Hid (wa.heap.size ≤ ww6.heap.size) := Lib.hid (Nat.le_trans HZ12.out k1.size)
              replace HV12 := Lib.hid (And.intro (row8_keptS HV12.out.1 k1 (fun x e f => HOLD.out x.block (by injection e with e; rw [← e]; exact HV12.out.2) f)) HV12.out.2)
              clear hq h1 k1 HC
              go_wp2
              refine hK.out _ _ (HS6.out) ?_
              clear hK K
              try simp only [Act.put, List.getElem_toArray, List.getElem_cons_succ, List.getElem_cons_zero, List.setIfInBounds_toArray, List.set_cons_zero, List.set_cons_succ]
              refine AnyBut.one (i := 13) (by kernel_rfl) rfl (fun K hK => ?_)
              have HC := Lib.hid (refSave_any rb ao cp LRx Dx xA HSZ.out.1 (some ⟨gb, 0, none⟩) xB.size cb (bl xB) (bl_length xB) (by rw [bl_length]; have := HSZ.out.2; omega) ww6 HH6a.out.r HV12.out.1)
              rw [← HR.out] at HC
              go_simp
              go_wp2_with fail
              refine HC.out.mono ?_
              intro e ww13 hq
              obtain ⟨ao2, cp2, LR2, rfl, h2, k2⟩ := HH6a.out.doc hq
              have HF := Lib.hid h2
              have HB13 := Lib.hid (HB6.out.kept k2 (fun e => HQ.out.2 e))
              have HS13 : Hid ((fun w' => w'.cell? ⟨q, 2, none⟩ = some (.string xA) ∧ w'.cell? ⟨q, 3, none⟩ = some (.string xB) ∧ w'.cell? ⟨q, 5, none⟩ = some (.slice xka kn xkc)) ww13) := Lib.hid ⟨HB13.out.cell rfl, HB13.out.cell rfl, HB13.out.cell rfl⟩
              have HZ13 : Hid (wa.heap.size ≤ ww13.heap.size) := Lib.hid (Nat.le_trans HZ6.out k2.size)
              clear hq h2 k2 HC
              go_wp2
              refine hK.out _ _ (HS13.out) ?_
              clear hK K
              try simp only [Act.put, List.getElem_toArray, List.getElem_cons_succ, List.getElem_cons_zero, List.setIfInBounds_toArray, List.set_cons_zero, List.set_cons_succ]
              refine AnyBut.takeS (i := 14) (v := ?v12) rfl (by kernel_rfl) (Nat.le_of_eq (by kernel_rfl)) (by kernel_rfl) (by kernel_rfl) (fun _ _ _ h => h) (HS13.out) (Or.inl ⟨by kernel_rfl, ?hy12⟩) ?r12
              case hy12 =>
                intro w hSw
                try dsimp only at hSw
                go_simp
                first | (obtain ⟨y0, y1, y2⟩ := hSw; go_simp) | skip
                try with_reducible rfl
              try simp only [Act.put, List.getElem_toArray, List.getElem_cons_succ, List.getElem_cons_zero, List.setIfInBounds_toArray, List.set_cons_zero, List.set_cons_succ]
              refine AnyBut.done (by kernel_rfl) ?_
              have HS5 := Lib.hid (same20_any W db mb L1 rb ao2 cp2 LR2 r.1 ww13 HF.out)
              go_wp2_with fail
              refine HS5.out.mono ?_
              rintro e w6 ⟨rfl, k6⟩
              have HH6 := Lib.hid (HF.out.on k6)
              clear k6
              go_wp2
              go_roundg (n - (i + 1))
              case measure => have := HD.out; omega
              case rel => exact ⟨i + 1, HD.out, rfl, rfl, _, _, _, _, _, HH6.out⟩
          · obtain ⟨gb, hgb⟩ : ∃ gb, gb = (wa.drew).heap.size := ⟨_, rfl⟩
            obtain ⟨cb, hcb⟩ : ∃ cb, cb = grownCap (wa.drew) xB.size 0 5 := ⟨_, rfl⟩
            obtain ⟨ww12, hww12⟩ : ∃ ww12, ww12 = Lib.bytesWorld (wa.drew) 5 xB := ⟨_, rfl⟩
            have cv := bytes_run (wa.drew) xB
            rw [← hgb, ← hcb, ← hww12] at cv
            have kv : Kept (fun _ => False) (wa.drew) ww12 := by rw [hww12]; exact bytes_kept _ _
            have HV12 := Lib.hid (And.intro (slAt_row8 (show SlAt ww12 (.slice (some ⟨gb, 0, none⟩) xB.size cb) (byV (bl xB)) by rw [hww12, hgb]; exact bytes_at _ _ _) (fun x hx => bl_lt hx)) (show wa.heap.size ≤ gb by rw [hgb]; exact HZ0.out))
            have HH12 := Lib.hid (HHD.out.on kv)
            have HB12 := Lib.hid (HBD.out.kept kv (fun x => x))
            have HS12 : Hid ((fun w' => w'.cell? ⟨q, 2, none⟩ = some (.string xA) ∧ w'.cell? ⟨q, 3, none⟩ = some (.string xB) ∧ w'.cell? ⟨q, 5, none⟩ = some (.slice xka kn xkc)) ww12) := Lib.hid ⟨HB12.out.cell rfl, HB12.out.cell rfl, HB12.out.cell rfl⟩
            have HZ12 : Hid (wa.heap.size ≤ ww12.heap.size) := Lib.hid (Nat.le_trans HZ0.out kv.size)
            clear hgb hcb hww12 kv
            go_simp
            go_wp2
            clear cv
            refine hK.out _ _ (HS12.out) ?_
            clear hK K
            try simp only [Act.put, List.getElem_toArray, List.getElem_cons_succ, List.getElem_cons_zero, List.setIfInBounds_toArray, List.set_cons_zero, List.set_cons_succ]
            refine AnyBut.one (i := 5) (by kernel_rfl) rfl (fun K hK => ?_)
            obtain ⟨ga, hga⟩ : ∃ ga, ga = (ww12).heap.size := ⟨_, rfl⟩
            obtain ⟨ca, hca⟩ : ∃ ca, ca = grownCap (ww12) xB.size 0 5 := ⟨_, rfl⟩
            obtain ⟨ww5, hww5⟩ : ∃ ww5, ww5 = Lib.bytesWorld (ww12) 5 xB := ⟨_, rfl⟩
            have cv := bytes_run (ww12) xB
            rw [← hga, ← hca, ← hww5] at cv
            have kv : Kept (fun _ => False) (ww12) ww5 := by rw [hww5]; exact bytes_kept _ _
            have HV5 := Lib.hid (And.intro (slAt_row8 (show SlAt ww5 (.slice (some ⟨ga, 0, none⟩) xB.size ca) (byV (bl xB)) by rw [hww5, hga]; exact bytes_at _ _ _) (fun x hx => bl_lt hx)) (show wa.heap.size ≤ ga by rw [hga]; exact HZ12.out))
            have HH5 := Lib.hid (HH12.out.on kv)
            have HB5 := Lib.hid (HB12.out.kept kv (fun x => x))
            have HS5a : Hid ((fun w' => w'.cell? ⟨q, 2, none⟩ = some (.string xA) ∧ w'.cell? ⟨q, 3, none⟩ = some (.string xB) ∧ w'.cell? ⟨q, 5, none⟩ = some (.slice xka kn xkc)) ww5) := Lib.hid ⟨HB5.out.cell rfl, HB5.out.cell rfl, HB5.out.cell rfl⟩
            have HZ5 : Hid (wa.heap.size ≤ ww5.heap.size) := Lib.hid (Nat.le_trans HZ12.out kv.size)
            replace HV12 := Lib.hid (And.intro (HV12.out.1.kept kv) HV12.out.2)
            clear hga hca hww5 kv
            go_simp
            go_wp2
            clear cv
            refine hK.out _ _ (HS5a.out) ?_
            clear hK K
            try simp only [Act.put, List.getElem_toArray, List.getElem_cons_succ, List.getElem_cons_zero, List.setIfInBounds_toArray, List.set_cons_zero, List.set_cons_succ]
            refine AnyBut.one (i := 6) (by kernel_rfl) rfl (fun K hK => ?_)
            have HC := Lib.hid (sSave_any W.heap.size db mb hb0 Lx Dx xA HSZ.out.1 (some ⟨ga, 0, none⟩) xB.size ca (bl xB) (bl_length xB).symm (ww5) HH5.out.d HV5.out.1 (HNI.out.kept HH5.out.k) (by rw [bl_length]; have := HSZ.out.2; omega))
            rw [← HR.out] at HC
            go_simp
            go_wp2_with fail
            refine HC.out.mono ?_
            intro e ww6 hq
            obtain ⟨L1, rfl, h1, k1⟩ := HH5.out.prog hq
            have HH6a := Lib.hid h1
            have HB6 := Lib.hid (HB5.out.kept k1 (HQ.out.1))
            have HS6 : Hid ((fun w' => w'.cell? ⟨q, 2, none⟩ = some (.string xA) ∧ w'.cell? ⟨q, 3, none⟩ = some (.string xB) ∧ w'.cell? ⟨q, 5, none⟩ = some (.slice xka kn xkc)) ww6) := Lib.hid ⟨HB6.out.cell rfl, HB6.out.cell rfl, HB6.out.cell rfl⟩
            have HZ6 : Hid (wa.heap.size ≤ ww6.heap.size) := Lib.hid (Nat.le_trans HZ5.out k1.size)
            replace HV12 := Lib.hid (And.intro (row8_keptS HV12.out.1 k1 (fun x e f => HOLD.out x.block (by injection e with e; rw [← e]; exact HV12.out.2) f)) HV12.out.2)
            clear hq h1 k1 HC
            go_wp2
            refine hK.out _ _ (HS6.out) ?_
            clear hK K
            try simp only [Act.put, List.getElem_toArray, List.getElem_cons_succ, List.getElem_cons_zero, List.setIfInBounds_toArray, List.set_cons_zero, List.set_cons_succ]
            refine AnyBut.one (i := 13) (by kernel_rfl) rfl (fun K hK => ?_)
            have HC := Lib.hid (refSave_any rb ao cp LRx Dx xA HSZ.out.1 (some ⟨gb, 0, none⟩) xB.size cb (bl xB) (bl_length xB) (by rw [bl_length]; have := HSZ.out.2; omega) ww6 HH6a.out.r HV12.out.1)
            rw [← HR.out] at HC
            go_simp
            go_wp2_with fail
            refine HC.out.mono ?_
            intro e ww13 hq
            obtain ⟨ao2, cp2, LR2, rfl, h2, k2⟩ := HH6a.out.doc hq
            have HF := Lib.hid h2
            have HB13 := Lib.hid (HB6.out.kept k2 (fun e => HQ.out.2 e))
            have HS13 : Hid ((fun w' => w'.cell? ⟨q, 2, none⟩ = some (.string xA) ∧ w'.cell? ⟨q, 3, none⟩ = some (.string xB) ∧ w'.cell? ⟨q, 5, none⟩ = some (.slice xka kn xkc)) ww13) := Lib.hid ⟨HB13.out.cell rfl, HB13.out.cell rfl, HB13.out.cell rfl⟩
            have HZ13 : Hid (wa.heap.size ≤ ww13.heap.size) := Lib.hid (Nat.le_trans HZ6.out k2.size)
            clear hq h2 k2 HC
            go_wp2
            refine hK.out _ _ (HS13.out) ?_
            clear hK K
            try simp only [Act.put, List.getElem_toArray, List.getElem_cons_succ, List.getElem_cons_zero, List.setIfInBounds_toArray, List.set_cons_zero, List.set_cons_succ]
            refine AnyBut.takeS (i := 14) (v := ?v13) rfl (by kernel_rfl) (Nat.le_of_eq (by kernel_rfl)) (by kernel_rfl) (by kernel_rfl) (fun _ _ _ h => h) (HS13.out) (Or.inl ⟨by kernel_rfl, ?hy13⟩) ?r13
            case hy13 =>
              intro w hSw
              try dsimp only at hSw
              go_simp
              first | (obtain ⟨y0, y1, y2⟩ := hSw; go_simp) | skip
              try with_reducible rfl
            try simp only [Act.put, List.getElem_toArray, List.getElem_cons_succ, List.getElem_cons_zero, List.setIfInBounds_toArray, List.set_cons_zero, List.set_cons_succ]
            refine AnyBut.done (by kernel_rfl) ?_
            have HS5 := Lib.hid (same20_any W db mb L1 rb ao2 cp2 LR2 r.1 ww13 HF.out)
            go_wp2_with fail
            refine HS5.out.mono ?_
            rintro e w6 ⟨rfl, k6⟩
            have HH6 := Lib.hid (HF.out.on k6)
            clear k6
            go_wp2
            go_roundg (n - (i + 1))
            case measure => have := HD.out; omega
            case rel => exact ⟨i + 1, HD.out, rfl, rfl, _, _, _, _, _, HH6.out⟩
        by_cases e1 : xk = 1
        · subst e1
          obtain ⟨r, hr⟩ : ∃ r, r = loadD Dx xA := ⟨_, rfl⟩
          have HC := Lib.hid (sLoad_any W.heap.size db mb hb0 Lx Dx xA HSZ.out.1 wa HHA.out.d (HNI.out.kept HHA.out.k))
          rw [← hr] at HC
          have HR := Lib.hid hr
          clear hr d1 d3 d4 d5
          go_wp2_with fail
          refine HC.out.mono ?_
          rintro e w1 ⟨L1, la, lc, rfl, hl1, kl1, fl1, hlr, hln⟩
          obtain ⟨L1', _, h1, k1⟩ := HHA.out.prog (r := (r.1, r.2.2.2)) ⟨L1, rfl, hl1, kl1, fl1⟩
          have HH1 := Lib.hid h1
          have HB1 := Lib.hid (HBA.out.kept k1 HQ.out.1)
          have HLR := Lib.hid (And.intro hlr (fun x (e : la = some x) => (show x.block ≠ rb from fun e2 => by have h5 := (hln x e).1; have h6 := HHA.out.r.lt (k := rb) (.inl rfl); omega)))
          have d2 : w1.cell? ⟨q, 2, none⟩ = some (.string xA) := HB1.out.cell rfl
          have HC2 := Lib.hid (refLoad_any rb ao cp LRx Dx xA HSZ.out.1 w1 h1.r)
          rw [← HR.out] at HC2
          obtain ⟨rl, hrl⟩ : ∃ rl, rl = r.2.1 := ⟨_, rfl⟩
          obtain ⟨rn, hrn⟩ : ∃ rn, rn = rl.length := ⟨_, rfl⟩
          obtain ⟨ri, hri⟩ : ∃ ri, ri = r.2.2.1 := ⟨_, rfl⟩
          obtain ⟨rz, hrz⟩ : ∃ rz, rz = r.2.2.2 := ⟨_, rfl⟩
          unfold RefLoad at HC2
          rw [← hrl, ← hri, ← hrz] at HC2
          rw [← hrl] at HLR
          rw [← hrn] at HC2 HLR
          rw [← hrl, ← hri, ← hrz, ← hrn]
          clear hl1 kl1 fl1 hlr hln h1 k1 hrl hrn hri hrz
          go_wp2_with fail
          refine HC2.out.mono ?_
          rintro e w2 ⟨ao2, cp2, LR2, ga, gc, rfl, hr2, kr2, fr2, hgr⟩
          obtain ⟨ao2', cp2', LR2', _, h2, k2⟩ := HH1.out.doc (r := (r.1, rz)) ⟨ao2, cp2, LR2, rfl, hr2, kr2, fr2⟩
          obtain ⟨p, hp⟩ : ∃ p, p = w2.heap.size := ⟨_, rfl⟩
          obtain ⟨w3, hw3⟩ : ∃ w3, w3 = w2.alloc (.cells #[.slice ga rn gc, .bool ri, .int .i64 rz] 77) := ⟨_, rfl⟩
          have k3 : Kept (fun _ => False) w2 w3 := by rw [hw3]; exact (Kept.refl _ _).alloc _
          have b3 : BoxAt w3 p 77 #[.slice ga rn gc, .bool ri, .int .i64 rz] := by rw [hw3, hp]; exact BoxAt.new w2 _ _
          have HF := Lib.hid (h2.on k3)
          have g0 : w3.cell? ⟨p, 0, none⟩ = some (.slice ga rn gc) := b3.cell rfl
          have g1 : w3.cell? ⟨p, 1, none⟩ = some (.bool ri) := b3.cell rfl
          have g2 : w3.cell? ⟨p, 2, none⟩ = some (.int .i64 rz) := b3.cell rfl
          have cv1 := conv8 ((row8_keptS HLR.out.1 kr2 (fun x e f => HLR.out.2 x e f)).kept k3)
          have cv2 := conv8 (hgr.kept k3)
          obtain ⟨T, hT⟩ : ∃ T, T = strN rl := ⟨_, rfl⟩
          rw [← hT] at cv1 cv2
          have qT : (T.toList == T.toList) = true := beq_self_eq_true _
          have HW3 := Lib.hid (And.intro hw3 hp)
          clear hr2 kr2 fr2 hgr h2 k2 hp hw3 k3 b3 hT d2
          go_upto_region 22 with fail
          rw [← HW3.out.1, ← HW3.out.2]
          have HS5 := Lib.hid (same20_any W db mb L1' rb ao2' cp2' LR2' r.1 w3 HF.out)
          go_wp2_with fail
          refine HS5.out.mono ?_
          rintro e w6 ⟨rfl, k6⟩
          have HH6 := Lib.hid (HF.out.on k6)
          clear k6
          go_wp2
          go_roundg (n - (i + 1))
          case measure => have := HD.out; omega
          case rel => exact ⟨i + 1, HD.out, rfl, rfl, _, _, _, _, _, HH6.out⟩
        by_cases e2 : xk = 2
        · subst e2
          have HFL := Lib.hid (dFail_any W.heap.size db mb Lx Dx xN xz HIN.out.1 wa HHA.out.d)
          clear d2 d3 d5
          go_wp2_with fail
          refine HFL.out.mono ?_
          rintro e w1 ⟨rfl, h1, k1⟩
          obtain ⟨L1, _, H1, K1⟩ := HHA.out.prog (r := (failD Dx xN xz, 0)) (e := .returned (.int .i64 0)) ⟨Lx, rfl, h1, k1.mono (fun _ _ e => .inl e), Foot.refl _ _ _ _⟩
          have b1 := HBA.out.kept K1 HQ.out.1
          have HB1 := Lib.hid b1
          have HH1 := Lib.hid H1
          clear d1 d4 h1 k1 K1 H1
          have d1 : w1.cell? ⟨q, 1, none⟩ = some (.int .i64 xN) := b1.cell rfl
          have d4 : w1.cell? ⟨q, 4, none⟩ = some (.int .i64 xz) := b1.cell rfl
          have HAR := Lib.hid (refArm_any xN xz w1)
          obtain ⟨R, hR⟩ : ∃ R : Int, R = (if xz = 0 then -1 else armN xN) := ⟨_, rfl⟩
          rw [← hR] at HAR
          have HR := Lib.hid hR
          have f4 := HH1.out.r.box.fz 4
          have g4 := HH1.out.r.c.2.2.2.2.1
          clear b1 hR
          go_wp2_with fail
          refine HAR.out.mono ?_
          rintro e w1' ⟨rfl, rfl⟩
          obtain ⟨w2, hw2⟩ : ∃ w2, w2 = w1.setCell ⟨rb, 4, none⟩ (.int .i64 R) := ⟨_, rfl⟩
          have k2 : Kept (fun k => k = rb) w1 w2 := by rw [hw2]; exact kept_set w1 rb 4 _
          have b2 := HB1.out.kept k2 (fun e => HQ.out.2 e)
          have r2 := HH1.out.r.box.set 4 (.int .i64 R)
          rw [← hw2] at r2
          have HW2 := Lib.hid (And.intro hw2 (And.intro r2 k2))
          have d4' : w2.cell? ⟨q, 4, none⟩ = some (.int .i64 xz) := b2.cell rfl
          have f6 := r2.fz 6
          have g6 : w2.cell? ⟨rb, 6, none⟩ = some (.int .i64 Dx.failBy) := r2.cell rfl
          clear hw2 k2 b2 r2
          go_upto_region 27 with fail
          rw [← HW2.out.1]
          obtain ⟨w3, hw3⟩ : ∃ w3, w3 = w2.setCell ⟨rb, 6, none⟩ (.int .i64 xz) := ⟨_, rfl⟩
          have kk : Kept (fun k => k = rb) w1 w3 := by rw [hw3]; exact HW2.out.2.2.trans (kept_set w2 rb 6 _)
          have hb : BoxAt w3 rb 83 (boxR ao LRx.length cp (failD Dx xN xz)) := by
            have := HW2.out.2.1.set 6 (.int .i64 xz)
            rw [HR.out] at this
            rw [hw3]
            exact this
          obtain ⟨ao2, cp2, LR2, _, H2, _⟩ := HH1.out.doc (r := (failD Dx xN xz, 0)) (e := .returned (.int .i64 0)) ⟨ao, cp, LRx, rfl, HH1.out.r.turned hb kk rfl (failD_ok HH1.out.r.ok xN xz HIN.out.1), kk, RFoot.refl _ _ _ _⟩
          have HW3 := Lib.hid hw3
          obtain ⟨E, hE⟩ : ∃ E, E = failD Dx xN xz := ⟨_, rfl⟩
          have HF : Hid (Half W w3 db mb L1 rb ao2 cp2 LR2 E E) := Lib.hid (by rw [hE]; exact H2)
          clear kk hb H2 hw3 hE
          go_upto_region 34 with fail
          rw [← HW3.out]
          have HS5 := Lib.hid (same20_any W db mb L1 rb ao2 cp2 LR2 E w3 HF.out)
          go_wp2_with fail
          refine HS5.out.mono ?_
          rintro e w6 ⟨rfl, k6⟩
          have HH6 := Lib.hid (HF.out.on k6)
          clear k6
          go_wp2
          go_roundg (n - (i + 1))
          case measure => have := HD.out; omega
          case rel => exact ⟨i + 1, HD.out, rfl, rfl, _, _, _, _, _, HH6.out⟩
        by_cases e3 : xk = 3
        · subst e3
          have HFL := Lib.hid (dCrash_any W.heap.size db mb Lx Dx xN HIN.out.1 wa HHA.out.d)
          clear d2 d3 d4 d5
          go_wp2_with fail
          refine HFL.out.mono ?_
          rintro e w1 ⟨rfl, h1, k1⟩
          obtain ⟨L1, _, H1, K1⟩ := HHA.out.prog (r := (crashD Dx xN, 0)) (e := .returned (.int .i64 0)) ⟨Lx, rfl, h1, k1.mono (fun _ _ e => .inl e), Foot.refl _ _ _ _⟩
          have b1 := HBA.out.kept K1 HQ.out.1
          have HH1 := Lib.hid H1
          clear d1 h1 k1 K1 H1
          have d1 : w1.cell? ⟨q, 1, none⟩ = some (.int .i64 xN) := b1.cell rfl
          have HAR := Lib.hid (refArm_any xN 13 w1)
          rw [if_neg (by decide)] at HAR
          obtain ⟨R, hR⟩ : ∃ R : Int, R = armN xN := ⟨_, rfl⟩
          rw [← hR] at HAR
          have HR := Lib.hid hR
          have f5 := HH1.out.r.box.fz 5
          have g5 := HH1.out.r.c.2.2.2.2.2.1
          clear b1 hR
          go_wp2_with fail
          refine HAR.out.mono ?_
          rintro e w1' ⟨rfl, rfl⟩
          obtain ⟨w3, hw3⟩ : ∃ w3, w3 = w1.setCell ⟨rb, 5, none⟩ (.int .i64 R) := ⟨_, rfl⟩
          have kk : Kept (fun k => k = rb) w1 w3 := by rw [hw3]; exact kept_set w1 rb 5 _
          have hb : BoxAt w3 rb 83 (boxR ao LRx.length cp (crashD Dx xN)) := by
            have := HH1.out.r.box.set 5 (.int .i64 R)
            rw [HR.out] at this
            rw [hw3, HR.out]
            exact this
          obtain ⟨ao2, cp2, LR2, _, H2, _⟩ := HH1.out.doc (r := (crashD Dx xN, 0)) (e := .returned (.int .i64 0)) ⟨ao, cp, LRx, rfl, HH1.out.r.turned hb kk rfl (crashD_ok HH1.out.r.ok xN HIN.out.1), kk, RFoot.refl _ _ _ _⟩
          have HW3 := Lib.hid hw3
          obtain ⟨E, hE⟩ : ∃ E, E = crashD Dx xN := ⟨_, rfl⟩
          have HF : Hid (Half W w3 db mb L1 rb ao2 cp2 LR2 E E) := Lib.hid (by rw [hE]; exact H2)
          clear kk hb H2 hw3 hE
          go_upto_region 34 with fail
          rw [← HW3.out]
          have HS5 := Lib.hid (same20_any W db mb L1 rb ao2 cp2 LR2 E w3 HF.out)
          go_wp2_with fail
          refine HS5.out.mono ?_
          rintro e w6 ⟨rfl, k6⟩
          have HH6 := Lib.hid (HF.out.on k6)
          clear k6
          go_wp2
          go_roundg (n - (i + 1))
          case measure => have := HD.out; omega
          case rel => exact ⟨i + 1, HD.out, rfl, rfl, _, _, _, _, _, HH6.out⟩
        by_cases e4 : xk = 4
        · subst e4
          obtain ⟨r, hr⟩ : ∃ r, r = bootD Dx xkeep := ⟨_, rfl⟩
          have HR := Lib.hid hr
          have kd : Kept (fun _ => False) wa wa.drew := (Kept.refl _ _).drew
          have HHD := Lib.hid (HHA.out.on kd)
          have HBD := Lib.hid (HBA.out.kept kd (fun x => x))
          have HS0 : Hid ((fun w' => w'.cell? ⟨q, 2, none⟩ = some (.string xA) ∧ w'.cell? ⟨q, 3, none⟩ = some (.string xB) ∧ w'.cell? ⟨q, 5, none⟩ = some (.slice xka kn xkc)) wa.drew) := Lib.hid ⟨HBD.out.cell rfl, HBD.out.cell rfl, HBD.out.cell rfl⟩
          have HC := Lib.hid (dBoot_any W.heap.size db mb Lx Dx xka kn xkc xkeep HKN.out.symm wa.drew HHD.out.d (HIN.out.2.2.kept HHD.out.k (fun _ _ x => x)) (fun h0 j e x => by have h1 := (HIN.out.2.2.blk h0 e).1; have h2 := (HHA.out.d.lt x).2; omega))
          rw [← HR.out] at HC
          clear hr kd d1 d2 d3 d4 d5
          go_upto_region 32 with fail
          refine AnyBut.start (S := fun w' => w'.cell? ⟨q, 2, none⟩ = some (.string xA) ∧ w'.cell? ⟨q, 3, none⟩ = some (.string xB) ∧ w'.cell? ⟨q, 5, none⟩ = some (.slice xka kn xkc)) (k := 9) (by kernel_rfl) ?_
          refine AnyBut.takeS (i := 0) (v := ?v14) rfl (by kernel_rfl) (Nat.le_of_eq (by kernel_rfl)) (by kernel_rfl) (by kernel_rfl) (fun _ _ _ h => h) (HS0.out) (Or.inl ⟨by kernel_rfl, ?hy14⟩) ?r14
          case hy14 =>
            intro w hSw
            try dsimp only at hSw
            go_simp
            first | (obtain ⟨y0, y1, y2⟩ := hSw; go_simp) | skip
            try with_reducible rfl
          try simp only [Act.put, List.getElem_toArray, List.getElem_cons_zero, List.setIfInBounds_toArray, List.set_cons_zero, List.set_cons_succ]
          refine AnyBut.takeS (i := 1) (v := ?v15) rfl (by kernel_rfl) (Nat.le_of_eq (by kernel_rfl)) (by kernel_rfl) (by kernel_rfl) (fun _ _ _ h => h) (HS0.out) (Or.inl ⟨by kernel_rfl, ?hy15⟩) ?r15
          case hy15 =>
            intro w hSw
            try dsimp only at hSw
            go_simp
            first | (obtain ⟨y0, y1, y2⟩ := hSw; go_simp) | skip
            try with_reducible rfl
          try simp only [Act.put, List.getElem_toArray, List.getElem_cons_succ, List.getElem_cons_zero, List.setIfInBounds_toArray, List.set_cons_zero, List.set_cons_succ]
          refine AnyBut.takeS (i := 2) (v := ?v16) rfl (by kernel_rfl) (Nat.le_of_eq (by kernel_rfl)) (by kernel_rfl) (by kernel_rfl) (fun _ _ _ h => h) (HS0.out) (Or.inl ⟨by kernel_rfl, ?hy16⟩) ?r16
          case hy16 =>
            intro w hSw
            try dsimp only at hSw
            go_simp
            first | (obtain ⟨y0, y1, y2⟩ := hSw; go_simp) | skip
            try with_reducible rfl
          try simp only [Act.put, List.getElem_toArray, List.getElem_cons_succ, List.getElem_cons_zero, List.setIfInBounds_toArray, List.set_cons_zero, List.set_cons_succ]
          refine AnyBut.takeS (i := 4) (v := ?v17) rfl (by kernel_rfl) (Nat.le_of_eq (by kernel_rfl)) (by kernel_rfl) (by kernel_rfl) (fun _ _ _ h => h) (HS0.out) (Or.inl ⟨by kernel_rfl, ?hy17⟩) ?r17
          case hy17 =>
            intro w hSw
            try dsimp only at hSw
            go_simp
            first | (obtain ⟨y0, y1, y2⟩ := hSw; go_simp) | skip
            try with_reducible rfl
          try simp only [Act.put, List.getElem_toArray, List.getElem_cons_succ, List.getElem_cons_zero, List.setIfInBounds_toArray, List.set_cons_zero, List.set_cons_succ]
          refine AnyBut.takeS (i := 5) (v := ?v18) rfl (by kernel_rfl) (Nat.le_of_eq (by kernel_rfl)) (by kernel_rfl) (by kernel_rfl) (fun _ _ _ h => h) (HS0.out) (Or.inl ⟨by kernel_rfl, ?hy18⟩) ?r18
          case hy18 =>
            intro w hSw
            try dsimp only at hSw
            go_simp
            first | (obtain ⟨y0, y1, y2⟩ := hSw; go_simp) | skip
            try with_reducible rfl
          try simp only [Act.put, List.getElem_toArray, List.getElem_cons_succ, List.getElem_cons_zero, List.setIfInBounds_toArray, List.set_cons_zero, List.set_cons_succ]
          refine AnyBut.takeS (i := 6) (v := ?v19) rfl (by kernel_rfl) (Nat.le_of_eq (by kernel_rfl)) (by kernel_rfl) (by kernel_rfl) (fun _ _ _ h => h) (HS0.out) (Or.inl ⟨by kernel_rfl, ?hy19⟩) ?r19
          case hy19 =>
            intro w hSw
            try dsimp only at hSw
            go_simp
            first | (obtain ⟨y0, y1, y2⟩ := hSw; go_simp) | skip
            try with_reducible rfl
          try simp only [Act.put, List.getElem_toArray, List.getElem_cons_succ, List.getElem_cons_zero, List.setIfInBounds_toArray, List.set_cons_zero, List.set_cons_succ]
          refine AnyBut.one (i := 3) (by kernel_rfl) rfl (fun K hK => ?_)
          go_simp
          go_wp2_with fail
          refine HC.out.mono ?_
          intro e w1 hq
          obtain ⟨L1, rfl, h1, k1⟩ := HHD.out.prog hq
          have HH1 := Lib.hid h1
          have HB1 := Lib.hid (HBD.out.kept k1 HQ.out.1)
          have HS1 : Hid ((fun w' => w'.cell? ⟨q, 2, none⟩ = some (.string xA) ∧ w'.cell? ⟨q, 3, none⟩ = some (.string xB) ∧ w'.cell? ⟨q, 5, none⟩ = some (.slice xka kn xkc)) w1) := Lib.hid ⟨HB1.out.cell rfl, HB1.out.cell rfl, HB1.out.cell rfl⟩
          have HC2 := Lib.hid (refBoot_any rb ao cp LRx Dx xka kn xkc xkeep HKN.out.symm HIN.out.2.1 w1 h1.r (HIN.out.2.2.kept h1.k (fun _ _ x => x)) (fun h0 j e x => by have h1 := (HIN.out.2.2.blk h0 e).1; have h2 := HHA.out.new; omega))
          rw [← HR.out] at HC2
          clear hq h1 k1
          go_wp2
          refine hK.out _ _ (HS1.out) ?_
          clear hK K
          try simp only [Act.put, List.getElem_toArray, List.getElem_cons_succ, List.getElem_cons_zero, List.setIfInBounds_toArray, List.set_cons_zero, List.set_cons_succ]
          refine AnyBut.one (i := 7) (by kernel_rfl) rfl (fun K hK => ?_)
          go_simp
          go_wp2_with fail
          refine HC2.out.mono ?_
          intro e w2 hq
          obtain ⟨ao2, cp2, LR2, rfl, h2, k2⟩ := HH1.out.doc hq
          have HF := Lib.hid h2
          have HB2 := Lib.hid (HB1.out.kept k2 (fun e => HQ.out.2 e))
          have HS2 : Hid ((fun w' => w'.cell? ⟨q, 2, none⟩ = some (.string xA) ∧ w'.cell? ⟨q, 3, none⟩ = some (.string xB) ∧ w'.cell? ⟨q, 5, none⟩ = some (.slice xka kn xkc)) w2) := Lib.hid ⟨HB2.out.cell rfl, HB2.out.cell rfl, HB2.out.cell rfl⟩
          clear hq h2 k2
          go_wp2
          refine hK.out _ _ (HS2.out) ?_
          clear hK K
          try simp only [Act.put, List.getElem_toArray, List.getElem_cons_succ, List.getElem_cons_zero, List.setIfInBounds_toArray, List.set_cons_zero, List.set_cons_succ]
          refine AnyBut.takeS (i := 8) (v := ?v20) rfl (by kernel_rfl) (Nat.le_of_eq (by kernel_rfl)) (by kernel_rfl) (by kernel_rfl) (fun _ _ _ h => h) (HS2.out) (Or.inl ⟨by kernel_rfl, ?hy20⟩) ?r20
          case hy20 =>
            intro w hSw
            try dsimp only at hSw
            go_simp
            first | (obtain ⟨y0, y1, y2⟩ := hSw; go_simp) | skip
            try with_reducible rfl
          try simp only [Act.put, List.getElem_toArray, List.getElem_cons_succ, List.getElem_cons_zero, List.setIfInBounds_toArray, List.set_cons_zero, List.set_cons_succ]
          refine AnyBut.done (by kernel_rfl) ?_
          have HS5 := Lib.hid (same20_any W db mb L1 rb ao2 cp2 LR2 r.1 w2 HF.out)
          go_wp2_with fail
          refine HS5.out.mono ?_
          rintro e w6 ⟨rfl, k6⟩
          have HH6 := Lib.hid (HF.out.on k6)
          clear k6
          go_wp2
          go_roundg (n - (i + 1))
          case measure => have := HD.out; omega
          case rel => exact ⟨i + 1, HD.out, rfl, rfl, _, _, _, _, _, HH6.out⟩
        have e0' : (xk == (0 : Int)) = false := beqF e0
        have e1' : (xk == (1 : Int)) = false := beqF e1
        have e2' : (xk == (2 : Int)) = false := beqF e2
        have e3' : (xk == (3 : Int)) = false := beqF e3
        have e4' : (xk == (4 : Int)) = false := beqF e4
        clear e0 e1 e2 e3 e4
        have HF := HHA
        clear d1 d2 d3 d4 d5
        have HS5 := Lib.hid (same20_any W db mb Lx rb ao cp LRx Dx wa HF.out)
        go_wp2_with fail
        refine HS5.out.mono ?_
        rintro e w6 ⟨rfl, k6⟩
        have HH6 := Lib.hid (HF.out.on k6)
        clear k6
        go_wp2
        go_roundg (n - (i + 1))
        case measure => have := HD.out; omega
        case rel => exact ⟨i + 1, HD.out, rfl, rfl, _, _, _, _, _, HH6.out⟩
      · have hdi : ¬ (i : Int) < (n : Int) := by omega
        have hdi' : decide (i < n) = false := decide_eq_false hd
        have HKF := Lib.hid hH.k
        clear hH
        go_wp2
        go_ret
        exact ⟨rfl, HKF.out⟩
end Go.Proofs.YtficodklidaheaaDoor
