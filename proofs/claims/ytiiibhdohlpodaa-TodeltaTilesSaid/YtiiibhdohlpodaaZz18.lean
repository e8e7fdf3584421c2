/- Texts put together: what the theorem stands on. -/
import Derived.Test.YtiiibhdohlpodaaZz5
import Derived.Test.YtiiibhdohlpodaaZz10

namespace Go.Proofs.Ytiiibhdohlpodaa
open Go.RowKit
attribute [local go_sem ↓] Go.wp_at_zero Go.wp_at_succ
set_option maxHeartbeats 4000000 in
theorem some_any (ao : Option Addr) (c : Nat) (L : List PtV) (w : World) (hl : PtsIn w ao L) :
    Calls Try.prog 34 #[.slice ao L.length c, .int .i64 20] w fun e w' => e = .returned (.bool (someB L)) ∧ Kept (fun _ => False) w w' := by
  obtain ⟨n, hn⟩ : ∃ n, n = L.length := ⟨_, rfl⟩
  unfold someB
  rw [← hn]
  by_cases h20 : n ≤ 20
  case neg =>
    have q1 : decide ((20 : Int) < (n : Int)) = true := decide_eq_true (by omega)
    rw [decide_eq_false h20, Bool.false_and]
    clear hn h20 hl
    go_enter Try.func34, Try.ntmps34
    go_wp2
    go_ret
    exact ⟨rfl, Kept.refl _ _⟩
  have q1 : decide ((20 : Int) < (n : Int)) = false := decide_eq_false (by omega)
  rw [decide_eq_true h20, Bool.true_and]
  have HN := Lib.hid (And.intro hn h20)
  have HL := Lib.hid (fun w' (k : Kept (fun _ => False) w w') => hl.on k)
  have HLT : Hid (∀ w' (p : PtV), Kept (fun _ => False) w w' → p ∈ L → Calls Try.prog 20 #[.agg p.cs] w' fun e w'' => e = .returned (.bool (lightP p.x)) ∧ Kept (fun _ => False) w' w'') := Lib.hid (fun w' p k hp => refLight12_any p.x p.aa p.pa p.na p.ac p.pc p.nc w' ((hl.each p hp).1.on k) (hl.each p hp).2.2)
  clear hn h20 hl
  go_enter Try.func34, Try.ntmps34
  go_wp2
  go_loopg [5] n (fun g s5 wr => ∃ i : Nat, i ≤ n ∧ g = n - i ∧ s5 = .int .i64 i ∧ (L.take i).all (fun p => lightP p.x) = true ∧ Kept (fun _ => False) w wr)
  case atStart => exact ⟨0, Nat.zero_le _, rfl, rfl, rfl, Kept.refl _ _⟩
  case round =>
    obtain ⟨i, hin, rfl, rfl, ha, kw⟩ := hrel
    have HA := Lib.hid ha
    have HK := Lib.hid kw
    clear ha kw
    by_cases hd : i < n
    · have hdi : (i : Int) < (n : Int) := by omega
      have hi0 : (0 : Int) ≤ (i : Int) := by omega
      have HD := Lib.hid hd
      have wi : IntKind.i64.wrap ((i : Int) + 1) = ((i + 1 : Nat) : Int) := by rw [IntWalk.i64_in _ ⟨by omega, by have := HN.out.2; omega⟩]; omega
      have hiL : i < L.length := by have := HN.out.1; omega
      obtain ⟨gb, ob, rfl, hrec⟩ := (HL.out wr HK.out).at_ (by omega)
      have hp := List.getElem?_eq_getElem hiL
      obtain ⟨p, hpp⟩ : ∃ p, p = L[i] := ⟨_, rfl⟩
      rw [← hpp] at hp
      have HR := Lib.hid (range_of (hrec i p hp))
      have HP := Lib.hid hp
      have HCL := Lib.hid (HLT.out wr p HK.out (List.mem_of_getElem? hp))
      obtain ⟨b, hb⟩ : ∃ b, b = lightP p.x := ⟨_, rfl⟩
      rw [← hb] at HCL
      have HB := Lib.hid hb
      obtain ⟨CP, hCP⟩ : ∃ c, c = p.cs := ⟨_, rfl⟩
      rw [← hCP] at HR HCL
      have HIP : Hid ((Try.prog.info? 37).map (·.size) = some CP.size) := Lib.hid (by rw [hCP]; exact pt_size p)
      clear hd hin hrec hiL hpp hp hb hCP
      go_wp2_with (first
        | (refine wpList_load_part rfl 37 (.tmp 18) rfl gb (ob + i * 17) rfl CP _ HR.out Try.underlying37 rfl HIP.out ?_)
        | fail)
      refine HCL.out.mono ?_
      rintro e w1 ⟨rfl, k1⟩
      have HK1 := Lib.hid (HK.out.trans k1)
      clear k1
      cases b with
      | false =>
        go_wp2
        go_ret
        exact ⟨ret_bool (all_false HP.out HB.out.symm).symm, HK1.out⟩
      | true =>
        go_wp2
        go_roundg (n - (i + 1))
        case measure => have := HD.out; omega
        case rel => exact ⟨i + 1, HD.out, rfl, rfl, by rw [all_take_succ HP.out, HA.out, ← HB.out]; rfl, HK1.out⟩
    · obtain rfl : n = i := by omega
      have ha := HA.out
      rw [List.take_of_length_le (by rw [HN.out.1]; exact Nat.le_refl _)] at ha
      have HA2 := Lib.hid ha
      clear hd ha
      go_wp2
      go_ret
      exact ⟨ret_bool HA2.out.symm, HK.out⟩
/-- Is a point of the first one's kind? -/
def alikeB (L : List PtV) (p : PtV) : Bool := match L[0]? with
  | some z => (p.x.kind == z.x.kind) && (p.x.mono == z.x.mono)
  | none => true
/-- Are all points of one series, few and light? -/
def oneB (L : List PtV) : Bool := someB L && L.all (alikeB L)
set_option maxHeartbeats 4000000 in
set_option maxRecDepth 100000 in
theorem one_any (ao : Option Addr) (c : Nat) (L : List PtV) (w : World) (hl : PtsIn w ao L) :
    Calls Try.prog 12 #[.slice ao L.length c] w fun e w' => e = .returned (.bool (oneB L)) ∧ Kept (fun _ => False) w w' := by
  have HSO := Lib.hid (some_any ao c L w hl)
  obtain ⟨sb, hsb⟩ : ∃ b, b = someB L := ⟨_, rfl⟩
  unfold oneB
  rw [← hsb] at HSO
  rw [← hsb]
  obtain ⟨n, hn⟩ : ∃ n, n = L.length := ⟨_, rfl⟩
  rw [← hn] at HSO
  rw [← hn]
  cases sb with
  | false =>
    clear hsb hn hl
    go_enter Try.func12, Try.ntmps12
    go_wp2_with fail
    refine HSO.out.mono ?_
    rintro e w1 ⟨rfl, k1⟩
    have HK1 := Lib.hid k1
    clear k1
    go_wp2
    go_ret
    exact ⟨rfl, HK1.out⟩
  | true =>
    rw [Bool.true_and]
    have hn20 : n ≤ 20 := by unfold someB at hsb; have := (Bool.and_eq_true_iff.1 hsb.symm).1; rw [hn]; simpa using this
    have HN := Lib.hid (And.intro hn hn20)
    have HL := Lib.hid (fun w' (k : Kept (fun _ => False) w w') => hl.on k)
    clear hsb hn hn20 hl
    go_enter Try.func12, Try.ntmps12
    go_wp2_with fail
    refine HSO.out.mono ?_
    rintro e w1 ⟨rfl, k1⟩
    have HK1 := Lib.hid k1
    clear k1
    go_wp2
    go_loopg [3] n (fun g s3 wr => ∃ i : Nat, i ≤ n ∧ g = n - i ∧ s3 = .int .i64 i ∧ (L.take i).all (alikeB L) = true ∧ Kept (fun _ => False) w wr)
    case atStart => exact ⟨0, Nat.zero_le _, rfl, rfl, rfl, HK1.out⟩
    case round =>
      obtain ⟨i, hin, rfl, rfl, ha, kw⟩ := hrel
      have HA := Lib.hid ha
      have HK := Lib.hid kw
      clear ha kw
      by_cases hd : i < n
      · have hdi : (i : Int) < (n : Int) := by omega
        have hi0 : (0 : Int) ≤ (i : Int) := by omega
        have hn0 : 0 < n := by omega
        have HD := Lib.hid hd
        have wi : IntKind.i64.wrap ((i : Int) + 1) = ((i + 1 : Nat) : Int) := by rw [IntWalk.i64_in _ ⟨by omega, by have := HN.out.2; omega⟩]; omega
        have hiL : i < L.length := by have := HN.out.1; omega
        have kd : Kept (fun _ => False) w wr.drew := HK.out.trans ((Kept.refl _ _).drew)
        obtain ⟨gb, ob, rfl, hrec⟩ := (HL.out wr.drew kd).at_ (by omega)
        have hp := List.getElem?_eq_getElem hiL
        obtain ⟨p, hpp⟩ : ∃ p, p = L[i] := ⟨_, rfl⟩
        rw [← hpp] at hp
        have h00 : 0 < L.length := by omega
        have hz := List.getElem?_eq_getElem h00
        obtain ⟨z, hzz⟩ : ∃ p, p = L[0] := ⟨_, rfl⟩
        rw [← hzz] at hz
        have c1 := hrec i p hp 2 (.int .i64 p.x.kind) rfl
        have c2 := hrec i p hp 4 (.bool p.x.mono) rfl
        have c3 := hrec 0 z hz 2 (.int .i64 z.x.kind) rfl
        have c4 := hrec 0 z hz 4 (.bool z.x.mono) rfl
        rw [Nat.zero_mul, Nat.add_zero] at c3 c4
        have hal : alikeB L p = ((p.x.kind == z.x.kind) && (p.x.mono == z.x.mono)) := by unfold alikeB; rw [hz]
        obtain ⟨k1, hk1⟩ : ∃ k, k = p.x.kind := ⟨_, rfl⟩
        obtain ⟨m1, hm1⟩ : ∃ k, k = p.x.mono := ⟨_, rfl⟩
        obtain ⟨k0, hk0⟩ : ∃ k, k = z.x.kind := ⟨_, rfl⟩
        obtain ⟨m0, hm0⟩ : ∃ k, k = z.x.mono := ⟨_, rfl⟩
        rw [← hk1] at c1 hal
        rw [← hm1] at c2 hal
        rw [← hk0] at c3 hal
        rw [← hm0] at c4 hal
        have HS6 : Hid ((fun w' => (w'.cell? ⟨gb, ob + i * 17 + 2, none⟩ = some (.int .i64 k1) ∧ w'.cell? ⟨gb, ob + i * 17 + 4, none⟩ = some (.bool m1)) ∧ w'.cell? ⟨gb, ob + 2, none⟩ = some (.int .i64 k0) ∧ w'.cell? ⟨gb, ob + 4, none⟩ = some (.bool m0)) wr.drew) := Lib.hid ⟨⟨c1, c2⟩, c3, c4⟩
        have HAL := Lib.hid hal
        have HP := Lib.hid hp
        clear hd hin hrec hiL hpp hp hzz hz c1 c2 c3 c4 hk1 hm1 hk0 hm0 hal h00 kd
        go_upto_region 6 with fail
        by_cases hk : k1 = k0
        case neg =>
          have qk : (k1 != k0) = true := by rw [bne_iff_ne]; exact hk
          have qk2 : (k1 == k0) = false := by rw [beq_eq_false_iff_ne]; exact hk
          refine AnyBut.start (S := fun w' => (w'.cell? ⟨gb, ob + i * 17 + 2, none⟩ = some (.int .i64 k1) ∧ w'.cell? ⟨gb, ob + i * 17 + 4, none⟩ = some (.bool m1)) ∧ w'.cell? ⟨gb, ob + 2, none⟩ = some (.int .i64 k0) ∧ w'.cell? ⟨gb, ob + 4, none⟩ = some (.bool m0)) (k := 22) (by kernel_rfl) ?_
          refine AnyBut.takeS (i := 0) (v := ?v1) rfl (by kernel_rfl) (Nat.le_of_eq (by kernel_rfl)) (by kernel_rfl) (by kernel_rfl) (fun _ _ _ h => h) (HS6.out) (Or.inl ⟨by kernel_rfl, ?hy1⟩) ?r1
          case hy1 =>
            intro w hSw
            try dsimp only at hSw
            go_simp
            first | (obtain ⟨⟨y0, y1⟩, y2, y3⟩ := hSw; go_simp) | skip
            try with_reducible rfl
          try simp only [Act.put, List.getElem_toArray, List.getElem_cons_zero, List.setIfInBounds_toArray, List.set_cons_zero, List.set_cons_succ]
          refine AnyBut.takeS (i := 1) (v := ?v2) rfl (by kernel_rfl) (Nat.le_of_eq (by kernel_rfl)) (by kernel_rfl) (by kernel_rfl) (fun _ _ _ h => h) (HS6.out) (Or.inl ⟨by kernel_rfl, ?hy2⟩) ?r2
          case hy2 =>
            intro w hSw
            try dsimp only at hSw
            go_simp
            first | (obtain ⟨⟨y0, y1⟩, y2, y3⟩ := hSw; go_simp) | skip
            try with_reducible rfl
          try simp only [Act.put, List.getElem_toArray, List.getElem_cons_succ, List.getElem_cons_zero, List.setIfInBounds_toArray, List.set_cons_zero, List.set_cons_succ]
          refine AnyBut.takeS (i := 2) (v := ?v3) rfl (by kernel_rfl) (Nat.le_of_eq (by kernel_rfl)) (by kernel_rfl) (by kernel_rfl) (fun _ _ _ h => h) (HS6.out) (Or.inl ⟨by kernel_rfl, ?hy3⟩) ?r3
          case hy3 =>
            intro w hSw
            try dsimp only at hSw
            go_simp
            first | (obtain ⟨⟨y0, y1⟩, y2, y3⟩ := hSw; go_simp) | skip
            try with_reducible rfl
          try simp only [Act.put, List.getElem_toArray, List.getElem_cons_succ, List.getElem_cons_zero, List.setIfInBounds_toArray, List.set_cons_zero, List.set_cons_succ]
          refine AnyBut.takeS (i := 3) (v := ?v4) rfl (by kernel_rfl) (Nat.le_of_eq (by kernel_rfl)) (by kernel_rfl) (by kernel_rfl) (fun _ _ _ h => h) (HS6.out) (Or.inl ⟨by kernel_rfl, ?hy4⟩) ?r4
          case hy4 =>
            intro w hSw
            try dsimp only at hSw
            go_simp
            first | (obtain ⟨⟨y0, y1⟩, y2, y3⟩ := hSw; go_simp) | skip
            try with_reducible rfl
          try simp only [Act.put, List.getElem_toArray, List.getElem_cons_succ, List.getElem_cons_zero, List.setIfInBounds_toArray, List.set_cons_zero, List.set_cons_succ]
          refine AnyBut.takeS (i := 4) (v := ?v5) rfl (by kernel_rfl) (Nat.le_of_eq (by kernel_rfl)) (by kernel_rfl) (by kernel_rfl) (fun _ _ _ h => h) (HS6.out) (Or.inl ⟨by kernel_rfl, ?hy5⟩) ?r5
          case hy5 =>
            intro w hSw
            try dsimp only at hSw
            go_simp
            first | (obtain ⟨⟨y0, y1⟩, y2, y3⟩ := hSw; go_simp) | skip
            try with_reducible rfl
          try simp only [Act.put, List.getElem_toArray, List.getElem_cons_succ, List.getElem_cons_zero, List.setIfInBounds_toArray, List.set_cons_zero, List.set_cons_succ]
          refine AnyBut.takeS (i := 5) (v := ?v6) rfl (by kernel_rfl) (Nat.le_of_eq (by kernel_rfl)) (by kernel_rfl) (by kernel_rfl) (fun _ _ _ h => h) (HS6.out) (Or.inl ⟨by kernel_rfl, ?hy6⟩) ?r6
          case hy6 =>
            intro w hSw
            try dsimp only at hSw
            go_simp
            first | (obtain ⟨⟨y0, y1⟩, y2, y3⟩ := hSw; go_simp) | skip
            try with_reducible rfl
          try simp only [Act.put, List.getElem_toArray, List.getElem_cons_succ, List.getElem_cons_zero, List.setIfInBounds_toArray, List.set_cons_zero, List.set_cons_succ]
          refine AnyBut.takeS (i := 6) (v := ?v7) rfl (by kernel_rfl) (Nat.le_of_eq (by kernel_rfl)) (by kernel_rfl) (by kernel_rfl) (fun _ _ _ h => h) (HS6.out) (Or.inl ⟨by kernel_rfl, ?hy7⟩) ?r7
          case hy7 =>
            intro w hSw
            try dsimp only at hSw
            go_simp
            first | (obtain ⟨⟨y0, y1⟩, y2, y3⟩ := hSw; go_simp) | skip
            try with_reducible rfl
          try simp only [Act.put, List.getElem_toArray, List.getElem_cons_succ, List.getElem_cons_zero, List.setIfInBounds_toArray, List.set_cons_zero, List.set_cons_succ]
          refine AnyBut.takeS (i := 7) (v := ?v8) rfl (by kernel_rfl) (Nat.le_of_eq (by kernel_rfl)) (by kernel_rfl) (by kernel_rfl) (fun _ _ _ h => h) (HS6.out) (Or.inl ⟨by kernel_rfl, ?hy8⟩) ?r8
          case hy8 =>
            intro w hSw
            try dsimp only at hSw
            go_simp
            first | (obtain ⟨⟨y0, y1⟩, y2, y3⟩ := hSw; go_simp) | skip
            try with_reducible rfl
          try simp only [Act.put, List.getElem_toArray, List.getElem_cons_succ, List.getElem_cons_zero, List.setIfInBounds_toArray, List.set_cons_zero, List.set_cons_succ]
          refine AnyBut.takeS (i := 8) (v := ?v9) rfl (by kernel_rfl) (Nat.le_of_eq (by kernel_rfl)) (by kernel_rfl) (by kernel_rfl) (fun _ _ _ h => h) (HS6.out) (Or.inl ⟨by kernel_rfl, ?hy9⟩) ?r9
          case hy9 =>
            intro w hSw
            try dsimp only at hSw
            go_simp
            first | (obtain ⟨⟨y0, y1⟩, y2, y3⟩ := hSw; go_simp) | skip
            try with_reducible rfl
          try simp only [Act.put, List.getElem_toArray, List.getElem_cons_succ, List.getElem_cons_zero, List.setIfInBounds_toArray, List.set_cons_zero, List.set_cons_succ]
          refine AnyBut.takeS (i := 9) (v := ?v10) rfl (by kernel_rfl) (Nat.le_of_eq (by kernel_rfl)) (by kernel_rfl) (by kernel_rfl) (fun _ _ _ h => h) (HS6.out) (Or.inl ⟨by kernel_rfl, ?hy10⟩) ?r10
          case hy10 =>
            intro w hSw
            try dsimp only at hSw
            go_simp
            first | (obtain ⟨⟨y0, y1⟩, y2, y3⟩ := hSw; go_simp) | skip
            try with_reducible rfl
          try simp only [Act.put, List.getElem_toArray, List.getElem_cons_succ, List.getElem_cons_zero, List.setIfInBounds_toArray, List.set_cons_zero, List.set_cons_succ]
          refine AnyBut.takeS (i := 10) (v := ?v11) rfl (by kernel_rfl) (Nat.le_of_eq (by kernel_rfl)) (by kernel_rfl) (by kernel_rfl) (fun _ _ _ h => h) (HS6.out) (Or.inl ⟨by kernel_rfl, ?hy11⟩) ?r11
          case hy11 =>
            intro w hSw
            try dsimp only at hSw
            go_simp
            first | (obtain ⟨⟨y0, y1⟩, y2, y3⟩ := hSw; go_simp) | skip
            try with_reducible rfl
          try simp only [Act.put, List.getElem_toArray, List.getElem_cons_succ, List.getElem_cons_zero, List.setIfInBounds_toArray, List.set_cons_zero, List.set_cons_succ]
          refine AnyBut.takeS (i := 11) (v := undef) rfl (by kernel_rfl) (Nat.le_of_eq (by kernel_rfl)) (by kernel_rfl) (by kernel_rfl) (fun _ _ _ h => h) (HS6.out) (Or.inr ⟨by kernel_rfl, rfl⟩) ?r12
          try simp only [Act.put, List.getElem_toArray, List.getElem_cons_succ, List.getElem_cons_zero, List.setIfInBounds_toArray, List.set_cons_zero, List.set_cons_succ]
          refine AnyBut.takeS (i := 12) (v := undef) rfl (by kernel_rfl) (Nat.le_of_eq (by kernel_rfl)) (by kernel_rfl) (by kernel_rfl) (fun _ _ _ h => h) (HS6.out) (Or.inr ⟨by kernel_rfl, rfl⟩) ?r13
          try simp only [Act.put, List.getElem_toArray, List.getElem_cons_succ, List.getElem_cons_zero, List.setIfInBounds_toArray, List.set_cons_zero, List.set_cons_succ]
          refine AnyBut.takeS (i := 13) (v := undef) rfl (by kernel_rfl) (Nat.le_of_eq (by kernel_rfl)) (by kernel_rfl) (by kernel_rfl) (fun _ _ _ h => h) (HS6.out) (Or.inr ⟨by kernel_rfl, rfl⟩) ?r14
          try simp only [Act.put, List.getElem_toArray, List.getElem_cons_succ, List.getElem_cons_zero, List.setIfInBounds_toArray, List.set_cons_zero, List.set_cons_succ]
          refine AnyBut.takeS (i := 14) (v := undef) rfl (by kernel_rfl) (Nat.le_of_eq (by kernel_rfl)) (by kernel_rfl) (by kernel_rfl) (fun _ _ _ h => h) (HS6.out) (Or.inr ⟨by kernel_rfl, rfl⟩) ?r15
          try simp only [Act.put, List.getElem_toArray, List.getElem_cons_succ, List.getElem_cons_zero, List.setIfInBounds_toArray, List.set_cons_zero, List.set_cons_succ]
          refine AnyBut.takeS (i := 15) (v := undef) rfl (by kernel_rfl) (Nat.le_of_eq (by kernel_rfl)) (by kernel_rfl) (by kernel_rfl) (fun _ _ _ h => h) (HS6.out) (Or.inr ⟨by kernel_rfl, rfl⟩) ?r16
          try simp only [Act.put, List.getElem_toArray, List.getElem_cons_succ, List.getElem_cons_zero, List.setIfInBounds_toArray, List.set_cons_zero, List.set_cons_succ]
          refine AnyBut.takeS (i := 16) (v := undef) rfl (by kernel_rfl) (Nat.le_of_eq (by kernel_rfl)) (by kernel_rfl) (by kernel_rfl) (fun _ _ _ h => h) (HS6.out) (Or.inr ⟨by kernel_rfl, rfl⟩) ?r17
          try simp only [Act.put, List.getElem_toArray, List.getElem_cons_succ, List.getElem_cons_zero, List.setIfInBounds_toArray, List.set_cons_zero, List.set_cons_succ]
          refine AnyBut.takeS (i := 17) (v := undef) rfl (by kernel_rfl) (Nat.le_of_eq (by kernel_rfl)) (by kernel_rfl) (by kernel_rfl) (fun _ _ _ h => h) (HS6.out) (Or.inr ⟨by kernel_rfl, rfl⟩) ?r18
          try simp only [Act.put, List.getElem_toArray, List.getElem_cons_succ, List.getElem_cons_zero, List.setIfInBounds_toArray, List.set_cons_zero, List.set_cons_succ]
          refine AnyBut.takeS (i := 18) (v := undef) rfl (by kernel_rfl) (Nat.le_of_eq (by kernel_rfl)) (by kernel_rfl) (by kernel_rfl) (fun _ _ _ h => h) (HS6.out) (Or.inr ⟨by kernel_rfl, rfl⟩) ?r19
          try simp only [Act.put, List.getElem_toArray, List.getElem_cons_succ, List.getElem_cons_zero, List.setIfInBounds_toArray, List.set_cons_zero, List.set_cons_succ]
          refine AnyBut.takeS (i := 19) (v := undef) rfl (by kernel_rfl) (Nat.le_of_eq (by kernel_rfl)) (by kernel_rfl) (by kernel_rfl) (fun _ _ _ h => h) (HS6.out) (Or.inr ⟨by kernel_rfl, rfl⟩) ?r20
          try simp only [Act.put, List.getElem_toArray, List.getElem_cons_succ, List.getElem_cons_zero, List.setIfInBounds_toArray, List.set_cons_zero, List.set_cons_succ]
          refine AnyBut.takeS (i := 20) (v := undef) rfl (by kernel_rfl) (Nat.le_of_eq (by kernel_rfl)) (by kernel_rfl) (by kernel_rfl) (fun _ _ _ h => h) (HS6.out) (Or.inr ⟨by kernel_rfl, rfl⟩) ?r21
          try simp only [Act.put, List.getElem_toArray, List.getElem_cons_succ, List.getElem_cons_zero, List.setIfInBounds_toArray, List.set_cons_zero, List.set_cons_succ]
          refine AnyBut.takeS (i := 21) (v := ?v22) rfl (by kernel_rfl) (Nat.le_of_eq (by kernel_rfl)) (by kernel_rfl) (by kernel_rfl) (fun _ _ _ h => h) (HS6.out) (Or.inl ⟨by kernel_rfl, ?hy22⟩) ?r22
          case hy22 =>
            intro w hSw
            try dsimp only at hSw
            go_simp
            first | (obtain ⟨⟨y0, y1⟩, y2, y3⟩ := hSw; go_simp) | skip
            try with_reducible rfl
          try simp only [Act.put, List.getElem_toArray, List.getElem_cons_succ, List.getElem_cons_zero, List.setIfInBounds_toArray, List.set_cons_zero, List.set_cons_succ]
          refine AnyBut.done (by kernel_rfl) ?_
          go_wp2
          go_ret
          exact ⟨ret_bool (all_false HP.out (by rw [HAL.out, qk2]; rfl)).symm, HK.out.trans ((Kept.refl _ _).drew)⟩
        have qk : (k1 != k0) = false := by simp [hk]
        have qk2 : (k1 == k0) = true := by rw [beq_iff_eq]; exact hk
        have HQ := Lib.hid qk2
        obtain ⟨bm, hbm⟩ : ∃ b, b = (m1 == m0) := ⟨_, rfl⟩
        have qm : (m1 != m0) = !bm := by rw [hbm]; rfl
        have qm2 : (m1 == m0) = bm := hbm.symm
        have HBM := Lib.hid hbm
        clear hk qk2 hbm
        cases bm with
        | true =>
          refine AnyBut.start (S := fun w' => (w'.cell? ⟨gb, ob + i * 17 + 2, none⟩ = some (.int .i64 k1) ∧ w'.cell? ⟨gb, ob + i * 17 + 4, none⟩ = some (.bool m1)) ∧ w'.cell? ⟨gb, ob + 2, none⟩ = some (.int .i64 k0) ∧ w'.cell? ⟨gb, ob + 4, none⟩ = some (.bool m0)) (k := 22) (by kernel_rfl) ?_
          refine AnyBut.takeS (i := 0) (v := ?v23) rfl (by kernel_rfl) (Nat.le_of_eq (by kernel_rfl)) (by kernel_rfl) (by kernel_rfl) (fun _ _ _ h => h) (HS6.out) (Or.inl ⟨by kernel_rfl, ?hy23⟩) ?r23
          case hy23 =>
            intro w hSw
            try dsimp only at hSw
            go_simp
            first | (obtain ⟨⟨y0, y1⟩, y2, y3⟩ := hSw; go_simp) | skip
            try with_reducible rfl
          try simp only [Act.put, List.getElem_toArray, List.getElem_cons_zero, List.setIfInBounds_toArray, List.set_cons_zero, List.set_cons_succ]
          refine AnyBut.takeS (i := 1) (v := ?v24) rfl (by kernel_rfl) (Nat.le_of_eq (by kernel_rfl)) (by kernel_rfl) (by kernel_rfl) (fun _ _ _ h => h) (HS6.out) (Or.inl ⟨by kernel_rfl, ?hy24⟩) ?r24
          case hy24 =>
            intro w hSw
            try dsimp only at hSw
            go_simp
            first | (obtain ⟨⟨y0, y1⟩, y2, y3⟩ := hSw; go_simp) | skip
            try with_reducible rfl
          try simp only [Act.put, List.getElem_toArray, List.getElem_cons_succ, List.getElem_cons_zero, List.setIfInBounds_toArray, List.set_cons_zero, List.set_cons_succ]
          refine AnyBut.takeS (i := 2) (v := ?v25) rfl (by kernel_rfl) (Nat.le_of_eq (by kernel_rfl)) (by kernel_rfl) (by kernel_rfl) (fun _ _ _ h => h) (HS6.out) (Or.inl ⟨by kernel_rfl, ?hy25⟩) ?r25
          case hy25 =>
            intro w hSw
            try dsimp only at hSw
            go_simp
            first | (obtain ⟨⟨y0, y1⟩, y2, y3⟩ := hSw; go_simp) | skip
            try with_reducible rfl
          try simp only [Act.put, List.getElem_toArray, List.getElem_cons_succ, List.getElem_cons_zero, List.setIfInBounds_toArray, List.set_cons_zero, List.set_cons_succ]
          refine AnyBut.takeS (i := 3) (v := ?v26) rfl (by kernel_rfl) (Nat.le_of_eq (by kernel_rfl)) (by kernel_rfl) (by kernel_rfl) (fun _ _ _ h => h) (HS6.out) (Or.inl ⟨by kernel_rfl, ?hy26⟩) ?r26
          case hy26 =>
            intro w hSw
            try dsimp only at hSw
            go_simp
            first | (obtain ⟨⟨y0, y1⟩, y2, y3⟩ := hSw; go_simp) | skip
            try with_reducible rfl
          try simp only [Act.put, List.getElem_toArray, List.getElem_cons_succ, List.getElem_cons_zero, List.setIfInBounds_toArray, List.set_cons_zero, List.set_cons_succ]
          refine AnyBut.takeS (i := 4) (v := ?v27) rfl (by kernel_rfl) (Nat.le_of_eq (by kernel_rfl)) (by kernel_rfl) (by kernel_rfl) (fun _ _ _ h => h) (HS6.out) (Or.inl ⟨by kernel_rfl, ?hy27⟩) ?r27
          case hy27 =>
            intro w hSw
            try dsimp only at hSw
            go_simp
            first | (obtain ⟨⟨y0, y1⟩, y2, y3⟩ := hSw; go_simp) | skip
            try with_reducible rfl
          try simp only [Act.put, List.getElem_toArray, List.getElem_cons_succ, List.getElem_cons_zero, List.setIfInBounds_toArray, List.set_cons_zero, List.set_cons_succ]
          refine AnyBut.takeS (i := 5) (v := ?v28) rfl (by kernel_rfl) (Nat.le_of_eq (by kernel_rfl)) (by kernel_rfl) (by kernel_rfl) (fun _ _ _ h => h) (HS6.out) (Or.inl ⟨by kernel_rfl, ?hy28⟩) ?r28
          case hy28 =>
            intro w hSw
            try dsimp only at hSw
            go_simp
            first | (obtain ⟨⟨y0, y1⟩, y2, y3⟩ := hSw; go_simp) | skip
            try with_reducible rfl
          try simp only [Act.put, List.getElem_toArray, List.getElem_cons_succ, List.getElem_cons_zero, List.setIfInBounds_toArray, List.set_cons_zero, List.set_cons_succ]
          refine AnyBut.takeS (i := 6) (v := ?v29) rfl (by kernel_rfl) (Nat.le_of_eq (by kernel_rfl)) (by kernel_rfl) (by kernel_rfl) (fun _ _ _ h => h) (HS6.out) (Or.inl ⟨by kernel_rfl, ?hy29⟩) ?r29
          case hy29 =>
            intro w hSw
            try dsimp only at hSw
            go_simp
            first | (obtain ⟨⟨y0, y1⟩, y2, y3⟩ := hSw; go_simp) | skip
            try with_reducible rfl
          try simp only [Act.put, List.getElem_toArray, List.getElem_cons_succ, List.getElem_cons_zero, List.setIfInBounds_toArray, List.set_cons_zero, List.set_cons_succ]
          refine AnyBut.takeS (i := 7) (v := ?v30) rfl (by kernel_rfl) (Nat.le_of_eq (by kernel_rfl)) (by kernel_rfl) (by kernel_rfl) (fun _ _ _ h => h) (HS6.out) (Or.inl ⟨by kernel_rfl, ?hy30⟩) ?r30
          case hy30 =>
            intro w hSw
            try dsimp only at hSw
            go_simp
            first | (obtain ⟨⟨y0, y1⟩, y2, y3⟩ := hSw; go_simp) | skip
            try with_reducible rfl
          try simp only [Act.put, List.getElem_toArray, List.getElem_cons_succ, List.getElem_cons_zero, List.setIfInBounds_toArray, List.set_cons_zero, List.set_cons_succ]
          refine AnyBut.takeS (i := 8) (v := ?v31) rfl (by kernel_rfl) (Nat.le_of_eq (by kernel_rfl)) (by kernel_rfl) (by kernel_rfl) (fun _ _ _ h => h) (HS6.out) (Or.inl ⟨by kernel_rfl, ?hy31⟩) ?r31
          case hy31 =>
            intro w hSw
            try dsimp only at hSw
            go_simp
            first | (obtain ⟨⟨y0, y1⟩, y2, y3⟩ := hSw; go_simp) | skip
            try with_reducible rfl
          try simp only [Act.put, List.getElem_toArray, List.getElem_cons_succ, List.getElem_cons_zero, List.setIfInBounds_toArray, List.set_cons_zero, List.set_cons_succ]
          refine AnyBut.takeS (i := 9) (v := ?v32) rfl (by kernel_rfl) (Nat.le_of_eq (by kernel_rfl)) (by kernel_rfl) (by kernel_rfl) (fun _ _ _ h => h) (HS6.out) (Or.inl ⟨by kernel_rfl, ?hy32⟩) ?r32
          case hy32 =>
            intro w hSw
            try dsimp only at hSw
            go_simp
            first | (obtain ⟨⟨y0, y1⟩, y2, y3⟩ := hSw; go_simp) | skip
            try with_reducible rfl
          try simp only [Act.put, List.getElem_toArray, List.getElem_cons_succ, List.getElem_cons_zero, List.setIfInBounds_toArray, List.set_cons_zero, List.set_cons_succ]
          refine AnyBut.takeS (i := 10) (v := ?v33) rfl (by kernel_rfl) (Nat.le_of_eq (by kernel_rfl)) (by kernel_rfl) (by kernel_rfl) (fun _ _ _ h => h) (HS6.out) (Or.inl ⟨by kernel_rfl, ?hy33⟩) ?r33
          case hy33 =>
            intro w hSw
            try dsimp only at hSw
            go_simp
            first | (obtain ⟨⟨y0, y1⟩, y2, y3⟩ := hSw; go_simp) | skip
            try with_reducible rfl
          try simp only [Act.put, List.getElem_toArray, List.getElem_cons_succ, List.getElem_cons_zero, List.setIfInBounds_toArray, List.set_cons_zero, List.set_cons_succ]
          refine AnyBut.takeS (i := 11) (v := ?v34) rfl (by kernel_rfl) (Nat.le_of_eq (by kernel_rfl)) (by kernel_rfl) (by kernel_rfl) (fun _ _ _ h => h) (HS6.out) (Or.inl ⟨by kernel_rfl, ?hy34⟩) ?r34
          case hy34 =>
            intro w hSw
            try dsimp only at hSw
            go_simp
            first | (obtain ⟨⟨y0, y1⟩, y2, y3⟩ := hSw; go_simp) | skip
            try with_reducible rfl
          try simp only [Act.put, List.getElem_toArray, List.getElem_cons_succ, List.getElem_cons_zero, List.setIfInBounds_toArray, List.set_cons_zero, List.set_cons_succ]
          refine AnyBut.takeS (i := 12) (v := ?v35) rfl (by kernel_rfl) (Nat.le_of_eq (by kernel_rfl)) (by kernel_rfl) (by kernel_rfl) (fun _ _ _ h => h) (HS6.out) (Or.inl ⟨by kernel_rfl, ?hy35⟩) ?r35
          case hy35 =>
            intro w hSw
            try dsimp only at hSw
            go_simp
            first | (obtain ⟨⟨y0, y1⟩, y2, y3⟩ := hSw; go_simp) | skip
            try with_reducible rfl
          try simp only [Act.put, List.getElem_toArray, List.getElem_cons_succ, List.getElem_cons_zero, List.setIfInBounds_toArray, List.set_cons_zero, List.set_cons_succ]
          refine AnyBut.takeS (i := 13) (v := ?v36) rfl (by kernel_rfl) (Nat.le_of_eq (by kernel_rfl)) (by kernel_rfl) (by kernel_rfl) (fun _ _ _ h => h) (HS6.out) (Or.inl ⟨by kernel_rfl, ?hy36⟩) ?r36
          case hy36 =>
            intro w hSw
            try dsimp only at hSw
            go_simp
            first | (obtain ⟨⟨y0, y1⟩, y2, y3⟩ := hSw; go_simp) | skip
            try with_reducible rfl
          try simp only [Act.put, List.getElem_toArray, List.getElem_cons_succ, List.getElem_cons_zero, List.setIfInBounds_toArray, List.set_cons_zero, List.set_cons_succ]
          refine AnyBut.takeS (i := 14) (v := ?v37) rfl (by kernel_rfl) (Nat.le_of_eq (by kernel_rfl)) (by kernel_rfl) (by kernel_rfl) (fun _ _ _ h => h) (HS6.out) (Or.inl ⟨by kernel_rfl, ?hy37⟩) ?r37
          case hy37 =>
            intro w hSw
            try dsimp only at hSw
            go_simp
            first | (obtain ⟨⟨y0, y1⟩, y2, y3⟩ := hSw; go_simp) | skip
            try with_reducible rfl
          try simp only [Act.put, List.getElem_toArray, List.getElem_cons_succ, List.getElem_cons_zero, List.setIfInBounds_toArray, List.set_cons_zero, List.set_cons_succ]
          refine AnyBut.takeS (i := 15) (v := ?v38) rfl (by kernel_rfl) (Nat.le_of_eq (by kernel_rfl)) (by kernel_rfl) (by kernel_rfl) (fun _ _ _ h => h) (HS6.out) (Or.inl ⟨by kernel_rfl, ?hy38⟩) ?r38
          case hy38 =>
            intro w hSw
            try dsimp only at hSw
            go_simp
            first | (obtain ⟨⟨y0, y1⟩, y2, y3⟩ := hSw; go_simp) | skip
            try with_reducible rfl
          try simp only [Act.put, List.getElem_toArray, List.getElem_cons_succ, List.getElem_cons_zero, List.setIfInBounds_toArray, List.set_cons_zero, List.set_cons_succ]
          refine AnyBut.takeS (i := 16) (v := ?v39) rfl (by kernel_rfl) (Nat.le_of_eq (by kernel_rfl)) (by kernel_rfl) (by kernel_rfl) (fun _ _ _ h => h) (HS6.out) (Or.inl ⟨by kernel_rfl, ?hy39⟩) ?r39
          case hy39 =>
            intro w hSw
            try dsimp only at hSw
            go_simp
            first | (obtain ⟨⟨y0, y1⟩, y2, y3⟩ := hSw; go_simp) | skip
            try with_reducible rfl
          try simp only [Act.put, List.getElem_toArray, List.getElem_cons_succ, List.getElem_cons_zero, List.setIfInBounds_toArray, List.set_cons_zero, List.set_cons_succ]
          refine AnyBut.takeS (i := 17) (v := ?v40) rfl (by kernel_rfl) (Nat.le_of_eq (by kernel_rfl)) (by kernel_rfl) (by kernel_rfl) (fun _ _ _ h => h) (HS6.out) (Or.inl ⟨by kernel_rfl, ?hy40⟩) ?r40
          case hy40 =>
            intro w hSw
            try dsimp only at hSw
            go_simp
            first | (obtain ⟨⟨y0, y1⟩, y2, y3⟩ := hSw; go_simp) | skip
            try with_reducible rfl
          try simp only [Act.put, List.getElem_toArray, List.getElem_cons_succ, List.getElem_cons_zero, List.setIfInBounds_toArray, List.set_cons_zero, List.set_cons_succ]
          refine AnyBut.takeS (i := 18) (v := ?v41) rfl (by kernel_rfl) (Nat.le_of_eq (by kernel_rfl)) (by kernel_rfl) (by kernel_rfl) (fun _ _ _ h => h) (HS6.out) (Or.inl ⟨by kernel_rfl, ?hy41⟩) ?r41
          case hy41 =>
            intro w hSw
            try dsimp only at hSw
            go_simp
            first | (obtain ⟨⟨y0, y1⟩, y2, y3⟩ := hSw; go_simp) | skip
            try with_reducible rfl
          try simp only [Act.put, List.getElem_toArray, List.getElem_cons_succ, List.getElem_cons_zero, List.setIfInBounds_toArray, List.set_cons_zero, List.set_cons_succ]
          refine AnyBut.takeS (i := 19) (v := ?v42) rfl (by kernel_rfl) (Nat.le_of_eq (by kernel_rfl)) (by kernel_rfl) (by kernel_rfl) (fun _ _ _ h => h) (HS6.out) (Or.inl ⟨by kernel_rfl, ?hy42⟩) ?r42
          case hy42 =>
            intro w hSw
            try dsimp only at hSw
            go_simp
            first | (obtain ⟨⟨y0, y1⟩, y2, y3⟩ := hSw; go_simp) | skip
            try with_reducible rfl
          try simp only [Act.put, List.getElem_toArray, List.getElem_cons_succ, List.getElem_cons_zero, List.setIfInBounds_toArray, List.set_cons_zero, List.set_cons_succ]
          refine AnyBut.takeS (i := 20) (v := ?v43) rfl (by kernel_rfl) (Nat.le_of_eq (by kernel_rfl)) (by kernel_rfl) (by kernel_rfl) (fun _ _ _ h => h) (HS6.out) (Or.inl ⟨by kernel_rfl, ?hy43⟩) ?r43
          case hy43 =>
            intro w hSw
            try dsimp only at hSw
            go_simp
            first | (obtain ⟨⟨y0, y1⟩, y2, y3⟩ := hSw; go_simp) | skip
            try with_reducible rfl
          try simp only [Act.put, List.getElem_toArray, List.getElem_cons_succ, List.getElem_cons_zero, List.setIfInBounds_toArray, List.set_cons_zero, List.set_cons_succ]
          refine AnyBut.takeS (i := 21) (v := ?v44) rfl (by kernel_rfl) (Nat.le_of_eq (by kernel_rfl)) (by kernel_rfl) (by kernel_rfl) (fun _ _ _ h => h) (HS6.out) (Or.inl ⟨by kernel_rfl, ?hy44⟩) ?r44
          case hy44 =>
            intro w hSw
            try dsimp only at hSw
            go_simp
            first | (obtain ⟨⟨y0, y1⟩, y2, y3⟩ := hSw; go_simp) | skip
            try with_reducible rfl
          try simp only [Act.put, List.getElem_toArray, List.getElem_cons_succ, List.getElem_cons_zero, List.setIfInBounds_toArray, List.set_cons_zero, List.set_cons_succ]
          refine AnyBut.done (by kernel_rfl) ?_
          go_wp2
          go_roundg (n - (i + 1))
          case measure => have := HD.out; omega
          case rel => exact ⟨i + 1, HD.out, rfl, rfl, by rw [all_take_succ HP.out, HA.out, HAL.out, HQ.out, ← HBM.out]; rfl, HK.out.trans ((Kept.refl _ _).drew)⟩
        | false =>
          refine AnyBut.start (S := fun w' => (w'.cell? ⟨gb, ob + i * 17 + 2, none⟩ = some (.int .i64 k1) ∧ w'.cell? ⟨gb, ob + i * 17 + 4, none⟩ = some (.bool m1)) ∧ w'.cell? ⟨gb, ob + 2, none⟩ = some (.int .i64 k0) ∧ w'.cell? ⟨gb, ob + 4, none⟩ = some (.bool m0)) (k := 22) (by kernel_rfl) ?_
          refine AnyBut.takeS (i := 0) (v := ?v45) rfl (by kernel_rfl) (Nat.le_of_eq (by kernel_rfl)) (by kernel_rfl) (by kernel_rfl) (fun _ _ _ h => h) (HS6.out) (Or.inl ⟨by kernel_rfl, ?hy45⟩) ?r45
          case hy45 =>
            intro w hSw
            try dsimp only at hSw
            go_simp
            first | (obtain ⟨⟨y0, y1⟩, y2, y3⟩ := hSw; go_simp) | skip
            try with_reducible rfl
          try simp only [Act.put, List.getElem_toArray, List.getElem_cons_zero, List.setIfInBounds_toArray, List.set_cons_zero, List.set_cons_succ]
          refine AnyBut.takeS (i := 1) (v := ?v46) rfl (by kernel_rfl) (Nat.le_of_eq (by kernel_rfl)) (by kernel_rfl) (by kernel_rfl) (fun _ _ _ h => h) (HS6.out) (Or.inl ⟨by kernel_rfl, ?hy46⟩) ?r46
          case hy46 =>
            intro w hSw
            try dsimp only at hSw
            go_simp
            first | (obtain ⟨⟨y0, y1⟩, y2, y3⟩ := hSw; go_simp) | skip
            try with_reducible rfl
          try simp only [Act.put, List.getElem_toArray, List.getElem_cons_succ, List.getElem_cons_zero, List.setIfInBounds_toArray, List.set_cons_zero, List.set_cons_succ]
          refine AnyBut.takeS (i := 2) (v := ?v47) rfl (by kernel_rfl) (Nat.le_of_eq (by kernel_rfl)) (by kernel_rfl) (by kernel_rfl) (fun _ _ _ h => h) (HS6.out) (Or.inl ⟨by kernel_rfl, ?hy47⟩) ?r47
          case hy47 =>
            intro w hSw
            try dsimp only at hSw
            go_simp
            first | (obtain ⟨⟨y0, y1⟩, y2, y3⟩ := hSw; go_simp) | skip
            try with_reducible rfl
          try simp only [Act.put, List.getElem_toArray, List.getElem_cons_succ, List.getElem_cons_zero, List.setIfInBounds_toArray, List.set_cons_zero, List.set_cons_succ]
          refine AnyBut.takeS (i := 3) (v := ?v48) rfl (by kernel_rfl) (Nat.le_of_eq (by kernel_rfl)) (by kernel_rfl) (by kernel_rfl) (fun _ _ _ h => h) (HS6.out) (Or.inl ⟨by kernel_rfl, ?hy48⟩) ?r48
          case hy48 =>
            intro w hSw
            try dsimp only at hSw
            go_simp
            first | (obtain ⟨⟨y0, y1⟩, y2, y3⟩ := hSw; go_simp) | skip
            try with_reducible rfl
          try simp only [Act.put, List.getElem_toArray, List.getElem_cons_succ, List.getElem_cons_zero, List.setIfInBounds_toArray, List.set_cons_zero, List.set_cons_succ]
          refine AnyBut.takeS (i := 4) (v := ?v49) rfl (by kernel_rfl) (Nat.le_of_eq (by kernel_rfl)) (by kernel_rfl) (by kernel_rfl) (fun _ _ _ h => h) (HS6.out) (Or.inl ⟨by kernel_rfl, ?hy49⟩) ?r49
          case hy49 =>
            intro w hSw
            try dsimp only at hSw
            go_simp
            first | (obtain ⟨⟨y0, y1⟩, y2, y3⟩ := hSw; go_simp) | skip
            try with_reducible rfl
          try simp only [Act.put, List.getElem_toArray, List.getElem_cons_succ, List.getElem_cons_zero, List.setIfInBounds_toArray, List.set_cons_zero, List.set_cons_succ]
          refine AnyBut.takeS (i := 5) (v := ?v50) rfl (by kernel_rfl) (Nat.le_of_eq (by kernel_rfl)) (by kernel_rfl) (by kernel_rfl) (fun _ _ _ h => h) (HS6.out) (Or.inl ⟨by kernel_rfl, ?hy50⟩) ?r50
          case hy50 =>
            intro w hSw
            try dsimp only at hSw
            go_simp
            first | (obtain ⟨⟨y0, y1⟩, y2, y3⟩ := hSw; go_simp) | skip
            try with_reducible rfl
          try simp only [Act.put, List.getElem_toArray, List.getElem_cons_succ, List.getElem_cons_zero, List.setIfInBounds_toArray, List.set_cons_zero, List.set_cons_succ]
          refine AnyBut.takeS (i := 6) (v := ?v51) rfl (by kernel_rfl) (Nat.le_of_eq (by kernel_rfl)) (by kernel_rfl) (by kernel_rfl) (fun _ _ _ h => h) (HS6.out) (Or.inl ⟨by kernel_rfl, ?hy51⟩) ?r51
          case hy51 =>
            intro w hSw
            try dsimp only at hSw
            go_simp
            first | (obtain ⟨⟨y0, y1⟩, y2, y3⟩ := hSw; go_simp) | skip
            try with_reducible rfl
          try simp only [Act.put, List.getElem_toArray, List.getElem_cons_succ, List.getElem_cons_zero, List.setIfInBounds_toArray, List.set_cons_zero, List.set_cons_succ]
          refine AnyBut.takeS (i := 7) (v := ?v52) rfl (by kernel_rfl) (Nat.le_of_eq (by kernel_rfl)) (by kernel_rfl) (by kernel_rfl) (fun _ _ _ h => h) (HS6.out) (Or.inl ⟨by kernel_rfl, ?hy52⟩) ?r52
          case hy52 =>
            intro w hSw
            try dsimp only at hSw
            go_simp
            first | (obtain ⟨⟨y0, y1⟩, y2, y3⟩ := hSw; go_simp) | skip
            try with_reducible rfl
          try simp only [Act.put, List.getElem_toArray, List.getElem_cons_succ, List.getElem_cons_zero, List.setIfInBounds_toArray, List.set_cons_zero, List.set_cons_succ]
          refine AnyBut.takeS (i := 8) (v := ?v53) rfl (by kernel_rfl) (Nat.le_of_eq (by kernel_rfl)) (by kernel_rfl) (by kernel_rfl) (fun _ _ _ h => h) (HS6.out) (Or.inl ⟨by kernel_rfl, ?hy53⟩) ?r53
          case hy53 =>
            intro w hSw
            try dsimp only at hSw
            go_simp
            first | (obtain ⟨⟨y0, y1⟩, y2, y3⟩ := hSw; go_simp) | skip
            try with_reducible rfl
          try simp only [Act.put, List.getElem_toArray, List.getElem_cons_succ, List.getElem_cons_zero, List.setIfInBounds_toArray, List.set_cons_zero, List.set_cons_succ]
          refine AnyBut.takeS (i := 9) (v := ?v54) rfl (by kernel_rfl) (Nat.le_of_eq (by kernel_rfl)) (by kernel_rfl) (by kernel_rfl) (fun _ _ _ h => h) (HS6.out) (Or.inl ⟨by kernel_rfl, ?hy54⟩) ?r54
          case hy54 =>
            intro w hSw
            try dsimp only at hSw
            go_simp
            first | (obtain ⟨⟨y0, y1⟩, y2, y3⟩ := hSw; go_simp) | skip
            try with_reducible rfl
          try simp only [Act.put, List.getElem_toArray, List.getElem_cons_succ, List.getElem_cons_zero, List.setIfInBounds_toArray, List.set_cons_zero, List.set_cons_succ]
          refine AnyBut.takeS (i := 10) (v := ?v55) rfl (by kernel_rfl) (Nat.le_of_eq (by kernel_rfl)) (by kernel_rfl) (by kernel_rfl) (fun _ _ _ h => h) (HS6.out) (Or.inl ⟨by kernel_rfl, ?hy55⟩) ?r55
          case hy55 =>
            intro w hSw
            try dsimp only at hSw
            go_simp
            first | (obtain ⟨⟨y0, y1⟩, y2, y3⟩ := hSw; go_simp) | skip
            try with_reducible rfl
          try simp only [Act.put, List.getElem_toArray, List.getElem_cons_succ, List.getElem_cons_zero, List.setIfInBounds_toArray, List.set_cons_zero, List.set_cons_succ]
          refine AnyBut.takeS (i := 11) (v := ?v56) rfl (by kernel_rfl) (Nat.le_of_eq (by kernel_rfl)) (by kernel_rfl) (by kernel_rfl) (fun _ _ _ h => h) (HS6.out) (Or.inl ⟨by kernel_rfl, ?hy56⟩) ?r56
          case hy56 =>
            intro w hSw
            try dsimp only at hSw
            go_simp
            first | (obtain ⟨⟨y0, y1⟩, y2, y3⟩ := hSw; go_simp) | skip
            try with_reducible rfl
          try simp only [Act.put, List.getElem_toArray, List.getElem_cons_succ, List.getElem_cons_zero, List.setIfInBounds_toArray, List.set_cons_zero, List.set_cons_succ]
          refine AnyBut.takeS (i := 12) (v := ?v57) rfl (by kernel_rfl) (Nat.le_of_eq (by kernel_rfl)) (by kernel_rfl) (by kernel_rfl) (fun _ _ _ h => h) (HS6.out) (Or.inl ⟨by kernel_rfl, ?hy57⟩) ?r57
          case hy57 =>
            intro w hSw
            try dsimp only at hSw
            go_simp
            first | (obtain ⟨⟨y0, y1⟩, y2, y3⟩ := hSw; go_simp) | skip
            try with_reducible rfl
          try simp only [Act.put, List.getElem_toArray, List.getElem_cons_succ, List.getElem_cons_zero, List.setIfInBounds_toArray, List.set_cons_zero, List.set_cons_succ]
          refine AnyBut.takeS (i := 13) (v := ?v58) rfl (by kernel_rfl) (Nat.le_of_eq (by kernel_rfl)) (by kernel_rfl) (by kernel_rfl) (fun _ _ _ h => h) (HS6.out) (Or.inl ⟨by kernel_rfl, ?hy58⟩) ?r58
          case hy58 =>
            intro w hSw
            try dsimp only at hSw
            go_simp
            first | (obtain ⟨⟨y0, y1⟩, y2, y3⟩ := hSw; go_simp) | skip
            try with_reducible rfl
          try simp only [Act.put, List.getElem_toArray, List.getElem_cons_succ, List.getElem_cons_zero, List.setIfInBounds_toArray, List.set_cons_zero, List.set_cons_succ]
          refine AnyBut.takeS (i := 14) (v := ?v59) rfl (by kernel_rfl) (Nat.le_of_eq (by kernel_rfl)) (by kernel_rfl) (by kernel_rfl) (fun _ _ _ h => h) (HS6.out) (Or.inl ⟨by kernel_rfl, ?hy59⟩) ?r59
          case hy59 =>
            intro w hSw
            try dsimp only at hSw
            go_simp
            first | (obtain ⟨⟨y0, y1⟩, y2, y3⟩ := hSw; go_simp) | skip
            try with_reducible rfl
          try simp only [Act.put, List.getElem_toArray, List.getElem_cons_succ, List.getElem_cons_zero, List.setIfInBounds_toArray, List.set_cons_zero, List.set_cons_succ]
          refine AnyBut.takeS (i := 15) (v := ?v60) rfl (by kernel_rfl) (Nat.le_of_eq (by kernel_rfl)) (by kernel_rfl) (by kernel_rfl) (fun _ _ _ h => h) (HS6.out) (Or.inl ⟨by kernel_rfl, ?hy60⟩) ?r60
          case hy60 =>
            intro w hSw
            try dsimp only at hSw
            go_simp
            first | (obtain ⟨⟨y0, y1⟩, y2, y3⟩ := hSw; go_simp) | skip
            try with_reducible rfl
          try simp only [Act.put, List.getElem_toArray, List.getElem_cons_succ, List.getElem_cons_zero, List.setIfInBounds_toArray, List.set_cons_zero, List.set_cons_succ]
          refine AnyBut.takeS (i := 16) (v := ?v61) rfl (by kernel_rfl) (Nat.le_of_eq (by kernel_rfl)) (by kernel_rfl) (by kernel_rfl) (fun _ _ _ h => h) (HS6.out) (Or.inl ⟨by kernel_rfl, ?hy61⟩) ?r61
          case hy61 =>
            intro w hSw
            try dsimp only at hSw
            go_simp
            first | (obtain ⟨⟨y0, y1⟩, y2, y3⟩ := hSw; go_simp) | skip
            try with_reducible rfl
          try simp only [Act.put, List.getElem_toArray, List.getElem_cons_succ, List.getElem_cons_zero, List.setIfInBounds_toArray, List.set_cons_zero, List.set_cons_succ]
          refine AnyBut.takeS (i := 17) (v := ?v62) rfl (by kernel_rfl) (Nat.le_of_eq (by kernel_rfl)) (by kernel_rfl) (by kernel_rfl) (fun _ _ _ h => h) (HS6.out) (Or.inl ⟨by kernel_rfl, ?hy62⟩) ?r62
          case hy62 =>
            intro w hSw
            try dsimp only at hSw
            go_simp
            first | (obtain ⟨⟨y0, y1⟩, y2, y3⟩ := hSw; go_simp) | skip
            try with_reducible rfl
          try simp only [Act.put, List.getElem_toArray, List.getElem_cons_succ, List.getElem_cons_zero, List.setIfInBounds_toArray, List.set_cons_zero, List.set_cons_succ]
          refine AnyBut.takeS (i := 18) (v := ?v63) rfl (by kernel_rfl) (Nat.le_of_eq (by kernel_rfl)) (by kernel_rfl) (by kernel_rfl) (fun _ _ _ h => h) (HS6.out) (Or.inl ⟨by kernel_rfl, ?hy63⟩) ?r63
          case hy63 =>
            intro w hSw
            try dsimp only at hSw
            go_simp
            first | (obtain ⟨⟨y0, y1⟩, y2, y3⟩ := hSw; go_simp) | skip
            try with_reducible rfl
          try simp only [Act.put, List.getElem_toArray, List.getElem_cons_succ, List.getElem_cons_zero, List.setIfInBounds_toArray, List.set_cons_zero, List.set_cons_succ]
          refine AnyBut.takeS (i := 19) (v := ?v64) rfl (by kernel_rfl) (Nat.le_of_eq (by kernel_rfl)) (by kernel_rfl) (by kernel_rfl) (fun _ _ _ h => h) (HS6.out) (Or.inl ⟨by kernel_rfl, ?hy64⟩) ?r64
          case hy64 =>
            intro w hSw
            try dsimp only at hSw
            go_simp
            first | (obtain ⟨⟨y0, y1⟩, y2, y3⟩ := hSw; go_simp) | skip
            try with_reducible rfl
          try simp only [Act.put, List.getElem_toArray, List.getElem_cons_succ, List.getElem_cons_zero, List.setIfInBounds_toArray, List.set_cons_zero, List.set_cons_succ]
          refine AnyBut.takeS (i := 20) (v := ?v65) rfl (by kernel_rfl) (Nat.le_of_eq (by kernel_rfl)) (by kernel_rfl) (by kernel_rfl) (fun _ _ _ h => h) (HS6.out) (Or.inl ⟨by kernel_rfl, ?hy65⟩) ?r65
          case hy65 =>
            intro w hSw
            try dsimp only at hSw
            go_simp
            first | (obtain ⟨⟨y0, y1⟩, y2, y3⟩ := hSw; go_simp) | skip
            try with_reducible rfl
          try simp only [Act.put, List.getElem_toArray, List.getElem_cons_succ, List.getElem_cons_zero, List.setIfInBounds_toArray, List.set_cons_zero, List.set_cons_succ]
          refine AnyBut.takeS (i := 21) (v := ?v66) rfl (by kernel_rfl) (Nat.le_of_eq (by kernel_rfl)) (by kernel_rfl) (by kernel_rfl) (fun _ _ _ h => h) (HS6.out) (Or.inl ⟨by kernel_rfl, ?hy66⟩) ?r66
          case hy66 =>
            intro w hSw
            try dsimp only at hSw
            go_simp
            first | (obtain ⟨⟨y0, y1⟩, y2, y3⟩ := hSw; go_simp) | skip
            try with_reducible rfl
          try simp only [Act.put, List.getElem_toArray, List.getElem_cons_succ, List.getElem_cons_zero, List.setIfInBounds_toArray, List.set_cons_zero, List.set_cons_succ]
          refine AnyBut.done (by kernel_rfl) ?_
          go_wp2
          go_ret
          exact ⟨ret_bool (all_false HP.out (by rw [HAL.out, ← HBM.out, Bool.and_false])).symm, HK.out.trans ((Kept.refl _ _).drew)⟩
      · obtain rfl : n = i := by omega
        have ha := HA.out
        rw [List.take_of_length_le (by rw [HN.out.1]; exact Nat.le_refl _)] at ha
        have HA2 := Lib.hid ha
        clear hd ha
        go_wp2
        go_ret
        exact ⟨ret_bool HA2.out.symm, HK.out⟩
end Go.Proofs.Ytiiibhdohlpodaa

