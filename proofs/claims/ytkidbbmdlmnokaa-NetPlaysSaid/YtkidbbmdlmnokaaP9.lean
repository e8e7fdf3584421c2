/- The document's answer for layer 2: GetNum. -/
import Derived.Test.YtkidbbmdlmnokaaP8
import Derived.Outline
import Derived.DataReads
import Derived.WideShapes
namespace Go.Proofs.Ytkidbbmdlmnokaa
open Go.RowKit
attribute [local go_sem ↓] Go.wp_at_zero Go.wp_at_succ

/-- What is answered of bytes from a place on. -/
def Got (r : Int × Nat × Int) : Value := .agg #[.int .u64 r.1, .int .i64 r.2.1, .int .i64 r.2.2]

theorem SliceAt.addr {w : World} {v : Value} {ao : Option Addr} {n c : Nat} {l : List Int} (h : SliceAt w v ao n c (u8s l)) (hp : 0 < l.length) :
    ∃ b off, ao = some ⟨b, off, Option.none⟩ ∧ ∀ j, j < l.length → w.cell? ⟨b, off + j, Option.none⟩ = some (.int .u8 (l.getD j 0)) := by
  cases ao with
  | none => have := h.none rfl; have h2 := h.len; simp [u8s] at h2; omega
  | some a =>
    have hc : ∀ i, i < l.length → w.cell? (a.add i) = some (.int .u8 (l.getD i 0)) := fun i hi => h.cells a rfl i _ (by simp [u8s, List.getD_eq_getElem?_getD, List.getElem?_eq_getElem hi])
    obtain ⟨b, off, spot⟩ := a
    have hspot : spot = Option.none := by simpa [Addr.add] using World.cell?_spot (hc 0 hp)
    subst hspot
    exact ⟨b, off, rfl, fun j hj => by rw [← Go.WideShapes.add_plain]; exact hc j hj⟩

theorem getD_mem {l : List Int} {i : Nat} (h : i < l.length) : l.getD i 0 ∈ l := by rw [List.getD_eq_getElem?_getD, List.getElem?_eq_getElem h]; simp

set_option maxHeartbeats 1000000 in
set_option maxRecDepth 100000 in
theorem getNum_any (v : Value) (ao : Option Addr) (c : Nat) (l : List Int) (t : Nat) (w : World) (hv : SliceAt w v ao l.length c (u8s l)) (hb : ∀ x ∈ l, 0 ≤ x ∧ x < 256) (hl : l.length ≤ 100000000000) (ht : t ≤ l.length) :
    Calls Try.prog 60 #[v, .int .i64 t] w fun e w' => e = .returned (Got (lookF l t)) ∧ Kept (fun _ => False) w w' := by
  obtain rfl := hv.val
  have hcase : l.length ≤ t ∨ t < l.length := by omega
  rcases hcase with hA | hA
  · have HL : Hid (lookF l t = (0, 0, 2)) := by show _ = _; unfold lookF; rw [if_pos hA]
    have q1 : (l.length : Int) ≤ (t : Int) := by omega
    go_enter Try.func60, Try.ntmps60
    go_wp2
    exact bodyPost_ret (v := Got (0, 0, 2)) (by simp [results, Try.results60, go_sem, Got]) rfl ⟨by rw [HL.out], (Kept.refl _ _).alloc _⟩
  · have q1 : ¬ (l.length : Int) ≤ (t : Int) := by omega
    obtain ⟨g, off, rfl, hcells⟩ := hv.addr (by omega)
    have hcell := hcells t hA
    obtain ⟨b0, b1⟩ := hb _ (getD_mem hA)
    obtain ⟨b, hbb⟩ : ∃ b, b = l.getD t 0 := ⟨_, rfl⟩
    rw [← hbb] at hcell b0 b1
    have HB := Lib.hid hbb
    have HC := Lib.hid hcells
    clear hbb hcells
    have t0 : (0 : Int) ≤ (t : Int) := by omega
    have t1 : (t : Int) < (l.length : Int) := by omega
    have ll := lo_le b
    have hg : g < w.heap.size := World.block_lt_of_cell? w ⟨g, off + t, none⟩ hcell
    go_enter Try.func60, Try.ntmps60
    go_wp2
    go_loopw [6] (fun x wr => ∃ k : Nat, k ≤ lo b ∧ x = .int .i64 k ∧ wr = w.alloc (.cells #[.int .u64 0, .int .i64 0, .int .i64 0] 90)) (fun x _ => lo b - (intOf x).toNat)
    case atStart => exact ⟨0, Nat.zero_le _, rfl, rfl⟩
    case round =>
      obtain ⟨k, hk, rfl, rfl⟩ := hrel
      by_cases hd : k < lo b
      · have hk' : k < 8 := by omega
        have hs := (lo_ones b k b0 b1 hk').1 hd
        obtain rfl | rfl | rfl | rfl | rfl | rfl | rfl | rfl : k = 0 ∨ k = 1 ∨ k = 2 ∨ k = 3 ∨ k = 4 ∨ k = 5 ∨ k = 6 ∨ k = 7 := by omega
        all_goals
          simp only [Nat.reduceSub, Nat.reducePow] at hs
          go_wp2_with (go_at_call 87; refine (power_int _ (by omega) (by omega) _).mono ?_; rintro e w' ⟨rfl, rfl⟩)
          go_roundw
          case rel => exact ⟨_, hd, by go_num, trivial⟩
          case measure => simp [intOf]; omega
      · obtain rfl : k = lo b := by omega
        obtain ⟨k, HK⟩ : ∃ k, Hid (k = lo b) := ⟨_, rfl⟩
        have lk : k ≤ 8 := by rw [HK.out]; exact ll
        rw [← HK.out]
        clear hd hk ll
        have kb : (k : Int) ≤ 8 := by omega
        have k0 : (0 : Int) ≤ (k : Int) := by omega
        obtain ⟨M, HM⟩ : ∃ M : Int, Hid (M = ((2 ^ (7 - k) : Nat) : Int)) := ⟨_, rfl⟩
        have hMb : 1 ≤ M ∧ M ≤ 128 := by
          rw [HM.out]
          have h1 := Nat.two_pow_pos (7 - k)
          have h2 : 2 ^ (7 - k) ≤ 2 ^ 7 := Nat.pow_le_pow_right (by omega) (by omega)
          have h3 : (2 : Nat) ^ 7 = 128 := rfl
          omega
        obtain ⟨M0, M1⟩ := hMb
        have HT : Hid (b % M = topV b k) := by show _ = _; rw [HM.out]; rfl
        have pw : ∀ w1 : World, 0 ≤ 7 - (k : Int) → Calls Try.prog 87 #[.int .i64 (7 - (k : Int))] w1 fun e w' => e = .returned (.int .u64 M) ∧ w1 = w' := fun w1 h => by
          have := power_int (7 - (k : Int)) h (by omega) w1
          have e : (7 - (k : Int)).toNat = 7 - k := by omega
          rw [e, ← HM.out] at this
          exact this
        have PW := Lib.hid pw
        clear pw
        have LE : Hid (l.length - t ≤ k → lookF l t = (0, 0, 2)) := by
          intro h; unfold lookF; rw [← HB.out, ← HK.out, if_neg (by omega), if_pos h]
        have LV : Hid (¬ l.length - t ≤ k → lookF l t = if oth (bigV (topV b k) ((l.drop (t + 1)).take k)) < k then (0, 0, 3) else (bigV (topV b k) ((l.drop (t + 1)).take k), 1 + k, 0)) := by
          intro h; unfold lookF; rw [← HB.out, ← HK.out, if_neg (by omega), if_neg h]
        have hkc : k = 8 ∨ (k < 8 ∧ (((b / M).tmod 2) == 1) = false) := by
          by_cases h : k = 8
          · exact .inl h
          · refine .inr ⟨by omega, ?_⟩
            have := (lo_ones b k b0 b1 (by omega)).2 HK.out
            rw [← HM.out] at this
            rw [Int.tmod_eq_emod_of_nonneg (Int.ediv_nonneg b0 (by omega)), this]; rfl
        have hc2 : l.length - t ≤ k ∨ ¬ l.length - t ≤ k := Decidable.em _
        rcases hkc with rfl | ⟨hk8, hq⟩ <;> rcases hc2 with hC | hC
        · have HL := Lib.hid (LE.out hC)
          have q2 : (l.length : Int) - (t : Int) - 1 < 8 := by omega
          clear LE LV hC
          go_wp2
          exact bodyPost_ret (v := Got (0, 0, 2)) (by simp [results, Try.results60, go_sem, Got]) rfl ⟨by rw [HL.out], (Kept.refl _ _).alloc _⟩
        · have q2 : ¬ (l.length : Int) - (t : Int) - 1 < 8 := by omega
          have HL := Lib.hid (LV.out hC)
          clear LE LV
          go_wp2
          go_loopw [7, 8] (fun x i wr => ∃ j : Nat, j ≤ 8 ∧ i = .int .i64 ((j : Int) + 1) ∧ x = .int .u64 (bigV (topV b 8) ((l.drop (t + 1)).take j)) ∧ wr = w.alloc (.cells #[.int .u64 0, .int .i64 0, .int .i64 0] 90)) (fun _ i _ => 8 + 1 - (intOf i).toNat)
          case atStart => exact ⟨0, Nat.zero_le _, rfl, by show _ = Value.int .u64 (b % ((1 : Nat) : Int)); rw [show b % ((1 : Nat) : Int) = 0 from by omega], rfl⟩
          case round =>
            obtain ⟨j, hj, rfl, rfl, rfl⟩ := hrel
            have hbs : ∀ x ∈ (l.drop (t + 1)).take j, 0 ≤ x ∧ x < 256 := fun x hx => hb x (List.mem_of_mem_drop (List.mem_of_mem_take hx))
            have hbl : ((l.drop (t + 1)).take j).length = j := by rw [List.length_take, List.length_drop]; omega
            by_cases hd : j < 8
            · have hvv := bigV_small b 8 j _ (by omega) hd hbl hbs
              have hin : t + 1 + j < l.length := by omega
              have hcl := HC.out (t + 1 + j) hin
              obtain ⟨c0, c1⟩ := hb _ (getD_mem hin)
              obtain ⟨y, hy⟩ : ∃ y, y = l.getD (t + 1 + j) 0 := ⟨_, rfl⟩
              rw [← hy] at hcl c0 c1
              have hsn : (l.drop (t + 1)).take (j + 1) = (l.drop (t + 1)).take j ++ [y] := by
                rw [List.take_add_one, List.getElem?_drop, hy, List.getD_eq_getElem?_getD, List.getElem?_eq_getElem hin]; rfl
              obtain ⟨V, hV⟩ : ∃ V, V = bigV (topV b 8) ((l.drop (t + 1)).take j) := ⟨_, rfl⟩
              rw [← hV] at hvv ⊢
              have HV : Hid (bigV (topV b 8) ((l.drop (t + 1)).take (j + 1)) = 256 * V + y) := by show _ = _; rw [hsn, bigV_snoc, ← hV]; omega
              clear hV hsn hy hbs hbl
              obtain ⟨v0, v1⟩ := hvv
              have s1 : IntKind.u64.wrap (256 * V) = 256 * V := wrap_u64_of _ (by omega) (by omega)
              have s2 : IntKind.u64.wrap (256 * V + y) = 256 * V + y := wrap_u64_of _ (by omega) (by omega)
              have j0 : (0 : Int) ≤ (j : Int) := by omega
              have j1 : (t : Int) + ((j : Int) + 1) < (l.length : Int) := by omega
              have j2 : (j : Int) + 1 ≤ (8 : Int) := by omega
              have w3 : ((t : Int) + ((j : Int) + 1)).toNat = t + 1 + j := by omega
              go_wp2
              go_roundw
              case rel => exact ⟨j + 1, hd, by go_num, by rw [HV.out], trivial⟩
              case measure => simp [intOf]; omega
            · obtain rfl : j = 8 := by omega
              have hX := bigV_u64 b 8 _ (by omega) (by omega) hbs
              have hoth := oth_big b 8 _ (by omega) hbl hbs
              generalize bigV (topV b 8) ((l.drop (t + 1)).take 8) = X at *
              obtain ⟨X0, X1⟩ := hX
              have j2 : ¬ (8 : Int) + 1 ≤ (8 : Int) := by omega
              by_cases ho : oth X < 8
              · have hne : ((oth X : Int) != (8 : Int)) = true := by rw [bne_iff_ne]; omega
                have HL2 : Hid (lookF l t = (0, 0, 3)) := by show _ = _; rw [HL.out, if_pos ho]
                clear HL ho hoth hbs hbl
                go_wp2_with (go_at_call 86; refine (refOthers_any X X0 X1 _).mono ?_; rintro e w' ⟨rfl, rfl⟩)
                exact bodyPost_ret (v := Got (0, 0, 3)) (by simp [results, Try.results60, go_sem, Got]) rfl ⟨by rw [HL2.out], (Kept.refl _ _).alloc _⟩
              · have hne : ((oth X : Int) != (8 : Int)) = false := by rw [bne_eq_false_iff_eq]; omega
                have HL2 : Hid (lookF l t = (X, 1 + 8, 0)) := by show _ = _; rw [HL.out, if_neg ho]
                clear HL ho hoth hbs hbl
                go_wp2_with (go_at_call 86; refine (refOthers_any X X0 X1 _).mono ?_; rintro e w' ⟨rfl, rfl⟩)
                exact bodyPost_ret (v := Got (X, 1 + 8, 0)) (by simp [results, Try.results60, go_sem, Got]) rfl ⟨by rw [HL2.out], (Kept.refl _ _).alloc _⟩
        · have HL := Lib.hid (LE.out hC)
          have q2 : (l.length : Int) - (t : Int) - 1 < (k : Int) := by omega
          have q3 : (k : Int) < 8 := by omega
          clear LE LV hC
          go_wp2_with (go_at_call 87; refine (PW.out _ (by omega)).mono ?_; rintro e w' ⟨rfl, rfl⟩)
          exact bodyPost_ret (v := Got (0, 0, 2)) (by simp [results, Try.results60, go_sem, Got]) rfl ⟨by rw [HL.out], (Kept.refl _ _).alloc _⟩
        · have q2 : ¬ (l.length : Int) - (t : Int) - 1 < (k : Int) := by omega
          have q3 : (k : Int) < 8 := by omega
          have HL := Lib.hid (LV.out hC)
          clear LE LV
          go_wp2_with (go_at_call 87; refine (PW.out _ (by omega)).mono ?_; rintro e w' ⟨rfl, rfl⟩)
          go_loopw [7, 8] (fun x i wr => ∃ j : Nat, j ≤ k ∧ i = .int .i64 ((j : Int) + 1) ∧ x = .int .u64 (bigV (topV b k) ((l.drop (t + 1)).take j)) ∧ wr = w.alloc (.cells #[.int .u64 0, .int .i64 0, .int .i64 0] 90)) (fun _ i _ => k + 1 - (intOf i).toNat)
          case atStart => exact ⟨0, Nat.zero_le _, rfl, by rw [HT.out]; rfl, rfl⟩
          case round =>
            obtain ⟨j, hj, rfl, rfl, rfl⟩ := hrel
            have hbs : ∀ x ∈ (l.drop (t + 1)).take j, 0 ≤ x ∧ x < 256 := fun x hx => hb x (List.mem_of_mem_drop (List.mem_of_mem_take hx))
            have hbl : ((l.drop (t + 1)).take j).length = j := by rw [List.length_take, List.length_drop]; omega
            by_cases hd : j < k
            · have hvv := bigV_small b k j _ (by omega) hd hbl hbs
              have hin : t + 1 + j < l.length := by omega
              have hcl := HC.out (t + 1 + j) hin
              obtain ⟨c0, c1⟩ := hb _ (getD_mem hin)
              obtain ⟨y, hy⟩ : ∃ y, y = l.getD (t + 1 + j) 0 := ⟨_, rfl⟩
              rw [← hy] at hcl c0 c1
              have hsn : (l.drop (t + 1)).take (j + 1) = (l.drop (t + 1)).take j ++ [y] := by
                rw [List.take_add_one, List.getElem?_drop, hy, List.getD_eq_getElem?_getD, List.getElem?_eq_getElem hin]; rfl
              obtain ⟨V, hV⟩ : ∃ V, V = bigV (topV b k) ((l.drop (t + 1)).take j) := ⟨_, rfl⟩
              rw [← hV] at hvv ⊢
              have HV : Hid (bigV (topV b k) ((l.drop (t + 1)).take (j + 1)) = 256 * V + y) := by show _ = _; rw [hsn, bigV_snoc, ← hV]; omega
              clear hV hsn hy hbs hbl
              obtain ⟨v0, v1⟩ := hvv
              have s1 : IntKind.u64.wrap (256 * V) = 256 * V := wrap_u64_of _ (by omega) (by omega)
              have s2 : IntKind.u64.wrap (256 * V + y) = 256 * V + y := wrap_u64_of _ (by omega) (by omega)
              have j0 : (0 : Int) ≤ (j : Int) := by omega
              have j1 : (t : Int) + ((j : Int) + 1) < (l.length : Int) := by omega
              have j2 : (j : Int) + 1 ≤ (k : Int) := by omega
              have w3 : ((t : Int) + ((j : Int) + 1)).toNat = t + 1 + j := by omega
              go_wp2
              go_roundw
              case rel => exact ⟨j + 1, hd, by go_num, by rw [HV.out], trivial⟩
              case measure => simp [intOf]; omega
            · obtain rfl : k = j := by omega
              have hX := bigV_u64 b k _ (by omega) (by omega) hbs
              have hoth := oth_big b k _ (by omega) hbl hbs
              generalize bigV (topV b k) ((l.drop (t + 1)).take k) = X at *
              obtain ⟨X0, X1⟩ := hX
              have j2 : ¬ (k : Int) + 1 ≤ (k : Int) := by omega
              by_cases ho : oth X < k
              · have hne : ((oth X : Int) != (k : Int)) = true := by rw [bne_iff_ne]; omega
                have HL2 : Hid (lookF l t = (0, 0, 3)) := by show _ = _; rw [HL.out, if_pos ho]
                clear HL ho hoth hbs hbl
                go_wp2_with (go_at_call 86; refine (refOthers_any X X0 X1 _).mono ?_; rintro e w' ⟨rfl, rfl⟩)
                exact bodyPost_ret (v := Got (0, 0, 3)) (by simp [results, Try.results60, go_sem, Got]) rfl ⟨by rw [HL2.out], (Kept.refl _ _).alloc _⟩
              · have hne : ((oth X : Int) != (k : Int)) = false := by rw [bne_eq_false_iff_eq]; omega
                have HL2 : Hid (lookF l t = (X, 1 + k, 0)) := by show _ = _; rw [HL.out, if_neg ho]
                clear HL ho hoth hbs hbl
                go_wp2_with (go_at_call 86; refine (refOthers_any X X0 X1 _).mono ?_; rintro e w' ⟨rfl, rfl⟩)
                exact bodyPost_ret (v := Got (X, 1 + k, 0)) (by simp [results, Try.results60, go_sem, Got]) rfl ⟨by rw [HL2.out], (Kept.refl _ _).alloc _⟩
end Go.Proofs.Ytkidbbmdlmnokaa
