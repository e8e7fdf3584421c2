/- package pack's reader: look. -/
import Derived.Test.YtkidbbmdlmnokaaP5
import Derived.Test.YtkidbbmdlmnokaaL2
import Derived.Deep.DeepCutAuto
import Derived.Deep.LoopGhost
import Derived.Outline
namespace Go.Proofs.Ytkidbbmdlmnokaa
open Go.RowKit
attribute [local go_sem ↓] Go.wp_at_zero Go.wp_at_succ

/-- What a look leaves: v, n, and the error e'. -/
def Looked (T E : TypeId) (w : World) (B p : Nat) (v : Value) (l : List Int) (t : Nat) (r : Int × Nat × Int) (e : Ending) (w' : World) : Prop :=
  e = .returned (.tuple #[.int .u64 r.1, .int .i64 r.2.1]) ∧ RdAt T E w' B p v l t r.2.2 ∧ Kept (fun k => k = p) w w'

/-- The frame at look's label. -/
def AtEnd (p : Nat) (x : Int) (k : Nat) (e : Int) (a : Act) : Prop := ∃ u1 u3 u5 u7 u8 u9 u10 u11 u12 u13 u14 u15 u16 u17 u18 u19 u20 u21 u22 u23 u24 u25 u26 u27 u28 u29 u30 u31 u32 u33 u34 u35 u36 u37 u38 u39 u40 u41 u42 u43 u44 u45 u46 u47 u48 u49 u50 u51 u52 u53 u54 u55 u56 u57 u58 u59 u60 u61 u62 u63 u64 u65 u66 u67 u68 u69 u70 u71 u72 u73 : Value, a = { tmps := #[.pointer (some ⟨p, 0, none⟩), u1, .int .u64 x, u3, .int .i64 (k : Int), u5, .int .i64 e, u7, u8, u9, u10, u11, u12, u13, u14, u15, u16, u17, u18, u19, u20, u21, u22, u23, u24, u25, u26, u27, u28, u29, u30, u31, u32, u33, u34, u35, u36, u37, u38, u39, u40, u41, u42, u43, u44, u45, u46, u47, u48, u49, u50, u51, u52, u53, u54, u55, u56, u57, u58, u59, u60, u61, u62, u63, u64, u65, u66, u67, u68, u69, u70, u71, u72, u73], defers := [] }

/-- What holds at look's label: the number x, k bytes behind the first one, the error e. -/
def AtLabel (T E : TypeId) (w : World) (B p : Nat) (v : Value) (l : List Int) (t : Nat) (r : Int × Nat × Int) (a : Act) (w' : World) : Prop :=
  ∃ x k e e0, AtEnd p x k e a ∧ RdAt T E w' B p v l t e0 ∧ Kept (fun k => k = p) w w' ∧ (e = 0 → e0 = 0 ∧ r = (x, 1 + k, 0) ∧ k ≤ 8) ∧ (e ≠ 0 → r = (0, 0, e))

theorem addr_add (g j : Nat) : (⟨g, 0, none⟩ : Addr).add j = ⟨g, j, none⟩ := by unfold Addr.add; split <;> simp_all

theorem RdAt.free {T E : TypeId} {w : World} {B p : Nat} {v : Value} {l : List Int} {t : Nat} {e : Int} (h : RdAt T E w B p v l t e) (j : Nat) : w.frozen? ⟨p, j, none⟩ = false := by
  simp [World.frozen?, h.box]

theorem RdAt.setErr {T E : TypeId} {w : World} {B p : Nat} {v : Value} {l : List Int} {t : Nat} {e e2 : Int} (h : RdAt T E w B p v l t e) : RdAt T E (w.setCell ⟨p, 2, none⟩ (.int .i64 e2)) B p v l t e2 := by
  refine ⟨h.base, ?_, ?_, h.apart, h.taken, h.byte⟩
  · have e := h.box
    simp [World.setCell, Array.getElem?_modify, e]
  · exact ((Kept.refl (fun k => k = p) w).setCell (p := ⟨p, 2, none⟩) (fun _ => rfl) _).owns h.owns (fun k e x => h.apart (by rw [e, x]))

theorem lz_any (b : Int) (h0 : 0 ≤ b) (h1 : b < 256) (w : World) :
    Calls Try.prog 94 #[.int .u8 (255 - b)] w fun e w' => e = .returned (.int .i64 (lo b)) ∧ w = w' :=
  (Try.bits_LeadingZeros8 (255 - b) w (by omega) (by omega)).mono fun e w' ⟨he, hw⟩ => ⟨by rw [he, lo_eq b h0 h1], hw.symm⟩

set_option maxHeartbeats 1000000 in
set_option maxRecDepth 100000 in
theorem look_any (B p : Nat) (v : Value) (l : List Int) (t : Nat) (w : World) (HR : RdAt 113 5 w B p v l t 0) (hl : l.length ≤ 100000000000) :
    Calls Try.prog 90 #[.pointer (some ⟨p, 0, none⟩)] w (Looked 113 5 w B p v l t (lookF l t)) := by
  have hc2 := HR.c2
  have ht := HR.taken
  go_enter Try.func90, Try.ntmps90
  go_wp2
  refine wp_scope_jumps 0 (AtLabel 113 5 w B p v l t (lookF l t)) (fun _ _ => 0) rfl ?_ ?_
  · have hcase : l.length ≤ t ∨ t < l.length := by omega
    rcases hcase with hA | hA
    · have q1 : (((l.length : Int) - (t : Int)) == 0) = true := by simp; omega
      have hL : lookF l t = (0, 0, 2) := by unfold lookF; rw [if_pos hA]
      have HL := Lib.hid hL
      clear hL
      go_wp2
      go_quiet (fail)
      go_wp2_with (go_at_call 71; refine (left_any B p _ l t 0 _ (HR.drewN _) hl).mono ?_; rintro e w' ⟨rfl, q, rfl⟩)
      go_step3
      exact ⟨rfl, 0, 0, 2, 0, ⟨_, _, _, _, _, _, _, _, _, _, _, _, _, _, _, _, _, _, _, _, _, _, _, _, _, _, _, _, _, _, _, _, _, _, _, _, _, _, _, _, _, _, _, _, _, _, _, _, _, _, _, _, _, _, _, _, _, _, _, _, _, _, _, _, _, _, _, _, _, _, rfl⟩, HR.drewN _, (Kept.refl _ _).drewN _, fun h => absurd h (by decide), fun _ => HL.out⟩
    · have q1 : (((l.length : Int) - (t : Int)) == 0) = false := by simp; omega
      obtain ⟨g, cap, rfl, _, _⟩ := HR.owns.form (by omega)
      obtain ⟨b, hb⟩ : ∃ b, b = l.getD t 0 := ⟨_, rfl⟩
      have hbm : b ∈ l := by rw [hb, List.getD_eq_getElem?_getD, List.getElem?_eq_getElem hA]; simp
      obtain ⟨b0, b1⟩ := HR.byte b hbm
      have hcell : w.cell? ⟨g, t, none⟩ = some (.int .u8 b) := by
        have := HR.owns.cells (g := g) rfl t (.int .u8 b) (by rw [hb, List.getD_eq_getElem?_getD, List.getElem?_eq_getElem hA]; simp [List.getElem?_eq_getElem hA])
        rwa [addr_add] at this
      have HB := Lib.hid hb
      clear hb
      have hc0 := HR.c0
      have hc1 := HR.c1
      have x1 := xor_u8_max b b0 b1
      have ll := lo_le b
      have k0 : (0 : Int) ≤ (lo b : Int) := by omega
      have k8 : (lo b : Int) ≤ 8 := by omega
      have t0 : (0 : Int) ≤ (t : Int) := by omega
      have t1 : (t : Int) < (l.length : Int) := by omega
      by_cases hB : l.length - t ≤ lo b
      · have hL : lookF l t = (0, 0, 2) := by unfold lookF; rw [← HB.out, if_neg (by omega), if_pos hB]
        have HL := Lib.hid hL
        clear hL
        have q2 : (l.length : Int) - (t : Int) ≤ (lo b : Int) := by omega
        go_wp2
        go_quiet (fail)
        go_wp2_with (go_at_call 71; refine (left_any B p _ l t 0 _ (HR.drewN _) hl).mono ?_; rintro e w' ⟨rfl, q, rfl⟩)
        go_quiet (fail)
        go_wp2_with (first | (go_at_call 71; refine (left_any B p _ l t 0 _ (HR.drewN _) hl).mono ?_; rintro e w' ⟨rfl, q, rfl⟩) | (go_at_call 94; refine (lz_any b b0 b1 _).mono ?_; rintro e w' ⟨rfl, rfl⟩))
        go_step3
        exact ⟨rfl, 0, lo b, 2, 0, ⟨_, _, _, _, _, _, _, _, _, _, _, _, _, _, _, _, _, _, _, _, _, _, _, _, _, _, _, _, _, _, _, _, _, _, _, _, _, _, _, _, _, _, _, _, _, _, _, _, _, _, _, _, _, _, _, _, _, _, _, _, _, _, _, _, _, _, _, _, _, _, rfl⟩, HR.drewN _, (Kept.refl _ _).drewN _, fun h => absurd h (by decide), fun _ => HL.out⟩
      · have q2 : ¬ ((l.length : Int) - (t : Int) ≤ (lo b : Int)) := by omega
        have a1 := and_top b (lo b) b0 b1 ll
        have htp := topV_range b (lo b)
        have a2 : IntKind.u64.wrap (topV b (lo b)) = topV b (lo b) := wrap_u64_of _ htp.1 (by have h := htp.2; have h2 : 2 ^ (7 - lo b) ≤ 2 ^ 7 := Nat.pow_le_pow_right (by omega) (by omega); omega)
        clear htp
        go_wp2
        go_quiet (fail)
        go_wp2_with (go_at_call 71; refine (left_any B p _ l t 0 _ (HR.drewN _) hl).mono ?_; rintro e w' ⟨rfl, q, rfl⟩)
        go_quiet (fail)
        go_wp2_with (first | (go_at_call 71; refine (left_any B p _ l t 0 _ (HR.drewN _) hl).mono ?_; rintro e w' ⟨rfl, q, rfl⟩) | (go_at_call 94; refine (lz_any b b0 b1 _).mono ?_; rintro e w' ⟨rfl, rfl⟩))
        go_loopw [2, 40] (fun x i wr => ∃ j : Nat, j ≤ lo b ∧ i = .int .i64 j ∧ x = .int .u64 (bigV (topV b (lo b)) ((l.drop (t + 1)).take j)) ∧ ∃ q, wr = w.drewN q) (fun _ i _ => lo b - (intOf i).toNat)
        case atStart => exact ⟨0, Nat.zero_le _, rfl, by simp [bigV], _, rfl⟩
        case round =>
          obtain ⟨j, hj, rfl, rfl, qr, rfl⟩ := hrel
          have hbs : ∀ x ∈ (l.drop (t + 1)).take j, 0 ≤ x ∧ x < 256 := fun x hx => HR.byte x (List.mem_of_mem_drop (List.mem_of_mem_take hx))
          have hbl : ((l.drop (t + 1)).take j).length = j := by rw [List.length_take, List.length_drop]; omega
          by_cases hd : j < lo b
          · have hv := bigV_small b (lo b) j _ ll hd hbl hbs
            have hin : t + 1 + j < l.length := by omega
            obtain ⟨c, hc⟩ : ∃ c, c = l.getD (t + 1 + j) 0 := ⟨_, rfl⟩
            have hg : l[t + 1 + j]? = some c := by rw [hc, List.getD_eq_getElem?_getD, List.getElem?_eq_getElem hin]; simp
            have hcm : c ∈ l := List.mem_of_getElem? hg
            obtain ⟨c0, c1⟩ := HR.byte c hcm
            have hcell2 : w.cell? ⟨g, t + 1 + j, none⟩ = some (.int .u8 c) := by
              have := HR.owns.cells (g := g) rfl (t + 1 + j) (.int .u8 c) (by simp [hg])
              rwa [addr_add] at this
            have hsn : (l.drop (t + 1)).take (j + 1) = (l.drop (t + 1)).take j ++ [c] := by
              rw [List.take_add_one, List.getElem?_drop, hg]; rfl
            obtain ⟨V, hV⟩ : ∃ V, V = bigV (topV b (lo b)) ((l.drop (t + 1)).take j) := ⟨_, rfl⟩
            rw [← hV] at hv ⊢
            have HV : Hid (bigV (topV b (lo b)) ((l.drop (t + 1)).take (j + 1)) = V * 256 + c) := by rw [hsn, bigV_snoc, ← hV]; rfl
            clear hV hsn hc hg hbs hbl
            obtain ⟨v0, v1⟩ := hv
            have s1 := shl8 V v0 v1
            have s2 := or_byte V c v0 v1 c0 c1
            have j0 : (0 : Int) ≤ (j : Int) := by omega
            have j1 : (t : Int) + 1 + (j : Int) < (l.length : Int) := by omega
            have w1 : IntKind.i64.wrap ((t : Int) + 1) = (t : Int) + 1 := IntWalk.i64_in _ ⟨by omega, by omega⟩
            have w2 : IntKind.i64.wrap ((t : Int) + 1 + (j : Int)) = (t : Int) + 1 + (j : Int) := IntWalk.i64_in _ ⟨by omega, by omega⟩
            have w3 : ((t : Int) + 1 + (j : Int)).toNat = t + 1 + j := by omega
            go_wp2
            go_quiet (fail)
            go_wp2
            go_roundw
            case rel => exact ⟨j + 1, hd, by go_num, by rw [HV.out], _, rfl⟩
            case measure => simp [intOf]; omega
          · obtain rfl : j = lo b := by omega
            have hX := bigV_u64 b (lo b) _ ll (by omega) hbs
            have hLs : oth (bigV (topV b (lo b)) ((l.drop (t + 1)).take (lo b))) < lo b → lookF l t = (0, 0, 3) := fun h => by
              unfold lookF; rw [← HB.out, if_neg (by omega), if_neg hB, if_pos h]
            have hLb : ¬ oth (bigV (topV b (lo b)) ((l.drop (t + 1)).take (lo b))) < lo b → lookF l t = (bigV (topV b (lo b)) ((l.drop (t + 1)).take (lo b)), 1 + lo b, 0) := fun h => by
              unfold lookF; rw [← HB.out, if_neg (by omega), if_neg hB, if_neg h]
            have HLs := Lib.hid hLs
            have HLb := Lib.hid hLb
            clear hLs hLb hbs hbl
            generalize bigV (topV b (lo b)) ((l.drop (t + 1)).take (lo b)) = X at *
            obtain ⟨X0, X1⟩ := hX
            by_cases ho : oth X < lo b
            · have o1 : ((oth X : Nat) : Int) < ((lo b : Nat) : Int) := by omega
              have HL := Lib.hid (HLs.out ho)
              clear HLs HLb ho
              go_wp2_with (go_at_call 85; refine (others_any X X0 X1 _).mono ?_; rintro e w' ⟨rfl, rfl⟩)
              go_step3
              exact ⟨rfl, X, lo b, 3, 0, ⟨_, _, _, _, _, _, _, _, _, _, _, _, _, _, _, _, _, _, _, _, _, _, _, _, _, _, _, _, _, _, _, _, _, _, _, _, _, _, _, _, _, _, _, _, _, _, _, _, _, _, _, _, _, _, _, _, _, _, _, _, _, _, _, _, _, _, _, _, _, _, rfl⟩, HR.drewN _, (Kept.refl _ _).drewN _, fun h => absurd h (by decide), fun _ => HL.out⟩
            · have o1 : ¬ ((oth X : Nat) : Int) < ((lo b : Nat) : Int) := by omega
              have HL := Lib.hid (HLb.out ho)
              clear HLs HLb ho
              have m1 : IntKind.i64.wrap (1 + ((lo b : Nat) : Int)) = 1 + ((lo b : Nat) : Int) := IntWalk.i64_in _ ⟨by omega, by omega⟩
              go_wp2_with (go_at_call 85; refine (others_any X X0 X1 _).mono ?_; rintro e w' ⟨rfl, rfl⟩)
              go_step3
              go_wp2
              simp only [Exit.jump]
              go_ret2
              exact ⟨by rw [HL.out]; simp, by rw [HL.out]; exact HR.drewN _, (Kept.refl _ _).drewN _⟩
  · intro a wl hJ
    obtain ⟨x, k, e, e0, ⟨_, _, _, _, _, _, _, _, _, _, _, _, _, _, _, _, _, _, _, _, _, _, _, _, _, _, _, _, _, _, _, _, _, _, _, _, _, _, _, _, _, _, _, _, _, _, _, _, _, _, _, _, _, _, _, _, _, _, _, _, _, _, _, _, _, _, _, _, _, _, rfl⟩, HRl, hkl, hz, hnz⟩ := hJ
    have hc2 := HRl.c2
    have hf2 : wl.frozen? ⟨p, 2, none⟩ = false := HRl.free 2
    by_cases he : e = 0
    · subst he
      obtain ⟨rfl, hr, hk⟩ := hz rfl
      have m1 : IntKind.i64.wrap (1 + (k : Int)) = 1 + (k : Int) := IntWalk.i64_in _ ⟨by omega, by omega⟩
      have HH := Lib.hid hr
      clear hr hz hnz
      go_wp2
      simp only [Exit.jump]
      go_ret2
      exact ⟨by rw [HH.out]; simp, by rw [HH.out]; exact HRl, hkl⟩
    · have HH := Lib.hid (hnz he)
      have hb : (e != 0) = true := by simp [he]
      clear hz hnz he
      go_wp2
      simp only [Exit.jump]
      go_ret2
      exact ⟨by rw [HH.out]; simp, by rw [HH.out]; exact HRl.setErr, hkl.setCell (fun _ => rfl) _⟩
end Go.Proofs.Ytkidbbmdlmnokaa
