/- The document's answer for hist: SameSide. -/
import Derived.Test.YtjpnfadmblmjbaaDoorJ2
namespace Go.Proofs.YtjpnfadmblmjbaaDoor
open Go.RowKit
attribute [local go_sem ↓] Go.wp_at_zero Go.wp_at_succ

theorem take_same {l m : List Nat} {i : Nat} (hi : i < l.length) (hm : i < m.length) (h : l.take i = m.take i) (e : l.getD i 0 = m.getD i 0) : l.take (i + 1) = m.take (i + 1) := by
  have e1 : l.getD i 0 = l[i] := by rw [List.getD_eq_getElem?_getD, List.getElem?_eq_getElem hi]; rfl
  have e2 : m.getD i 0 = m[i] := by rw [List.getD_eq_getElem?_getD, List.getElem?_eq_getElem hm]; rfl
  rw [List.take_succ_eq_append_getElem hi, List.take_succ_eq_append_getElem hm, h, ← e1, ← e2, e]

set_option maxHeartbeats 4000000 in
set_option maxRecDepth 100000 in
theorem refSameSide_any (o1 o2 : Int) (l1 l2 : List Nat) (v1 v2 : Value) (w : World) (h1 : SlAt w v1 (uvals l1)) (h2 : SlAt w v2 (uvals l2)) (hl : l1.length ≤ 1000000) :
    Calls Tryd.prog 76 #[.agg #[.int .i64 o1, v1], .agg #[.int .i64 o2, v2]] w fun e w' => e = .returned (.bool (decide (o1 = o2 ∧ l1 = l2))) ∧ Kept (fun _ => False) w w' := by
  obtain ⟨ao, c, hval, _, _⟩ := h1.val
  rw [uvals_length] at hval
  subst hval
  obtain ⟨bo, d, hval, _, _⟩ := h2.val
  rw [uvals_length] at hval
  subst hval
  obtain ⟨w0, hw0⟩ : ∃ w0, w0 = (w.alloc (.cells #[.int .i64 o1, .slice ao l1.length c] 60)).alloc (.cells #[.int .i64 o2, .slice bo l2.length d] 60) := ⟨_, rfl⟩
  have k0 : Kept (fun _ => False) w w0 := by rw [hw0]; exact ((Kept.refl _ w).alloc _).alloc _
  have bx : SideBox w0 w.heap.size o1 (.slice ao l1.length c) := by
    rw [hw0]; exact ((Kept.refl (fun _ => False) _).alloc _).same (heap_alloc_new w _) (fun x => x)
  have by' : SideBox w0 (w.heap.size + 1) o2 (.slice bo l2.length d) := by
    rw [hw0]
    have := heap_alloc_new (w.alloc (.cells #[.int .i64 o1, .slice ao l1.length c] 60)) (.cells #[.int .i64 o2, .slice bo l2.length d] 60)
    simpa [SideBox] using this
  have HV1 := Lib.hid fun w' (k : Kept (fun _ => False) w0 w') => (h1.kept (k0.trans k) (fun _ _ x => x))
  have HV2 := Lib.hid fun w' (k : Kept (fun _ => False) w0 w') => (h2.kept (k0.trans k) (fun _ _ x => x))
  have BX := Lib.hid bx
  have BY := Lib.hid by'
  have K0 := Lib.hid k0
  clear bx by' h1 h2 k0
  by_cases ho : o1 = o2
  · by_cases hn : l1.length = l2.length
    · have HRES : Hid (∀ b, b = decide (l1 = l2) → decide (o1 = o2 ∧ l1 = l2) = b) := Lib.hid fun b hb => by rw [hb]; simp [ho]
      obtain ⟨rb, hrb⟩ : ∃ b, b = decide (o1 = o2 ∧ l1 = l2) := ⟨_, rfl⟩
      rw [← hrb] at HRES ⊢
      have q1 : (o1 != o2) = false := by simp [ho]
      have q2 : ((l1.length : Int) != (l2.length : Int)) = false := bneF (by omega)
      have HN := Lib.hid hn
      clear ho hn hrb
      go_enter Tryd.func76, Tryd.ntmps76
      go_wp2
      rw [← hw0]
      clear hw0
      go_loopg [5, 20, 21, 22, 23, 24, 25, 26, 27, 28, 29, 30, 31, 32, 33, 34, 35, 36, 37] l1.length (fun g s5 s20 s21 s22 s23 s24 s25 s26 s27 s28 s29 s30 s31 s32 s33 s34 s35 s36 s37 wr => ∃ i : Nat, i ≤ l1.length ∧ g = l1.length - i ∧ s5 = .int .i64 i ∧ l1.take i = l2.take i ∧ Kept (fun _ => False) w0 wr)
      case atStart => exact ⟨0, Nat.zero_le _, rfl, rfl, rfl, Kept.refl _ _⟩
      case round =>
        obtain ⟨i, hil, rfl, rfl, hsame, hk⟩ := hrel
        have HSAME := Lib.hid hsame
        have HK := Lib.hid hk
        obtain ⟨⟨b0, b1⟩, _⟩ := (BX.out.same hk (fun x => x)).c
        obtain ⟨⟨d0, d1⟩, _⟩ := (BY.out.same hk (fun x => x)).c
        clear hsame hk
        by_cases hd : i < l1.length
        · have hdi : (i : Int) < (l1.length : Int) := by omega
          have hdi2 : (i : Int) < (l2.length : Int) := by have := HN.out; omega
          have i0 : (0 : Int) ≤ (i : Int) := by omega
          have HD := Lib.hid hd
          have HD2 := Lib.hid (show i < l2.length by omega)
          obtain ⟨g, off, rfl, c0⟩ := (HV1.out _ HK.out).elem (uvals_get hd)
          obtain ⟨g2, off2, rfl, c2⟩ := (HV2.out _ HK.out).elem (uvals_get HD2.out)
          obtain ⟨x, hx⟩ : ∃ x, x = l1.getD i 0 := ⟨_, rfl⟩
          obtain ⟨y, hy⟩ : ∃ y, y = l2.getD i 0 := ⟨_, rfl⟩
          rw [← hx] at c0
          rw [← hy] at c2
          have HX := Lib.hid hx
          have HY := Lib.hid hy
          clear hx hy hd
          by_cases hxy : x = y
          · have q3 : ((x : Int) != (y : Int)) = false := bneF (by omega)
            have HS2 := Lib.hid (take_same HD.out HD2.out HSAME.out (by rw [← HX.out, ← HY.out, hxy]))
            clear hxy
            go_wp2
            go_quiet (fail)
            go_wp2
            go_roundg (l1.length - (i + 1))
            case measure => have := HD.out; omega
            case rel => exact ⟨i + 1, HD.out, rfl, by go_num, HS2.out, HK.out.drewN _⟩
          · have q3 : ((x : Int) != (y : Int)) = true := bneT (by omega)
            have HF := Lib.hid (HRES.out false (decide_eq_false fun e => hxy (by rw [HX.out, HY.out, e])).symm)
            clear hxy
            go_wp2
            go_quiet (fail)
            go_wp2
            go_ret
            exact ⟨by rw [HF.out]; rfl, (K0.out.trans HK.out).drewN _⟩
        · obtain rfl : i = l1.length := by omega
          have HF := Lib.hid (HRES.out true (by have := HSAME.out; rw [List.take_length, HN.out, List.take_length] at this; rw [decide_eq_true this]))
          clear hd
          go_wp2
          go_ret
          exact ⟨by rw [HF.out]; rfl, K0.out.trans HK.out⟩
    · have e : decide (o1 = o2 ∧ l1 = l2) = false := decide_eq_false fun h => hn (by rw [h.2])
      rw [e]
      have q1 : (o1 != o2) = false := by simp [ho]
      have q2 : ((l1.length : Int) != (l2.length : Int)) = true := bneT (by omega)
      clear e ho hn
      go_enter Tryd.func76, Tryd.ntmps76
      go_wp2
      go_ret
      exact ⟨rfl, by rw [← hw0]; exact K0.out⟩
  · have e : decide (o1 = o2 ∧ l1 = l2) = false := decide_eq_false fun h => ho h.1
    rw [e]
    have q1 : (o1 != o2) = true := by simp [ho]
    clear e ho
    go_enter Tryd.func76, Tryd.ntmps76
    go_wp2
    go_ret
    exact ⟨rfl, by rw [← hw0]; exact K0.out⟩
end Go.Proofs.YtjpnfadmblmjbaaDoor
