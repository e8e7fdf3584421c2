/- package symtab, layer 34: the text that Open takes next. -/
import Derived.Test.YtkidbbmdlmnokaaTA
namespace Go.Proofs.Ytkidbbmdlmnokaa
open Go.RowKit
attribute [local go_sem ↓] Go.wp_at_zero Go.wp_at_succ
/-- The text at a place, of what was read of it and the one ahead; or the error. -/
def nxtS (i : Nat) (a : ByteArray) (n : Nat) (x : ByteArray) (e : Int) : ByteArray × Int :=
  if e ≠ 0 then (ByteArray.empty, e) else if a.size < n then (ByteArray.empty, 3) else if 400 < (a.extract 0 n ++ x).size then (ByteArray.empty, 4)
  else if 0 < i ∧ leS (a.extract 0 n ++ x) a = true then (ByteArray.empty, 9) else if n ≠ shr i a (a.extract 0 n ++ x) then (ByteArray.empty, 3) else (a.extract 0 n ++ x, 0)
set_option maxHeartbeats 4000000 in
theorem snext_any {W w : World} {p : Nat} {l : List Int} {t : Nat} {e : Int} (i : Nat) (a : ByteArray) (n : Nat) (h : RK W w p l t e) (hl : l.length ≤ 100000000000) (hi : i ≤ 1000000) (ha : a.size ≤ 1000000)
    (hn : (countF l t e 400).1 = (n : Int)) (hn4 : n ≤ 400) (hxs : (strOfNums (textF l (t + (countF l t e 400).2.1) (countF l t e 400).2.2 400).1).size ≤ 1000000) :
    Calls Try.prog 79 #[.pointer (some ⟨p, 0, none⟩), .int .i64 (i : Int), .string a] w fun e' w' =>
      e' = .returned (.tuple #[.string (nxtS i a n (strOfNums (textF l (t + (countF l t e 400).2.1) (countF l t e 400).2.2 400).1) (textF l (t + (countF l t e 400).2.1) (countF l t e 400).2.2 400).2.2).1,
        .int .i64 (nxtS i a n (strOfNums (textF l (t + (countF l t e 400).2.1) (countF l t e 400).2.2 400).1) (textF l (t + (countF l t e 400).2.1) (countF l t e 400).2.2 400).2.2).2]) ∧
      RK W w' p l (t + (countF l t e 400).2.1 + (textF l (t + (countF l t e 400).2.1) (countF l t e 400).2.2 400).2.1) (textF l (t + (countF l t e 400).2.1) (countF l t e 400).2.2 400).2.2 ∧ Kept (fun k => k = p) w w' := by
  have HC := Lib.hid (rkCount_any 400 h hl (by omega) (by omega))
  rw [hn] at HC
  obtain ⟨c, hc⟩ : ∃ c, c = countF l t e 400 := ⟨_, rfl⟩
  rw [← hc] at HC hxs ⊢
  have HX := Lib.hid (fun (w' : World) (h' : RK W w' p l (t + c.2.1) c.2.2) => rkText_any 400 h' hl (by omega) (by omega))
  obtain ⟨d, hd⟩ : ∃ d, d = textF l (t + c.2.1) c.2.2 400 := ⟨_, rfl⟩
  rw [← hd] at HX hxs ⊢
  obtain ⟨x, hx⟩ : ∃ x, x = strOfNums d.1 := ⟨_, rfl⟩
  rw [← hx] at HX hxs ⊢
  obtain ⟨e2, he2⟩ : ∃ e2, e2 = d.2.2 := ⟨_, rfl⟩
  rw [← he2] at HX ⊢
  obtain ⟨R, hR⟩ : ∃ R, R = nxtS i a n x e2 := ⟨_, rfl⟩
  rw [← hR]
  have HR := Lib.hid hR
  have HA := Lib.hid (And.intro ha (And.intro hi (And.intro hn4 hxs)))
  have hn0 : (0 : Int) ≤ (n : Int) := by omega
  have hi0 : (0 : Int) ≤ (i : Int) := by omega
  clear h hl hn hc hd hx he2 hR ha hi hn4 hxs
  go_enter Try.func79, Try.ntmps79
  go_wp2_with fail
  refine HC.out.mono ?_
  rintro e1 w1 ⟨rfl, h1, k1⟩
  have HK1 := Lib.hid k1
  have HR1 := Lib.hid h1
  clear h1 k1
  go_wp2_with fail
  refine (HX.out _ HR1.out).mono ?_
  rintro e3 w2 ⟨rfl, h2, k2⟩
  have HK2 := Lib.hid (HK1.out.trans k2)
  have HR2 := Lib.hid h2
  clear h2 k2
  go_wp2_with fail
  refine (rkErr_any HR2.out).mono ?_
  rintro e4 w3 ⟨rfl, rfl⟩
  by_cases he : e2 = 0
  · by_cases hns : n ≤ a.size
    · have q1 : ¬ (a.size : Int) < (n : Int) := by omega
      have q1' : decide (a.size < n) = false := decide_eq_false (by omega)
      have hcut := run_toT (P := Try.prog) Try.underlying9 a n hns
      have hns2 : (n : Int) ≤ (a.size : Int) := by omega
      obtain ⟨y, hy⟩ : ∃ y, y = a.extract 0 n := ⟨_, rfl⟩
      rw [← hy] at hcut
      obtain ⟨s, hs⟩ : ∃ s, s = y ++ x := ⟨_, rfl⟩
      have a1 : ∀ w, (Op.stringOp .add y x).run Try.prog w = .ok (.string s) w := fun w => by
        rw [hs]; exact run_string_add_sum w _ _ (by have h1 : y.size ≤ a.size := by rw [hy, ByteArray.size_extract]; omega
                                                    have := HA.out.1; have := HA.out.2.2.2; omega)
      have HN : Hid (nxtS i a n x e2 = if 400 < s.size then (ByteArray.empty, 4) else if 0 < i ∧ leS s a = true then (ByteArray.empty, 9) else if n ≠ shr i a s then (ByteArray.empty, 3) else (s, 0)) := Lib.hid (by
        unfold nxtS; rw [if_neg (by simp [he]), if_neg (by omega), ← hy, ← hs])
      clear hs hy hns
      subst he
      by_cases hbig : 400 < s.size
      · have HZ : Hid (R = (ByteArray.empty, 4)) := Lib.hid (by rw [HR.out, HN.out, if_pos hbig])
        have q4 : (400 : Int) < (s.size : Int) := by omega
        have q4' : decide (400 < s.size) = true := decide_eq_true hbig
        clear hbig
        go_wp2
        go_ret2
        rw [HZ.out]
        exact ⟨rfl, HR2.out, HK2.out⟩
      · have q4 : ¬ (400 : Int) < (s.size : Int) := by omega
        have q4' : decide (400 < s.size) = false := decide_eq_false hbig
        by_cases hor : 0 < i ∧ leS s a = true
        · have HZ : Hid (R = (ByteArray.empty, 9)) := Lib.hid (by rw [HR.out, HN.out, if_neg hbig, if_pos hor])
          have q5 : (0 : Int) < (i : Int) := by have := hor.1; omega
          have q6 : (Op.bytesLess s.toList a.toList || s.toList == a.toList) = true := hor.2
          clear hbig hor
          go_wp2
          go_ret2
          rw [HZ.out]
          exact ⟨rfl, HR2.out, HK2.out⟩
        · have HZ : Hid (R = if n ≠ shr i a s then (ByteArray.empty, 3) else (s, 0)) := Lib.hid (by rw [HR.out, HN.out, if_neg hbig, if_neg hor])
          have HS := Lib.hid (fun w => shared_any i a s w HA.out.2.1 HA.out.1 (by omega))
          obtain ⟨v, hv⟩ : ∃ v, v = shr i a s := ⟨_, rfl⟩
          rw [← hv] at HS HZ
          have horc : (¬ (0 : Int) < (i : Int)) ∨ ((0 : Int) < (i : Int) ∧ (Op.bytesLess s.toList a.toList || s.toList == a.toList) = false) := by
            by_cases h0 : 0 < i
            · refine .inr ⟨by omega, ?_⟩
              show leS s a = false
              rw [← Bool.not_eq_true]
              exact fun e => hor ⟨h0, e⟩
            · exact .inl (by omega)
          clear hbig hor hv
          rcases horc with q5 | ⟨q5, q6⟩
          all_goals
            go_wp2_with fail
            refine (HS.out _).mono ?_
            rintro e5 w4 ⟨rfl, k4⟩
            have HR4 := Lib.hid (HR2.out.kept k4)
            have HK4 := Lib.hid (HK2.out.trans (k4.mono (fun _ _ h => h.elim)))
            clear k4
            by_cases hnv : n = v
            · have HY : Hid (R = (s, 0)) := Lib.hid (by rw [HZ.out, if_neg (by simp [hnv])])
              have q7 : ((n : Int) == (v : Int)) = true := beqT (by omega)
              have q7' : (n == v) = true := by simp [hnv]
              clear hnv
              go_wp2
              go_ret2
              rw [HY.out]
              exact ⟨rfl, HR4.out, HK4.out⟩
            · have HY : Hid (R = (ByteArray.empty, 3)) := Lib.hid (by rw [HZ.out, if_pos hnv])
              have q7 : ((n : Int) == (v : Int)) = false := beqF (by omega)
              have q7' : (n == v) = false := by simp [hnv]
              clear hnv
              go_wp2
              go_ret2
              rw [HY.out]
              exact ⟨rfl, HR4.out, HK4.out⟩
    · have HZ : Hid (R = (ByteArray.empty, 3)) := Lib.hid (by rw [HR.out]; unfold nxtS; rw [if_neg (by simp [he]), if_pos (by omega)])
      have q1 : (a.size : Int) < (n : Int) := by omega
      have q1' : decide (a.size < n) = true := decide_eq_true (by omega)
      clear hns
      subst he
      go_wp2
      go_ret2
      rw [HZ.out]
      exact ⟨rfl, HR2.out, HK2.out⟩
  · have HZ : Hid (R = (ByteArray.empty, e2)) := Lib.hid (by rw [HR.out]; unfold nxtS; rw [if_pos he])
    have q0 : (e2 == (0 : Int)) = false := beqF he
    clear he
    go_wp2
    go_ret2
    rw [HZ.out]
    exact ⟨rfl, HR2.out, HK2.out⟩
end Go.Proofs.Ytkidbbmdlmnokaa
