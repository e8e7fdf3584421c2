/- Layer 11: Clone, the sorting by insertion, label.Sorted (written by tools/gen_XA8.py). -/
import Derived.Test.YtkgjkcfjkjkflaaDoorA7
import Derived.BigRegion
namespace Go.Proofs.YtkgjkcfjkjkflaaDoor
open Go.RowKit
attribute [local go_sem ↓] Go.wp_at_zero Go.wp_at_succ

set_option maxHeartbeats 1000000 in
theorem pclone_any (ao : Option Addr) (c : Nat) (L : List Pr) (w : World) (hv : PsAt w ao L) (hl : L.length ≤ 1000000) :
    Calls Tryd.prog 22 #[.slice ao L.length c] w fun e w' => ∃ v, e = .returned v ∧ MineP w w' v L := by
  have q29 := fun (w : World) (a : Option Addr) (n c n' c' : Nat) => Lib.run_eql_slice_nil (P := Tryd.prog) w 22 40 a n c n' c' Tryd.underlying22
  cases ao with
  | none =>
    have hz : L = [] := by
      rcases Nat.eq_zero_or_pos L.length with h1 | h1
      · exact List.length_eq_zero_iff.1 h1
      · obtain ⟨_, _, e, _⟩ := hv h1; cases e
    subst hz
    clear hv
    go_enter Tryd.func22, Tryd.ntmps22
    go_wp2
    go_ret
    exact ⟨_, rfl, MineP.nil (Kept.refl _ _)⟩
  | some a =>
    have hs := PsAt.src (c := c) (hv.kept ((Kept.refl (fun _ => False) w).alloc (.cells #[] 40))) (fun _ => trivial)
    have hown0 : MineP w (w.alloc (.cells #[] 40)) (.slice (some ⟨w.heap.size, 0, none⟩) 0 0) [] :=
      ⟨⟨rfl, .inr ⟨w.heap.size, 0, #[], rfl, Nat.le_refl _, heap_alloc_new w _, Nat.le_refl _, by unfold maxLen; omega, rfl, rfl⟩⟩, (Kept.refl _ _).alloc _⟩
    have HO := Lib.hid hown0
    obtain ⟨n, hn⟩ : ∃ n, n = L.length := ⟨_, rfl⟩
    rw [← hn] at hs hl ⊢
    have HS := Lib.hid hs
    have HN := Lib.hid hn.symm
    have HL := Lib.hid hl
    clear hv hown0 hs hn hl
    go_enter Tryd.func22, Tryd.ntmps22
    go_wp2_with (at_builtin; refine wpList_mineP rfl (.tmp 5) (.tmp 6) rfl w _ [] rfl HO.out _ L n HN.out rfl HS.out (by have := HL.out; simp; omega) ?_; intro v' w1 hm hk; have HM := Lib.hid hm; clear hm hk)
    go_ret
    exact ⟨_, rfl, by have := HM.out; simpa using this⟩

theorem swap_list (P Q : List Pr) (x y : Pr) : ((P ++ y :: x :: Q).set (P.length + 1) y).set P.length x = P ++ x :: y :: Q := by
  rw [List.set_append_right _ _ (by omega), Nat.add_sub_cancel_left, List.set_append_right _ _ (Nat.le_refl _), Nat.sub_self]
  rfl
theorem sortP_one (L : List Pr) : sortP (L.take 1) ++ L.drop 1 = L := by
  cases L with
  | nil => rfl
  | cons x L => rfl
theorem mineP_free {W w : World} {g o n c : Nat} {L : List Pr} (h : MineP W w (.slice (some ⟨g, o, none⟩) n c) L) (h0 : 0 < L.length) : ∃ g', g' = g ∧ ∀ k, w.frozen? ⟨g', k, none⟩ = false := by
  rcases h.own.2 with ⟨_, e⟩ | ⟨g1, cap, cur, e, hg, hb, rest⟩
  · omega
  · injection e with e1 e2 e3
    injection e1 with e1
    injection e1 with e1
    subst e1
    exact ⟨g, rfl, fun k => by simp [World.frozen?, hb]⟩
theorem mineP_swap {W w : World} {g o n c : Nat} {M : List Pr} (h : MineP W w (.slice (some ⟨g, o, none⟩) n c) M) (ho : o = 0) {J j : Nat} (x y : Pr) :
    MineP W ((((w.setCell ⟨g, o + J * 2, none⟩ (.string y.k)).setCell ⟨g, o + J * 2 + 1, none⟩ (.string y.v)).setCell ⟨g, o + j * 2, none⟩ (.string x.k)).setCell ⟨g, o + j * 2 + 1, none⟩ (.string x.v)) (.slice (some ⟨g, o, none⟩) n c) ((M.set J y).set j x) := by
  subst ho
  have hlen : n = M.length := by obtain ⟨_, _, e⟩ := h.slice; injection e with _ e _
  subst hlen
  rw [Nat.zero_add, Nat.zero_add]
  have o1 := owns_setS (owns_setS (owns_setS (owns_setS h.own (J * 2) (.string y.k)) (J * 2 + 1) (.string y.v)) (j * 2) (.string x.k)) (j * 2 + 1) (.string x.v)
  rw [flatP_set, flatP_set] at o1
  have hb : ∀ k, (Value.slice (some ⟨g, 0, none⟩) M.length c).ownBlock = some k → W.heap.size ≤ k := fun k e => (ownsRow_lt h.own e).2
  have hg : W.heap.size ≤ g := hb g rfl
  refine ⟨by rw [List.length_set, List.length_set]; exact o1, ?_⟩
  have kk : Kept (fun k => k = g) w _ := ((((Kept.refl (fun k => k = g) w).setCell (p := ⟨g, J * 2, none⟩) (fun _ => rfl) (.string y.k)).setCell (p := ⟨g, J * 2 + 1, none⟩) (fun _ => rfl) (.string y.v)).setCell (p := ⟨g, j * 2, none⟩) (fun _ => rfl) (.string x.k)).setCell (p := ⟨g, j * 2 + 1, none⟩) (fun _ => rfl) (.string x.v)
  exact h.kept.newer kk (fun k e => by rw [e]; exact hg)
theorem getElem?_mid (P Q : List Pr) (x : Pr) (k : Nat) (h : P.length = k) : (P ++ x :: Q)[k]? = some x := by
  rw [← h, List.getElem?_append_right (Nat.le_refl _), Nat.sub_self]; rfl

set_option maxHeartbeats 8000000 in
set_option maxRecDepth 100000 in
theorem insertion_any (W : World) (g c n : Nat) (L : List Pr) (w : World) (hm : MineP W w (.slice (some ⟨g, 0, none⟩) n c) L) (hn : L.length = n) (hl : n ≤ 1000) :
    Calls Tryd.prog 42 #[.slice (some ⟨g, 0, none⟩) n c, .int .i64 0, .int .i64 n, .func (.func 24) #[] #[]] w fun e w' => e = .returned (.tuple #[]) ∧ MineP W w' (.slice (some ⟨g, 0, none⟩) n c) (sortP L) := by
  have HCF := Lib.hid fun p q w => cmpFn_any p q w
  obtain ⟨o, ho⟩ : ∃ o : Nat, o = 0 := ⟨_, rfl⟩
  rw [← ho] at hm ⊢
  have HO := Lib.hid ho
  have HM := Lib.hid hm
  have HN := Lib.hid hn
  have HL := Lib.hid hl
  clear hm hn hl ho
  have hcf : ∀ (w : World) (args : Array Value), (callFunc 24 args).run Tryd.prog w = .ok (.enter 24 args) w := by
    intro w args
    have hb : (Tryd.f24).body.isSome = true := by kernel_rfl
    obtain ⟨c, hc⟩ := Option.isSome_iff_exists.1 hb
    have h1 : (Tryd.f24).name ≠ "runtime.NumGoroutine" := by
      have : ((Tryd.f24).name == "runtime.NumGoroutine") = false := by kernel_rfl
      simpa using this
    simp [callFunc, Tryd.func24, h1, hc]
  go_enter Tryd.func42, Tryd.ntmps42
  go_wp2
  go_loopg [8] (n - 1) (fun g2 s8 wr => ∃ i : Nat, 1 ≤ i ∧ i ≤ n + 1 ∧ g2 = n - i ∧ s8 = .int .i64 i ∧ MineP W wr (.slice (some ⟨g, o, none⟩) n c) (sortP (L.take i) ++ L.drop i))
  case atStart => exact ⟨1, Nat.le_refl _, by omega, rfl, rfl, by rw [sortP_one]; exact HM.out⟩
  case round =>
    obtain ⟨i, hi1, hin, rfl, rfl, hx⟩ := hrel
    have HX := Lib.hid hx
    clear hx
    by_cases hd : i < n
    · have hdi : (i : Int) < (n : Int) := by omega
      have HD := Lib.hid (show i < n ∧ 1 ≤ i from ⟨hd, hi1⟩)
      have wi : IntKind.i64.wrap ((i : Int) + 1) = ((i + 1 : Nat) : Int) := by rw [IntWalk.i64_in _ ⟨by omega, by have := HL.out; omega⟩]; omega
      have hiL : i < L.length := by have := HN.out; omega
      have hLi := List.getElem?_eq_getElem hiL
      have hsc := sortP_take_succ hLi
      have hdr : L.drop i = L[i] :: L.drop (i + 1) := List.drop_eq_getElem_cons hiL
      obtain ⟨x, hxx⟩ : ∃ x, x = L[i] := ⟨_, rfl⟩
      rw [← hxx] at hsc hdr
      obtain ⟨A, hA⟩ : ∃ A, A = sortP (L.take i) := ⟨_, rfl⟩
      have hAl : A.length = i := by rw [hA, sortP_length, List.length_take]; omega
      rw [← hA] at HX hsc
      obtain ⟨Q, hQ⟩ : ∃ Q, Q = L.drop (i + 1) := ⟨_, rfl⟩
      rw [← hQ] at hdr
      rw [hdr] at HX
      have HSC := Lib.hid hsc
      have HAL := Lib.hid hAl
      have HQ := Lib.hid hQ
      clear hd hi1 hin hiL hLi hsc hdr hxx hA hAl hQ
      go_wp2
      go_loopg [9] (2 * i) (fun g2 s9 wr => ∃ j : Nat, j ≤ i ∧ g2 = 2 * j ∧ s9 = .int .i64 j ∧ MineP W wr (.slice (some ⟨g, o, none⟩) n c) (A.take j ++ x :: (A.drop j ++ Q)) ∧ plc A x i = plc A x j)
      case atStart => exact ⟨i, Nat.le_refl _, rfl, rfl, by rw [List.take_of_length_le (by rw [HAL.out]; exact Nat.le_refl _), List.drop_eq_nil_of_le (by rw [HAL.out]; exact Nat.le_refl _)]; exact HX.out, rfl⟩
      case round =>
        obtain ⟨J, hJi, rfl, rfl, hx, hp⟩ := hrel
        have HX2 := Lib.hid hx
        have HP := Lib.hid hp
        have HJI := Lib.hid hJi
        clear hx hp hJi
        have hfin : ∀ ws, MineP W ws (.slice (some ⟨g, o, none⟩) n c) (A.take J ++ x :: (A.drop J ++ Q)) → plc A x J = J → MineP W ws (.slice (some ⟨g, o, none⟩) n c) (sortP (L.take (i + 1)) ++ L.drop (i + 1)) := by
          intro ws h he
          have h1 : plc A x A.length = J := by rw [HAL.out, HP.out, he]
          rw [HSC.out, ← HQ.out]
          unfold insP
          rw [h1, List.append_assoc, List.cons_append]
          exact h
        have HFIN := Lib.hid hfin
        clear hfin
        rcases Nat.eq_zero_or_pos J with hJ0 | hJ0
        · subst hJ0
          have hkd := (Kept.refl (fun _ => False) wr).drew
          have HX3 := Lib.hid (HX2.out.on hkd)
          clear hkd
          go_upto_region 4 with fail
          refine AnyBut.start (S := fun _ => True) (k := 17) (by kernel_rfl) ?_
          refine AnyBut.takeS (i := 0) (v := ?v1) rfl (by kernel_rfl) (Nat.le_of_eq (by kernel_rfl)) (by kernel_rfl) (by kernel_rfl) (fun _ _ _ h => h) (trivial) (Or.inl ⟨by kernel_rfl, ?hy1⟩) ?r1
          case hy1 =>
            intro w hSw
            try dsimp only at hSw
            go_simp
            try with_reducible rfl
          try simp only [Act.put, List.getElem_toArray, List.getElem_cons_zero, List.setIfInBounds_toArray, List.set_cons_zero, List.set_cons_succ]
          refine AnyBut.takeS (i := 1) (v := ?v2) rfl (by kernel_rfl) (Nat.le_of_eq (by kernel_rfl)) (by kernel_rfl) (by kernel_rfl) (fun _ _ _ h => h) (trivial) (Or.inl ⟨by kernel_rfl, ?hy2⟩) ?r2
          case hy2 =>
            intro w hSw
            try dsimp only at hSw
            go_simp
            try with_reducible rfl
          try simp only [Act.put, List.getElem_toArray, List.getElem_cons_succ, List.getElem_cons_zero, List.setIfInBounds_toArray, List.set_cons_zero, List.set_cons_succ]
          refine AnyBut.takeS (i := 2) (v := ?v3) rfl (by kernel_rfl) (Nat.le_of_eq (by kernel_rfl)) (by kernel_rfl) (by kernel_rfl) (fun _ _ _ h => h) (trivial) (Or.inl ⟨by kernel_rfl, ?hy3⟩) ?r3
          case hy3 =>
            intro w hSw
            try dsimp only at hSw
            go_simp
            try with_reducible rfl
          try simp only [Act.put, List.getElem_toArray, List.getElem_cons_succ, List.getElem_cons_zero, List.setIfInBounds_toArray, List.set_cons_zero, List.set_cons_succ]
          refine AnyBut.takeS (i := 3) (v := ?v4) rfl (by kernel_rfl) (Nat.le_of_eq (by kernel_rfl)) (by kernel_rfl) (by kernel_rfl) (fun _ _ _ h => h) (trivial) (Or.inl ⟨by kernel_rfl, ?hy4⟩) ?r4
          case hy4 =>
            intro w hSw
            try dsimp only at hSw
            go_simp
            try with_reducible rfl
          try simp only [Act.put, List.getElem_toArray, List.getElem_cons_succ, List.getElem_cons_zero, List.setIfInBounds_toArray, List.set_cons_zero, List.set_cons_succ]
          refine AnyBut.takeS (i := 4) (v := undef) rfl (by kernel_rfl) (Nat.le_of_eq (by kernel_rfl)) (by kernel_rfl) (by kernel_rfl) (fun _ _ _ h => h) (trivial) (Or.inr ⟨by kernel_rfl, rfl⟩) ?r5
          try simp only [Act.put, List.getElem_toArray, List.getElem_cons_succ, List.getElem_cons_zero, List.setIfInBounds_toArray, List.set_cons_zero, List.set_cons_succ]
          refine AnyBut.takeS (i := 5) (v := undef) rfl (by kernel_rfl) (Nat.le_of_eq (by kernel_rfl)) (by kernel_rfl) (by kernel_rfl) (fun _ _ _ h => h) (trivial) (Or.inr ⟨by kernel_rfl, rfl⟩) ?r6
          try simp only [Act.put, List.getElem_toArray, List.getElem_cons_succ, List.getElem_cons_zero, List.setIfInBounds_toArray, List.set_cons_zero, List.set_cons_succ]
          refine AnyBut.takeS (i := 6) (v := undef) rfl (by kernel_rfl) (Nat.le_of_eq (by kernel_rfl)) (by kernel_rfl) (by kernel_rfl) (fun _ _ _ h => h) (trivial) (Or.inr ⟨by kernel_rfl, rfl⟩) ?r7
          try simp only [Act.put, List.getElem_toArray, List.getElem_cons_succ, List.getElem_cons_zero, List.setIfInBounds_toArray, List.set_cons_zero, List.set_cons_succ]
          refine AnyBut.takeS (i := 7) (v := undef) rfl (by kernel_rfl) (Nat.le_of_eq (by kernel_rfl)) (by kernel_rfl) (by kernel_rfl) (fun _ _ _ h => h) (trivial) (Or.inr ⟨by kernel_rfl, rfl⟩) ?r8
          try simp only [Act.put, List.getElem_toArray, List.getElem_cons_succ, List.getElem_cons_zero, List.setIfInBounds_toArray, List.set_cons_zero, List.set_cons_succ]
          refine AnyBut.takeS (i := 8) (v := undef) rfl (by kernel_rfl) (Nat.le_of_eq (by kernel_rfl)) (by kernel_rfl) (by kernel_rfl) (fun _ _ _ h => h) (trivial) (Or.inr ⟨by kernel_rfl, rfl⟩) ?r9
          try simp only [Act.put, List.getElem_toArray, List.getElem_cons_succ, List.getElem_cons_zero, List.setIfInBounds_toArray, List.set_cons_zero, List.set_cons_succ]
          refine AnyBut.takeS (i := 9) (v := undef) rfl (by kernel_rfl) (Nat.le_of_eq (by kernel_rfl)) (by kernel_rfl) (by kernel_rfl) (fun _ _ _ h => h) (trivial) (Or.inr ⟨by kernel_rfl, rfl⟩) ?r10
          try simp only [Act.put, List.getElem_toArray, List.getElem_cons_succ, List.getElem_cons_zero, List.setIfInBounds_toArray, List.set_cons_zero, List.set_cons_succ]
          refine AnyBut.takeS (i := 10) (v := undef) rfl (by kernel_rfl) (Nat.le_of_eq (by kernel_rfl)) (by kernel_rfl) (by kernel_rfl) (fun _ _ _ h => h) (trivial) (Or.inr ⟨by kernel_rfl, rfl⟩) ?r11
          try simp only [Act.put, List.getElem_toArray, List.getElem_cons_succ, List.getElem_cons_zero, List.setIfInBounds_toArray, List.set_cons_zero, List.set_cons_succ]
          refine AnyBut.takeS (i := 11) (v := undef) rfl (by kernel_rfl) (Nat.le_of_eq (by kernel_rfl)) (by kernel_rfl) (by kernel_rfl) (fun _ _ _ h => h) (trivial) (Or.inr ⟨by kernel_rfl, rfl⟩) ?r12
          try simp only [Act.put, List.getElem_toArray, List.getElem_cons_succ, List.getElem_cons_zero, List.setIfInBounds_toArray, List.set_cons_zero, List.set_cons_succ]
          refine AnyBut.takeS (i := 12) (v := undef) rfl (by kernel_rfl) (Nat.le_of_eq (by kernel_rfl)) (by kernel_rfl) (by kernel_rfl) (fun _ _ _ h => h) (trivial) (Or.inr ⟨by kernel_rfl, rfl⟩) ?r13
          try simp only [Act.put, List.getElem_toArray, List.getElem_cons_succ, List.getElem_cons_zero, List.setIfInBounds_toArray, List.set_cons_zero, List.set_cons_succ]
          refine AnyBut.takeS (i := 13) (v := undef) rfl (by kernel_rfl) (Nat.le_of_eq (by kernel_rfl)) (by kernel_rfl) (by kernel_rfl) (fun _ _ _ h => h) (trivial) (Or.inr ⟨by kernel_rfl, rfl⟩) ?r14
          try simp only [Act.put, List.getElem_toArray, List.getElem_cons_succ, List.getElem_cons_zero, List.setIfInBounds_toArray, List.set_cons_zero, List.set_cons_succ]
          refine AnyBut.takeS (i := 14) (v := undef) rfl (by kernel_rfl) (Nat.le_of_eq (by kernel_rfl)) (by kernel_rfl) (by kernel_rfl) (fun _ _ _ h => h) (trivial) (Or.inr ⟨by kernel_rfl, rfl⟩) ?r15
          try simp only [Act.put, List.getElem_toArray, List.getElem_cons_succ, List.getElem_cons_zero, List.setIfInBounds_toArray, List.set_cons_zero, List.set_cons_succ]
          refine AnyBut.takeS (i := 15) (v := undef) rfl (by kernel_rfl) (Nat.le_of_eq (by kernel_rfl)) (by kernel_rfl) (by kernel_rfl) (fun _ _ _ h => h) (trivial) (Or.inr ⟨by kernel_rfl, rfl⟩) ?r16
          try simp only [Act.put, List.getElem_toArray, List.getElem_cons_succ, List.getElem_cons_zero, List.setIfInBounds_toArray, List.set_cons_zero, List.set_cons_succ]
          refine AnyBut.takeS (i := 16) (v := ?v17) rfl (by kernel_rfl) (Nat.le_of_eq (by kernel_rfl)) (by kernel_rfl) (by kernel_rfl) (fun _ _ _ h => h) (trivial) (Or.inl ⟨by kernel_rfl, ?hy17⟩) ?r17
          case hy17 =>
            intro w hSw
            try dsimp only at hSw
            go_simp
            try with_reducible rfl
          try simp only [Act.put, List.getElem_toArray, List.getElem_cons_succ, List.getElem_cons_zero, List.setIfInBounds_toArray, List.set_cons_zero, List.set_cons_succ]
          refine AnyBut.done (by kernel_rfl) ?_
          go_wp2
          go_roundg (n - (i + 1))
          case measure => have := HD.out; omega
          case rel => exact ⟨i + 1, by omega, by have := HD.out; omega, rfl, rfl, HFIN.out _ HX3.out rfl⟩
        · obtain ⟨j, hj⟩ : ∃ j, J = j + 1 := ⟨J - 1, by omega⟩
          have hgt : (0 : Int) < (J : Int) := by omega
          have hgd : decide ((0 : Int) < (J : Int)) = true := decide_eq_true hgt
          have hgn : decide (0 < J) = true := decide_eq_true hJ0
          have hgN : 0 < J := hJ0
          have wj : IntKind.i64.wrap ((J : Int) - 1) = (j : Int) := by rw [IntWalk.i64_in _ ⟨by omega, by have := HJI.out; have := HD.out; have := HL.out; omega⟩]; omega
          have hJn : (J : Int) < (n : Int) := by have := HJI.out; have := HD.out; omega
          have hjn : (j : Int) < (n : Int) := by have := HJI.out; have := HD.out; omega
          have hJ00 : (0 : Int) ≤ (J : Int) := by omega
          have hj00 : (0 : Int) ≤ (j : Int) := by omega
          have hjA : j < A.length := by have := HAL.out; have := HJI.out; omega
          have hy := List.getElem?_eq_getElem hjA
          have hdj : A.drop j = A[j] :: A.drop (j + 1) := List.drop_eq_getElem_cons hjA
          have htj : A.take (j + 1) = A.take j ++ [A[j]] := by rw [List.take_add_one, hy]; rfl
          obtain ⟨y, hyy⟩ : ∃ y, y = A[j] := ⟨_, rfl⟩
          rw [← hyy] at hy hdj htj
          have hplc : plc A x J = if ltS x.k y.k = true then plc A x j else J := by rw [hj]; show (if ltS x.k (A.getD j pr0).k = true then _ else _) = _; rw [getD_pr hy]
          have htl : (A.take j).length = j := by rw [List.length_take]; omega
          have hM : A.take J ++ x :: (A.drop J ++ Q) = A.take j ++ y :: x :: (A.drop (j + 1) ++ Q) := by rw [hj, htj, List.append_assoc]; rfl
          have HX3 := HX2
          rw [hM] at HX3
          have hat := HX3.out.at_ (by rw [List.length_append, List.length_cons]; omega)
          obtain ⟨g', o', he', hrec⟩ := hat
          injection he' with he'
          injection he' with he1 he2
          subst he1 he2
          have e1 := hrec J x (by rw [show A.take j ++ y :: x :: (A.drop (j + 1) ++ Q) = (A.take j ++ [y]) ++ x :: (A.drop (j + 1) ++ Q) by simp]; exact getElem?_mid _ _ _ _ (by rw [List.length_append, htl]; exact hj.symm))
          have e2 := hrec j y (getElem?_mid _ _ _ _ htl)
          have hsw : ((A.take j ++ y :: x :: (A.drop (j + 1) ++ Q)).set J y).set j x = A.take j ++ x :: (A.drop j ++ Q) := by
            have h := swap_list (A.take j) (A.drop (j + 1) ++ Q) x y
            rw [htl] at h
            rw [hj, hdj]
            exact h
          have HCMP := Lib.hid fun w => HCF.out x y w
          obtain ⟨lt, hlt⟩ : ∃ b, b = ltS x.k y.k := ⟨_, rfl⟩
          rw [← hlt] at hplc HCMP
          have HXX := Lib.hid (And.intro e1.c0 (And.intro e1.c1 (And.intro e2.c0 e2.c1)))
          have HSW := Lib.hid hsw
          have HPL := Lib.hid hplc
          have HJ := Lib.hid (And.intro hj hjA)
          obtain ⟨xk, xv⟩ := x
          obtain ⟨yk, yv⟩ := y
          dsimp only at HCMP HXX
          clear hJ0 hj hjA hy hdj htj hyy hplc htl hM hrec e1 e2 hsw hlt
          have hkd := (Kept.refl (fun _ => False) wr).drew
          have HSS : Hid ((fun w' => w'.cell? ⟨g, o + J * 2, none⟩ = some (.string xk) ∧ w'.cell? ⟨g, o + J * 2 + 1, none⟩ = some (.string xv) ∧ w'.cell? ⟨g, o + j * 2, none⟩ = some (.string yk) ∧ w'.cell? ⟨g, o + j * 2 + 1, none⟩ = some (.string yv)) wr.drew) := Lib.hid ⟨hkd.cell HXX.out.1 (fun x => x), hkd.cell HXX.out.2.1 (fun x => x), hkd.cell HXX.out.2.2.1 (fun x => x), hkd.cell HXX.out.2.2.2 (fun x => x)⟩
          clear hkd
          go_upto_region 4 with fail
          refine AnyBut.start (S := fun w' => w'.cell? ⟨g, o + J * 2, none⟩ = some (.string xk) ∧ w'.cell? ⟨g, o + J * 2 + 1, none⟩ = some (.string xv) ∧ w'.cell? ⟨g, o + j * 2, none⟩ = some (.string yk) ∧ w'.cell? ⟨g, o + j * 2 + 1, none⟩ = some (.string yv)) (k := 17) (by kernel_rfl) ?_
          refine AnyBut.takeS (i := 0) (v := ?v18) rfl (by kernel_rfl) (Nat.le_of_eq (by kernel_rfl)) (by kernel_rfl) (by kernel_rfl) (fun _ _ _ h => h) (HSS.out) (Or.inl ⟨by kernel_rfl, ?hy18⟩) ?r18
          case hy18 =>
            intro w hSw
            try dsimp only at hSw
            go_simp
            try with_reducible rfl
          try simp only [Act.put, List.getElem_toArray, List.getElem_cons_zero, List.setIfInBounds_toArray, List.set_cons_zero, List.set_cons_succ]
          refine AnyBut.takeS (i := 1) (v := ?v19) rfl (by kernel_rfl) (Nat.le_of_eq (by kernel_rfl)) (by kernel_rfl) (by kernel_rfl) (fun _ _ _ h => h) (HSS.out) (Or.inl ⟨by kernel_rfl, ?hy19⟩) ?r19
          case hy19 =>
            intro w hSw
            try dsimp only at hSw
            go_simp
            try with_reducible rfl
          try simp only [Act.put, List.getElem_toArray, List.getElem_cons_succ, List.getElem_cons_zero, List.setIfInBounds_toArray, List.set_cons_zero, List.set_cons_succ]
          refine AnyBut.takeS (i := 2) (v := ?v20) rfl (by kernel_rfl) (Nat.le_of_eq (by kernel_rfl)) (by kernel_rfl) (by kernel_rfl) (fun _ _ _ h => h) (HSS.out) (Or.inl ⟨by kernel_rfl, ?hy20⟩) ?r20
          case hy20 =>
            intro w hSw
            try dsimp only at hSw
            go_simp
            try with_reducible rfl
          try simp only [Act.put, List.getElem_toArray, List.getElem_cons_succ, List.getElem_cons_zero, List.setIfInBounds_toArray, List.set_cons_zero, List.set_cons_succ]
          refine AnyBut.takeS (i := 3) (v := ?v21) rfl (by kernel_rfl) (Nat.le_of_eq (by kernel_rfl)) (by kernel_rfl) (by kernel_rfl) (fun _ _ _ h => h) (HSS.out) (Or.inl ⟨by kernel_rfl, ?hy21⟩) ?r21
          case hy21 =>
            intro w hSw
            try dsimp only at hSw
            go_simp
            try with_reducible rfl
          try simp only [Act.put, List.getElem_toArray, List.getElem_cons_succ, List.getElem_cons_zero, List.setIfInBounds_toArray, List.set_cons_zero, List.set_cons_succ]
          refine AnyBut.takeS (i := 4) (v := ?v22) rfl (by kernel_rfl) (Nat.le_of_eq (by kernel_rfl)) (by kernel_rfl) (by kernel_rfl) (fun _ _ _ h => h) (HSS.out) (Or.inl ⟨by kernel_rfl, ?hy22⟩) ?r22
          case hy22 =>
            intro w hSw
            try dsimp only at hSw
            go_simp
            try with_reducible rfl
          try simp only [Act.put, List.getElem_toArray, List.getElem_cons_succ, List.getElem_cons_zero, List.setIfInBounds_toArray, List.set_cons_zero, List.set_cons_succ]
          refine AnyBut.takeS (i := 5) (v := ?v23) rfl (by kernel_rfl) (Nat.le_of_eq (by kernel_rfl)) (by kernel_rfl) (by kernel_rfl) (fun _ _ _ h => h) (HSS.out) (Or.inl ⟨by kernel_rfl, ?hy23⟩) ?r23
          case hy23 =>
            intro w hSw
            try dsimp only at hSw
            go_simp
            try with_reducible rfl
          try simp only [Act.put, List.getElem_toArray, List.getElem_cons_succ, List.getElem_cons_zero, List.setIfInBounds_toArray, List.set_cons_zero, List.set_cons_succ]
          refine AnyBut.takeS (i := 6) (v := ?v24) rfl (by kernel_rfl) (Nat.le_of_eq (by kernel_rfl)) (by kernel_rfl) (by kernel_rfl) (fun _ _ _ h => h) (HSS.out) (Or.inl ⟨by kernel_rfl, ?hy24⟩) ?r24
          case hy24 =>
            intro w hSw
            try dsimp only at hSw
            go_simp
            try with_reducible rfl
          try simp only [Act.put, List.getElem_toArray, List.getElem_cons_succ, List.getElem_cons_zero, List.setIfInBounds_toArray, List.set_cons_zero, List.set_cons_succ]
          refine AnyBut.takeS (i := 7) (v := ?v25) rfl (by kernel_rfl) (Nat.le_of_eq (by kernel_rfl)) (by kernel_rfl) (by kernel_rfl) (fun _ _ _ h => h) (HSS.out) (Or.inl ⟨by kernel_rfl, ?hy25⟩) ?r25
          case hy25 =>
            intro w hSw
            try dsimp only at hSw
            go_simp
            try with_reducible rfl
          try simp only [Act.put, List.getElem_toArray, List.getElem_cons_succ, List.getElem_cons_zero, List.setIfInBounds_toArray, List.set_cons_zero, List.set_cons_succ]
          refine AnyBut.takeS (i := 8) (v := ?v26) rfl (by kernel_rfl) (Nat.le_of_eq (by kernel_rfl)) (by kernel_rfl) (by kernel_rfl) (fun _ _ _ h => h) (HSS.out) (Or.inl ⟨by kernel_rfl, ?hy26⟩) ?r26
          case hy26 =>
            intro w hSw
            try dsimp only at hSw
            go_simp
            try with_reducible rfl
          try simp only [Act.put, List.getElem_toArray, List.getElem_cons_succ, List.getElem_cons_zero, List.setIfInBounds_toArray, List.set_cons_zero, List.set_cons_succ]
          refine AnyBut.takeS (i := 9) (v := ?v27) rfl (by kernel_rfl) (Nat.le_of_eq (by kernel_rfl)) (by kernel_rfl) (by kernel_rfl) (fun _ _ _ h => h) (HSS.out) (Or.inl ⟨by kernel_rfl, ?hy27⟩) ?r27
          case hy27 =>
            intro w hSw
            try dsimp only at hSw
            go_simp
            try with_reducible rfl
          try simp only [Act.put, List.getElem_toArray, List.getElem_cons_succ, List.getElem_cons_zero, List.setIfInBounds_toArray, List.set_cons_zero, List.set_cons_succ]
          refine AnyBut.takeS (i := 10) (v := ?v28) rfl (by kernel_rfl) (Nat.le_of_eq (by kernel_rfl)) (by kernel_rfl) (by kernel_rfl) (fun _ _ _ h => h) (HSS.out) (Or.inl ⟨by kernel_rfl, ?hy28⟩) ?r28
          case hy28 =>
            intro w hSw
            try dsimp only at hSw
            go_simp
            try with_reducible rfl
          try simp only [Act.put, List.getElem_toArray, List.getElem_cons_succ, List.getElem_cons_zero, List.setIfInBounds_toArray, List.set_cons_zero, List.set_cons_succ]
          refine AnyBut.takeS (i := 11) (v := ?v29) rfl (by kernel_rfl) (Nat.le_of_eq (by kernel_rfl)) (by kernel_rfl) (by kernel_rfl) (fun _ _ _ h => h) (HSS.out) (Or.inl ⟨by kernel_rfl, ?hy29⟩) ?r29
          case hy29 =>
            intro w hSw
            try dsimp only at hSw
            go_simp
            try with_reducible rfl
          try simp only [Act.put, List.getElem_toArray, List.getElem_cons_succ, List.getElem_cons_zero, List.setIfInBounds_toArray, List.set_cons_zero, List.set_cons_succ]
          refine AnyBut.takeS (i := 12) (v := ?v30) rfl (by kernel_rfl) (Nat.le_of_eq (by kernel_rfl)) (by kernel_rfl) (by kernel_rfl) (fun _ _ _ h => h) (HSS.out) (Or.inl ⟨by kernel_rfl, ?hy30⟩) ?r30
          case hy30 =>
            intro w hSw
            try dsimp only at hSw
            go_simp
            try with_reducible rfl
          try simp only [Act.put, List.getElem_toArray, List.getElem_cons_succ, List.getElem_cons_zero, List.setIfInBounds_toArray, List.set_cons_zero, List.set_cons_succ]
          refine AnyBut.takeS (i := 13) (v := ?v31) rfl (by kernel_rfl) (Nat.le_of_eq (by kernel_rfl)) (by kernel_rfl) (by kernel_rfl) (fun _ _ _ h => h) (HSS.out) (Or.inl ⟨by kernel_rfl, ?hy31⟩) ?r31
          case hy31 =>
            intro w hSw
            try dsimp only at hSw
            go_simp
            try with_reducible rfl
          try simp only [Act.put, List.getElem_toArray, List.getElem_cons_succ, List.getElem_cons_zero, List.setIfInBounds_toArray, List.set_cons_zero, List.set_cons_succ]
          refine AnyBut.one (i := 14) (by kernel_rfl) rfl (fun K hK => ?_)
          go_simp
          go_wp2_with fail
          refine (HCMP.out _).mono ?_
          rintro e w4 ⟨z, rfl, hz, k4⟩
          have HK4 := Lib.hid ((Kept.refl (fun _ => False) wr).drew.trans k4)
          have HSS4 : Hid ((fun w' => w'.cell? ⟨g, o + J * 2, none⟩ = some (.string xk) ∧ w'.cell? ⟨g, o + J * 2 + 1, none⟩ = some (.string xv) ∧ w'.cell? ⟨g, o + j * 2, none⟩ = some (.string yk) ∧ w'.cell? ⟨g, o + j * 2 + 1, none⟩ = some (.string yv)) w4) := Lib.hid ⟨HK4.out.cell HXX.out.1 (fun x => x), HK4.out.cell HXX.out.2.1 (fun x => x), HK4.out.cell HXX.out.2.2.1 (fun x => x), HK4.out.cell HXX.out.2.2.2 (fun x => x)⟩
          have HZ := Lib.hid hz
          clear k4 hz
          go_wp2
          refine hK.out _ _ (HSS4.out) ?_
          clear hK K
          try simp only [Act.put, List.getElem_toArray, List.getElem_cons_succ, List.getElem_cons_zero, List.setIfInBounds_toArray, List.set_cons_zero, List.set_cons_succ]
          refine AnyBut.takeS (i := 15) (v := ?v32) rfl (by kernel_rfl) (Nat.le_of_eq (by kernel_rfl)) (by kernel_rfl) (by kernel_rfl) (fun _ _ _ h => h) (HSS4.out) (Or.inl ⟨by kernel_rfl, ?hy32⟩) ?r32
          case hy32 =>
            intro w hSw
            try dsimp only at hSw
            go_simp
            try with_reducible rfl
          try simp only [Act.put, List.getElem_toArray, List.getElem_cons_succ, List.getElem_cons_zero, List.setIfInBounds_toArray, List.set_cons_zero, List.set_cons_succ]
          refine AnyBut.takeS (i := 16) (v := ?v33) rfl (by kernel_rfl) (Nat.le_of_eq (by kernel_rfl)) (by kernel_rfl) (by kernel_rfl) (fun _ _ _ h => h) (HSS4.out) (Or.inl ⟨by kernel_rfl, ?hy33⟩) ?r33
          case hy33 =>
            intro w hSw
            try dsimp only at hSw
            go_simp
            try with_reducible rfl
          try simp only [Act.put, List.getElem_toArray, List.getElem_cons_succ, List.getElem_cons_zero, List.setIfInBounds_toArray, List.set_cons_zero, List.set_cons_succ]
          refine AnyBut.done (by kernel_rfl) ?_
          have hlz : decide (z < 0) = lt := HZ.out
          have HX5 := Lib.hid (HX3.out.on HK4.out)
          cases lt with
          | false =>
            have hz : ¬ z < 0 := of_decide_eq_false hlz
            have HPE := Lib.hid (show plc A ⟨xk, xv⟩ J = J from HPL.out.trans (if_neg (by decide)))
            have HX6 := Lib.hid (HX2.out.on HK4.out)
            clear hlz
            go_wp2
            go_roundg (n - (i + 1))
            case measure => have := HD.out; omega
            case rel => exact ⟨i + 1, by omega, by have := HD.out; omega, rfl, rfl, HFIN.out _ HX6.out HPE.out⟩
          | true =>
            have hz : z < 0 := of_decide_eq_true hlz
            have HPE := Lib.hid (show plc A ⟨xk, xv⟩ J = plc A ⟨xk, xv⟩ j from HPL.out.trans (if_pos rfl))
            have x0 := HSS4.out.1
            have x1 := HSS4.out.2.1
            have x2 := HSS4.out.2.2.1
            have x3 := HSS4.out.2.2.2
            obtain ⟨gg, hgg, hfz⟩ := mineP_free HX5.out (by rw [List.length_append, List.length_cons]; omega)
            subst hgg
            have f0 := hfz (o + J * 2)
            have f1 := hfz (o + J * 2 + 1)
            have f2 := hfz (o + j * 2)
            have f3 := hfz (o + j * 2 + 1)
            clear hlz hfz
            obtain ⟨v2, y2⟩ := cell?_setCell_some (w := w4) (p := ⟨gg, o + J * 2, none⟩) (x := .string yk) (q := ⟨gg, o + j * 2, none⟩) x2
            obtain ⟨v3, y3⟩ := cell?_setCell_some (w := w4) (p := ⟨gg, o + J * 2, none⟩) (x := .string yk) (q := ⟨gg, o + j * 2 + 1, none⟩) x3
            obtain ⟨v4, y4⟩ := cell?_setCell_some (w := w4.setCell ⟨gg, o + J * 2, none⟩ (.string yk)) (p := ⟨gg, o + J * 2 + 1, none⟩) (x := .string yv) (q := ⟨gg, o + j * 2 + 1, none⟩) y3
            obtain ⟨v5, y5⟩ := cell?_setCell_some (w := w4.setCell ⟨gg, o + J * 2, none⟩ (.string yk)) (p := ⟨gg, o + J * 2 + 1, none⟩) (x := .string yv) (q := ⟨gg, o + j * 2, none⟩) y2
            obtain ⟨v6, y6⟩ := cell?_setCell_some (w := w4) (p := ⟨gg, o + J * 2 + 1, none⟩) (x := .string yv) (q := ⟨gg, o + j * 2 + 1, none⟩) x3
            go_upto_region 6 with fail
            go_region
            have hset := mineP_swap HX5.out HO.out (J := J) (j := j) ⟨xk, xv⟩ ⟨yk, yv⟩
            rw [HSW.out] at hset
            have HX6 := Lib.hid (hset.on ((Kept.refl (fun _ => False) _).drew))
            clear hset x0 x1 x2 x3 f0 f1 f2 f3 y2 y3 y4 y5 y6
            go_wp2
            go_roundg (2 * j)
            case measure => have := HJ.out.1; omega
            case rel => exact ⟨j, by have := HJ.out.1; have := HJI.out; omega, rfl, rfl, HX6.out, HP.out.trans HPE.out⟩
    · have HE : Hid (sortP (L.take i) ++ L.drop i = sortP L) := Lib.hid (by have := HN.out; rw [List.take_of_length_le (by omega), List.drop_eq_nil_of_le (by omega), List.append_nil])
      have hdi : ¬ (i : Int) < (n : Int) := by omega
      have hdd : decide (i < n) = false := decide_eq_false hd
      clear hd hi1 hin
      go_wp2
      go_end0
      exact ⟨rfl, by rw [← HE.out]; exact HX.out⟩
end Go.Proofs.YtkgjkcfjkjkflaaDoor

