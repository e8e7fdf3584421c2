/- Layer 11: the document's Same (written by tools/gen_XAB.py). -/
import Derived.Test.YtkgjkcfjkjkflaaDoorAA
import Derived.Laws.StructEq
namespace Go.Proofs.YtkgjkcfjkjkflaaDoor
open Go.RowKit
attribute [local go_sem ↓] Go.wp_at_zero Go.wp_at_succ

/-- Two lists of attributes, the same? -/
def sameL (a b : List Pr) : Bool := decide (a.length = b.length ∧ ∀ i, i < a.length → eqP (a.getD i pr0) (b.getD i pr0) = true)
theorem sameL_iff (a b : List Pr) : sameL a b = true ↔ a = b := by
  constructor
  · intro h
    have h := of_decide_eq_true h
    refine List.ext_getElem h.1 fun i h1 h2 => ?_
    have := (eqP_iff _ _).1 (h.2 i h1)
    rwa [getD_pr (List.getElem?_eq_getElem h1), getD_pr (List.getElem?_eq_getElem h2)] at this
  · rintro rfl
    exact decide_eq_true ⟨rfl, fun i _ => (eqP_iff _ _).2 rfl⟩
theorem neq_pair (a b c d : ByteArray) (w : World) : (binOp .neq 40 (.agg #[.string a, .string b]) (.agg #[.string c, .string d])).run Tryd.prog w = .ok (.bool (!((a.toList == c.toList) && (b.toList == d.toList)))) w := by
  cases h1 : (a.toList == c.toList) <;> cases h2 : (b.toList == d.toList) <;> go_simp

set_option maxHeartbeats 4000000 in
theorem refSame11_any (ao bo : Option Addr) (c d : Nat) (L M : List Pr) (w : World) (hr : PsAt w ao L) (hs : PsAt w bo M) (hl : L.length ≤ 9223372036854775807) :
    Calls Tryd.prog 12 #[.slice ao L.length c, .slice bo M.length d] w fun e w' => e = .returned (.bool (sameL L M)) ∧ Kept (fun _ => False) w w' := by
  by_cases hne : L.length = M.length
  · have q : ((L.length : Int) != (M.length : Int)) = false := bneF (by omega)
    have q2 : (L.length != M.length) = false := by simp [hne]
    have HR := Lib.hid hr
    have HS := Lib.hid hs
    have HL := Lib.hid hl
    have HE := Lib.hid hne
    obtain ⟨n, hn⟩ : ∃ n, n = L.length := ⟨_, rfl⟩
    have HN := Lib.hid hn
    rw [← hne, ← hn] at q q2 ⊢
    clear hr hs hl hne hn
    go_enter Tryd.func12, Tryd.ntmps12
    go_wp2
    go_loopg [5] n (fun g s5 wr => ∃ i : Nat, i ≤ n ∧ g = n - i ∧ s5 = .int .i64 i ∧ Kept (fun _ => False) w wr ∧ ∀ j, j < i → eqP (L.getD j pr0) (M.getD j pr0) = true)
    case atStart => exact ⟨0, Nat.zero_le _, rfl, rfl, Kept.refl _ _, fun j hj => by omega⟩
    case round =>
      obtain ⟨i, hin, rfl, rfl, kw, ha⟩ := hrel
      have HA := Lib.hid ha
      have HK := Lib.hid kw.drew
      have HK0 := Lib.hid kw
      clear ha kw
      by_cases hd : i < n
      · have hdi : (i : Int) < (n : Int) := by omega
        have hi0 : (0 : Int) ≤ (i : Int) := by omega
        have HD := Lib.hid hd
        have wi : IntKind.i64.wrap ((i : Int) + 1) = ((i + 1 : Nat) : Int) := by rw [IntWalk.i64_in _ ⟨by omega, by have := HL.out; have := HN.out; omega⟩]; omega
        have hiL : i < L.length := by have := HN.out; omega
        have hiM : i < M.length := by have := HE.out; omega
        obtain ⟨ga, oa, rfl, hrec⟩ := HR.out (by omega)
        obtain ⟨gb, ob, rfl, hrec2⟩ := HS.out (by omega)
        have e1 := (hrec i L[i] (List.getElem?_eq_getElem hiL)).keptS HK.out (fun x => x)
        have e2 := (hrec2 i M[i] (List.getElem?_eq_getElem hiM)).keptS HK.out (fun x => x)
        have g1 := getD_pr (List.getElem?_eq_getElem hiL) pr0
        have g2 := getD_pr (List.getElem?_eq_getElem hiM) pr0
        obtain ⟨x, hx⟩ : ∃ p, p = L[i] := ⟨_, rfl⟩
        obtain ⟨y, hy⟩ : ∃ p, p = M[i] := ⟨_, rfl⟩
        rw [← hx] at e1 g1
        rw [← hy] at e2 g2
        obtain ⟨b, hb⟩ : ∃ b, b = eqP x y := ⟨_, rfl⟩
        have HG := Lib.hid (show eqP (L.getD i pr0) (M.getD i pr0) = b by rw [g1, g2, hb])
        have hnp := neq_pair x.k x.v y.k y.v
        rw [show ((x.k.toList == y.k.toList) && (x.v.toList == y.v.toList)) = b from hb.symm] at hnp
        obtain ⟨xk, xv⟩ := x
        obtain ⟨yk, yv⟩ := y
        dsimp only at hnp
        have HSS : Hid ((fun w' => w'.cell? ⟨ga, oa + i * 2, none⟩ = some (.string xk) ∧ w'.cell? ⟨ga, oa + i * 2 + 1, none⟩ = some (.string xv) ∧ w'.cell? ⟨gb, ob + i * 2, none⟩ = some (.string yk) ∧ w'.cell? ⟨gb, ob + i * 2 + 1, none⟩ = some (.string yv)) wr.drew) := Lib.hid ⟨e1.c0, e1.c1, e2.c0, e2.c1⟩
        clear hd hin hiL hiM hrec hrec2 e1 e2 g1 g2 hx hy hb
        go_upto_region 6 with fail
        refine AnyBut.start (S := fun w' => w'.cell? ⟨ga, oa + i * 2, none⟩ = some (.string xk) ∧ w'.cell? ⟨ga, oa + i * 2 + 1, none⟩ = some (.string xv) ∧ w'.cell? ⟨gb, ob + i * 2, none⟩ = some (.string yk) ∧ w'.cell? ⟨gb, ob + i * 2 + 1, none⟩ = some (.string yv)) (k := 9) (by kernel_rfl) ?_
        refine AnyBut.takeS (i := 0) (v := ?v1) rfl (by kernel_rfl) (Nat.le_of_eq (by kernel_rfl)) (by kernel_rfl) (by kernel_rfl) (fun _ _ _ h => h) (HSS.out) (Or.inl ⟨by kernel_rfl, ?hy1⟩) ?r1
        case hy1 =>
          intro w hSw
          try dsimp only at hSw
          go_simp
          try with_reducible rfl
        try simp only [Act.put, List.getElem_toArray, List.getElem_cons_zero, List.setIfInBounds_toArray, List.set_cons_zero, List.set_cons_succ]
        refine AnyBut.takeS (i := 1) (v := ?v2) rfl (by kernel_rfl) (Nat.le_of_eq (by kernel_rfl)) (by kernel_rfl) (by kernel_rfl) (fun _ _ _ h => h) (HSS.out) (Or.inl ⟨by kernel_rfl, ?hy2⟩) ?r2
        case hy2 =>
          intro w hSw
          try dsimp only at hSw
          go_simp
          try with_reducible rfl
        try simp only [Act.put, List.getElem_toArray, List.getElem_cons_succ, List.getElem_cons_zero, List.setIfInBounds_toArray, List.set_cons_zero, List.set_cons_succ]
        refine AnyBut.takeS (i := 2) (v := ?v3) rfl (by kernel_rfl) (Nat.le_of_eq (by kernel_rfl)) (by kernel_rfl) (by kernel_rfl) (fun _ _ _ h => h) (HSS.out) (Or.inl ⟨by kernel_rfl, ?hy3⟩) ?r3
        case hy3 =>
          intro w hSw
          try dsimp only at hSw
          go_simp
          try with_reducible rfl
        try simp only [Act.put, List.getElem_toArray, List.getElem_cons_succ, List.getElem_cons_zero, List.setIfInBounds_toArray, List.set_cons_zero, List.set_cons_succ]
        refine AnyBut.takeS (i := 3) (v := ?v4) rfl (by kernel_rfl) (Nat.le_of_eq (by kernel_rfl)) (by kernel_rfl) (by kernel_rfl) (fun _ _ _ h => h) (HSS.out) (Or.inl ⟨by kernel_rfl, ?hy4⟩) ?r4
        case hy4 =>
          intro w hSw
          try dsimp only at hSw
          go_simp
          try with_reducible rfl
        try simp only [Act.put, List.getElem_toArray, List.getElem_cons_succ, List.getElem_cons_zero, List.setIfInBounds_toArray, List.set_cons_zero, List.set_cons_succ]
        refine AnyBut.takeS (i := 4) (v := ?v5) rfl (by kernel_rfl) (Nat.le_of_eq (by kernel_rfl)) (by kernel_rfl) (by kernel_rfl) (fun _ _ _ h => h) (HSS.out) (Or.inl ⟨by kernel_rfl, ?hy5⟩) ?r5
        case hy5 =>
          intro w hSw
          try dsimp only at hSw
          go_simp
          try with_reducible rfl
        try simp only [Act.put, List.getElem_toArray, List.getElem_cons_succ, List.getElem_cons_zero, List.setIfInBounds_toArray, List.set_cons_zero, List.set_cons_succ]
        refine AnyBut.takeS (i := 5) (v := ?v6) rfl (by kernel_rfl) (Nat.le_of_eq (by kernel_rfl)) (by kernel_rfl) (by kernel_rfl) (fun _ _ _ h => h) (HSS.out) (Or.inl ⟨by kernel_rfl, ?hy6⟩) ?r6
        case hy6 =>
          intro w hSw
          try dsimp only at hSw
          go_simp
          try with_reducible rfl
        try simp only [Act.put, List.getElem_toArray, List.getElem_cons_succ, List.getElem_cons_zero, List.setIfInBounds_toArray, List.set_cons_zero, List.set_cons_succ]
        refine AnyBut.takeS (i := 6) (v := ?v7) rfl (by kernel_rfl) (Nat.le_of_eq (by kernel_rfl)) (by kernel_rfl) (by kernel_rfl) (fun _ _ _ h => h) (HSS.out) (Or.inl ⟨by kernel_rfl, ?hy7⟩) ?r7
        case hy7 =>
          intro w hSw
          try dsimp only at hSw
          go_simp
          try with_reducible rfl
        try simp only [Act.put, List.getElem_toArray, List.getElem_cons_succ, List.getElem_cons_zero, List.setIfInBounds_toArray, List.set_cons_zero, List.set_cons_succ]
        refine AnyBut.takeS (i := 7) (v := ?v8) rfl (by kernel_rfl) (Nat.le_of_eq (by kernel_rfl)) (by kernel_rfl) (by kernel_rfl) (fun _ _ _ h => h) (HSS.out) (Or.inl ⟨by kernel_rfl, ?hy8⟩) ?r8
        case hy8 =>
          intro w hSw
          try dsimp only at hSw
          go_simp
          try with_reducible rfl
        try simp only [Act.put, List.getElem_toArray, List.getElem_cons_succ, List.getElem_cons_zero, List.setIfInBounds_toArray, List.set_cons_zero, List.set_cons_succ]
        refine AnyBut.takeS (i := 8) (v := ?v9) rfl (by kernel_rfl) (Nat.le_of_eq (by kernel_rfl)) (by kernel_rfl) (by kernel_rfl) (fun _ _ _ h => h) (HSS.out) (Or.inl ⟨by kernel_rfl, ?hy9⟩) ?r9
        case hy9 =>
          intro w hSw
          try dsimp only at hSw
          go_simp
          try with_reducible rfl
        try simp only [Act.put, List.getElem_toArray, List.getElem_cons_succ, List.getElem_cons_zero, List.setIfInBounds_toArray, List.set_cons_zero, List.set_cons_succ]
        refine AnyBut.done (by kernel_rfl) ?_
        cases b with
        | true =>
          go_wp2
          go_roundg (n - (i + 1))
          case measure => have := HD.out; omega
          case rel => exact ⟨i + 1, HD.out, rfl, rfl, HK.out, all_succ HA.out HG.out⟩
        | false =>
          have HF : Hid (sameL L M = false) := Lib.hid (decide_eq_false (fun e => by have h := e.2 i (by have := HN.out; have := HD.out; omega); rw [HG.out] at h; cases h))
          go_wp2
          go_ret
          exact ⟨by rw [HF.out]; rfl, HK.out⟩
      · obtain rfl : n = i := by omega
        have HF : Hid (sameL L M = true) := Lib.hid (decide_eq_true ⟨HE.out, by rw [← HN.out]; exact HA.out⟩)
        clear hd
        go_wp2
        go_ret
        exact ⟨by rw [HF.out]; rfl, HK0.out⟩
  · have q : ((L.length : Int) != (M.length : Int)) = true := bneT (by omega)
    have q2 : (L.length != M.length) = true := by simp [hne]
    have HF : Hid (sameL L M = false) := Lib.hid (decide_eq_false (fun e => hne e.1))
    clear hr hs hl hne
    go_enter Tryd.func12, Tryd.ntmps12
    go_wp2
    go_ret
    exact ⟨by rw [HF.out]; rfl, Kept.refl _ _⟩
end Go.Proofs.YtkgjkcfjkjkflaaDoor

