/- Layer 12: values of points compared (written by tools/gen_XI5.py). -/
import Derived.Test.YteflepcmblacaaaGreatDoorI4
namespace Go.Proofs.YteflepcmblacaaaGreatDoor
open Go.RowKit
attribute [local go_sem ↓] Go.wp_at_zero Go.wp_at_succ

set_option maxRecDepth 100000 in
set_option maxHeartbeats 4000000 in
theorem neq_val (a0 b0 a1 b1 a2 b2 a3 b3 a4 b4 a5 b5 a6 b6 a7 b7 a8 b8 : Int) (w : World) : (binOp .neq 62 (.agg #[.int .i64 a0, .int .u64 a1, .int .u64 a2, .int .i64 a3, .int .u64 a4, .int .i64 a5, .int .i64 a6, .int .i64 a7, .int .i64 a8]) (.agg #[.int .i64 b0, .int .u64 b1, .int .u64 b2, .int .i64 b3, .int .u64 b4, .int .i64 b5, .int .i64 b6, .int .i64 b7, .int .i64 b8])).run Tryz.prog w = .ok (.bool (!((a0 == b0) && (a1 == b1) && (a2 == b2) && (a3 == b3) && (a4 == b4) && (a5 == b5) && (a6 == b6) && (a7 == b7) && (a8 == b8)))) w := by
  cases h0 : (a0 == b0) with
  | false => go_simp
  | true =>
    cases h1 : (a1 == b1) with
    | false => go_simp
    | true =>
      cases h2 : (a2 == b2) with
      | false => go_simp
      | true =>
        cases h3 : (a3 == b3) with
        | false => go_simp
        | true =>
          cases h4 : (a4 == b4) with
          | false => go_simp
          | true =>
            cases h5 : (a5 == b5) with
            | false => go_simp
            | true =>
              cases h6 : (a6 == b6) with
              | false => go_simp
              | true =>
                cases h7 : (a7 == b7) with
                | false => go_simp
                | true =>
                  cases h8 : (a8 == b8) with
                  | false => go_simp
                  | true =>
                    go_simp
theorem own_neq (x : Pnt) (w : World) : (binOp .neq 62 (.agg (valC x).toArray) (.agg (ownC x).toArray)).run Tryz.prog w = .ok (.bool (!ownB x)) w := by
  unfold ownC valC
  rcases kind_cases x.kind with e | e | e | e | e | ⟨n1, n2, n3, n4, n5⟩
  · rw [if_neg (by omega), if_pos (by omega)]
    refine (neq_val _ _ _ _ _ _ _ _ _ _ _ _ _ _ _ _ _ _ w).trans ?_
    congr 3
    unfold ownB
    rw [Bool.eq_iff_iff, decide_eq_true_eq]
    simp only [Bool.and_eq_true, beq_iff_eq, and_true]
    omega
  · rw [if_pos (by omega)]
    refine (neq_val _ _ _ _ _ _ _ _ _ _ _ _ _ _ _ _ _ _ w).trans ?_
    congr 3
    unfold ownB
    rw [Bool.eq_iff_iff, decide_eq_true_eq]
    simp only [Bool.and_eq_true, beq_iff_eq, true_and]
    omega
  · rw [if_neg (by omega), if_pos (by omega)]
    refine (neq_val _ _ _ _ _ _ _ _ _ _ _ _ _ _ _ _ _ _ w).trans ?_
    congr 3
    unfold ownB
    rw [Bool.eq_iff_iff, decide_eq_true_eq]
    simp only [Bool.and_eq_true, beq_iff_eq, and_true]
    omega
  · rw [if_neg (by omega), if_neg (by omega), if_neg (by omega), if_pos (by omega)]
    refine (neq_val _ _ _ _ _ _ _ _ _ _ _ _ _ _ _ _ _ _ w).trans ?_
    congr 3
    unfold ownB
    rw [Bool.eq_iff_iff, decide_eq_true_eq]
    simp only [Bool.and_eq_true, beq_iff_eq, and_true]
    omega
  · rw [if_neg (by omega), if_neg (by omega), if_pos (by omega)]
    refine (neq_val _ _ _ _ _ _ _ _ _ _ _ _ _ _ _ _ _ _ w).trans ?_
    congr 3
    unfold ownB
    rw [Bool.eq_iff_iff, decide_eq_true_eq]
    simp only [Bool.and_eq_true, beq_iff_eq, and_true]
    omega
  · rw [if_neg n1, if_neg (by omega), if_neg n5, if_neg n4]
    refine (neq_val _ _ _ _ _ _ _ _ _ _ _ _ _ _ _ _ _ _ w).trans ?_
    congr 3
    unfold ownB
    rw [Bool.eq_iff_iff, decide_eq_true_eq]
    simp only [Bool.and_eq_true, beq_iff_eq]
    omega
end Go.Proofs.YteflepcmblacaaaGreatDoor
