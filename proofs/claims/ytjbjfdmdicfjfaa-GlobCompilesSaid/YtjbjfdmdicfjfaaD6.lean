/- package glob, layer 32: pieces in memory; holds. -/
import Derived.Test.YtjbjfdmdicfjfaaD5
namespace Go.Proofs.Ytjbjfdmdicfjfaa
open Go.RowKit
attribute [local go_sem ↓] Go.wp_at_zero Go.wp_at_succ

/-- A piece with its words. -/
structure PcR where
  p : Pc
  a : Nat
  b : Nat
  c : Nat
  d : Nat
structure PcR.Ok (P : PcR) : Prop where
  wd : Wd [P.a, P.b, P.c, P.d] P.p.f
  k : P.p.k ≤ 3
  c : P.p.c < 256
def cellsPc (P : PcR) : List Value := [.int .i64 (P.p.k : Int), .int .u8 (P.p.c : Int), .int .u64 (P.a : Int), .int .u64 (P.b : Int), .int .u64 (P.c : Int), .int .u64 (P.d : Int)]
set_option maxHeartbeats 2000000 in
theorem holds_any (P : PcR) (hP : P.Ok) (x : Nat) (hx : x < 256) (w : World) :
    Calls Try.prog 19 #[.agg (cellsPc P).toArray, .int .u8 (x : Int)] w fun e w' => e = .returned (.bool (P.p.hold x)) ∧ Kept (fun _ => False) w w' := by
  obtain ⟨⟨k, c, f⟩, wa, wb, wc, wd⟩ := P
  obtain ⟨hw, hk, hc⟩ := hP
  simp only at hw hk hc
  have HH := Lib.hid (fun w => has_any _ _ hw x hx w)
  have HR : Hid (Pc.hold ⟨k, c, f⟩ x = if k = 0 then decide (c = x) else if k = 2 then f x else decide (k = 1)) := Lib.hid rfl
  have HU : Hid ((uvals [wa, wb, wc, wd]).toArray = #[.int .u64 (wa : Int), .int .u64 (wb : Int), .int .u64 (wc : Int), .int .u64 (wd : Int)]) := Lib.hid rfl
  rw [HU.out] at HH
  obtain ⟨R, hR⟩ : ∃ r, r = Pc.hold ⟨k, c, f⟩ x := ⟨_, rfl⟩
  rw [← hR] at HR ⊢
  show Calls _ _ #[.agg #[.int .i64 (k : Int), .int .u8 (c : Int), .int .u64 (wa : Int), .int .u64 (wb : Int), .int .u64 (wc : Int), .int .u64 (wd : Int)], .int .u8 (x : Int)] w _
  clear hR hw hc
  have hcase : k = 0 ∨ k = 2 ∨ k = 1 ∨ k = 3 := by omega
  rcases hcase with rfl | rfl | rfl | rfl
  · have hb : ((c : Int) == (x : Int)) = R := by
      rw [HR.out, if_pos rfl]
      by_cases h : c = x
      · subst h; simp
      · simp [h]; omega
    go_enter Try.func19, Try.ntmps19
    go_wp2
    go_ret
    exact ⟨rfl, (Kept.refl _ _).alloc _⟩
  · rw [if_neg (by omega), if_pos rfl] at HR
    rw [← HR.out] at HH
    go_enter Try.func19, Try.ntmps19
    go_wp2_with fail
    refine (HH.out _).mono ?_
    rintro e w' ⟨rfl, hk⟩
    go_wp2
    go_ret
    exact ⟨rfl, ((Kept.refl _ _).alloc _).trans hk⟩
  · have HX : Hid (R = true) := Lib.hid HR.out
    go_enter Try.func19, Try.ntmps19
    go_wp2
    go_ret
    exact ⟨by rw [HX.out]; rfl, (Kept.refl _ _).alloc _⟩
  · have HX : Hid (R = false) := Lib.hid HR.out
    go_enter Try.func19, Try.ntmps19
    go_wp2
    go_ret
    exact ⟨by rw [HX.out]; rfl, (Kept.refl _ _).alloc _⟩
end Go.Proofs.Ytjbjfdmdicfjfaa
