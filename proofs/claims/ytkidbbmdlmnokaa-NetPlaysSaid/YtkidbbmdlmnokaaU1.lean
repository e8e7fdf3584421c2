/- Layer 23: messages; right, Right, Same, clone. -/
import Derived.Test.YtkidbbmdlmnokaaNX
import Derived.Test.YtkidbbmdlmnokaaGR
import Derived.Test.YtkidbbmdlmnokaaRS
namespace Go.Proofs.Ytkidbbmdlmnokaa
open Go.RowKit
attribute [local go_sem ↓] Go.wp_at_zero Go.wp_at_succ

/-- A message: what it tells, and where its bytes lie. -/
structure Mg where
  ack : Bool
  have_ : Int
  a : Option Addr
  c : Nat
  b : List Int
def Mg.v (m : Mg) : Value := .slice m.a m.b.length m.c
def Mg.agg (m : Mg) : Value := .agg #[.bool m.ack, .int .i64 m.have_, .slice m.a m.b.length m.c]
def cellsM (m : Mg) : List Value := [.bool m.ack, .int .i64 m.have_, .slice m.a m.b.length m.c]
theorem cfM : Cf cellsM 3 := ⟨fun _ => rfl, fun x u hu => by
  simp only [cellsM, List.mem_cons, List.not_mem_nil, or_false] at hu
  rcases hu with rfl | rfl | rfl <;> rfl⟩
/-- What a message tells. -/
structure Tl where
  ack : Bool
  have_ : Int
  b : List Int
deriving DecidableEq
def Mg.t (m : Mg) : Tl := ⟨m.ack, m.have_, m.b⟩
/-- Its bytes lie there. -/
def Mg.At (m : Mg) (w : World) : Prop := SlAt w (.slice m.a m.b.length m.c) (u8s m.b)
theorem Mg.At.kept {m : Mg} {w w' : World} (h : m.At w) (k : Kept (fun _ => False) w w') : m.At w' := SlAt.kept h k (fun _ _ x => x)
def rightB (m : Tl) : Bool := if m.ack then decide (0 ≤ m.have_ ∧ m.have_ ≤ 4503599627370497 ∧ m.b.length = 0) else decide (m.have_ = 0 ∧ m.b.length ≤ 65536)
set_option maxHeartbeats 1000000 in
theorem right_any (ack : Bool) (hv : Int) (a : Option Addr) (c : Nat) (b : List Int) (w : World) :
    Calls Try.prog 73 #[.agg #[.bool ack, .int .i64 hv, .slice a b.length c]] w fun e w' => e = .returned (.bool (rightB ⟨ack, hv, b⟩)) ∧ Kept (fun _ => False) w w' := by
  obtain ⟨R, hR⟩ : ∃ R, R = rightB ⟨ack, hv, b⟩ := ⟨_, rfl⟩
  rw [← hR]
  unfold rightB at hR
  dsimp only at hR
  obtain ⟨n, hn⟩ : ∃ n, n = b.length := ⟨_, rfl⟩
  rw [← hn] at hR ⊢
  have HK := Lib.hid ((Kept.refl (fun _ => False) w).alloc (.cells #[.bool ack, .int .i64 hv, .slice a n c] 29))
  clear hn
  cases ack with
  | true =>
    rw [if_pos rfl] at hR
    have HR := Lib.hid hR
    clear hR
    by_cases h0 : 0 ≤ hv
    · by_cases h1 : hv ≤ 4503599627370497
      · by_cases h2 : n = 0
        · have q : ((n : Int) == 0) = true := beqT (by omega)
          have HX : Hid (R = true) := Lib.hid (by rw [HR.out]; exact decide_eq_true ⟨h0, h1, h2⟩)
          have q0 : decide ((0 : Int) ≤ hv) = true := decide_eq_true h0
          have q1 : decide (hv ≤ (4503599627370497 : Int)) = true := decide_eq_true h1
          clear h2
          go_enter Try.func73, Try.ntmps73
          go_wp2
          go_ret
          exact ⟨by rw [HX.out]; rfl, HK.out⟩
        · have q : ((n : Int) == 0) = false := beqF (by omega)
          have HX : Hid (R = false) := Lib.hid (by rw [HR.out]; exact decide_eq_false (fun e => h2 e.2.2))
          have q0 : decide ((0 : Int) ≤ hv) = true := decide_eq_true h0
          have q1 : decide (hv ≤ (4503599627370497 : Int)) = true := decide_eq_true h1
          clear h2
          go_enter Try.func73, Try.ntmps73
          go_wp2
          go_ret
          exact ⟨by rw [HX.out]; rfl, HK.out⟩
      · have HX : Hid (R = false) := Lib.hid (by rw [HR.out]; exact decide_eq_false (fun e => h1 e.2.1))
        have q0 : decide ((0 : Int) ≤ hv) = true := decide_eq_true h0
        have q1 : decide (hv ≤ (4503599627370497 : Int)) = false := decide_eq_false h1
        go_enter Try.func73, Try.ntmps73
        go_wp2
        go_ret
        exact ⟨by rw [HX.out]; rfl, HK.out⟩
    · have HX : Hid (R = false) := Lib.hid (by rw [HR.out]; exact decide_eq_false (fun e => h0 e.1))
      have q0 : decide ((0 : Int) ≤ hv) = false := decide_eq_false h0
      go_enter Try.func73, Try.ntmps73
      go_wp2
      go_ret
      exact ⟨by rw [HX.out]; rfl, HK.out⟩
  | false =>
    rw [if_neg (by decide)] at hR
    have HR := Lib.hid hR
    clear hR
    by_cases h0 : hv = 0
    · have q0 : (hv == 0) = true := beqT h0
      have HH := Lib.hid h0
      clear h0
      by_cases h1 : n ≤ 65536
      · have HX : Hid (R = true) := Lib.hid (by rw [HR.out]; exact decide_eq_true ⟨HH.out, h1⟩)
        have q1 : (n : Int) ≤ 65536 := by omega
        have q1' : decide (n ≤ 65536) = true := decide_eq_true h1
        clear h1
        go_enter Try.func73, Try.ntmps73
        go_wp2
        go_ret
        exact ⟨by rw [HX.out]; rfl, HK.out⟩
      · have HX : Hid (R = false) := Lib.hid (by rw [HR.out]; exact decide_eq_false (fun e => h1 e.2))
        have q1 : ¬ (n : Int) ≤ 65536 := by omega
        have q1' : decide (n ≤ 65536) = false := decide_eq_false h1
        clear h1
        go_enter Try.func73, Try.ntmps73
        go_wp2
        go_ret
        exact ⟨by rw [HX.out]; rfl, HK.out⟩
    · have q0 : (hv == 0) = false := beqF h0
      have HX : Hid (R = false) := Lib.hid (by rw [HR.out]; exact decide_eq_false (fun e => h0 e.1))
      clear h0
      go_enter Try.func73, Try.ntmps73
      go_wp2
      go_ret
      exact ⟨by rw [HX.out]; rfl, HK.out⟩
set_option maxHeartbeats 1000000 in
set_option maxRecDepth 100000 in
theorem bclone_any (a : Option Addr) (n c : Nat) (b : List Int) (hn : b.length = n) (w : World) (hv : SlAt w (.slice a n c) (u8s b)) (hl : n ≤ 1000000000) :
    Calls Try.prog 89 #[.slice a n c] w fun e w' => ∃ a' c', e = .returned (.slice a' n c') ∧ Mine w w' 5 (.slice a' n c') (u8s b) := by
  have q29 := fun (w : World) (a : Option Addr) (n c n' c' : Nat) => Lib.run_eql_slice_nil (P := Try.prog) w 27 5 a n c n' c' Try.underlying27
  obtain ⟨iI, hiI, hzI0, hzI1, hzI2⟩ := info_parts Try.info5
  have hub : (u8s b).length = n := by rw [← hn]; simp
  cases a with
  | none =>
    have hz : b = [] := by
      obtain ⟨ao, c', e, hz, _⟩ := hv.val
      injection e with e1 e2 e3
      have := hz e1.symm
      unfold u8s at this
      simpa using this
    subst hz
    have hn0 : n = 0 := by simpa using hn.symm
    subst hn0
    clear hv
    go_enter Try.func89, Try.ntmps89
    go_wp2
    go_ret
    exact ⟨none, 0, rfl, Mine.nil _ _⟩
  | some a =>
    have hs : Src Try.prog 1 27 (.slice (some a) n c) (u8s b).length (u8s b) (w.alloc (.cells #[] 5)) := by
      have h1 : ∀ u ∈ u8s b, u.oneCell' = true := by
        intro u hu
        unfold u8s at hu
        obtain ⟨x, _, rfl⟩ := List.mem_map.1 hu
        rfl
      exact (hv.kept ((Kept.refl (fun _ => False) w).alloc (.cells #[] 5)) (fun _ _ x => x)).src Try.underlying27 h1
    have hown0 : Mine w (w.alloc (.cells #[] 5)) 5 (.slice (some ⟨w.heap.size, 0, none⟩) 0 0) [] :=
      ⟨⟨rfl, .inr ⟨w.heap.size, 0, #[], rfl, Nat.le_refl _, heap_alloc_new w _, Nat.le_refl _, by unfold maxLen; omega, rfl, rfl⟩⟩, (Kept.refl _ _).alloc _⟩
    have HO := Lib.hid hown0
    have HS := Lib.hid hs
    have HL := Lib.hid hl
    have HUB := Lib.hid hub
    obtain ⟨xs, hxs⟩ : ∃ xs, xs = u8s b := ⟨_, rfl⟩
    rw [← hxs] at HS HUB ⊢
    clear hv hown0 hs hn hl hub hxs
    go_enter Try.func89, Try.ntmps89
    go_wp2_with (at_builtin; refine wpList_mine rfl (.tmp 5) (.tmp 6) _ _ rfl 5 iI (.int .u8 0) 1 Try.underlying27 hiI hzI0 hzI1 hzI2 rfl (by omega) w _ [] rfl HO.out _ xs rfl HS.out (by have := HL.out; have := HUB.out; simp; omega) ?_; intro v' w1 hm; have HM := Lib.hid hm; clear hm)
    go_ret
    have hm := HM.out
    rw [List.nil_append] at hm
    obtain ⟨a', c', rfl⟩ := hm.slice
    rw [HUB.out] at hm ⊢
    exact ⟨a', c', rfl, hm⟩
end Go.Proofs.Ytkidbbmdlmnokaa
