/- Layer 14: the document's find and Get. -/
import Derived.Test.YtoppcohgjmghdaaMA
import Derived.Test.YtoppcohgjmghdaaGR
namespace Go.Proofs.Ytoppcohgjmghdaa
open Go.RowKit
attribute [local go_sem ↓] Go.wp_at_zero Go.wp_at_succ

/-- A thing of the document's list: its key, what it is. -/
abbrev Dt := ByteArray × Int
def cellsDt (x : Dt) : List Value := [.string x.1, .int .i64 x.2]
theorem cfDt : Cf cellsDt 2 := ⟨fun _ => rfl, fun x u hu => by
  unfold cellsDt at hu
  simp only [List.mem_cons, List.not_mem_nil, or_false] at hu
  rcases hu with rfl | rfl <;> rfl⟩
/-- Where the first thing of that key is; -1: nowhere. -/
def findI (s : ByteArray) : List Dt → Nat → Int
  | [], _ => -1
  | x :: r, i => if x.1 = s then (i : Int) else findI s r (i + 1)
theorem toList_neD {a b : ByteArray} (h : a ≠ b) : (a.toList == b.toList) = false := toList_ne h
set_option maxRecDepth 100000 in
set_option maxHeartbeats 2000000 in
theorem rfind_any (ao : Option Addr) (c : Nat) (N : List Dt) (s : ByteArray) (w : World) (hr : GAt cellsDt 2 w ao N) (hl : N.length ≤ 1000000000) :
    Calls Try.prog 19 #[.slice ao N.length c, .string s] w fun e w' => e = .returned (.int .i64 (findI s N 0)) ∧ w = w' := by
  obtain ⟨z, hz⟩ : ∃ z, z = findI s N 0 := ⟨_, rfl⟩
  rw [← hz]
  have HZ := Lib.hid hz
  have HR := Lib.hid hr
  clear hz hr
  go_enter Try.func19, Try.ntmps19
  go_wp2
  go_loopg [5] N.length (fun g s3 wr => ∃ i : Nat, i ≤ N.length ∧ g = N.length - i ∧ s3 = .int .i64 i ∧ z = findI s (N.drop i) i ∧ w = wr)
  case atStart => exact ⟨0, Nat.zero_le _, rfl, rfl, HZ.out, rfl⟩
  case round =>
    obtain ⟨i, hil, rfl, rfl, hzi, rfl⟩ := hrel
    by_cases hd : i < N.length
    · obtain ⟨g, o, rfl, hrec⟩ := HR.out (by omega)
      have hi := List.getElem?_eq_getElem hd
      have hdrop : (N.drop i) = N[i] :: N.drop (i + 1) := List.drop_eq_getElem_cons hd
      obtain ⟨x, hx⟩ : ∃ x, x = N[i] := ⟨_, rfl⟩
      rw [← hx] at hi hdrop
      have c0 := hrec i x hi 0 (.string x.1) rfl
      rw [Nat.add_zero] at c0
      rw [hdrop] at hzi
      obtain ⟨k, v⟩ := x
      dsimp only at c0
      have hdi : (i : Int) < (N.length : Int) := by omega
      have hdi0 : (0 : Int) ≤ (i : Int) := by omega
      have HD := Lib.hid hd
      have wi : IntKind.i64.wrap ((i : Int) + 1) = ((i + 1 : Nat) : Int) := by rw [IntWalk.i64_in _ ⟨by omega, by omega⟩]; omega
      clear hrec hi hdrop hx hd
      by_cases hk : k = s
      · have HE := Lib.hid (show z = (i : Int) by rw [hzi]; unfold findI; rw [if_pos hk])
        have qk : (k.toList == s.toList) = true := by rw [hk]; simp
        clear hzi hk
        go_wp2
        go_ret
        rw [HE.out]
        exact ⟨rfl, rfl⟩
      · have HE := Lib.hid (show z = findI s (N.drop (i + 1)) (i + 1) by rw [hzi]; conv => lhs; unfold findI; rw [if_neg hk])
        have qk : (k.toList == s.toList) = false := toList_ne hk
        clear hzi hk
        go_wp2
        go_roundg (N.length - (i + 1))
        case measure => have := HD.out; omega
        case rel => exact ⟨i + 1, HD.out, rfl, rfl, HE.out, rfl⟩
    · have hdi : ¬ (i : Int) < (N.length : Int) := by omega
      have HE := Lib.hid (show z = -1 by rw [hzi, List.drop_eq_nil_of_le (by omega)]; rfl)
      clear hzi
      go_wp2
      go_ret
      rw [HE.out]
      exact ⟨rfl, rfl⟩
end Go.Proofs.Ytoppcohgjmghdaa
