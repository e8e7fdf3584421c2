/- Layer 34: the document's Below. -/
import Derived.Test.YtkidbbmdlmnokaaTC
namespace Go.Proofs.Ytkidbbmdlmnokaa
open Go.RowKit
attribute [local go_sem ↓] Go.wp_at_zero Go.wp_at_succ
/-- Is a text below another one? As the program compares. -/
def belT (s x : ByteArray) : Bool := Op.bytesLess x.toList s.toList
/-- How many texts are below one. -/
def belS (L : List ByteArray) (s : ByteArray) : Nat := (L.filter (belT s)).length
theorem belS_succ {L : List ByteArray} {i : Nat} {s x : ByteArray} (h : L[i]? = some x) : belS (L.take (i + 1)) s = belS (L.take i) s + (if belT s x = true then 1 else 0) := by
  unfold belS
  rw [List.take_add_one, h, Option.toList_some, List.filter_append, List.length_append]
  by_cases q : belT s x = true
  · rw [if_pos q]; simp [q]
  · rw [if_neg q]; simp [q]
theorem belS_le (L : List ByteArray) (s : ByteArray) : belS L s ≤ L.length := List.length_filter_le _ _
set_option maxHeartbeats 2000000 in
theorem rbelow_any (ao : Option Addr) (cp : Nat) (L : List ByteArray) (s : ByteArray) (w : World) (hL : StrsAt w (.slice ao L.length cp) L) (hl : L.length ≤ 1000000) :
    Calls Try.prog 40 #[.slice ao L.length cp, .string s] w fun e w' => e = .returned (.int .i64 ((belS L s : Nat) : Int)) ∧ w = w' := by
  have HL := Lib.hid hL
  have HM := Lib.hid hl
  clear hl hL
  go_enter Try.func40, Try.ntmps40
  go_upto_region 3 with fail
  go_loopg [5, 6] L.length (fun G s5 s6 wr => ∃ i n : Nat, i ≤ L.length ∧ G = L.length - i ∧ s6 = .int .i64 i ∧ s5 = .int .i64 n ∧ n = belS (L.take i) s ∧ n ≤ i ∧ w = wr)
  case atStart => exact ⟨0, 0, Nat.zero_le _, rfl, rfl, rfl, by simp [belS], Nat.le_refl _, rfl⟩
  case round =>
    obtain ⟨i, n, hin, rfl, rfl, rfl, hn, hni, rfl⟩ := hrel
    have HN := Lib.hid (And.intro hn hni)
    clear hn hni
    by_cases hd : i < L.length
    · have hdi : (i : Int) < (L.length : Int) := by omega
      have hi0 : (0 : Int) ≤ (i : Int) := by omega
      have wi : IntKind.i64.wrap ((i : Int) + 1) = ((i + 1 : Nat) : Int) := by rw [IntWalk.i64_in _ ⟨by omega, by have := HM.out; omega⟩]; omega
      have wn : IntKind.i64.wrap ((n : Int) + 1) = ((n + 1 : Nat) : Int) := by rw [IntWalk.i64_in _ ⟨by omega, by have := HM.out; have := HN.out.2; omega⟩]; omega
      have hg := List.getElem?_eq_getElem hd
      obtain ⟨x, hx⟩ : ∃ x, x = L[i] := ⟨_, rfl⟩
      rw [← hx] at hg
      obtain ⟨g, o, hao, hcell⟩ := HL.out.cell hg
      subst hao
      have HG := Lib.hid hg
      have HD := Lib.hid hd
      clear hg hx hd hin
      by_cases hlt : Op.bytesLess x.toList s.toList = true
      · have HT := Lib.hid hlt
        go_wp2
        go_roundg (L.length - (i + 1))
        case measure => have := HD.out; omega
        case rel => exact ⟨i + 1, n + 1, HD.out, rfl, rfl, rfl, by rw [belS_succ HG.out, if_pos (show belT s x = true from HT.out), ← HN.out.1], by have := HN.out.2; omega, rfl⟩
      · have hlf : Op.bytesLess x.toList s.toList = false := by simpa using hlt
        have HT := Lib.hid hlt
        clear hlt
        go_wp2
        go_roundg (L.length - (i + 1))
        case measure => have := HD.out; omega
        case rel => exact ⟨i + 1, n, HD.out, rfl, rfl, rfl, by rw [belS_succ HG.out, if_neg (show ¬ belT s x = true from HT.out), ← HN.out.1]; rfl, by have := HN.out.2; omega, rfl⟩
    · have hdi : ¬ (i : Int) < (L.length : Int) := by omega
      have hdi' : decide (i < L.length) = false := decide_eq_false hd
      have HF : Hid (n = belS L s) := Lib.hid (by rw [HN.out.1, List.take_of_length_le (by omega)])
      clear hd hin
      go_wp2
      go_ret
      exact ⟨by rw [← HF.out]; rfl, rfl⟩
end Go.Proofs.Ytkidbbmdlmnokaa
