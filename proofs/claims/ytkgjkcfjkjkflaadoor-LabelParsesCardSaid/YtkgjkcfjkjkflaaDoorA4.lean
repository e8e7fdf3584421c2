/- Layer 11: has; what is wrong with a label, plainly; Check. -/
import Derived.Test.YtkgjkcfjkjkflaaDoorA3
namespace Go.Proofs.YtkgjkcfjkjkflaaDoor
open Go.RowKit
attribute [local go_sem ↓] Go.wp_at_zero Go.wp_at_succ

/-- Has some attribute the key? -/
def hasB (L : List Pr) (key : ByteArray) : Bool := L.any fun p => p.k.toList == key.toList
theorem any_take_succ {p : Pr → Bool} {L : List Pr} {i : Nat} {x : Pr} (h : L[i]? = some x) : (L.take (i + 1)).any p = ((L.take i).any p || p x) := by
  rw [List.take_add_one, h]
  simp
/-- A function of attributes that tells something, in whichever world behind W. -/
structure Teller (W : World) (f : FuncId) (caps : Array Value) (p : Pr → Bool) : Prop where
  go : ∀ w x, Kept (fun _ => False) W w → Calls Tryd.prog f (#[.agg #[.string x.k, .string x.v]] ++ caps) w fun e w' => e = .returned (.bool (p x)) ∧ Kept (fun _ => False) w w'
  hcf : ∀ (w : World) (args : Array Value), (callFunc f args).run Tryd.prog w = .ok (.enter f args) w

set_option maxHeartbeats 2000000 in
theorem indexFunc_any (ao : Option Addr) (c : Nat) (L : List Pr) (f : FuncId) (caps : Array Value) (p : Pr → Bool) (w : World) (hr : PsAt w ao L) (hl : L.length ≤ 1000000) (T : Teller w f caps p) :
    Calls Tryd.prog 41 #[.slice ao L.length c, .func (.func f) #[] caps] w fun e w' => (∃ z : Int, e = .returned (.int .i64 z) ∧ decide (0 ≤ z) = L.any p) ∧ Kept (fun _ => False) w w' := by
  have HR := Lib.hid hr
  have HT := Lib.hid T
  have hcf := T.hcf
  have HL := Lib.hid hl
  obtain ⟨n, hn⟩ : ∃ n, n = L.length := ⟨_, rfl⟩
  have HN := Lib.hid hn
  rw [← hn]
  clear hr T hl hn
  go_enter Tryd.func41, Tryd.ntmps41
  go_wp2
  go_loopg [8] n (fun g s8 wr => ∃ i : Nat, i ≤ n ∧ g = n - i ∧ s8 = .int .i64 i ∧ (L.take i).any p = false ∧ Kept (fun _ => False) w wr)
  case atStart => exact ⟨0, Nat.zero_le _, rfl, rfl, rfl, Kept.refl _ _⟩
  case round =>
    obtain ⟨i, hin, rfl, rfl, ha, kw⟩ := hrel
    have HA := Lib.hid ha
    have HK := Lib.hid kw
    clear ha kw
    by_cases hd : i < n
    · have hdi : (i : Int) < (n : Int) := by omega
      have hi0 : (0 : Int) ≤ (i : Int) := by omega
      have HD := Lib.hid hd
      have wi : IntKind.i64.wrap ((i : Int) + 1) = ((i + 1 : Nat) : Int) := by rw [IntWalk.i64_in _ ⟨by omega, by have := HL.out; have := HN.out; omega⟩]; omega
      have hiL : i < L.length := by have := HN.out; omega
      obtain ⟨gb, ob, rfl, hrec⟩ := HR.out (by omega)
      have hel := (hrec i L[i] (List.getElem?_eq_getElem hiL)).keptS HK.out (fun x => x)
      have hts := any_take_succ (p := p) (List.getElem?_eq_getElem hiL)
      obtain ⟨P, hP⟩ : ∃ p, p = L[i] := ⟨_, rfl⟩
      rw [← hP] at hel hts
      have hmem : P ∈ L := by rw [hP]; exact List.getElem_mem _
      obtain ⟨x0, x1⟩ := hel
      rw [HA.out, Bool.false_or] at hts
      have HGO := Lib.hid (HT.out.go wr P HK.out)
      obtain ⟨b, hb⟩ : ∃ b, b = p P := ⟨_, rfl⟩
      rw [← hb] at HGO hts
      have HTS := Lib.hid hts
      have HPB := Lib.hid hb
      have HMEM := Lib.hid hmem
      clear hd hin hrec hP hiL hts hb hmem
      go_wp2_with fail
      refine HGO.out.mono ?_
      rintro e w1 ⟨rfl, k1⟩
      have HK1 := Lib.hid (HK.out.trans k1)
      clear k1
      cases b with
      | true =>
        go_wp2
        go_ret
        refine ⟨⟨i, rfl, ?_⟩, HK1.out⟩
        rw [decide_eq_true (by omega)]
        exact (List.any_eq_true.2 ⟨P, HMEM.out, HPB.out.symm⟩).symm
      | false =>
        go_wp2
        go_roundg (n - (i + 1))
        case measure => have := HD.out; omega
        case rel => exact ⟨i + 1, HD.out, rfl, rfl, HTS.out, HK1.out⟩
    · obtain rfl : n = i := by omega
      have ha := HA.out
      rw [HN.out, List.take_length] at ha
      have HA2 := Lib.hid ha
      clear hd ha
      go_wp2
      go_ret
      exact ⟨⟨-1, rfl, by rw [HA2.out]; rfl⟩, HK.out⟩
end Go.Proofs.YtkgjkcfjkjkflaaDoor
