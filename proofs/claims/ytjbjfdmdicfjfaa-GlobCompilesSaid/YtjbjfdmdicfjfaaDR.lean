/- The document's layer 32: Plain. -/
import Derived.Test.YtjbjfdmdicfjfaaDP
namespace Go.Proofs.Ytjbjfdmdicfjfaa
open Go.RowKit
attribute [local go_sem ↓] Go.wp_at_zero Go.wp_at_succ

theorem strL_append (a b : List Nat) : strL (a ++ b) = strL a ++ strL b := by
  apply bl_inj
  rw [bl_append]
  unfold bl
  rw [strL_list, strL_list, strL_list, List.map_append, List.map_append]
theorem strL_size (l : List Nat) : (strL l).size = l.length := by
  rw [← toList_size, strL_list, List.length_map]
theorem slAt_new (w : World) (u : Value) (E : TypeId) : SlAt (w.alloc (.cells #[u] E)) (.slice (some ⟨w.heap.size, 0, none⟩) 1 1) [u] := by
  refine ⟨some ⟨w.heap.size, 0, none⟩, 1, rfl, (fun e => by cases e), ?_⟩
  intro a ha j v hj
  cases ha
  have hj0 : j = 0 := by have := (List.getElem?_eq_some_iff.1 hj).1; simp at this; omega
  subst hj0
  rw [addr_add0, cell_of_row _ _ _ _ _ _ (heap_alloc_new w _)]
  simpa using hj
set_option maxHeartbeats 4000000 in
theorem rplainL_any (a : Option Addr) (cp : Nat) (R : List RP) (w : World) (hR : RsAt w a R) (hl : R.length ≤ 64) :
    Calls Try.prog 10 #[.slice a R.length cp] w fun e w' => PlainTo (R.map RP.p) e ∧ Kept (fun _ => False) w w' := by
  have HR := Lib.hid hR
  have HL := Lib.hid hl
  clear hR hl
  go_enter Try.func10, Try.ntmps10
  go_upto_region 3 with fail
  go_loopg [5, 4] R.length (fun G s5 s4 wr => ∃ i : Nat, i ≤ R.length ∧ G = R.length - i ∧ s5 = .int .i64 i ∧ s4 = .string (strL (plainT ((R.map RP.p).take i))) ∧ Kept (fun _ => False) w wr ∧ ∀ (j : Nat) (q : Pc), (R.map RP.p)[j]? = some q → j < i → q.k = 0)
  case atStart => exact ⟨0, Nat.zero_le _, rfl, rfl, rfl, Kept.refl _ _, fun j q _ h => by omega⟩
  case round =>
    obtain ⟨i, hin, rfl, rfl, rfl, hk, hpl⟩ := hrel
    have HK := Lib.hid hk
    have HPL := Lib.hid hpl
    have HRR := Lib.hid (HR.out.kept hk)
    clear hpl hk
    by_cases hd : i < R.length
    · have hdi : (i : Int) < (R.length : Int) := by omega
      have hi0' : (0 : Int) ≤ (i : Int) := by omega
      have wi : IntKind.i64.wrap ((i : Int) + 1) = ((i + 1 : Nat) : Int) := by rw [IntWalk.i64_in _ ⟨by omega, by have := HL.out; omega⟩]; omega
      obtain ⟨g, o, ha, hrec⟩ := HRR.out.at_ (by omega)
      subst ha
      have hgp := List.getElem?_eq_getElem hd
      have hcell := hrec i R[i] hgp
      have HGP : Hid ((R.map RP.p)[i]? = some (R[i]).p) := Lib.hid (by rw [List.getElem?_map, hgp]; rfl)
      obtain ⟨r, hr⟩ : ∃ P, P = R[i] := ⟨_, rfl⟩
      rw [← hr] at hcell HGP
      have x1 : wr.cell? ⟨g, o + i * 4 + 1, none⟩ = some (.bool (decide (r.p.k = 0))) := hcell 1 _ rfl
      have x3 : wr.cell? ⟨g, o + i * 4 + 3, none⟩ = some (.int .u8 (r.p.c : Int)) := hcell 3 _ rfl
      have HD := Lib.hid hd
      clear hgp hcell hrec hr hin
      by_cases hk : r.p.k = 0
      · rw [decide_eq_true hk] at x1
        have HKZ := Lib.hid hk
        have hSL : (strL (plainT ((R.map RP.p).take i))).size ≤ 64 := by rw [strL_size]; unfold plainT; rw [List.length_map, List.length_take]; have := HL.out; have := HD.out; omega
        have hnx : strL (plainT ((R.map RP.p).take (i + 1))) = strL (plainT ((R.map RP.p).take i)) ++ strL [r.p.c] := by
          rw [← strL_append, List.take_add_one, HGP.out, Option.toList_some]
          unfold plainT
          rw [List.map_append]; rfl
        have HNX := Lib.hid hnx
        obtain ⟨S, hS⟩ : ∃ S, S = strL (plainT ((R.map RP.p).take i)) := ⟨_, rfl⟩
        rw [← hS] at hSL HNX ⊢
        obtain ⟨T, hT⟩ : ∃ T, T = strL [r.p.c] := ⟨_, rfl⟩
        have hcv := run_strL (P := Try.prog) (l := [r.p.c]) (slAt_new wr (.int .u8 (r.p.c : Int)) 5) 56 5 9 Try.underlying56 Try.underlying5 Try.underlying9
        rw [← hT] at hcv HNX
        have hTs : T.size = 1 := by rw [hT, strL_size]; rfl
        have a1 : ∀ w, (Op.stringOp .add S T).run Try.prog w = .ok (.string (S ++ T)) w := fun w => run_string_add_sum w _ _ (by omega)
        clear hk hnx hS hT hTs hSL
        go_wp2
        go_roundg (R.length - (i + 1))
        case measure => have := HD.out; omega
        case rel =>
          refine ⟨i + 1, HD.out, rfl, rfl, by rw [HNX.out], HK.out.alloc _, fun j q hj hji => ?_⟩
          by_cases hji2 : j = i
          · rw [hji2, HGP.out] at hj; injection hj with hj; rw [← hj]; exact HKZ.out
          · exact HPL.out j q hj (by omega)
      · rw [decide_eq_false hk] at x1
        have HPB := Lib.hid (plainB_no HGP.out hk)
        clear hk
        go_wp2
        go_ret2
        exact ⟨.inr ⟨HPB.out, rfl⟩, HK.out⟩
    · obtain rfl : i = R.length := by omega
      have hdi : ¬ (R.length : Int) < (R.length : Int) := by omega
      have hdi' : decide (R.length < R.length) = false := decide_eq_false hd
      have HPB := Lib.hid (plainB_yes (ps := R.map RP.p) (fun j q hj => HPL.out j q hj (by have := (List.getElem?_eq_some_iff.1 hj).1; rwa [List.length_map] at this)))
      rw [List.take_of_length_le (by rw [List.length_map]; exact Nat.le_refl _)]
      obtain ⟨S, hS⟩ : ∃ S, S = strL (plainT (R.map RP.p)) := ⟨_, rfl⟩
      rw [← hS]
      have HS := Lib.hid hS
      clear hin hd hS
      go_wp2
      go_ret2
      exact ⟨.inl ⟨HPB.out, by rw [← HS.out]; rfl⟩, HK.out⟩
end Go.Proofs.Ytjbjfdmdicfjfaa
