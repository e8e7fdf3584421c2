/- Layer 32: Plain, Text; the document's Plain. -/
import Derived.Test.YtjbjfdmdicfjfaaDK
import Derived.Test.YtjbjfdmdicfjfaaSN
namespace Go.Proofs.Ytjbjfdmdicfjfaa
open Go.RowKit
attribute [local go_sem ↓] Go.wp_at_zero Go.wp_at_succ

/-- The bytes of pieces. -/
def plainT (ps : List Pc) : List Nat := ps.map Pc.c
def plainB (ps : List Pc) : Bool := ps.all fun p => decide (p.k = 0)
theorem plainB_no {ps : List Pc} {i : Nat} {p : Pc} (h : ps[i]? = some p) (h0 : p.k ≠ 0) : plainB ps = false := by
  unfold plainB
  rw [List.all_eq_false]
  exact ⟨p, List.mem_of_getElem? h, by simp [h0]⟩
theorem plainB_yes {ps : List Pc} (h : ∀ (i : Nat) (p : Pc), ps[i]? = some p → p.k = 0) : plainB ps = true := by
  unfold plainB
  rw [List.all_eq_true]
  intro p hp
  obtain ⟨i, hi, he⟩ := List.getElem_of_mem hp
  exact decide_eq_true (h i p (by rw [List.getElem?_eq_getElem hi, he]))
/-- What Plain answers. -/
def PlainTo (ps : List Pc) (e : Ending) : Prop := (plainB ps = true ∧ e = .returned (.tuple #[.string (strL (plainT ps)), .bool true])) ∨ (plainB ps = false ∧ e = .returned (.tuple #[.string ByteArray.empty, .bool false]))

theorem text_any (gb : Nat) (p : ByteArray) (L : List PcR) (w : World) (hG : GlobAt w gb p L) :
    Calls Try.prog 11 #[.pointer (some ⟨gb, 0, none⟩)] w fun e w' => e = .returned (.string p) ∧ w = w' := by
  obtain ⟨a, cp, hb, _⟩ := hG.box
  have c0 : w.cell? ⟨gb, 0, none⟩ = some (.string p) := by rw [cell_of_row _ _ _ _ _ _ hb]; rfl
  clear hG hb
  go_enter Try.func11, Try.ntmps11
  go_wp2
  go_ret
  exact ⟨rfl, rfl⟩

set_option maxHeartbeats 4000000 in
theorem plain_any (gb : Nat) (p : ByteArray) (L : List PcR) (w : World) (hG : GlobAt w gb p L) :
    Calls Try.prog 9 #[.pointer (some ⟨gb, 0, none⟩)] w fun e w' => PlainTo (L.map PcR.p) e ∧ Kept (fun _ => False) w w' := by
  obtain ⟨i0, hi0, hz0, hz1, hz2⟩ := info_parts Try.infoU8
  obtain ⟨a, cp, hb, hrow⟩ := hG.box
  have c1 : w.cell? ⟨gb, 1, none⟩ = some (.slice a L.length cp) := by rw [cell_of_row _ _ _ _ _ _ hb]; rfl
  have HROW := Lib.hid hrow
  have HOK := Lib.hid hG.ok
  have HL := Lib.hid hG.len
  clear hG hb hrow
  go_enter Try.func9, Try.ntmps9
  go_upto_region 3 with fail
  clear c1
  go_loopg [12, 4] L.length (fun G s12 s4 wr => ∃ i : Nat, i ≤ L.length ∧ G = L.length - i ∧ s12 = .int .i64 i ∧ Mine w wr 5 s4 (byV (plainT ((L.map PcR.p).take i))) ∧ ∀ (j : Nat) (q : Pc), (L.map PcR.p)[j]? = some q → j < i → q.k = 0)
  case atStart => exact ⟨0, Nat.zero_le _, rfl, rfl, by rw [List.take_zero]; exact Mine.nil w _, fun j q _ h => by omega⟩
  case round =>
    obtain ⟨i, hin, rfl, rfl, hm, hpl⟩ := hrel
    have HM := Lib.hid hm
    have HPL := Lib.hid hpl
    clear hpl
    by_cases hd : i < L.length
    · have hdi : (i : Int) < (L.length : Int) := by omega
      have hi0' : (0 : Int) ≤ (i : Int) := by omega
      have wi : IntKind.i64.wrap ((i : Int) + 1) = ((i + 1 : Nat) : Int) := by rw [IntWalk.i64_in _ ⟨by omega, by have := HL.out; omega⟩]; omega
      obtain ⟨g, o, ha, hrec⟩ := HROW.out (by omega)
      subst ha
      have hgp := List.getElem?_eq_getElem hd
      have hcell := hrec i L[i] hgp
      have HGP : Hid ((L.map PcR.p)[i]? = some (L[i]).p) := Lib.hid (by rw [List.getElem?_map, hgp]; rfl)
      have HPO := Lib.hid (HOK.out L[i] (List.getElem_mem hd))
      obtain ⟨P, hP⟩ : ∃ P, P = L[i] := ⟨_, rfl⟩
      rw [← hP] at hcell HGP HPO
      have x0 : wr.cell? ⟨g, o + i * 6, none⟩ = some (.int .i64 (P.p.k : Int)) := hm.kept.cell (hcell 0 _ rfl) (fun x => x)
      have x1 : wr.cell? ⟨g, o + i * 6 + 1, none⟩ = some (.int .u8 (P.p.c : Int)) := hm.kept.cell (hcell 1 _ rfl) (fun x => x)
      have x2 : wr.cell? ⟨g, o + i * 6 + 2, none⟩ = some (.int .u64 (P.a : Int)) := hm.kept.cell (hcell 2 _ rfl) (fun x => x)
      have x3 : wr.cell? ⟨g, o + i * 6 + 3, none⟩ = some (.int .u64 (P.b : Int)) := hm.kept.cell (hcell 3 _ rfl) (fun x => x)
      have x4 : wr.cell? ⟨g, o + i * 6 + 4, none⟩ = some (.int .u64 (P.c : Int)) := hm.kept.cell (hcell 4 _ rfl) (fun x => x)
      have x5 : wr.cell? ⟨g, o + i * 6 + 5, none⟩ = some (.int .u64 (P.d : Int)) := hm.kept.cell (hcell 5 _ rfl) (fun x => x)
      have HD := Lib.hid hd
      clear hgp hcell hrec hP hm hin
      by_cases hk : P.p.k = 0
      · have q0 : ((P.p.k : Int) != 0) = false := bneF (by omega)
        have HKZ := Lib.hid hk
        obtain ⟨kk, hkk⟩ : ∃ kk : Int, kk = (P.p.k : Int) := ⟨_, rfl⟩
        rw [← hkk] at q0 x0
        clear hk hkk
        go_wp2_with (at_builtin; refine wpList_mine rfl (.tmp 19) (.tmp 22) 56 56 rfl 5 i0 _ 1 Try.underlying56 hi0 hz0 hz1 hz2 rfl (by omega) w _ _ rfl ((HM.out.alloc _).alloc _) _ [.int .u8 (P.p.c : Int)] rfl (by have h := src_one (wr.alloc (.cells #[.int .i64 kk, .int .u8 (P.p.c : Int), .int .u64 (P.a : Int), .int .u64 (P.b : Int), .int .u64 (P.c : Int), .int .u64 (P.d : Int)] 45)) Try.underlying56 (.int .u8 (P.p.c : Int)) rfl; rw [show (wr.alloc (.cells #[.int .i64 kk, .int .u8 (P.p.c : Int), .int .u64 (P.a : Int), .int .u64 (P.b : Int), .int .u64 (P.c : Int), .int .u64 (P.d : Int)] 45)).heap.size = wr.heap.size + 1 by simp] at h; exact h) (by rw [byV_length]; have := HL.out; have := HD.out; unfold plainT; rw [List.length_map, List.length_take]; simp; omega) ?_)
        intro v1 w1 hm1
        have HM1 := Lib.hid (show Mine w w1 5 v1 (byV (plainT ((L.map PcR.p).take (i + 1)))) by
          rw [List.take_add_one, HGP.out, Option.toList_some]
          unfold plainT at hm1 ⊢
          rw [List.map_append, byV_append]; exact hm1)
        clear hm1
        go_wp2
        go_roundg (L.length - (i + 1))
        case measure => have := HD.out; omega
        case rel =>
          refine ⟨i + 1, HD.out, rfl, rfl, HM1.out, fun j q hj hji => ?_⟩
          by_cases hji2 : j = i
          · rw [hji2, HGP.out] at hj; injection hj with hj; rw [← hj]; exact HKZ.out
          · exact HPL.out j q hj (by omega)
      · have q0 : ((P.p.k : Int) != 0) = true := bneT (by omega)
        have HPB := Lib.hid (plainB_no HGP.out hk)
        obtain ⟨kk, hkk⟩ : ∃ kk : Int, kk = (P.p.k : Int) := ⟨_, rfl⟩
        rw [← hkk] at q0 x0
        clear hk hkk
        go_wp2
        go_ret2
        exact ⟨.inr ⟨HPB.out, rfl⟩, HM.out.kept.alloc _⟩
    · obtain rfl : i = L.length := by omega
      have hdi : ¬ (L.length : Int) < (L.length : Int) := by omega
      have hdi' : decide (L.length < L.length) = false := decide_eq_false hd
      have HPB := Lib.hid (plainB_yes (ps := L.map PcR.p) (fun j q hj => HPL.out j q hj (by have := (List.getElem?_eq_some_iff.1 hj).1; rwa [List.length_map] at this)))
      rw [List.take_of_length_le (by rw [List.length_map]; exact Nat.le_refl _)] at hm
      have hcv := run_strL hm.at_ 56 5 9 Try.underlying56 Try.underlying5 Try.underlying9
      clear hm hin hd
      go_wp2
      go_ret2
      exact ⟨.inl ⟨HPB.out, rfl⟩, HM.out.kept⟩
end Go.Proofs.Ytjbjfdmdicfjfaa
