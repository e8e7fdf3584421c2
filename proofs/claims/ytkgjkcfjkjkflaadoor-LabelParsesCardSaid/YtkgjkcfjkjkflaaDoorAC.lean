/- Layer 11: Text, the program's and the document's (written by tools/gen_XAC.py). -/
import Derived.Test.YtkgjkcfjkjkflaaDoorAB
namespace Go.Proofs.YtkgjkcfjkjkflaaDoor
open Go.RowKit
attribute [local go_sem ↓] Go.wp_at_zero Go.wp_at_succ

def c59 : ByteArray := { data := #[59] }
def c61 : ByteArray := { data := #[61] }
/-- An attribute's part of a text. -/
def partP (p : Pr) : ByteArray := ((c59 ++ p.k) ++ c61) ++ p.v
/-- The text of a name and so many attributes. -/
def textN (name : ByteArray) (M : List Pr) : Nat → ByteArray
  | 0 => name
  | i + 1 => textN name M i ++ partP (M.getD i pr0)
theorem size_append (a b : ByteArray) : (a ++ b).size = a.size + b.size := ByteArray.size_append
theorem partP_size (p : Pr) : (partP p).size = p.k.size + p.v.size + 2 := by
  unfold partP
  rw [size_append, size_append, size_append]
  have h1 : c59.size = 1 := rfl
  have h2 : c61.size = 1 := rfl
  omega
theorem app_assoc (a b c : ByteArray) : (a ++ b) ++ c = a ++ (b ++ c) := by
  apply bytes_eq
  rw [ByteArray.toList_eq, ByteArray.toList_eq]
  simp
theorem textN_succ2 (s : ByteArray) (p : Pr) : (((s ++ c59) ++ p.k) ++ c61) ++ p.v = s ++ partP p := by
  unfold partP
  simp only [app_assoc]
theorem textN_size (name : ByteArray) (M : List Pr) (i : Nat) (hM : Sh 1000 M) (hi : i ≤ M.length) : (textN name M i).size ≤ name.size + i * 2002 := by
  induction i with
  | zero => unfold textN; omega
  | succ i ih =>
    unfold textN
    rw [size_append, partP_size, getD_pr (List.getElem?_eq_getElem (by omega))]
    have := ih (by omega)
    have := hM _ (List.getElem_mem (show i < M.length by omega))
    omega
/-- A label's text, or what is wrong with it. -/
def textT (name : ByteArray) (L : List Pr) : ByteArray × Nat := if checkE name L ≠ 0 then (ByteArray.empty, checkE name L) else (textN name (sortP L) L.length, 0)
theorem faults_le (L : List Pr) (k : Nat) : faults L k ≤ 8 := by
  induction k with
  | zero => exact Nat.zero_le _
  | succ k ih =>
    unfold faults
    split
    · exact ih
    · unfold faultAt
      split
      · split <;> omega
      · omega
theorem checkE_few {name : ByteArray} {L : List Pr} (h : checkE name L = 0) : L.length ≤ 4 := by
  unfold checkE at h
  split at h
  · split at h
    · cases h
    · omega
  · cases h
theorem Sh.mono {a b : Nat} {L : List Pr} (h : Sh a L) (hb : a ≤ b) : Sh b L := fun p hp => ⟨Nat.le_trans (h p hp).1 hb, Nat.le_trans (h p hp).2 hb⟩
theorem sh_sort {a : Nat} {L : List Pr} (h : Sh a L) : Sh a (sortP L) := fun p hp => h p (sortP_mem.1 hp)

set_option maxHeartbeats 4000000 in
theorem text_any (name : ByteArray) (ao : Option Addr) (c : Nat) (L : List Pr) (w : World) (hr : PsAt w ao L) (hc : L.length ≤ c) (hl : L.length ≤ 9223372036854775807) (hz : name.size ≤ 1000) (hs : Sh 1000 L) :
    Calls Tryd.prog 9 #[.string name, .slice ao L.length c] w fun e w' => e = .returned (.tuple #[.string (textT name L).1, .int .i64 ((textT name L).2 : Int)]) ∧ Kept (fun _ => False) w w' := by
  have HC := Lib.hid (check_any name ao c L w hr hc hl (by omega) (hs.mono (by omega)))
  have HTT : Hid (textT name L = if checkE name L ≠ 0 then (ByteArray.empty, checkE name L) else (textN name (sortP L) L.length, 0)) := Lib.hid rfl
  have hfew : checkE name L = 0 → L.length ≤ 4 := checkE_few
  obtain ⟨E, hE⟩ : ∃ e, e = checkE name L := ⟨_, rfl⟩
  rw [← hE] at HC HTT hfew
  obtain ⟨n, hn⟩ : ∃ n, n = L.length := ⟨_, rfl⟩
  by_cases h0 : E = 0
  · have HT := Lib.hid (HTT.out.trans (if_neg (fun e => e h0)))
    have h4 := hfew h0
    have HS := Lib.hid fun w' (k : Kept (fun _ => False) w w') => sorted_any ao c L w' (hr.kept k) (by omega)
    obtain ⟨M, hM⟩ : ∃ M, M = sortP L := ⟨_, rfl⟩
    have hMl : M.length = n := by rw [hM, sortP_length, hn]
    have hMs : Sh 1000 M := by rw [hM]; exact sh_sort hs
    rw [← hM] at HS HT
    rw [← hn] at HC HS HT h4 ⊢
    have HML := Lib.hid hMl
    have HMS := Lib.hid hMs
    have H4 := Lib.hid h4
    have HZ := Lib.hid hz
    subst h0
    clear hr hc hl hz hs hE hn hM hMl hMs h4 hfew
    go_enter Tryd.func9, Tryd.ntmps9
    go_wp2_with fail
    refine HC.out.mono ?_
    rintro e w1 ⟨rfl, k1⟩
    have HK1 := Lib.hid k1
    go_wp2_with fail
    refine (HS.out w1 k1).mono ?_
    rintro e w2 ⟨v, rfl, hm⟩
    obtain ⟨xo, co, ev⟩ := hm.slice
    rw [HML.out] at ev
    subst ev
    have HM := Lib.hid hm
    clear k1 hm
    go_wp2
    go_loopg [7, 20] n (fun g s7 s20 wr => ∃ i : Nat, i ≤ n ∧ g = n - i ∧ s20 = .int .i64 i ∧ s7 = .string (textN name M i) ∧ Kept (fun _ => False) w2 wr)
    case atStart => exact ⟨0, Nat.zero_le _, rfl, rfl, rfl, Kept.refl _ _⟩
    case round =>
      obtain ⟨i, hin, rfl, rfl, rfl, kw⟩ := hrel
      have HK := Lib.hid kw
      clear kw
      by_cases hd : i < n
      · have hdi : (i : Int) < (n : Int) := by omega
        have hi0 : (0 : Int) ≤ (i : Int) := by omega
        have HD := Lib.hid hd
        have wi : IntKind.i64.wrap ((i : Int) + 1) = ((i + 1 : Nat) : Int) := by rw [IntWalk.i64_in _ ⟨by omega, by have := H4.out; omega⟩]; omega
        have hiM : i < M.length := by have := HML.out; omega
        obtain ⟨ga, oa, rfl, hrec⟩ := (HM.out.on HK.out).at_ (by omega)
        have e1 := hrec i M[i] (List.getElem?_eq_getElem hiM)
        have g1 := getD_pr (List.getElem?_eq_getElem hiM) pr0
        have hsz := HMS.out _ (List.getElem_mem hiM)
        have hts := textN_size name M i HMS.out (by omega)
        obtain ⟨x, hx⟩ : ∃ p, p = M[i] := ⟨_, rfl⟩
        rw [← hx] at e1 g1 hsz
        obtain ⟨s, hs⟩ : ∃ s, s = textN name M i := ⟨_, rfl⟩
        have HNX := Lib.hid (show textN name M (i + 1) = s ++ partP x by rw [hs]; show textN name M i ++ partP (M.getD i pr0) = _; rw [g1])
        rw [← hs] at hts ⊢
        have hz1 := HZ.out
        have h41 := H4.out
        have h9 : i ≤ 4 := by omega
        have a1 : ∀ w, (Op.stringOp .add c59 x.k).run Tryd.prog w = .ok (.string (c59 ++ x.k)) w := fun w => run_string_add_sum w _ _ (by have : c59.size = 1 := rfl; omega)
        have a2 : ∀ w, (Op.stringOp .add (c59 ++ x.k) c61).run Tryd.prog w = .ok (.string ((c59 ++ x.k) ++ c61)) w := fun w => run_string_add_sum w _ _ (by have h1 : c59.size = 1 := rfl; have h2 : c61.size = 1 := rfl; rw [size_append]; omega)
        have a3 : ∀ w, (Op.stringOp .add ((c59 ++ x.k) ++ c61) x.v).run Tryd.prog w = .ok (.string (partP x)) w := fun w => run_string_add_sum w _ _ (by have h1 : c59.size = 1 := rfl; have h2 : c61.size = 1 := rfl; rw [size_append, size_append]; omega)
        have a4 : ∀ w, (Op.stringOp .add s (partP x)).run Tryd.prog w = .ok (.string (s ++ partP x)) w := fun w => run_string_add_sum w _ _ (by rw [partP_size]; omega)
        obtain ⟨pp, hpp⟩ : ∃ p, p = partP x := ⟨_, rfl⟩
        rw [← hpp] at a3 a4 HNX
        have ha := fun o => ((Kept.refl (fun _ => False) wr).alloc o)
        obtain ⟨xk, xv⟩ := x
        obtain ⟨x0, x1⟩ := e1
        dsimp only at x0 x1 a1 a2 a3
        simp only [c59, c61] at a1 a2 a3
        obtain ⟨q1, hq1⟩ : ∃ q, q = ({ data := #[59] } : ByteArray) ++ xk := ⟨_, rfl⟩
        rw [← hq1] at a1 a2 a3
        obtain ⟨q2, hq2⟩ : ∃ q, q = q1 ++ ({ data := #[61] } : ByteArray) := ⟨_, rfl⟩
        rw [← hq2] at a2 a3
        clear hd hin hiM hrec g1 hsz hts hx hs hz1 h41 h9 hpp hq1 hq2 ha
        go_wp2
        go_roundg (n - (i + 1))
        case measure => have := HD.out; omega
        case rel => exact ⟨i + 1, HD.out, rfl, rfl, by rw [HNX.out], HK.out.trans ((Kept.refl _ _).alloc _)⟩
      · obtain rfl : n = i := by omega
        have HF := Lib.hid HT.out
        clear hd
        go_wp2
        go_ret2
        exact ⟨by rw [HF.out]; rfl, (HK1.out.trans HM.out.kept).trans HK.out⟩
  · have HT := Lib.hid (HTT.out.trans (if_pos h0))
    have qE : ((E : Int) != 0) = true := bneT (by omega)
    rw [← hn] at HC ⊢
    clear hr hc hl hz hs hE hn h0 hfew
    go_enter Tryd.func9, Tryd.ntmps9
    go_wp2_with fail
    refine HC.out.mono ?_
    rintro e w1 ⟨rfl, k1⟩
    go_wp2
    go_ret2
    exact ⟨by rw [HT.out]; rfl, k1⟩
end Go.Proofs.YtkgjkcfjkjkflaaDoor

