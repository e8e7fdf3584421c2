/- Layer 23: Count, Turn. -/
import Derived.Test.YtkidbbmdlmnokaaU8
import Derived.BigRegion
namespace Go.Proofs.Ytkidbbmdlmnokaa
open Go.RowKit
attribute [local go_sem ↓] Go.wp_at_zero Go.wp_at_succ

/-- How many go one way. -/
def cntM (L : List Tl) (ack : Bool) : Nat := (L.filter (fun t => t.ack == ack)).length
theorem cntM_succ {L : List Mg} {i : Nat} {m : Mg} (h : L[i]? = some m) (ack : Bool) : cntM ((L.take (i + 1)).map Mg.t) ack = cntM ((L.take i).map Mg.t) ack + (if m.ack = ack then 1 else 0) := by
  unfold cntM
  rw [List.take_add_one, h, List.map_append, List.filter_append, List.length_append]
  congr 1
  by_cases hp : m.ack = ack
  · rw [if_pos hp]
    have : (m.t.ack == ack) = true := by show (m.ack == ack) = true; simp [hp]
    simp [this]
  · rw [if_neg hp]
    have : (m.t.ack == ack) = false := by show (m.ack == ack) = false; simp [hp]
    simp [this]
theorem cntM_le (L : List Tl) (ack : Bool) : cntM L ack ≤ L.length := List.length_filter_le _ _
theorem cntM_two (L : List Tl) : cntM L true + cntM L false = L.length := by
  unfold cntM
  induction L with
  | nil => rfl
  | cons x L ih =>
    obtain ⟨k, h, b⟩ := x
    cases k <;> simp at ih ⊢ <;> omega
set_option maxHeartbeats 2000000 in
theorem netCount_any (W : World) (nb : Nat) (L : List Mg) (ao : Option Addr) (cp : Nat) (ack : Bool) (w : World) (h : NS W w nb L ao cp) (hl : L.length ≤ 1000000) :
    Calls Try.prog 25 #[.pointer (some ⟨nb, 0, none⟩), .bool ack] w fun e w' => e = .returned (.int .i64 ((cntM (L.map Mg.t) ack : Nat) : Int)) ∧ Kept (fun _ => False) w w' := by
  have HN := Lib.hid h
  have HLL := Lib.hid hl
  have c0 := h.cell
  clear h hl
  go_enter Try.func25, Try.ntmps25
  go_upto_region 3 with fail
  go_loopg [13, 5] L.length (fun G s13 s5 wr => ∃ i : Nat, i ≤ L.length ∧ G = L.length - i ∧ s13 = .int .i64 i ∧ s5 = .int .i64 ((cntM ((L.take i).map Mg.t) ack : Nat) : Int) ∧ Kept (fun _ => False) w wr)
  case atStart => exact ⟨0, Nat.zero_le _, rfl, rfl, rfl, Kept.refl _ _⟩
  case round =>
    obtain ⟨i, hin, rfl, rfl, rfl, hk⟩ := hrel
    have HK := Lib.hid hk
    have HNR := Lib.hid (HN.out.kept hk)
    have hcl := cntM_le ((L.take i).map Mg.t) ack
    rw [List.length_map, List.length_take] at hcl
    clear hk c0
    by_cases hd : i < L.length
    · have hdi : (i : Int) < (L.length : Int) := by omega
      have hi0 : (0 : Int) ≤ (i : Int) := by omega
      have wi : IntKind.i64.wrap ((i : Int) + 1) = ((i + 1 : Nat) : Int) := by rw [IntWalk.i64_in _ ⟨by omega, by have := HLL.out; omega⟩]; omega
      have hg := List.getElem?_eq_getElem hd
      have hsu := cntM_succ hg ack
      obtain ⟨m, hm⟩ : ∃ m, m = L[i] := ⟨_, rfl⟩
      rw [← hm] at hg hsu
      obtain ⟨g, hao, cA, cH, cV⟩ := HNR.out.at_ hg
      subst hao
      obtain ⟨n, hn⟩ : ∃ n, n = cntM ((L.take i).map Mg.t) ack := ⟨_, rfl⟩
      rw [← hn] at hsu hcl ⊢
      have wn : IntKind.i64.wrap ((n : Int) + 1) = ((n + 1 : Nat) : Int) := by rw [IntWalk.i64_in _ ⟨by omega, by have := HLL.out; omega⟩]; omega
      obtain ⟨mk, mh, ma, mc, mb⟩ := m
      dsimp only at cA cH cV hsu
      obtain ⟨nn, hnn⟩ : ∃ nn, nn = mb.length := ⟨_, rfl⟩
      rw [← hnn] at cV
      have HSU := Lib.hid hsu
      have HD := Lib.hid hd
      clear hg hm hn hnn hsu hcl hd hin
      by_cases he : mk = ack
      · have q1 : (mk == ack) = true := by simp [he]
        have HE := Lib.hid he
        clear he
        go_wp2
        go_roundg (L.length - (i + 1))
        case measure => have := HD.out; omega
        case rel => exact ⟨i + 1, HD.out, rfl, rfl, by rw [HSU.out, if_pos HE.out]; go_num, HK.out.alloc _⟩
      · have q1 : (mk == ack) = false := by simp [he]
        have HE := Lib.hid he
        clear he
        go_wp2
        go_roundg (L.length - (i + 1))
        case measure => have := HD.out; omega
        case rel => exact ⟨i + 1, HD.out, rfl, rfl, by rw [HSU.out, if_neg HE.out, Nat.add_zero], HK.out.alloc _⟩
    · have hdi : ¬ (i : Int) < (L.length : Int) := by omega
      have hdi' : decide (i < L.length) = false := decide_eq_false hd
      obtain ⟨n, hn⟩ : ∃ n, n = cntM ((L.take i).map Mg.t) ack := ⟨_, rfl⟩
      rw [← hn]
      have HX : Hid (n = cntM (L.map Mg.t) ack) := Lib.hid (by rw [hn, List.take_of_length_le (by omega)])
      clear hd hin hcl hn
      go_wp2
      go_ret
      exact ⟨by rw [← HX.out]; rfl, HK.out⟩
/-- Two places turned. -/
def swapL {α : Type} (L : List α) (i k : Nat) : List α := match L[i]?, L[k]? with
  | some a, some b => (L.set i b).set k a
  | _, _ => L
theorem swapL_is {α : Type} {L : List α} {i k : Nat} {a b : α} (hi : L[i]? = some a) (hk : L[k]? = some b) : swapL L i k = (L.set i b).set k a := by
  unfold swapL
  rw [hi, hk]
theorem swapL_map {α β : Type} (f : α → β) (L : List α) (i k : Nat) : (swapL L i k).map f = swapL (L.map f) i k := by
  unfold swapL
  rw [List.getElem?_map, List.getElem?_map]
  cases L[i]? with
  | none => rfl
  | some a =>
    cases L[k]? with
    | none => rfl
    | some b => simp [List.map_set]
theorem swapL_len {α : Type} (L : List α) (i k : Nat) : (swapL L i k).length = L.length := by
  unfold swapL
  split <;> simp
theorem flat_set (L : List Mg) (i : Nat) (m : Mg) : (((flatG cellsM L).set (i * 3) (.bool m.ack)).set (i * 3 + 1) (.int .i64 m.have_)).set (i * 3 + 2) (.slice m.a m.b.length m.c) = flatG cellsM (L.set i m) := by
  induction L generalizing i with
  | nil => simp [flatG]
  | cons q L ih =>
    unfold flatG at ih ⊢
    cases i with
    | zero => simp [cellsM]
    | succ i =>
      have := ih i
      rw [List.flatMap_cons, List.set_cons_succ, List.flatMap_cons, ← this]
      have hl : (cellsM q).length = 3 := rfl
      rw [List.set_append_right _ _ (by rw [hl]; omega), List.set_append_right _ _ (by rw [hl]; omega), List.set_append_right _ _ (by rw [hl]; omega), hl, show (i + 1) * 3 - 3 = i * 3 by omega, show (i + 1) * 3 + 1 - 3 = i * 3 + 1 by omega, show (i + 1) * 3 + 2 - 3 = i * 3 + 2 by omega]
theorem MineG.setM {W w : World} {g n c : Nat} {L : List Mg} (h : MineG cellsM 3 29 W w (.slice (some ⟨g, 0, none⟩) n c) L) (i : Nat) (m : Mg) :
    MineG cellsM 3 29 W (((w.setCell ⟨g, i * 3, none⟩ (.bool m.ack)).setCell ⟨g, i * 3 + 1, none⟩ (.int .i64 m.have_)).setCell ⟨g, i * 3 + 2, none⟩ (.slice m.a m.b.length m.c)) (.slice (some ⟨g, 0, none⟩) n c) (L.set i m) := by
  have hlen : n = L.length := by obtain ⟨_, _, e⟩ := h.slice; injection e with _ e _
  subst hlen
  have o1 := owns_setM (owns_setM (owns_setM h.own (i * 3) (.bool m.ack)) (i * 3 + 1) (.int .i64 m.have_)) (i * 3 + 2) (.slice m.a m.b.length m.c)
  rw [flat_set] at o1
  have kk : Kept (fun k => k = g) w _ := (((Kept.refl (fun k => k = g) w).setCell (p := ⟨g, i * 3, none⟩) (fun _ => rfl) (.bool m.ack)).setCell (p := ⟨g, i * 3 + 1, none⟩) (fun _ => rfl) (.int .i64 m.have_)).setCell (p := ⟨g, i * 3 + 2, none⟩) (fun _ => rfl) (.slice m.a m.b.length m.c)
  refine ⟨by rw [List.length_set]; exact o1, h.kept.newer kk (fun k e => by subst e; exact (ownsRow_lt h.own rfl).2)⟩
end Go.Proofs.Ytkidbbmdlmnokaa
