/- Frames one behind the other, plainly; Bulk. -/
import Derived.Test.YtficodklidaheaaDoorFX
import Derived.Test.YtficodklidaheaaDoorF16
namespace Go.Proofs.YtficodklidaheaaDoor
open Go.RowKit
attribute [local go_sem ↓] Go.wp_at_zero Go.wp_at_succ

/-- Frames one behind the other. -/
def allL (Ls : List (List Nat)) : List Nat := (Ls.map frameL).flatten
theorem allL_append (a b : List (List Nat)) : allL (a ++ b) = allL a ++ allL b := by simp [allL]
theorem allL_one (l : List Nat) : allL [l] = frameL l := by simp [allL]
theorem allL_cons (l : List Nat) (Ls : List (List Nat)) : allL (l :: Ls) = frameL l ++ allL Ls := by simp [allL]
theorem scan_frames (Ls : List (List Nat)) (hl : ∀ l ∈ Ls, l.length ≤ 65536) (r : List Nat) (L : List (List Nat)) (u e : Nat) (h : ScanR r L u e) : ScanR (allL Ls ++ r) (Ls ++ L) ((allL Ls).length + u) e := by
  induction Ls with
  | nil => simpa [allL] using h
  | cons l Ls ih =>
    have h1 := ih (fun x hx => hl x (List.mem_cons_of_mem _ hx))
    have h2 := ScanR.frame (hl l (by simp)) h1
    rw [allL_cons, List.append_assoc, List.length_append, frameL_len, Nat.add_assoc]
    exact h2
/-- A frame that is cut off. -/
theorem cut_first (p : List Nat) (hp : p.length ≤ 65536) (t : Nat) (h0 : 0 < t) (ht : t < 9 + p.length) : firstE ((frameL p).take t) = 2 := by
  have hl : ((frameL p).take t).length = t := by rw [List.length_take, frameL_len]; omega
  have h1 : ((frameL p).take t).getD 0 0 = 165 := by
    simp only [List.getD_eq_getElem?_getD, List.getElem?_take, if_pos h0]
    have := frame_cons p []
    rw [List.append_nil] at this
    rw [this]; rfl
  unfold firstE
  rw [hl, h1, if_neg (by omega), if_neg (by omega)]
  by_cases h9 : t < 9
  · rw [if_pos h9]
  · have hs : sizeL ((frameL p).take t) = p.length := by
      unfold sizeL
      have e : (((frameL p).take t).drop 1).take 4 = ((frameL p ++ []).drop 1).take 4 := by
        rw [List.append_nil, List.drop_take, List.take_take, Nat.min_eq_left (by omega)]
      rw [e, frame_drop1, num_four _ (by omega)]
    rw [if_neg h9, hs, if_neg (by omega), if_pos (by omega)]
/-- Frames, cut off anywhere. -/
theorem scan_cut (Ls : List (List Nat)) (hl : ∀ l ∈ Ls, l.length ≤ 65536) (k m : Nat) (hm : m ≤ Ls.length) (h1 : (allL (Ls.take m)).length ≤ k) (hk : k ≤ (allL Ls).length) (h2 : ∀ q, q ≤ Ls.length → m < q → k < (allL (Ls.take q)).length) :
    ∃ e, ScanR ((allL Ls).take k) (Ls.take m) (allL (Ls.take m)).length e ∧ ((e = 0 ∧ (allL (Ls.take m)).length = k) ∨ (e = 2 ∧ (allL (Ls.take m)).length ≠ k)) := by
  have hsp : allL Ls = allL (Ls.take m) ++ allL (Ls.drop m) := by rw [← allL_append, List.take_append_drop]
  have htk : (allL Ls).take k = allL (Ls.take m) ++ (allL (Ls.drop m)).take (k - (allL (Ls.take m)).length) := by
    rw [hsp, List.take_append, List.take_of_length_le h1]
  have hlt : ∀ l ∈ Ls.take m, l.length ≤ 65536 := fun l h => hl l (List.mem_of_mem_take h)
  by_cases he : (allL (Ls.take m)).length = k
  · refine ⟨0, ?_, .inl ⟨rfl, he⟩⟩
    rw [htk, he, Nat.sub_self, List.take_zero]
    have := scan_frames (Ls.take m) hlt [] [] 0 0 .done
    simpa [he] using this
  · refine ⟨2, ?_, .inr ⟨rfl, he⟩⟩
    have hmn : m < Ls.length := by
      rcases Nat.lt_or_eq_of_le hm with h | h
      · exact h
      · subst h
        rw [List.take_length] at he h1
        omega
    obtain ⟨p, hp⟩ : ∃ p, p = Ls[m] := ⟨_, rfl⟩
    have hd : Ls.drop m = p :: Ls.drop (m + 1) := by rw [hp]; exact List.drop_eq_getElem_cons hmn
    have hq := h2 (m + 1) (by omega) (by omega)
    have hsucc : Ls.take (m + 1) = Ls.take m ++ [p] := by rw [hp, List.take_add_one, List.getElem?_eq_getElem hmn]; rfl
    rw [hsucc, allL_append, allL_one, List.length_append, frameL_len] at hq
    have hpl : p.length ≤ 65536 := hl p (by rw [hp]; exact List.getElem_mem hmn)
    have ht : (allL (Ls.drop m)).take (k - (allL (Ls.take m)).length) = (frameL p).take (k - (allL (Ls.take m)).length) := by
      rw [hd, allL_cons, List.take_append_of_le_length (by rw [frameL_len]; omega)]
    have hf := cut_first p hpl (k - (allL (Ls.take m)).length) (by omega) (by omega)
    have hne : (frameL p).take (k - (allL (Ls.take m)).length) ≠ [] := by
      intro e
      have := congrArg List.length e
      rw [List.length_take, frameL_len] at this
      simp at this
      omega
    have hb := ScanR.bad _ hne (by rw [hf]; omega)
    rw [hf] at hb
    have := scan_frames (Ls.take m) hlt _ [] 0 2 hb
    rw [htk, ht]
    simpa using this

set_option maxHeartbeats 1000000 in
theorem bulk_any (va : Value) (L : List (List Nat)) (hL : L.length ≤ 9223372036854775807) (w : World) (HA : RowsAt w va L) (hb : ∀ l ∈ L, l.length ≤ 9223372036854775807) :
    Calls Tryd.prog 18 #[va, .int .i64 3000] w fun e w' => ∃ n : Nat, e = .returned (.int .i64 n) ∧ (n ≤ 3000 → ∀ l ∈ L, l.length ≤ 3000) ∧ w = w' := by
  obtain ⟨ao, c, rfl, ha⟩ := HA
  have HA := Lib.hid ha
  obtain ⟨N, hN⟩ : ∃ N, N = L.length := ⟨_, rfl⟩
  have HB : Hid (∀ i, i < N → (L.getD i []).length ≤ 9223372036854775807) := Lib.hid fun i hi => hb _ (by rw [List.getD_eq_getElem?_getD, List.getElem?_eq_getElem (by omega)]; simp)
  have HE : Hid (∀ n : Nat, (n ≤ 3000 → ∀ i, i < N → (L.getD i []).length ≤ 3000) → n ≤ 3000 → ∀ l ∈ L, l.length ≤ 3000) := Lib.hid fun n h hn l hl => by
    obtain ⟨i, hi, rfl⟩ := List.getElem_of_mem hl
    have := h hn i (by omega)
    rwa [List.getD_eq_getElem?_getD, List.getElem?_eq_getElem hi] at this
  rw [← hN] at HA hL ⊢
  clear ha hN hb
  go_enter Tryd.func18, Tryd.ntmps18
  go_wp2
  go_loopw [5, 6] (fun x t wr => ∃ n j : Nat, j ≤ N ∧ n ≤ 6002 ∧ x = .int .i64 n ∧ t = .int .i64 j ∧ (n ≤ 3000 → ∀ i, i < j → (L.getD i []).length ≤ 3000) ∧ w = wr) (fun _ t _ => N - (intOf t).toNat)
  case atStart => exact ⟨0, 0, by omega, by omega, rfl, rfl, fun _ i hi => absurd hi (by omega), rfl⟩
  case round =>
    obtain ⟨n, j, hj, hn, rfl, rfl, hall, rfl⟩ := hrel
    have HALL := Lib.hid hall
    clear hall
    by_cases hd : j < N
    · have hd' : (j : Int) < (N : Int) := by omega
      have hj0 : (0 : Int) ≤ (j : Int) := by omega
      by_cases hn3 : n ≤ 3000
      · have hn' : (n : Int) ≤ 3000 := by omega
        obtain ⟨a, ai, ci, rfl, h1, h2⟩ := HA.out j hd
        have hlen := HB.out j hd
        have HALL2 : Hid (∀ M, M = (L.getD j []).length → ∀ q : Nat, ((M ≤ 3001 ∧ q = n + 1 + M) ∨ (3001 < M ∧ q = n + 1 + 3001)) → q ≤ 3000 → ∀ i, i < j + 1 → (L.getD i []).length ≤ 3000) := Lib.hid fun M hM q hq hq3 i hi => by
          rcases Nat.lt_or_eq_of_le (Nat.le_of_lt_succ hi) with h | rfl
          · exact HALL.out hn3 i h
          · omega
        obtain ⟨M, hM⟩ : ∃ M, M = (L.getD j []).length := ⟨_, rfl⟩
        have HALL3 := Lib.hid (HALL2.out M hM)
        rw [← hM] at h1 hlen
        clear h2 hM
        have e1 : IntKind.i64.wrap ((n : Int) + 1) = ((n + 1 : Nat) : Int) := by rw [IntWalk.i64_in _ ⟨by omega, by omega⟩]; omega
        by_cases hm : M ≤ 3001
        · have cm : min (M : Int) 3001 = (M : Int) := by omega
          have e2 : IntKind.i64.wrap (((n + 1 : Nat) : Int) + (M : Int)) = ((n + 1 + M : Nat) : Int) := by rw [IntWalk.i64_in _ ⟨by omega, by omega⟩]; omega
          go_wp2
          go_roundw
          case rel => exact ⟨n + 1 + M, j + 1, hd, by omega, by go_num, by go_num, fun h => HALL3.out _ (.inl ⟨hm, rfl⟩) h, trivial⟩
          case measure => simp [intOf]; omega
        · have cm : min (M : Int) 3001 = 3001 := by omega
          have e2 : IntKind.i64.wrap (((n + 1 : Nat) : Int) + 3001) = ((n + 1 + 3001 : Nat) : Int) := by rw [IntWalk.i64_in _ ⟨by omega, by omega⟩]; omega
          go_wp2
          go_roundw
          case rel => exact ⟨n + 1 + 3001, j + 1, hd, by omega, by go_num, by go_num, fun h => HALL3.out _ (.inr ⟨by omega, rfl⟩) h, trivial⟩
          case measure => simp [intOf]; omega
      · have hn' : decide ((n : Int) ≤ 3000) = false := decide_eq_false (by omega)
        have HX : Hid (∀ l ∈ L, l.length ≤ 3000 ∨ 3000 < n) := Lib.hid fun _ _ => .inr (by omega)
        go_wp2
        go_ret
        exact ⟨n, rfl, fun h => absurd h hn3, rfl⟩
    · obtain rfl : j = N := by omega
      have HF := Lib.hid (HE.out n HALL.out)
      go_wp2
      go_ret
      exact ⟨n, rfl, HF.out, rfl⟩
end Go.Proofs.YtficodklidaheaaDoor
