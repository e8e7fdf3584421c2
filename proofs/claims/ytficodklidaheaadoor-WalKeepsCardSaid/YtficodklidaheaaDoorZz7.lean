/- Texts put together: F17, WA, F18r, SN, GR, S1. -/
import Derived.Test.YtficodklidaheaaDoorZz6
import Derived.Test.YtficodklidaheaaDoorZz4
import Derived.Test.YtficodklidaheaaDoorZz2
import Derived.Lib.ConvBytes
import Derived.Deep.WholeRow
import Derived.Laws.Rows
/- Frames one behind the other, plainly; Bulk. -/
namespace Go.Proofs.YtficodklidaheaaDoor
open Go.RowKit
attribute [local go_sem ↓] Go.wp_at_zero Go.wp_at_succ

/-- Frames one behind the other. -/
def allL (Ls : List (List Nat)) : List Nat := (Ls.map frameL).flatten
theorem allL_append (a b : List (List Nat)) : allL (a ++ b) = allL a ++ allL b := by simp [allL]
theorem allL_one (l : List Nat) : allL [l] = frameL l := by simp [allL]
theorem allL_cons (l : List Nat) (Ls : List (List Nat)) : allL (l :: Ls) = frameL l ++ allL Ls := by simp [allL]
theorem scan_frames (Ls : List (List Nat)) (hl : ∀ l ∈ Ls, l.length ≤ 65536) (r : List Nat) (L : List (List Nat)) (u e : Nat) (h : ScanR r L u e) : ScanR (allL Ls ++ r) (Ls ++ L) ((allL Ls).length + u) e := by
  induction Ls with
  | nil => simpa [allL] using h
  | cons l Ls ih =>
    have h1 := ih (fun x hx => hl x (List.mem_cons_of_mem _ hx))
    have h2 := ScanR.frame (hl l (by simp)) h1
    rw [allL_cons, List.append_assoc, List.length_append, frameL_len, Nat.add_assoc]
    exact h2
/-- A frame that is cut off. -/
theorem cut_first (p : List Nat) (hp : p.length ≤ 65536) (t : Nat) (h0 : 0 < t) (ht : t < 9 + p.length) : firstE ((frameL p).take t) = 2 := by
  have hl : ((frameL p).take t).length = t := by rw [List.length_take, frameL_len]; omega
  have h1 : ((frameL p).take t).getD 0 0 = 165 := by
    simp only [List.getD_eq_getElem?_getD, List.getElem?_take, if_pos h0]
    have := frame_cons p []
    rw [List.append_nil] at this
    rw [this]; rfl
  unfold firstE
  rw [hl, h1, if_neg (by omega), if_neg (by omega)]
  by_cases h9 : t < 9
  · rw [if_pos h9]
  · have hs : sizeL ((frameL p).take t) = p.length := by
      unfold sizeL
      have e : (((frameL p).take t).drop 1).take 4 = ((frameL p ++ []).drop 1).take 4 := by
        rw [List.append_nil, List.drop_take, List.take_take, Nat.min_eq_left (by omega)]
      rw [e, frame_drop1, num_four _ (by omega)]
    rw [if_neg h9, hs, if_neg (by omega), if_pos (by omega)]
/-- Frames, cut off anywhere. -/
theorem scan_cut (Ls : List (List Nat)) (hl : ∀ l ∈ Ls, l.length ≤ 65536) (k m : Nat) (hm : m ≤ Ls.length) (h1 : (allL (Ls.take m)).length ≤ k) (hk : k ≤ (allL Ls).length) (h2 : ∀ q, q ≤ Ls.length → m < q → k < (allL (Ls.take q)).length) :
    ∃ e, ScanR ((allL Ls).take k) (Ls.take m) (allL (Ls.take m)).length e ∧ ((e = 0 ∧ (allL (Ls.take m)).length = k) ∨ (e = 2 ∧ (allL (Ls.take m)).length ≠ k)) := by
  have hsp : allL Ls = allL (Ls.take m) ++ allL (Ls.drop m) := by rw [← allL_append, List.take_append_drop]
  have htk : (allL Ls).take k = allL (Ls.take m) ++ (allL (Ls.drop m)).take (k - (allL (Ls.take m)).length) := by
    rw [hsp, List.take_append, List.take_of_length_le h1]
  have hlt : ∀ l ∈ Ls.take m, l.length ≤ 65536 := fun l h => hl l (List.mem_of_mem_take h)
  by_cases he : (allL (Ls.take m)).length = k
  · refine ⟨0, ?_, .inl ⟨rfl, he⟩⟩
    rw [htk, he, Nat.sub_self, List.take_zero]
    have := scan_frames (Ls.take m) hlt [] [] 0 0 .done
    simpa [he] using this
  · refine ⟨2, ?_, .inr ⟨rfl, he⟩⟩
    have hmn : m < Ls.length := by
      rcases Nat.lt_or_eq_of_le hm with h | h
      · exact h
      · subst h
        rw [List.take_length] at he h1
        omega
    obtain ⟨p, hp⟩ : ∃ p, p = Ls[m] := ⟨_, rfl⟩
    have hd : Ls.drop m = p :: Ls.drop (m + 1) := by rw [hp]; exact List.drop_eq_getElem_cons hmn
    have hq := h2 (m + 1) (by omega) (by omega)
    have hsucc : Ls.take (m + 1) = Ls.take m ++ [p] := by rw [hp, List.take_add_one, List.getElem?_eq_getElem hmn]; rfl
    rw [hsucc, allL_append, allL_one, List.length_append, frameL_len] at hq
    have hpl : p.length ≤ 65536 := hl p (by rw [hp]; exact List.getElem_mem hmn)
    have ht : (allL (Ls.drop m)).take (k - (allL (Ls.take m)).length) = (frameL p).take (k - (allL (Ls.take m)).length) := by
      rw [hd, allL_cons, List.take_append_of_le_length (by rw [frameL_len]; omega)]
    have hf := cut_first p hpl (k - (allL (Ls.take m)).length) (by omega) (by omega)
    have hne : (frameL p).take (k - (allL (Ls.take m)).length) ≠ [] := by
      intro e
      have := congrArg List.length e
      rw [List.length_take, frameL_len] at this
      simp at this
      omega
    have hb := ScanR.bad _ hne (by rw [hf]; omega)
    rw [hf] at hb
    have := scan_frames (Ls.take m) hlt _ [] 0 2 hb
    rw [htk, ht]
    simpa using this

set_option maxHeartbeats 1000000 in
theorem bulk_any (va : Value) (L : List (List Nat)) (hL : L.length ≤ 9223372036854775807) (w : World) (HA : RowsAt w va L) (hb : ∀ l ∈ L, l.length ≤ 9223372036854775807) :
    Calls Tryd.prog 18 #[va, .int .i64 3000] w fun e w' => ∃ n : Nat, e = .returned (.int .i64 n) ∧ (n ≤ 3000 → ∀ l ∈ L, l.length ≤ 3000) ∧ w = w' := by
  obtain ⟨ao, c, rfl, ha⟩ := HA
  have HA := Lib.hid ha
  obtain ⟨N, hN⟩ : ∃ N, N = L.length := ⟨_, rfl⟩
  have HB : Hid (∀ i, i < N → (L.getD i []).length ≤ 9223372036854775807) := Lib.hid fun i hi => hb _ (by rw [List.getD_eq_getElem?_getD, List.getElem?_eq_getElem (by omega)]; simp)
  have HE : Hid (∀ n : Nat, (n ≤ 3000 → ∀ i, i < N → (L.getD i []).length ≤ 3000) → n ≤ 3000 → ∀ l ∈ L, l.length ≤ 3000) := Lib.hid fun n h hn l hl => by
    obtain ⟨i, hi, rfl⟩ := List.getElem_of_mem hl
    have := h hn i (by omega)
    rwa [List.getD_eq_getElem?_getD, List.getElem?_eq_getElem hi] at this
  rw [← hN] at HA hL ⊢
  clear ha hN hb
  go_enter Tryd.func18, Tryd.ntmps18
  go_wp2
  go_loopw [5, 6] (fun x t wr => ∃ n j : Nat, j ≤ N ∧ n ≤ 6002 ∧ x = .int .i64 n ∧ t = .int .i64 j ∧ (n ≤ 3000 → ∀ i, i < j → (L.getD i []).length ≤ 3000) ∧ w = wr) (fun _ t _ => N - (intOf t).toNat)
  case atStart => exact ⟨0, 0, by omega, by omega, rfl, rfl, fun _ i hi => absurd hi (by omega), rfl⟩
  case round =>
    obtain ⟨n, j, hj, hn, rfl, rfl, hall, rfl⟩ := hrel
    have HALL := Lib.hid hall
    clear hall
    by_cases hd : j < N
    · have hd' : (j : Int) < (N : Int) := by omega
      have hj0 : (0 : Int) ≤ (j : Int) := by omega
      by_cases hn3 : n ≤ 3000
      · have hn' : (n : Int) ≤ 3000 := by omega
        obtain ⟨a, ai, ci, rfl, h1, h2⟩ := HA.out j hd
        have hlen := HB.out j hd
        have HALL2 : Hid (∀ M, M = (L.getD j []).length → ∀ q : Nat, ((M ≤ 3001 ∧ q = n + 1 + M) ∨ (3001 < M ∧ q = n + 1 + 3001)) → q ≤ 3000 → ∀ i, i < j + 1 → (L.getD i []).length ≤ 3000) := Lib.hid fun M hM q hq hq3 i hi => by
          rcases Nat.lt_or_eq_of_le (Nat.le_of_lt_succ hi) with h | rfl
          · exact HALL.out hn3 i h
          · omega
        obtain ⟨M, hM⟩ : ∃ M, M = (L.getD j []).length := ⟨_, rfl⟩
        have HALL3 := Lib.hid (HALL2.out M hM)
        rw [← hM] at h1 hlen
        clear h2 hM
        have e1 : IntKind.i64.wrap ((n : Int) + 1) = ((n + 1 : Nat) : Int) := by rw [IntWalk.i64_in _ ⟨by omega, by omega⟩]; omega
        by_cases hm : M ≤ 3001
        · have cm : min (M : Int) 3001 = (M : Int) := by omega
          have e2 : IntKind.i64.wrap (((n + 1 : Nat) : Int) + (M : Int)) = ((n + 1 + M : Nat) : Int) := by rw [IntWalk.i64_in _ ⟨by omega, by omega⟩]; omega
          go_wp2
          go_roundw
          case rel => exact ⟨n + 1 + M, j + 1, hd, by omega, by go_num, by go_num, fun h => HALL3.out _ (.inl ⟨hm, rfl⟩) h, trivial⟩
          case measure => simp [intOf]; omega
        · have cm : min (M : Int) 3001 = 3001 := by omega
          have e2 : IntKind.i64.wrap (((n + 1 : Nat) : Int) + 3001) = ((n + 1 + 3001 : Nat) : Int) := by rw [IntWalk.i64_in _ ⟨by omega, by omega⟩]; omega
          go_wp2
          go_roundw
          case rel => exact ⟨n + 1 + 3001, j + 1, hd, by omega, by go_num, by go_num, fun h => HALL3.out _ (.inr ⟨by omega, rfl⟩) h, trivial⟩
          case measure => simp [intOf]; omega
      · have hn' : decide ((n : Int) ≤ 3000) = false := decide_eq_false (by omega)
        have HX : Hid (∀ l ∈ L, l.length ≤ 3000 ∨ 3000 < n) := Lib.hid fun _ _ => .inr (by omega)
        go_wp2
        go_ret
        exact ⟨n, rfl, fun h => absurd h hn3, rfl⟩
    · obtain rfl : j = N := by omega
      have HF := Lib.hid (HE.out n HALL.out)
      go_wp2
      go_ret
      exact ⟨n, rfl, HF.out, rfl⟩
end Go.Proofs.YtficodklidaheaaDoor
/- Layer 19 plainly: a disk of one file, whose bytes are frames one behind the other. -/
namespace Go.Proofs.YtficodklidaheaaDoor
open Go.RowKit

theorem putS_one {α : Type} (s : ByteArray) (f g : α) : putS [(s, f)] s g = [(s, g)] := by simp [putS, ltN_irrefl]
theorem putS_nil {α : Type} (s : ByteArray) (g : α) : putS [] s g = [(s, g)] := rfl
theorem getM_one {α : Type} (s : ByteArray) (f : α) : getM [(s, f)] s = some f := by simp [getM]
/-- A disk that won't fail. -/
structure Calm (D : DA) : Prop where
  down : D.down = false
  fail : D.failIn = -1
  crash : D.crashIn = -1
theorem Calm.begin {D : DA} (h : Calm D) : beginD D = (countedD D, 0) := by
  unfold beginD
  rw [h.down, h.crash, h.fail]
  rfl
theorem Calm.counted {D : DA} (h : Calm D) : Calm (countedD D) := ⟨h.down, by unfold countedD; rw [h.fail]; rfl, by unfold countedD; rw [h.crash]; rfl⟩
theorem Calm.behind {D : DA} (h : Calm D) (f : DA → DA × Int) : behindD D f = f (countedD D) := by unfold behindD; rw [h.begin]; rfl
/-- What a call's beginning leaves, if no call is to fail. -/
theorem beginD_one {D : DA} (hf : D.failIn = -1) : ((beginD D).2 = 0 ∨ (beginD D).2 = 13) ∧ (beginD D).1.L = D.L ∧ (beginD D).1.cap = D.cap ∧ (beginD D).1.failIn = -1 ∧ ((beginD D).2 = 13 → (beginD D).1.down = true) := by
  unfold beginD
  by_cases h1 : D.down = true
  · rw [if_pos h1]; exact ⟨.inr rfl, rfl, rfl, hf, fun _ => h1⟩
  rw [if_neg h1]
  have e1 : (countedD D).failIn = -1 := by unfold countedD; rw [hf]; rfl
  by_cases h2 : D.crashIn = 0
  · rw [if_pos h2]; exact ⟨.inr rfl, rfl, rfl, e1, fun _ => rfl⟩
  rw [if_neg h2, if_neg (by omega)]
  exact ⟨.inl rfl, rfl, rfl, e1, fun h => by cases h⟩
theorem behind_one {D : DA} (hf : D.failIn = -1) (f : DA → DA × Int) : (behindD D f = f (beginD D).1 ∧ (beginD D).2 = 0) ∨ (behindD D f = beginD D ∧ (beginD D).2 = 13) := by
  unfold behindD
  rcases (beginD_one hf).1 with h | h
  · exact .inl ⟨if_pos h, h⟩
  · exact .inr ⟨if_neg (by omega), h⟩
theorem append_one {D : DA} {s : ByteArray} {f : PF} (h : D.L = [(s, f)]) (hf : D.failIn = -1) (b : List Nat) :
    (((appendD D s b).2 = 0 ∧ (appendD D s b).1.L = [(s, ⟨f.b ++ b, f.s⟩)]) ∨ (((appendD D s b).2 = 12 ∨ (appendD D s b).2 = 13) ∧ (appendD D s b).1.L = [(s, f)])) ∧ (appendD D s b).1.failIn = -1 ∧ (appendD D s b).1.cap = D.cap := by
  obtain ⟨_, h2, h3, h4, _⟩ := beginD_one hf
  unfold appendD
  rcases behind_one hf (withF s fun f D => if D.cap - usedL D.L < (b.length : Int) then (D, 12) else ({ D with L := putS D.L s ⟨f.b ++ b, f.s⟩ }, 0)) with ⟨e, _⟩ | ⟨e, e2⟩
  · rw [e]
    unfold withF
    rw [h2, h, getM_one]
    dsimp only
    split
    · exact ⟨.inr ⟨.inl rfl, by rw [h2, h]⟩, h4, h3⟩
    · exact ⟨.inl ⟨rfl, by dsimp only; rw [h2, h, putS_one]⟩, h4, h3⟩
  · rw [e]
    exact ⟨.inr ⟨.inr e2, by rw [h2, h]⟩, h4, h3⟩
theorem sync_one {D : DA} {s : ByteArray} {f : PF} (h : D.L = [(s, f)]) (hf : D.failIn = -1) :
    (((syncD D s).2 = 0 ∧ (syncD D s).1.L = [(s, ⟨f.b, f.b.length⟩)]) ∨ ((syncD D s).2 = 13 ∧ (syncD D s).1.L = [(s, f)])) ∧ (syncD D s).1.failIn = -1 ∧ (syncD D s).1.cap = D.cap := by
  obtain ⟨_, h2, h3, h4, _⟩ := beginD_one hf
  unfold syncD
  rcases behind_one hf (withF s fun f D => ({ D with L := putS D.L s ⟨f.b, f.b.length⟩ }, 0)) with ⟨e, _⟩ | ⟨e, e2⟩
  · rw [e]
    unfold withF
    rw [h2, h, getM_one]
    exact ⟨.inl ⟨rfl, by dsimp only; rw [h2, h, putS_one]⟩, h4, h3⟩
  · rw [e]
    exact ⟨.inr ⟨e2, by rw [h2, h]⟩, h4, h3⟩
theorem append_calm {D : DA} {s : ByteArray} {f : PF} (h : D.L = [(s, f)]) (hc : Calm D) (b : List Nat) :
    (D.cap - f.b.length < (b.length : Int) ∧ (appendD D s b).2 = 12 ∧ (appendD D s b).1.L = [(s, f)] ∧ Calm (appendD D s b).1) ∨ (appendD D s b).2 = 0 ∧ (appendD D s b).1.L = [(s, ⟨f.b ++ b, f.s⟩)] ∧ Calm (appendD D s b).1 := by
  unfold appendD
  rw [hc.behind]
  unfold withF
  have e1 : (countedD D).L = D.L := rfl
  rw [e1, h, getM_one]
  have e2 : usedL [(s, f)] = f.b.length := by simp [usedL]
  dsimp only
  rw [e1, h, e2]
  have e3 : (countedD D).cap = D.cap := rfl
  rw [e3]
  by_cases hs : D.cap - (f.b.length : Int) < (b.length : Int)
  · rw [if_pos hs]
    exact .inl ⟨hs, rfl, by rw [e1, h], hc.counted⟩
  · rw [if_neg hs]
    exact .inr ⟨rfl, by dsimp only; rw [putS_one], ⟨hc.counted.down, hc.counted.fail, hc.counted.crash⟩⟩
theorem cut_calm {D : DA} {s : ByteArray} {f : PF} (h : D.L = [(s, f)]) (hc : Calm D) {n : Nat} (hn : n ≤ f.b.length) :
    (cutD D s n).2 = 0 ∧ (cutD D s n).1.L = [(s, cutF f n)] ∧ Calm (cutD D s n).1 ∧ (cutD D s n).1.cap = D.cap := by
  unfold cutD
  rw [hc.behind]
  unfold withF
  have e1 : (countedD D).L = D.L := rfl
  rw [e1, h, getM_one]
  dsimp only
  rw [if_neg (by omega), e1, h, putS_one]
  exact ⟨rfl, by rw [Int.toNat_natCast], ⟨hc.counted.down, hc.counted.fail, hc.counted.crash⟩, rfl⟩
theorem create_calm {D : DA} {s : ByteArray} (h : D.L = []) (hc : Calm D) (hn : nameB s = true) :
    (createD D s).2 = 0 ∧ (createD D s).1.L = [(s, ⟨[], 0⟩)] ∧ Calm (createD D s).1 ∧ (createD D s).1.cap = D.cap := by
  unfold createD
  rw [hc.behind]
  unfold createF
  have e1 : (countedD D).L = D.L := rfl
  rw [hn, e1, h]
  exact ⟨rfl, rfl, ⟨hc.counted.down, hc.counted.fail, hc.counted.crash⟩, rfl⟩
theorem create_bad {D : DA} {s : ByteArray} (hc : Calm D) (hn : nameB s = false) : createD D s = (countedD D, 3) := by
  unfold createD
  rw [hc.behind]
  unfold createF
  rw [hn]
  rfl
theorem boot_one {D : DA} {s : ByteArray} {f : PF} (h : D.L = [(s, f)]) (hd : D.down = true) (keep : List Int) :
    (bootD D keep).2 = 0 ∧ (bootD D keep).1.L = [(s, bootF (keep.headD 0) f)] ∧ Calm (bootD D keep).1 ∧ (bootD D keep).1.cap = D.cap := by
  unfold bootD
  rw [if_pos hd]
  exact ⟨rfl, by dsimp only; rw [h]; rfl, ⟨rfl, rfl, rfl⟩, rfl⟩
/-- How many bytes the first records have, framed. -/
def enL (Ls : List (List Nat)) (m : Nat) : Nat := (allL (Ls.take m)).length
theorem enL_mono (Ls : List (List Nat)) {a b : Nat} (h : a ≤ b) : enL Ls a ≤ enL Ls b := by
  unfold enL
  have : Ls.take b = Ls.take a ++ (Ls.take b).drop a := by
    conv => lhs; rw [← List.take_append_drop a (Ls.take b)]
    rw [List.take_take, Nat.min_eq_left h]
  rw [this, allL_append, List.length_append]
  omega
theorem enL_all (Ls : List (List Nat)) : enL Ls Ls.length = (allL Ls).length := by unfold enL; rw [List.take_length]
/-- The greatest number of frames within so many bytes. -/
theorem enL_cut (Ls : List (List Nat)) (k : Nat) : ∃ m, m ≤ Ls.length ∧ enL Ls m ≤ k ∧ ∀ q, q ≤ Ls.length → m < q → k < enL Ls q := by
  have key : ∀ n, n ≤ Ls.length → ∃ m, m ≤ n ∧ enL Ls m ≤ k ∧ ∀ q, q ≤ n → m < q → k < enL Ls q := by
    intro n
    induction n with
    | zero => intro _; exact ⟨0, Nat.le_refl _, by simp [enL, allL], fun q h1 h2 => by omega⟩
    | succ n ih =>
      intro hn
      by_cases h : enL Ls (n + 1) ≤ k
      · exact ⟨n + 1, Nat.le_refl _, h, fun q h1 h2 => by omega⟩
      · obtain ⟨m, h1, h2, h3⟩ := ih (by omega)
        refine ⟨m, by omega, h2, fun q hq hm => ?_⟩
        by_cases e : q = n + 1
        · rw [e]; omega
        · exact h3 q (by omega) hm
  exact key _ (Nat.le_refl _)
/-- What is read of frames that were cut off: all that lie whole within. -/
theorem wal_cut (Ls : List (List Nat)) (hl : ∀ l ∈ Ls, l.length ≤ 65536) {k sure : Nat} (hk : k ≤ (allL Ls).length) (hs : sure ≤ Ls.length) (hs2 : enL Ls sure ≤ k) :
    ∃ m e, m ≤ Ls.length ∧ sure ≤ m ∧ ScanR ((allL Ls).take k) (Ls.take m) (enL Ls m) e ∧ (e = 0 ∨ e = 2) ∧ enL Ls m ≤ k := by
  obtain ⟨m, h1, h2, h3⟩ := enL_cut Ls k
  obtain ⟨e, h4, h5⟩ := scan_cut Ls hl k m h1 h2 hk h3
  refine ⟨m, e, h1, ?_, h4, h5.imp (·.1) (·.1), h2⟩
  rcases Nat.lt_or_ge m sure with h | h
  · have := h3 sure hs h; omega
  · exact h
theorem scan_all (Ls : List (List Nat)) (hl : ∀ l ∈ Ls, l.length ≤ 65536) : ScanR (allL Ls) Ls (allL Ls).length 0 := by
  have := scan_frames Ls hl [] [] 0 0 .done
  simpa using this
end Go.Proofs.YtficodklidaheaaDoor
/- Rows of bytes that are owned, as rows. -/
namespace Go.Proofs.YtficodklidaheaaDoor
open Go.RowKit

theorem own_RowsAt {w : World} {B C : Nat} {v : Value} {vs : List Value} {Ls : List (List Nat)} (hb : ∀ l ∈ Ls, ∀ x ∈ l, x < 256) (ho : w.ownsRow B 22 1 v vs.length vs) (hr : Rows8 w C vs Ls) : RowsAt w v Ls := by
  have hl := hr.length
  obtain ⟨ao, c, rfl⟩ := ownsRow_slice ho
  rw [hl]
  refine ⟨ao, c, rfl, fun i hi => ?_⟩
  obtain ⟨u, hu, h8⟩ := hr.at_ i hi
  obtain ⟨g, cap, hv, _, _⟩ := own_at ho (by omega)
  injection hv with h1 h2 h3
  subst h1
  have hc := ho.cells (g := g) rfl i u hu
  obtain ⟨ai, ci, rfl⟩ := ownsRow_slice h8
  exact ⟨_, ai, ci, rfl, hc, row8_own (hb _ (by rw [List.getD_eq_getElem?_getD, List.getElem?_eq_getElem hi]; simp)) h8⟩
end Go.Proofs.YtficodklidaheaaDoor
/- Bytes as texts: rows of bytes that are made, and their texts. -/
namespace Go.Proofs.YtficodklidaheaaDoor
open Go.RowKit
attribute [local go_sem ↓] Go.wp_at_zero Go.wp_at_succ

def byV (l : List Nat) : List Value := l.map fun (n : Nat) => Value.int .u8 (n : Int)
@[simp] theorem byV_length (l : List Nat) : (byV l).length = l.length := by simp [byV]
theorem byV_get {l : List Nat} {j : Nat} (h : j < l.length) : (byV l)[j]? = some (.int .u8 ((l.getD j 0 : Nat) : Int)) := by
  simp [byV, List.getD_eq_getElem?_getD, List.getElem?_eq_getElem h]
theorem byV_one (l : List Nat) : ∀ u ∈ byV l, u.oneCell' = true := by
  intro u hu
  obtain ⟨n, _, rfl⟩ := List.mem_map.1 hu
  rfl
theorem byV_append (a b : List Nat) : byV (a ++ b) = byV a ++ byV b := by simp [byV]
/-- Bytes as a text. -/
def strL (l : List Nat) : ByteArray := strOfNums (l.map fun (n : Nat) => (n : Int))
theorem strL_list (l : List Nat) : (strL l).toList = l.map UInt8.ofNat := by
  rw [ByteArray.toList_eq]
  simp [strL, strOfNums, List.map_map, Function.comp_def]
theorem bl_strL {l : List Nat} (h : ∀ x ∈ l, x < 256) : bl (strL l) = l := by
  unfold bl
  rw [strL_list, List.map_map]
  conv => rhs; rw [← List.map_id l]
  refine List.map_congr_left fun x hx => ?_
  have := h x hx
  simp; omega
theorem strL_bl (s : ByteArray) : strL (bl s) = s := bl_inj (bl_strL (fun _ hx => bl_lt hx))
theorem run_strL {P : Program} {w : World} {v : Value} {l : List Nat} (h : SlAt w v (byV l)) (src e dst : TypeId) (hs : P.underlying src = some (.slice e)) (he : P.underlying e = some (.int .u8)) (hd : P.underlying dst = some .string) :
    (convert src dst v).run P w = .ok (.string (strL l)) w := by
  rcases Nat.eq_zero_or_pos l.length with h0 | h0
  · obtain rfl : l = [] := List.eq_nil_of_length_eq_zero h0
    obtain ⟨ao, c, rfl, hn, hc⟩ := h.val
    cases ao with
    | none => exact run_convert_bytes_nil w src e hs he 0 c dst hd
    | some a =>
      rw [run_convert_bytes_string w src dst e _ _ c hs he hd]
      simp [Conv.bytesToString, loadCells, loadCellsFrom]
      rfl
  · obtain ⟨g, off, c, rfl, hc⟩ := h.addr (by rw [byV_length]; exact h0)
    rw [byV_length]
    have := run_convert_bytes_arg (P := P) w src e hs he g off l.length c (l.map fun (n : Nat) => (n : Int)) (by simp) (fun i hi => by
      rw [hc i _ (byV_get (by simpa using hi))]
      simp [List.getD_eq_getElem?_getD, List.getElem?_eq_getElem hi]) dst hd
    exact this
theorem Tryd.infoU8 : (Tryd.prog.info? 5).map (fun i => (i.zero, i.size, i.bytes)) = some (some (.int .u8 0), 1, 1) := by kernel_rfl
end Go.Proofs.YtficodklidaheaaDoor
/- Rows of structs: of one shape each, of sz cells; those that came in, and those that are made. -/
namespace Go.Proofs.YtficodklidaheaaDoor
open Go.RowKit
attribute [local go_sem ↓] Go.wp_at_zero Go.wp_at_succ

def flatG {α : Type} (c : α → List Value) (L : List α) : List Value := L.flatMap c
/-- What a struct's cells are like. -/
structure Cf {α : Type} (c : α → List Value) (sz : Nat) : Prop where
  len : ∀ x, (c x).length = sz
  one : ∀ x, ∀ u ∈ c x, u.oneCell' = true
theorem flatG_length {α : Type} {c : α → List Value} {sz : Nat} (hc : Cf c sz) (L : List α) : (flatG c L).length = L.length * sz := by
  induction L with
  | nil => simp [flatG]
  | cons p L ih => unfold flatG at ih ⊢; rw [List.flatMap_cons, List.length_append, ih, hc.len, List.length_cons, Nat.succ_mul, Nat.add_comm]
theorem flatG_append {α : Type} (c : α → List Value) (a b : List α) : flatG c (a ++ b) = flatG c a ++ flatG c b := by simp [flatG]
theorem flatG_one' {α : Type} (c : α → List Value) (a : α) : flatG c [a] = c a := by simp [flatG]
theorem flatG_get {α : Type} {c : α → List Value} {sz : Nat} (hc : Cf c sz) {L : List α} {i : Nat} {p : α} (h : L[i]? = some p) {j : Nat} (hj : j < sz) : (flatG c L)[i * sz + j]? = (c p)[j]? := by
  induction L generalizing i with
  | nil => simp at h
  | cons q L ih =>
    unfold flatG at ih ⊢
    rw [List.flatMap_cons]
    have hq := hc.len q
    cases i with
    | zero =>
      simp at h; subst h
      rw [List.getElem?_append_left (by rw [hq]; omega)]; simp
    | succ i =>
      simp at h
      rw [Nat.succ_mul, List.getElem?_append_right (by rw [hq]; omega), hq, show i * sz + sz + j - sz = i * sz + j by omega]
      exact ih h
theorem flatG_all {α : Type} {c : α → List Value} {sz : Nat} (hc : Cf c sz) (L : List α) : ∀ u ∈ flatG c L, u.oneCell' = true := by
  intro u hu
  unfold flatG at hu
  obtain ⟨p, _, hp⟩ := List.mem_flatMap.1 hu
  exact hc.one p u hp
/-- Structs lie in a row. -/
def GAt {α : Type} (c : α → List Value) (sz : Nat) (w : World) (ao : Option Addr) (L : List α) : Prop := 0 < L.length → ∃ g o, ao = some ⟨g, o, none⟩ ∧ ∀ i p, L[i]? = some p → ∀ j u, (c p)[j]? = some u → w.cell? ⟨g, o + i * sz + j, none⟩ = some u
theorem GAt.keptS {α : Type} {c : α → List Value} {sz : Nat} {S : Nat → Prop} {W w : World} {ao : Option Addr} {L : List α} (h : GAt c sz W ao L) (k : Kept S W w) (hn : ∀ a, ao = some a → 0 < L.length → ¬ S a.block) : GAt c sz w ao L := by
  intro h0
  obtain ⟨g, o, e, hr⟩ := h h0
  exact ⟨g, o, e, fun i p hi j u hu => k.cell (hr i p hi j u hu) (show ¬ S g from hn ⟨g, o, none⟩ e h0)⟩
theorem GAt.kept {α : Type} {c : α → List Value} {sz : Nat} {W w : World} {ao : Option Addr} {L : List α} (h : GAt c sz W ao L) (k : Kept (fun _ => False) W w) : GAt c sz w ao L := h.keptS k (fun _ _ _ x => x)
theorem GAt.take {α : Type} {c : α → List Value} {sz : Nat} {W : World} {ao : Option Addr} {L : List α} (h : GAt c sz W ao L) (n : Nat) : GAt c sz W ao (L.take n) := by
  intro h0
  obtain ⟨g, o, e, hr⟩ := h (by rw [List.length_take] at h0; omega)
  refine ⟨g, o, e, fun i p hi => hr i p ?_⟩
  rw [List.getElem?_take] at hi
  split at hi
  · exact hi
  · cases hi
theorem GAt.src {α : Type} {c : α → List Value} {sz : Nat} (hc : Cf c sz) (hz : 0 < sz) {P : Program} {t e : TypeId} (ht : P.underlying t = some (.slice e)) {w : World} {ao : Option Addr} {L : List α} {cp : Nat} (h : GAt c sz w ao L) : Src P sz t (.slice ao L.length cp) L.length (flatG c L) w := by
  cases ao with
  | none =>
    have hz : L.length = 0 := by
      rcases Nat.eq_zero_or_pos L.length with h1 | h1
      · exact h1
      · obtain ⟨_, _, e, _⟩ := h h1; cases e
    obtain rfl : L = [] := List.length_eq_zero_iff.1 hz
    exact Src.ofNil (w := w) ht cp
  | some a =>
    refine Src.ofSlice _ ht a L.length cp (flatG c L) (flatG_length hc L) ?_ (flatG_all hc L)
    intro j u hu
    have hj : j < L.length * sz := by have := (List.getElem?_eq_some_iff.1 hu).1; rwa [flatG_length hc] at this
    have h0 : 0 < L.length := by
      rcases Nat.eq_zero_or_pos L.length with h1 | h1
      · rw [h1, Nat.zero_mul] at hj; omega
      · exact h1
    obtain ⟨g, o, e, hr⟩ := h h0
    cases e
    have hi : j / sz < L.length := Nat.div_lt_of_lt_mul (by rw [Nat.mul_comm]; exact hj)
    have hm : j % sz < sz := Nat.mod_lt _ hz
    have e2 : j / sz * sz + j % sz = j := by rw [Nat.mul_comm]; exact Nat.div_add_mod j sz
    have hg := flatG_get hc (List.getElem?_eq_getElem hi) hm
    rw [e2, hu] at hg
    have := hr (j / sz) L[j / sz] (List.getElem?_eq_getElem hi) (j % sz) u hg.symm
    have e : (⟨g, o, none⟩ : Addr).add j = ⟨g, o + j, none⟩ := by unfold Addr.add; split <;> simp_all
    rw [e, show o + j = o + j / sz * sz + j % sz by omega]
    exact this

/-- A row of structs that was made behind the world W. -/
structure MineG {α : Type} (c : α → List Value) (sz : Nat) (E : TypeId) (W w : World) (v : Value) (L : List α) : Prop where
  own : w.ownsRow W.heap.size E sz v L.length (flatG c L)
  kept : Kept (fun _ => False) W w
theorem MineG.nil {α : Type} {c : α → List Value} {sz : Nat} {E : TypeId} {W w : World} (k : Kept (fun _ => False) W w) : MineG c sz E W w (.slice none 0 0) [] := ⟨World.ownsRow_nil _ _ _ _, k⟩
theorem MineG.on {α : Type} {c : α → List Value} {sz : Nat} {E : TypeId} {W w w' : World} {v : Value} {L : List α} (h : MineG c sz E W w v L) (hk : Kept (fun _ => False) w w') : MineG c sz E W w' v L := ⟨hk.owns h.own (fun _ _ x => x), h.kept.trans hk⟩
theorem MineG.keptS {α : Type} {c : α → List Value} {sz : Nat} {E : TypeId} {S : Nat → Prop} {W w w' : World} {v : Value} {L : List α} (h : MineG c sz E W w v L) (hk : Kept S w w') (hn : ∀ k, v.ownBlock = some k → ¬ S k) (hs : ∀ k, S k → W.heap.size ≤ k) : MineG c sz E W w' v L := ⟨hk.owns h.own hn, h.kept.newer hk hs⟩
theorem MineG.down {α : Type} {c : α → List Value} {sz : Nat} {E : TypeId} {W0 W w : World} {v : Value} {L : List α} (h : MineG c sz E W w v L) (hk : Kept (fun _ => False) W0 W) : MineG c sz E W0 w v L := by
  refine ⟨⟨h.own.1, ?_⟩, hk.trans h.kept⟩
  rcases h.own.2 with h0 | ⟨g, cap, cur, e, hg, rest⟩
  · exact .inl h0
  · exact .inr ⟨g, cap, cur, e, Nat.le_trans hk.size hg, rest⟩
theorem MineG.slice {α : Type} {c : α → List Value} {sz : Nat} {E : TypeId} {W w : World} {v : Value} {L : List α} (h : MineG c sz E W w v L) : ∃ a cp, v = .slice a L.length cp := ownsRow_slice h.own
theorem MineG.at_ {α : Type} {c : α → List Value} {sz : Nat} (hcf : Cf c sz) {E : TypeId} {W w : World} {a : Option Addr} {n cp : Nat} {L : List α} (h : MineG c sz E W w (.slice a n cp) L) : GAt c sz w a L := by
  intro h0
  rcases h.own.2 with ⟨_, e⟩ | ⟨g, cap, cur, e, _⟩
  · omega
  · injection e with e1 e2 e3
    subst e1
    refine ⟨g, 0, rfl, fun i p hi j u hu => ?_⟩
    have hj : j < sz := by have := (List.getElem?_eq_some_iff.1 hu).1; rwa [hcf.len] at this
    have hc := h.own.cells (g := g) rfl
    have := hc (i * sz + j) u (by rw [flatG_get hcf hi hj]; exact hu)
    rw [addr_add0] at this
    rw [Nat.zero_add]; exact this
theorem src_oneG {α : Type} {c : α → List Value} {sz : Nat} (hc : Cf c sz) {P : Program} {t E : TypeId} (ht : P.underlying t = some (.slice E)) (w : World) (p : α) : Src P sz t (.slice (some ⟨w.heap.size, 0, none⟩) 1 1) 1 (c p) (w.alloc (.cells (c p).toArray E)) :=
  Src.ofSlice _ ht _ 1 1 (c p) (by rw [hc.len, Nat.one_mul]) (World.news_of_block (cs := (c p).toArray) (t := E) (fr := (0, 0)) (heap_alloc_new w _)) (hc.one p)
theorem wpList_mineG {α : Type} {c : α → List Value} {sz : Nat} {P : Program} {ops : Array Oper} {rest : List Oper} {o : Oper} {a : Act} {Q : Exit → Act → World → Prop} {w : World} (hgd : o.guard = none) (s x : Operand) {t E : TypeId}
    (ho : o.op = .call { callee := .builtin .append, args := #[s, x], argTypes := #[t, t] })
    (ht : P.underlying t = some (.slice E)) {i : TypeInfo} {z : Value} {by' : Nat} (hi : P.info? E = some i) (hz0 : i.zero = some z) (hz1 : i.size = sz) (hz2 : i.bytes = by') (hz3 : z.cells.size = sz)
    (W : World) (v : Value) (L : List α) (hv : a.eval s = v) (hm : MineG c sz E W w v L)
    (y : Value) (M : List α) (m : Nat) (hmm : M.length = m) (hy : a.eval x = y) (hs : Src P sz t y m (flatG c M) w)
    (hl : L.length + m ≤ 1000000000) (hby : by' ≤ 100000)
    (h : ∀ v' w', MineG c sz E W w' v' (L ++ M) → Kept (fun k => v.ownBlock = some k) w w' → (v'.ownBlock = v.ownBlock ∨ v'.ownBlock = some w.heap.size) → wpList P ops Q rest (a.put o.dst v') w') : wpList P ops Q (o :: rest) a w := by
  have hb : (L.length + m) * by' ≤ 1000000000 * 100000 := Nat.mul_le_mul hl hby
  refine wpList_append_src w hgd s x _ _ ho W.heap.size E i z sz by' ht hi hz0 hz1 hz2 hz3 v L.length (flatG c L) hv hm.own y m (flatG c M) hy hs (by unfold maxLen; omega) (by omega) hm.kept.size ?_
  intro v' w' hown hg _ hat
  refine h v' w' ⟨?_, ?_⟩ ((Kept.refl (fun k => v.ownBlock = some k) w).grown hg (fun k e _ => e)) hat
  · rw [List.length_append, flatG_append, hmm]
    exact hown
  · exact hm.kept.grown hg (fun k e hlt => by have := (ownsRow_lt hm.own e).2; omega)
end Go.Proofs.YtficodklidaheaaDoor
/- Layer 18: a disk in memory; isName, change, Down, Used, Calls, Fail, Crash, has, changeOf. -/
namespace Go.Proofs.YtficodklidaheaaDoor
open Go.RowKit
attribute [local go_sem ↓] Go.wp_at_zero Go.wp_at_succ

/-- A block of cells. -/
def BoxAt (w : World) (q : Nat) (T : TypeId) (cs : Array Value) : Prop := w.heap[q]? = some (.cells cs T (0, 0))
section
variable {w w' : World} {q : Nat} {T : TypeId} {cs : Array Value}
theorem BoxAt.cell (h : BoxAt w q T cs) {i : Nat} {u : Value} (hi : cs[i]? = some u) : w.cell? ⟨q, i, none⟩ = some u := (cell_of_row _ _ i _ _ _ h).trans hi
theorem BoxAt.fz (h : BoxAt w q T cs) (i : Nat) : w.frozen? ⟨q, i, none⟩ = false := by unfold BoxAt at h; simp [World.frozen?, h]
theorem BoxAt.lt (h : BoxAt w q T cs) : q < w.heap.size := (Array.getElem?_eq_some_iff.1 h).1
theorem BoxAt.set (h : BoxAt w q T cs) (i : Nat) (u : Value) : BoxAt (w.setCell ⟨q, i, none⟩ u) q T (cs.set! i u) := by
  unfold BoxAt at *
  simp [World.setCell, Array.getElem?_modify, h]
theorem BoxAt.kept {S : Nat → Prop} (h : BoxAt w q T cs) (k : Kept S w w') (hn : ¬ S q) : BoxAt w' q T cs := k.same h hn
theorem BoxAt.new (w : World) (T : TypeId) (cs : Array Value) : BoxAt (w.alloc (.cells cs T)) w.heap.size T cs := heap_alloc_new w _
theorem kept_set (w : World) (q i : Nat) (u : Value) : Kept (fun k => k = q) w (w.setCell ⟨q, i, none⟩ u) := (Kept.refl (fun k => k = q) w).setCell (p := ⟨q, i, none⟩) (fun _ => rfl) u
end

/-- A file in memory. -/
structure Fi where
  a : Option Addr
  c : Nat
  b : List Nat
  s : Nat
def Fi.v (f : Fi) : Value := .slice f.a f.b.length f.c
def Fi.val (f : Fi) : Value := .agg #[.slice f.a f.b.length f.c, .int .i64 (f.s : Int)]
def Fi.t (f : Fi) : PF := ⟨f.b, f.s⟩
/-- Where a file's bytes lie: in a block of its own, or nowhere. -/
def OwnB (base : Nat) (w : World) (f : Fi) : Prop :=
  (f.a = none ∧ f.b = [] ∧ f.c = 0) ∨ ∃ g cur, f.a = some ⟨g, 0, none⟩ ∧ base ≤ g ∧ w.heap[g]? = some (.cells cur 5 (0, 0)) ∧ f.b.length ≤ f.c ∧ f.c ≤ cur.size ∧ f.c ≤ maxLen ∧ cur.toList.take f.b.length = byV f.b
section
variable {base : Nat} {w w' : World} {f : Fi}
theorem OwnB.kept {S : Nat → Prop} (h : OwnB base w f) (k : Kept S w w') (hn : ∀ j, f.v.ownBlock = some j → ¬ S j) : OwnB base w' f := by
  rcases h with h | ⟨g, cur, h1, h2, h3, h4⟩
  · exact .inl h
  · exact .inr ⟨g, cur, h1, h2, k.same h3 (hn g (by unfold Fi.v; rw [h1]; rfl)), h4⟩
theorem OwnB.block (h : OwnB base w f) {j : Nat} (hj : f.v.ownBlock = some j) : ∃ cur, w.heap[j]? = some (.cells cur 5 (0, 0)) ∧ base ≤ j := by
  rcases h with ⟨h, _⟩ | ⟨g, cur, h1, h2, h3, _⟩
  · unfold Fi.v at hj; rw [h] at hj; cases hj
  · unfold Fi.v at hj
    rw [h1] at hj
    injection hj with hj
    subst hj
    exact ⟨cur, h3, h2⟩
theorem OwnB.cap (h : OwnB base w f) : f.b.length ≤ f.c ∧ f.c ≤ maxLen := by
  rcases h with ⟨_, h1, h2⟩ | ⟨g, cur, _, _, _, h4, _, h5, _⟩
  · rw [h1, h2]; exact ⟨Nat.le_refl _, Nat.zero_le _⟩
  · exact ⟨h4, h5⟩
theorem OwnB.at_ (h : OwnB base w f) : SlAt w f.v (byV f.b) := by
  rcases h with ⟨h1, h2, h3⟩ | ⟨g, cur, h1, h2, h3, h4, h5, h6, h7⟩
  · unfold Fi.v
    rw [h1, h2, h3]
    exact SlAt.ofOwn (World.ownsRow_nil w 0 5 1)
  · refine ⟨f.a, f.c, ?_, fun e => ?_, fun a' e j u hu => ?_⟩
    · unfold Fi.v; rw [byV_length]
    · rw [h1] at e; cases e
    rw [h1] at e
    injection e with e
    subst e
    rw [addr_add0, cell_of_row _ _ j _ _ _ h3]
    rw [← h7, List.getElem?_take] at hu
    split at hu
    · rw [← Array.getElem?_toList]; exact hu
    · cases hu
end
/-- The disk's cells. -/
def boxD (mb : Nat) (D : DA) : Array Value := #[.map (some mb), .int .i64 D.cap, .int .i64 (usedL D.L : Int), .bool D.down, .int .i64 D.calls, .int .i64 D.failIn, .int .i64 D.failBy, .int .i64 D.crashIn]
def foot (db mb : Nat) (L : List (ByteArray × Fi)) (k : Nat) : Prop := k = db ∨ k = mb ∨ ∃ p ∈ L, p.2.v.ownBlock = some k
/-- A disk in memory. -/
structure DK (base : Nat) (w : World) (db mb : Nat) (L : List (ByteArray × Fi)) (D : DA) : Prop where
  box : BoxAt w db 111 (boxD mb D)
  map : MapIs w mb (mapM Fi.val L)
  perm : (mapM Fi.t L).Perm D.L
  data : ∀ p ∈ L, OwnB base w p.2
  sep : ∀ p ∈ L, ∀ q ∈ L, p.1 ≠ q.1 → ∀ k, p.2.v.ownBlock = some k → q.2.v.ownBlock ≠ some k
  base : base ≤ db ∧ base ≤ mb
  ok : DOk D
section
variable {base : Nat} {w w' : World} {db mb : Nat} {L : List (ByteArray × Fi)} {D : DA}
theorem DK.pair (h : DK base w db mb L D) : L.Pairwise fun p q => p.1 ≠ q.1 := by
  have := h.map.pair
  unfold mapM at this
  rw [List.pairwise_map] at this
  exact this
theorem DK.get (h : DK base w db mb L D) (s : ByteArray) : (getM L s).map Fi.t = getM D.L s := by
  rw [← getM_map, get_of_perm (mapM_pair _ h.pair) h.perm]
theorem DK.len (h : DK base w db mb L D) : L.length = D.L.length := by
  have := h.perm.length_eq
  simpa [mapM] using this
theorem DK.kept {S : Nat → Prop} (h : DK base w db mb L D) (k : Kept S w w') (hn : ∀ j, foot db mb L j → ¬ S j) : DK base w' db mb L D :=
  ⟨h.box.kept k (hn db (.inl rfl)), h.map.kept k (hn mb (.inr (.inl rfl))), h.perm, fun p hp => (h.data p hp).kept k (fun j e => hn j (.inr (.inr ⟨p, hp, e⟩))), h.sep, h.base, h.ok⟩
theorem DK.lt (h : DK base w db mb L D) {k : Nat} (hk : foot db mb L k) : k < w.heap.size ∧ base ≤ k := by
  rcases hk with rfl | rfl | ⟨p, hp, e⟩
  · exact ⟨h.box.lt, h.base.1⟩
  · exact ⟨h.map.lt, h.base.2⟩
  · obtain ⟨cur, h1, h2⟩ := (h.data p hp).block e
    exact ⟨(Array.getElem?_eq_some_iff.1 h1).1, h2⟩
theorem DK.c (h : DK base w db mb L D) : w.cell? ⟨db, 0, none⟩ = some (.map (some mb)) ∧ w.cell? ⟨db, 1, none⟩ = some (.int .i64 D.cap) ∧ w.cell? ⟨db, 2, none⟩ = some (.int .i64 (usedL D.L : Int)) ∧ w.cell? ⟨db, 3, none⟩ = some (.bool D.down) ∧
    w.cell? ⟨db, 4, none⟩ = some (.int .i64 D.calls) ∧ w.cell? ⟨db, 5, none⟩ = some (.int .i64 D.failIn) ∧ w.cell? ⟨db, 6, none⟩ = some (.int .i64 D.failBy) ∧ w.cell? ⟨db, 7, none⟩ = some (.int .i64 D.crashIn) :=
  ⟨h.box.cell rfl, h.box.cell rfl, h.box.cell rfl, h.box.cell rfl, h.box.cell rfl, h.box.cell rfl, h.box.cell rfl, h.box.cell rfl⟩
theorem DK.ne (h : DK base w db mb L D) : db ≠ mb := h.map.notCells h.box
theorem DK.cap (h : DK base w db mb L D) : I64 D.cap ∧ I64 D.failIn ∧ I64 D.crashIn ∧ I64 (usedL D.L : Int) := by
  have h1 := h.ok.capR
  have h2 := h.ok.failR
  have h3 := h.ok.crashR
  have h4 := h.ok.used
  unfold I64
  omega
/-- Only the disk's own cells were written. -/
theorem DK.turned (h : DK base w db mb L D) {w' : World} {D' : DA} (hb : BoxAt w' db 111 (boxD mb D')) (k : Kept (fun k => k = db) w w') (hL : D'.L = D.L) (ok : DOk D') : DK base w' db mb L D' :=
  ⟨hb, h.map.kept k (fun e => h.ne e.symm), by rw [hL]; exact h.perm, fun p hp => (h.data p hp).kept k (fun j e x => by
    obtain ⟨cur, h1, _⟩ := (h.data p hp).block e
    have hb := h.box
    unfold BoxAt at hb
    rw [x, hb] at h1
    injection h1 with h1
    injection h1 with _ h1
    exact absurd h1 (by decide)), h.sep, h.base, ok⟩
end

set_option maxHeartbeats 1000000 in
theorem dDown_any (base db mb : Nat) (L : List (ByteArray × Fi)) (D : DA) (w : World) (h : DK base w db mb L D) :
    Calls Tryd.prog 33 #[.pointer (some ⟨db, 0, none⟩)] w fun e w' => e = .returned (.bool D.down) ∧ w = w' := by
  have c3 := h.c.2.2.2.1
  clear h
  go_enter Tryd.func33, Tryd.ntmps33
  go_wp2
  go_ret
  exact ⟨rfl, rfl⟩
set_option maxHeartbeats 1000000 in
theorem dCalls_any (base db mb : Nat) (L : List (ByteArray × Fi)) (D : DA) (w : World) (h : DK base w db mb L D) :
    Calls Tryd.prog 80 #[.pointer (some ⟨db, 0, none⟩)] w fun e w' => e = .returned (.int .i64 D.calls) ∧ w = w' := by
  have c3 := h.c.2.2.2.2.1
  clear h
  go_enter Tryd.func80, Tryd.ntmps80
  go_wp2
  go_ret
  exact ⟨rfl, rfl⟩
/-- What Used answers. -/
def usedA (D : DA) : Int := if D.down = true then 0 else (usedL D.L : Int)
set_option maxHeartbeats 1000000 in
theorem dUsed_any (base db mb : Nat) (L : List (ByteArray × Fi)) (D : DA) (w : World) (h : DK base w db mb L D) :
    Calls Tryd.prog 63 #[.pointer (some ⟨db, 0, none⟩)] w fun e w' => e = .returned (.int .i64 (usedA D)) ∧ w = w' := by
  have c2 := h.c.2.2.1
  have c3 := h.c.2.2.2.1
  clear h
  unfold usedA
  obtain ⟨u, hu⟩ : ∃ u, u = (usedL D.L : Int) := ⟨_, rfl⟩
  rw [← hu] at c2 ⊢
  clear hu
  cases hd : D.down
  · rw [hd] at c3
    clear hd
    go_enter Tryd.func63, Tryd.ntmps63
    go_wp2
    go_ret
    exact ⟨rfl, rfl⟩
  · rw [hd] at c3
    clear hd
    go_enter Tryd.func63, Tryd.ntmps63
    go_wp2
    go_ret
    exact ⟨rfl, rfl⟩
end Go.Proofs.YtficodklidaheaaDoor
