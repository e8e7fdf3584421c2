/- Texts put together: F16, F17, WB, S3. -/
import Derived.Test.YtficodklidaheaaDoorZz7
import Derived.Test.YtficodklidaheaaDoorZz4
import Derived.Test.YtficodklidaheaaDoorZz8
/- package limnographref04: Same. -/
namespace Go.Proofs.YtficodklidaheaaDoor
open Go.RowKit
attribute [local go_sem ↓] Go.wp_at_zero Go.wp_at_succ

/-- The value v is a slice of slices that read as the rows of bytes Ls. -/
def RowsAt (w : World) (v : Value) (Ls : List (List Nat)) : Prop :=
  ∃ ao c, v = .slice ao Ls.length c ∧ ∀ i, i < Ls.length → ∃ a ai ci, ao = some a ∧ w.cell? (a.add i) = some (.slice ai (Ls.getD i []).length ci) ∧ Row8 w (.slice ai (Ls.getD i []).length ci) (Ls.getD i [])
theorem RowsAt.kept {w w' : World} {v : Value} {Ls : List (List Nat)} (h : RowsAt w v Ls) (hk : Kept (fun _ => False) w w') : RowsAt w' v Ls := by
  obtain ⟨ao, c, rfl, hc⟩ := h
  refine ⟨ao, c, rfl, fun i hi => ?_⟩
  obtain ⟨a, ai, ci, rfl, h1, h2⟩ := hc i hi
  exact ⟨a, ai, ci, rfl, hk.cell h1 (fun x => x), h2.kept hk⟩
theorem RowsAt.take {w : World} {ao : Option Addr} {n c k : Nat} {Ls : List (List Nat)} (h : RowsAt w (.slice ao n c) Ls) (hk : k ≤ Ls.length) : RowsAt w (.slice ao k c) (Ls.take k) := by
  obtain ⟨ao', c', e, hc⟩ := h
  injection e with e1 e2 e3
  subst e1; subst e3
  have hl : (Ls.take k).length = k := by rw [List.length_take]; omega
  refine ⟨ao, c, by rw [hl], fun i hi => ?_⟩
  rw [hl] at hi
  have e : (Ls.take k).getD i [] = Ls.getD i [] := by simp only [List.getD_eq_getElem?_getD, List.getElem?_take, if_pos hi]
  rw [e]
  exact hc i (by omega)

set_option maxHeartbeats 1000000 in
theorem same_any (va vb : Value) (L : List (List Nat)) (hL : L.length ≤ 1000000000) (w : World) (HA : RowsAt w va L) (HB : RowsAt w vb L) :
    Calls Tryd.prog 17 #[va, vb] w fun e w' => e = .returned (.bool true) ∧ Kept (fun _ => False) w w' := by
  obtain ⟨ao, c, rfl, ha⟩ := HA
  obtain ⟨bo, d, rfl, hb⟩ := HB
  have HA := Lib.hid ha
  have HB := Lib.hid hb
  obtain ⟨N, hN⟩ : ∃ N, N = L.length := ⟨_, rfl⟩
  rw [← hN] at HA HB hL ⊢
  clear ha hb hN
  have en : ((N : Int) != (N : Int)) = false := by simp
  go_enter Tryd.func17, Tryd.ntmps17
  go_wp2
  go_loopw [5] (fun t wr => ∃ j : Nat, j ≤ N ∧ t = .int .i64 j ∧ Kept (fun _ => False) w wr) (fun t _ => N - (intOf t).toNat)
  case atStart => exact ⟨0, by omega, rfl, Kept.refl _ _⟩
  case round =>
    obtain ⟨j, hj, rfl, hk⟩ := hrel
    have HK := Lib.hid hk
    clear hk
    by_cases hd : j < N
    · have hd' : (j : Int) < (N : Int) := by omega
      have hj0 : (0 : Int) ≤ (j : Int) := by omega
      obtain ⟨a, ai, ci, rfl, h1, h2⟩ := HA.out j hd
      obtain ⟨b, bi, di, rfl, h3, h4⟩ := HB.out j hd
      have g1 := HK.out.cell h1 (fun x => x)
      have g3 := HK.out.cell h3 (fun x => x)
      have q2 := fun n => conv8 (h2.kept (HK.out.drewN n))
      have q4 := fun n => conv8 (h4.kept (HK.out.drewN n))
      obtain ⟨S, hS⟩ : ∃ S, S = strN (L.getD j []) := ⟨_, rfl⟩
      obtain ⟨M, hM⟩ : ∃ M, M = (L.getD j []).length := ⟨_, rfl⟩
      rw [← hS] at q2 q4
      rw [← hM] at q2 q4 g1 g3
      clear h1 h2 h3 h4 hS hM
      go_wp2
      go_quiet (fail)
      go_wp2
      go_roundw
      case rel => exact ⟨j + 1, hd, by go_num, HK.out.drewN _⟩
      case measure => simp [intOf]; omega
    · obtain rfl : j = N := by omega
      go_wp2
      go_ret
      exact ⟨rfl, HK.out⟩
end Go.Proofs.YtficodklidaheaaDoor
/- Frames one behind the other, plainly; Bulk. -/
namespace Go.Proofs.YtficodklidaheaaDoor
open Go.RowKit
attribute [local go_sem ↓] Go.wp_at_zero Go.wp_at_succ

/-- Frames one behind the other. -/
def allL (Ls : List (List Nat)) : List Nat := (Ls.map frameL).flatten
theorem allL_append (a b : List (List Nat)) : allL (a ++ b) = allL a ++ allL b := by simp [allL]
theorem allL_one (l : List Nat) : allL [l] = frameL l := by simp [allL]
theorem allL_cons (l : List Nat) (Ls : List (List Nat)) : allL (l :: Ls) = frameL l ++ allL Ls := by simp [allL]
theorem scan_frames (Ls : List (List Nat)) (hl : ∀ l ∈ Ls, l.length ≤ 65536) (r : List Nat) (L : List (List Nat)) (u e : Nat) (h : ScanR r L u e) : ScanR (allL Ls ++ r) (Ls ++ L) ((allL Ls).length + u) e := by
  induction Ls with
  | nil => simpa [allL] using h
  | cons l Ls ih =>
    have h1 := ih (fun x hx => hl x (List.mem_cons_of_mem _ hx))
    have h2 := ScanR.frame (hl l (by simp)) h1
    rw [allL_cons, List.append_assoc, List.length_append, frameL_len, Nat.add_assoc]
    exact h2
/-- A frame that is cut off. -/
theorem cut_first (p : List Nat) (hp : p.length ≤ 65536) (t : Nat) (h0 : 0 < t) (ht : t < 9 + p.length) : firstE ((frameL p).take t) = 2 := by
  have hl : ((frameL p).take t).length = t := by rw [List.length_take, frameL_len]; omega
  have h1 : ((frameL p).take t).getD 0 0 = 165 := by
    simp only [List.getD_eq_getElem?_getD, List.getElem?_take, if_pos h0]
    have := frame_cons p []
    rw [List.append_nil] at this
    rw [this]; rfl
  unfold firstE
  rw [hl, h1, if_neg (by omega), if_neg (by omega)]
  by_cases h9 : t < 9
  · rw [if_pos h9]
  · have hs : sizeL ((frameL p).take t) = p.length := by
      unfold sizeL
      have e : (((frameL p).take t).drop 1).take 4 = ((frameL p ++ []).drop 1).take 4 := by
        rw [List.append_nil, List.drop_take, List.take_take, Nat.min_eq_left (by omega)]
      rw [e, frame_drop1, num_four _ (by omega)]
    rw [if_neg h9, hs, if_neg (by omega), if_pos (by omega)]
/-- Frames, cut off anywhere. -/
theorem scan_cut (Ls : List (List Nat)) (hl : ∀ l ∈ Ls, l.length ≤ 65536) (k m : Nat) (hm : m ≤ Ls.length) (h1 : (allL (Ls.take m)).length ≤ k) (hk : k ≤ (allL Ls).length) (h2 : ∀ q, q ≤ Ls.length → m < q → k < (allL (Ls.take q)).length) :
    ∃ e, ScanR ((allL Ls).take k) (Ls.take m) (allL (Ls.take m)).length e ∧ ((e = 0 ∧ (allL (Ls.take m)).length = k) ∨ (e = 2 ∧ (allL (Ls.take m)).length ≠ k)) := by
  have hsp : allL Ls = allL (Ls.take m) ++ allL (Ls.drop m) := by rw [← allL_append, List.take_append_drop]
  have htk : (allL Ls).take k = allL (Ls.take m) ++ (allL (Ls.drop m)).take (k - (allL (Ls.take m)).length) := by
    rw [hsp, List.take_append, List.take_of_length_le h1]
  have hlt : ∀ l ∈ Ls.take m, l.length ≤ 65536 := fun l h => hl l (List.mem_of_mem_take h)
  by_cases he : (allL (Ls.take m)).length = k
  · refine ⟨0, ?_, .inl ⟨rfl, he⟩⟩
    rw [htk, he, Nat.sub_self, List.take_zero]
    have := scan_frames (Ls.take m) hlt [] [] 0 0 .done
    simpa [he] using this
  · refine ⟨2, ?_, .inr ⟨rfl, he⟩⟩
    have hmn : m < Ls.length := by
      rcases Nat.lt_or_eq_of_le hm with h | h
      · exact h
      · subst h
        rw [List.take_length] at he h1
        omega
    obtain ⟨p, hp⟩ : ∃ p, p = Ls[m] := ⟨_, rfl⟩
    have hd : Ls.drop m = p :: Ls.drop (m + 1) := by rw [hp]; exact List.drop_eq_getElem_cons hmn
    have hq := h2 (m + 1) (by omega) (by omega)
    have hsucc : Ls.take (m + 1) = Ls.take m ++ [p] := by rw [hp, List.take_add_one, List.getElem?_eq_getElem hmn]; rfl
    rw [hsucc, allL_append, allL_one, List.length_append, frameL_len] at hq
    have hpl : p.length ≤ 65536 := hl p (by rw [hp]; exact List.getElem_mem hmn)
    have ht : (allL (Ls.drop m)).take (k - (allL (Ls.take m)).length) = (frameL p).take (k - (allL (Ls.take m)).length) := by
      rw [hd, allL_cons, List.take_append_of_le_length (by rw [frameL_len]; omega)]
    have hf := cut_first p hpl (k - (allL (Ls.take m)).length) (by omega) (by omega)
    have hne : (frameL p).take (k - (allL (Ls.take m)).length) ≠ [] := by
      intro e
      have := congrArg List.length e
      rw [List.length_take, frameL_len] at this
      simp at this
      omega
    have hb := ScanR.bad _ hne (by rw [hf]; omega)
    rw [hf] at hb
    have := scan_frames (Ls.take m) hlt _ [] 0 2 hb
    rw [htk, ht]
    simpa using this

set_option maxHeartbeats 1000000 in
theorem bulk_any (va : Value) (L : List (List Nat)) (hL : L.length ≤ 9223372036854775807) (w : World) (HA : RowsAt w va L) (hb : ∀ l ∈ L, l.length ≤ 9223372036854775807) :
    Calls Tryd.prog 18 #[va, .int .i64 3000] w fun e w' => ∃ n : Nat, e = .returned (.int .i64 n) ∧ (n ≤ 3000 → ∀ l ∈ L, l.length ≤ 3000) ∧ w = w' := by
  obtain ⟨ao, c, rfl, ha⟩ := HA
  have HA := Lib.hid ha
  obtain ⟨N, hN⟩ : ∃ N, N = L.length := ⟨_, rfl⟩
  have HB : Hid (∀ i, i < N → (L.getD i []).length ≤ 9223372036854775807) := Lib.hid fun i hi => hb _ (by rw [List.getD_eq_getElem?_getD, List.getElem?_eq_getElem (by omega)]; simp)
  have HE : Hid (∀ n : Nat, (n ≤ 3000 → ∀ i, i < N → (L.getD i []).length ≤ 3000) → n ≤ 3000 → ∀ l ∈ L, l.length ≤ 3000) := Lib.hid fun n h hn l hl => by
    obtain ⟨i, hi, rfl⟩ := List.getElem_of_mem hl
    have := h hn i (by omega)
    rwa [List.getD_eq_getElem?_getD, List.getElem?_eq_getElem hi] at this
  rw [← hN] at HA hL ⊢
  clear ha hN hb
  go_enter Tryd.func18, Tryd.ntmps18
  go_wp2
  go_loopw [5, 6] (fun x t wr => ∃ n j : Nat, j ≤ N ∧ n ≤ 6002 ∧ x = .int .i64 n ∧ t = .int .i64 j ∧ (n ≤ 3000 → ∀ i, i < j → (L.getD i []).length ≤ 3000) ∧ w = wr) (fun _ t _ => N - (intOf t).toNat)
  case atStart => exact ⟨0, 0, by omega, by omega, rfl, rfl, fun _ i hi => absurd hi (by omega), rfl⟩
  case round =>
    obtain ⟨n, j, hj, hn, rfl, rfl, hall, rfl⟩ := hrel
    have HALL := Lib.hid hall
    clear hall
    by_cases hd : j < N
    · have hd' : (j : Int) < (N : Int) := by omega
      have hj0 : (0 : Int) ≤ (j : Int) := by omega
      by_cases hn3 : n ≤ 3000
      · have hn' : (n : Int) ≤ 3000 := by omega
        obtain ⟨a, ai, ci, rfl, h1, h2⟩ := HA.out j hd
        have hlen := HB.out j hd
        have HALL2 : Hid (∀ M, M = (L.getD j []).length → ∀ q : Nat, ((M ≤ 3001 ∧ q = n + 1 + M) ∨ (3001 < M ∧ q = n + 1 + 3001)) → q ≤ 3000 → ∀ i, i < j + 1 → (L.getD i []).length ≤ 3000) := Lib.hid fun M hM q hq hq3 i hi => by
          rcases Nat.lt_or_eq_of_le (Nat.le_of_lt_succ hi) with h | rfl
          · exact HALL.out hn3 i h
          · omega
        obtain ⟨M, hM⟩ : ∃ M, M = (L.getD j []).length := ⟨_, rfl⟩
        have HALL3 := Lib.hid (HALL2.out M hM)
        rw [← hM] at h1 hlen
        clear h2 hM
        have e1 : IntKind.i64.wrap ((n : Int) + 1) = ((n + 1 : Nat) : Int) := by rw [IntWalk.i64_in _ ⟨by omega, by omega⟩]; omega
        by_cases hm : M ≤ 3001
        · have cm : min (M : Int) 3001 = (M : Int) := by omega
          have e2 : IntKind.i64.wrap (((n + 1 : Nat) : Int) + (M : Int)) = ((n + 1 + M : Nat) : Int) := by rw [IntWalk.i64_in _ ⟨by omega, by omega⟩]; omega
          go_wp2
          go_roundw
          case rel => exact ⟨n + 1 + M, j + 1, hd, by omega, by go_num, by go_num, fun h => HALL3.out _ (.inl ⟨hm, rfl⟩) h, trivial⟩
          case measure => simp [intOf]; omega
        · have cm : min (M : Int) 3001 = 3001 := by omega
          have e2 : IntKind.i64.wrap (((n + 1 : Nat) : Int) + 3001) = ((n + 1 + 3001 : Nat) : Int) := by rw [IntWalk.i64_in _ ⟨by omega, by omega⟩]; omega
          go_wp2
          go_roundw
          case rel => exact ⟨n + 1 + 3001, j + 1, hd, by omega, by go_num, by go_num, fun h => HALL3.out _ (.inr ⟨by omega, rfl⟩) h, trivial⟩
          case measure => simp [intOf]; omega
      · have hn' : decide ((n : Int) ≤ 3000) = false := decide_eq_false (by omega)
        have HX : Hid (∀ l ∈ L, l.length ≤ 3000 ∨ 3000 < n) := Lib.hid fun _ _ => .inr (by omega)
        go_wp2
        go_ret
        exact ⟨n, rfl, fun h => absurd h hn3, rfl⟩
    · obtain rfl : j = N := by omega
      have HF := Lib.hid (HE.out n HALL.out)
      go_wp2
      go_ret
      exact ⟨n, rfl, HF.out, rfl⟩
end Go.Proofs.YtficodklidaheaaDoor
/- Layer 20 plainly: what Save and Load do. -/
namespace Go.Proofs.YtficodklidaheaaDoor
open Go.RowKit

/-- What stands behind the name of the new file. -/
def nwN : ByteArray := { data := #[46, 110, 101, 119] }
def thereD (D : DA) (s : ByteArray) : Bool := !D.down && (getM D.L s).isSome
def tidyD (D : DA) (s : ByteArray) : DA × Int := if thereD D s = true then removeD D s else (D, 0)
/-- One call behind another: only where the first one went well. -/
def thenD (r : DA × Int) (f : DA → DA × Int) : DA × Int := if r.2 = 0 then f r.1 else r
/-- The calls of Save. -/
def triesD (D : DA) (nx s : ByteArray) (b : List Nat) : DA × Int :=
  thenD (tidyD D nx) fun D => thenD (createD D nx) fun D => thenD (appendD D nx b) fun D => thenD (syncD D nx) fun D => renameD D nx s
/-- What is undone behind an error. -/
def undoD (r : DA × Int) (nx : ByteArray) : DA × Int := if r.2 = 0 ∨ r.2 = 13 then r else ((tidyD r.1 nx).1, r.2)
def saveD (D : DA) (s : ByteArray) (l : List Nat) : DA × Int :=
  if 28 < s.size then (D, 3) else if 65536 < l.length then (D, 4) else undoD (triesD D (s ++ nwN) s (frameL l)) (s ++ nwN)
/-- What a file's bytes are, loaded: the payload, whether it is there, an error. -/
def loadF : Option PF → List Nat × Bool × Int
  | none => ([], false, 0)
  | some f => if firstE f.b = 0 ∧ 9 + sizeL f.b = f.b.length then (payL f.b, true, 0) else ([], false, 15)
def loadD (D : DA) (s : ByteArray) : DA × List Nat × Bool × Int :=
  if D.down = true then (D, [], false, 13)
  else if (tidyD D (s ++ nwN)).2 = 0 then ((tidyD D (s ++ nwN)).1, loadF (getM (tidyD D (s ++ nwN)).1.L s)) else ((tidyD D (s ++ nwN)).1, [], false, (tidyD D (s ++ nwN)).2)

theorem tidyD_ok {D : DA} (h : DOk D) (s : ByteArray) : DOk (tidyD D s).1 := by
  unfold tidyD
  split
  · exact removeD_ok h s
  · exact h
theorem thenD_ok {r : DA × Int} {f : DA → DA × Int} (h : DOk r.1) (hf : ∀ D, DOk D → DOk (f D).1) : DOk (thenD r f).1 := by
  unfold thenD
  split
  · exact hf _ h
  · exact h
/-- Behind a call's error but ErrDown the disk is up. -/
def UpErr (r : DA × Int) : Prop := r.2 ≠ 0 → r.2 ≠ 13 → r.1.down = false
theorem beginD_up (D : DA) : UpErr (beginD D) ∧ ((beginD D).2 = 0 → (beginD D).1.down = false) := by
  unfold UpErr beginD
  by_cases h1 : D.down = true
  · rw [if_pos h1]; exact ⟨fun _ h => absurd rfl h, fun h => by cases h⟩
  rw [if_neg h1]
  have hd : (countedD D).down = false := by
    show D.down = false
    cases hx : D.down
    · rfl
    · exact absurd hx h1
  by_cases h2 : D.crashIn = 0
  · rw [if_pos h2]; exact ⟨fun _ h => absurd rfl h, fun h => by cases h⟩
  rw [if_neg h2]
  by_cases h3 : D.failIn = 0
  · rw [if_pos h3]; exact ⟨fun _ _ => hd, fun _ => hd⟩
  · rw [if_neg h3]; exact ⟨fun _ _ => hd, fun _ => hd⟩
theorem behindD_up {D : DA} {f : DA → DA × Int} (hf : ∀ D, D.down = false → UpErr (f D)) : UpErr (behindD D f) := by
  unfold behindD
  by_cases h : (beginD D).2 = 0
  · rw [if_pos h]; exact hf _ ((beginD_up D).2 h)
  · rw [if_neg h]; exact (beginD_up D).1
theorem withF_up {D : DA} {s : ByteArray} {g : PF → DA → DA × Int} (hd : D.down = false) (hg : ∀ f, UpErr (g f D)) : UpErr (withF s g D) := by
  unfold withF
  split
  · exact fun _ _ => hd
  · exact hg _
theorem removeD_up (D : DA) (s : ByteArray) : UpErr (removeD D s) := behindD_up fun _ hd => withF_up hd fun _ h => absurd rfl h
theorem createD_up (D : DA) (s : ByteArray) : UpErr (createD D s) := behindD_up fun D hd => by
  unfold createF
  split
  · exact fun _ _ => hd
  split
  · exact fun _ _ => hd
  split
  · exact fun _ _ => hd
  · exact fun h => absurd rfl h
theorem appendD_up (D : DA) (s : ByteArray) (b : List Nat) : UpErr (appendD D s b) := behindD_up fun D hd => withF_up hd fun f => by
  split
  · exact fun _ _ => hd
  · exact fun h => absurd rfl h
theorem syncD_up (D : DA) (s : ByteArray) : UpErr (syncD D s) := behindD_up fun _ hd => withF_up hd fun _ h => absurd rfl h
theorem renameD_up (D : DA) (a c : ByteArray) : UpErr (renameD D a c) := behindD_up fun D hd => by
  split
  · exact fun _ _ => hd
  · exact withF_up hd fun _ h => absurd rfl h
theorem tidyD_up (D : DA) (s : ByteArray) : UpErr (tidyD D s) := by
  unfold tidyD
  split
  · exact removeD_up D s
  · exact fun h => absurd rfl h
theorem thenD_up {r : DA × Int} {f : DA → DA × Int} (h : UpErr r) (hf : ∀ D, UpErr (f D)) : UpErr (thenD r f) := by
  unfold thenD
  split
  · exact hf _
  · exact h
theorem triesD_up (D : DA) (nx s : ByteArray) (b : List Nat) : UpErr (triesD D nx s b) :=
  thenD_up (tidyD_up D nx) fun D => thenD_up (createD_up D nx) fun D => thenD_up (appendD_up D nx b) fun D => thenD_up (syncD_up D nx) fun D => renameD_up D nx s
theorem triesD_ok {D : DA} (h : DOk D) (nx s : ByteArray) {b : List Nat} (hb : ∀ x ∈ b, x < 256) : DOk (triesD D nx s b).1 :=
  thenD_ok (tidyD_ok h nx) fun _ h => thenD_ok (createD_ok h nx) fun _ h => thenD_ok (appendD_ok h nx hb) fun _ h => thenD_ok (syncD_ok h nx) fun _ h => renameD_ok h nx s
theorem undoD_ok {r : DA × Int} (h : DOk r.1) (nx : ByteArray) : DOk (undoD r nx).1 := by
  unfold undoD
  split
  · exact h
  · exact tidyD_ok h nx
end Go.Proofs.YtficodklidaheaaDoor
/- Layer 18: which texts are names: isName, the document's Name (written by tools/gen_XS3.py). -/
namespace Go.Proofs.YtficodklidaheaaDoor
open Go.RowKit
attribute [local go_sem ↓] Go.wp_at_zero Go.wp_at_succ

theorem nameB_no {s : ByteArray} (h : ¬ (1 ≤ s.size ∧ s.size ≤ 32)) : nameB s = false := by
  cases e : nameB s
  · rfl
  · exact absurd (nameB_size e) h
theorem nameB_at {s : ByteArray} {i : Nat} (hi : i < s.size) (h : nameC (chr s i) = false) : nameB s = false := by
  cases e : nameB s
  · rfl
  · unfold nameB at e
    simp only [Bool.and_eq_true, List.all_eq_true] at e
    have := e.2 _ (List.mem_of_getElem? (bl_get hi))
    rw [h] at this
    cases this
theorem nameB_yes {s : ByteArray} (h : 1 ≤ s.size ∧ s.size ≤ 32) (ha : ∀ j, j < s.size → nameC (chr s j) = true) : nameB s = true := by
  unfold nameB
  simp only [Bool.and_eq_true, List.all_eq_true, decide_eq_true_eq]
  refine ⟨h, fun x hx => ?_⟩
  obtain ⟨j, hj⟩ := List.mem_iff_getElem?.1 hx
  have hl : j < s.size := by
    have := (List.getElem?_eq_some_iff.1 hj).1
    rwa [bl_length] at this
  rw [bl_get hl] at hj
  injection hj with hj
  rw [← hj]
  exact ha j hl
theorem all_succN {s : ByteArray} {i : Nat} (h : ∀ j, j < i → nameC (chr s j) = true) (hi : nameC (chr s i) = true) : ∀ j, j < i + 1 → nameC (chr s j) = true := fun j hj => by
  by_cases e : j = i
  · rw [e]; exact hi
  · exact h j (by omega)

set_option maxHeartbeats 4000000 in
theorem isName_any (s : ByteArray) (w : World) (hs : s.size ≤ 9223372036854775807) :
    Calls Tryd.prog 64 #[.string s] w fun e w' => e = .returned (.bool (nameB s)) ∧ w = w' := by
  have hS : ∀ i, i < s.size → ∀ w, (Instr.index 9 (.string s) (.int .i64 (i : Int))).run Tryd.prog w = .ok (.int .u8 (chr s i : Int)) w := fun i hi w => run_chr Tryd.underlying9 s i hi w
  by_cases h0 : s.size = 0
  · have HR := Lib.hid (nameB_no (s := s) (by omega))
    have q : ((s.size : Int) == 0) = true := by simp [h0]
    have q' : (s.size == 0) = true := by simp [h0]
    clear hS h0
    go_enter Tryd.func64, Tryd.ntmps64
    go_wp2
    go_ret
    exact ⟨by rw [HR.out]; rfl, rfl⟩
  have q : ((s.size : Int) == 0) = false := by simp [h0]
  have q' : (s.size == 0) = false := by simp [h0]
  by_cases h1 : 32 < s.size
  · have HR := Lib.hid (nameB_no (s := s) (by omega))
    have q1 : (32 : Int) < (s.size : Int) := by omega
    have q2 : decide (32 < s.size) = true := decide_eq_true h1
    clear hS h0
    go_enter Tryd.func64, Tryd.ntmps64
    go_wp2
    go_ret
    exact ⟨by rw [HR.out]; rfl, rfl⟩
  have q1 : ¬ (32 : Int) < (s.size : Int) := by omega
  have q2 : decide (32 < s.size) = false := decide_eq_false h1
  have HS := Lib.hid hS
  have HN := Lib.hid (show 1 ≤ s.size ∧ s.size ≤ 32 from ⟨by omega, by omega⟩)
  obtain ⟨n, hn⟩ : ∃ n, n = s.size := ⟨_, rfl⟩
  have HNN := Lib.hid hn
  clear hS h0 h1
  go_enter Tryd.func64, Tryd.ntmps64
  go_wp2
  rw [← hn]
  clear hs q q' q1 q2 hn
  go_loopg [15] n (fun g s0 wr => ∃ i : Nat, i ≤ n ∧ g = n - i ∧ s0 = .int .i64 i ∧ w = wr ∧ ∀ j, j < i → nameC (chr s j) = true)
  case atStart => exact ⟨0, Nat.zero_le _, rfl, rfl, rfl, fun j hj => by omega⟩
  case round =>
    obtain ⟨i, hin, rfl, rfl, rfl, ha⟩ := hrel
    have HA := Lib.hid ha
    clear ha
    by_cases hd : i < n
    · have hdi : (i : Int) < (n : Int) := by omega
      skip
      have HD := Lib.hid hd
      have wi : IntKind.i64.wrap ((i : Int) + 1) = ((i + 1 : Nat) : Int) := by rw [IntWalk.i64_in _ ⟨by omega, by have := HN.out; have := HNN.out; omega⟩]; omega
      have hix := HS.out i (by have := HNN.out; omega)
      have hlt := chr_lt s i
      obtain ⟨c, hc⟩ : ∃ c, c = chr s i := ⟨_, rfl⟩
      rw [← hc] at hix hlt
      have HC := Lib.hid hc
      clear hd hin hc
      have hcase : (c < 45) ∨ (c = 45) ∨ (c = 46) ∨ (c = 47) ∨ (48 ≤ c ∧ c ≤ 57) ∨ (58 ≤ c ∧ c ≤ 96) ∨ (97 ≤ c ∧ c ≤ 122) ∨ (123 ≤ c) := by omega
      rcases hcase with c1 | rfl | rfl | rfl | ⟨c1, c2⟩ | ⟨c1, c2⟩ | ⟨c1, c2⟩ | c1
      · have HR := Lib.hid (nameB_at (s := s) (i := i) (by have := HNN.out; have := HD.out; omega) (by rw [← HC.out]; unfold nameC; simp; omega))
        have g1 : (c : Int) < 97 := by omega
        have g1d : decide (c < 97) = true := decide_eq_true (by omega)
        have g2 : ¬ (122 : Int) < (c : Int) := by omega
        have g2d : decide (122 < c) = false := decide_eq_false (by omega)
        have g3 : (c : Int) < 48 := by omega
        have g3d : decide (c < 48) = true := decide_eq_true (by omega)
        have g4 : ¬ (57 : Int) < (c : Int) := by omega
        have g4d : decide (57 < c) = false := decide_eq_false (by omega)
        have g5 : ((c : Int) != 46) = true := bneT (by omega)
        have g5d : (c != 46) = true := by simp; omega
        have g6 : ((c : Int) != 45) = true := bneT (by omega)
        have g6d : (c != 45) = true := by simp; omega
        clear c1
        go_wp2
        go_ret
        exact ⟨by rw [HR.out]; rfl, rfl⟩
      · have HOK := Lib.hid (show nameC (chr s i) = true from by rw [← HC.out]; rfl)
        go_wp2
        go_roundg (n - (i + 1))
        case measure => have := HD.out; omega
        case rel => exact ⟨i + 1, HD.out, rfl, rfl, rfl, all_succN HA.out HOK.out⟩
      · have HOK := Lib.hid (show nameC (chr s i) = true from by rw [← HC.out]; rfl)
        go_wp2
        go_roundg (n - (i + 1))
        case measure => have := HD.out; omega
        case rel => exact ⟨i + 1, HD.out, rfl, rfl, rfl, all_succN HA.out HOK.out⟩
      · have HR := Lib.hid (nameB_at (s := s) (i := i) (by have := HNN.out; have := HD.out; omega) (by rw [← HC.out]; rfl))
        go_wp2
        go_ret
        exact ⟨by rw [HR.out]; rfl, rfl⟩
      · have HOK := Lib.hid (show nameC (chr s i) = true from by rw [← HC.out]; unfold nameC; simp; omega)
        have g1 : (c : Int) < 97 := by omega
        have g1d : decide (c < 97) = true := decide_eq_true (by omega)
        have g2 : ¬ (122 : Int) < (c : Int) := by omega
        have g2d : decide (122 < c) = false := decide_eq_false (by omega)
        have g3 : ¬ (c : Int) < 48 := by omega
        have g3d : decide (c < 48) = false := decide_eq_false (by omega)
        have g4 : ¬ (57 : Int) < (c : Int) := by omega
        have g4d : decide (57 < c) = false := decide_eq_false (by omega)
        have g5 : ((c : Int) != 46) = true := bneT (by omega)
        have g5d : (c != 46) = true := by simp; omega
        have g6 : ((c : Int) != 45) = true := bneT (by omega)
        have g6d : (c != 45) = true := by simp; omega
        clear c1 c2
        go_wp2
        go_roundg (n - (i + 1))
        case measure => have := HD.out; omega
        case rel => exact ⟨i + 1, HD.out, rfl, rfl, rfl, all_succN HA.out HOK.out⟩
      · have HR := Lib.hid (nameB_at (s := s) (i := i) (by have := HNN.out; have := HD.out; omega) (by rw [← HC.out]; unfold nameC; simp; omega))
        have g1 : (c : Int) < 97 := by omega
        have g1d : decide (c < 97) = true := decide_eq_true (by omega)
        have g2 : ¬ (122 : Int) < (c : Int) := by omega
        have g2d : decide (122 < c) = false := decide_eq_false (by omega)
        have g3 : ¬ (c : Int) < 48 := by omega
        have g3d : decide (c < 48) = false := decide_eq_false (by omega)
        have g4 : (57 : Int) < (c : Int) := by omega
        have g4d : decide (57 < c) = true := decide_eq_true (by omega)
        have g5 : ((c : Int) != 46) = true := bneT (by omega)
        have g5d : (c != 46) = true := by simp; omega
        have g6 : ((c : Int) != 45) = true := bneT (by omega)
        have g6d : (c != 45) = true := by simp; omega
        clear c1 c2
        go_wp2
        go_ret
        exact ⟨by rw [HR.out]; rfl, rfl⟩
      · have HOK := Lib.hid (show nameC (chr s i) = true from by rw [← HC.out]; unfold nameC; simp; omega)
        have g1 : ¬ (c : Int) < 97 := by omega
        have g1d : decide (c < 97) = false := decide_eq_false (by omega)
        have g2 : ¬ (122 : Int) < (c : Int) := by omega
        have g2d : decide (122 < c) = false := decide_eq_false (by omega)
        have g3 : ¬ (c : Int) < 48 := by omega
        have g3d : decide (c < 48) = false := decide_eq_false (by omega)
        have g4 : (57 : Int) < (c : Int) := by omega
        have g4d : decide (57 < c) = true := decide_eq_true (by omega)
        have g5 : ((c : Int) != 46) = true := bneT (by omega)
        have g5d : (c != 46) = true := by simp; omega
        have g6 : ((c : Int) != 45) = true := bneT (by omega)
        have g6d : (c != 45) = true := by simp; omega
        clear c1 c2
        go_wp2
        go_roundg (n - (i + 1))
        case measure => have := HD.out; omega
        case rel => exact ⟨i + 1, HD.out, rfl, rfl, rfl, all_succN HA.out HOK.out⟩
      · have HR := Lib.hid (nameB_at (s := s) (i := i) (by have := HNN.out; have := HD.out; omega) (by rw [← HC.out]; unfold nameC; simp; omega))
        have g1 : ¬ (c : Int) < 97 := by omega
        have g1d : decide (c < 97) = false := decide_eq_false (by omega)
        have g2 : (122 : Int) < (c : Int) := by omega
        have g2d : decide (122 < c) = true := decide_eq_true (by omega)
        have g3 : ¬ (c : Int) < 48 := by omega
        have g3d : decide (c < 48) = false := decide_eq_false (by omega)
        have g4 : (57 : Int) < (c : Int) := by omega
        have g4d : decide (57 < c) = true := decide_eq_true (by omega)
        have g5 : ((c : Int) != 46) = true := bneT (by omega)
        have g5d : (c != 46) = true := by simp; omega
        have g6 : ((c : Int) != 45) = true := bneT (by omega)
        have g6d : (c != 45) = true := by simp; omega
        clear c1
        go_wp2
        go_ret
        exact ⟨by rw [HR.out]; rfl, rfl⟩
    · have hdi : ¬ (i : Int) < (n : Int) := by omega
      skip
      have hie : i = n := by omega
      have HR := Lib.hid (nameB_yes HN.out (fun j hj => HA.out j (by have := HNN.out; omega)))
      clear hd hin hie
      go_wp2
      go_ret
      exact ⟨by rw [HR.out]; rfl, rfl⟩
set_option maxHeartbeats 4000000 in
theorem refName_any (s : ByteArray) (w : World) (hs : s.size ≤ 9223372036854775807) :
    Calls Tryd.prog 72 #[.string s] w fun e w' => e = .returned (.bool (nameB s)) ∧ w = w' := by
  have hS : ∀ i, i < s.size → ∀ w, (Instr.index 9 (.string s) (.int .i64 (i : Int))).run Tryd.prog w = .ok (.int .u8 (chr s i : Int)) w := fun i hi w => run_chr Tryd.underlying9 s i hi w
  by_cases h0 : s.size = 0
  · have HR := Lib.hid (nameB_no (s := s) (by omega))
    have q : (s.size : Int) < 1 := by omega
    have q' : decide (s.size < 1) = true := decide_eq_true (by omega)
    clear hS h0
    go_enter Tryd.func72, Tryd.ntmps72
    go_wp2
    go_ret
    exact ⟨by rw [HR.out]; rfl, rfl⟩
  have q : ¬ (s.size : Int) < 1 := by omega
  have q' : decide (s.size < 1) = false := decide_eq_false (by omega)
  by_cases h1 : 32 < s.size
  · have HR := Lib.hid (nameB_no (s := s) (by omega))
    have q1 : (32 : Int) < (s.size : Int) := by omega
    have q2 : decide (32 < s.size) = true := decide_eq_true h1
    clear hS h0
    go_enter Tryd.func72, Tryd.ntmps72
    go_wp2
    go_ret
    exact ⟨by rw [HR.out]; rfl, rfl⟩
  have q1 : ¬ (32 : Int) < (s.size : Int) := by omega
  have q2 : decide (32 < s.size) = false := decide_eq_false h1
  have HS := Lib.hid hS
  have HN := Lib.hid (show 1 ≤ s.size ∧ s.size ≤ 32 from ⟨by omega, by omega⟩)
  obtain ⟨n, hn⟩ : ∃ n, n = s.size := ⟨_, rfl⟩
  have HNN := Lib.hid hn
  clear hS h0 h1
  go_enter Tryd.func72, Tryd.ntmps72
  go_wp2
  rw [← hn]
  clear hs q q' q1 q2 hn
  go_loopg [3] n (fun g s0 wr => ∃ i : Nat, i ≤ n ∧ g = n - i ∧ s0 = .int .i64 i ∧ w = wr ∧ ∀ j, j < i → nameC (chr s j) = true)
  case atStart => exact ⟨0, Nat.zero_le _, rfl, rfl, rfl, fun j hj => by omega⟩
  case round =>
    obtain ⟨i, hin, rfl, rfl, rfl, ha⟩ := hrel
    have HA := Lib.hid ha
    clear ha
    by_cases hd : i < n
    · have hdi : (i : Int) < (n : Int) := by omega
      have hls : (s.size : Int) = (n : Int) := by have := HNN.out; omega
      have HD := Lib.hid hd
      have wi : IntKind.i64.wrap ((i : Int) + 1) = ((i + 1 : Nat) : Int) := by rw [IntWalk.i64_in _ ⟨by omega, by have := HN.out; have := HNN.out; omega⟩]; omega
      have hix := HS.out i (by have := HNN.out; omega)
      have hlt := chr_lt s i
      obtain ⟨c, hc⟩ : ∃ c, c = chr s i := ⟨_, rfl⟩
      rw [← hc] at hix hlt
      have HC := Lib.hid hc
      clear hd hin hc
      have hcase : (c < 45) ∨ (c = 45) ∨ (c = 46) ∨ (c = 47) ∨ (48 ≤ c ∧ c ≤ 57) ∨ (58 ≤ c ∧ c ≤ 96) ∨ (97 ≤ c ∧ c ≤ 122) ∨ (123 ≤ c) := by omega
      rcases hcase with c1 | rfl | rfl | rfl | ⟨c1, c2⟩ | ⟨c1, c2⟩ | ⟨c1, c2⟩ | c1
      · have HR := Lib.hid (nameB_at (s := s) (i := i) (by have := HNN.out; have := HD.out; omega) (by rw [← HC.out]; unfold nameC; simp; omega))
        have g1 : ¬ (97 : Int) ≤ (c : Int) := by omega
        have g1d : decide (97 ≤ c) = false := decide_eq_false (by omega)
        have g2 : (c : Int) ≤ 122 := by omega
        have g2d : decide (c ≤ 122) = true := decide_eq_true (by omega)
        have g3 : ¬ (48 : Int) ≤ (c : Int) := by omega
        have g3d : decide (48 ≤ c) = false := decide_eq_false (by omega)
        have g4 : (c : Int) ≤ 57 := by omega
        have g4d : decide (c ≤ 57) = true := decide_eq_true (by omega)
        have g5 : ((c : Int) != 46) = true := bneT (by omega)
        have g5d : (c != 46) = true := by simp; omega
        have g6 : ((c : Int) != 45) = true := bneT (by omega)
        have g6d : (c != 45) = true := by simp; omega
        clear c1
        go_wp2
        go_ret
        exact ⟨by rw [HR.out]; rfl, rfl⟩
      · have HOK := Lib.hid (show nameC (chr s i) = true from by rw [← HC.out]; rfl)
        go_wp2
        go_roundg (n - (i + 1))
        case measure => have := HD.out; omega
        case rel => exact ⟨i + 1, HD.out, rfl, rfl, rfl, all_succN HA.out HOK.out⟩
      · have HOK := Lib.hid (show nameC (chr s i) = true from by rw [← HC.out]; rfl)
        go_wp2
        go_roundg (n - (i + 1))
        case measure => have := HD.out; omega
        case rel => exact ⟨i + 1, HD.out, rfl, rfl, rfl, all_succN HA.out HOK.out⟩
      · have HR := Lib.hid (nameB_at (s := s) (i := i) (by have := HNN.out; have := HD.out; omega) (by rw [← HC.out]; rfl))
        go_wp2
        go_ret
        exact ⟨by rw [HR.out]; rfl, rfl⟩
      · have HOK := Lib.hid (show nameC (chr s i) = true from by rw [← HC.out]; unfold nameC; simp; omega)
        have g1 : ¬ (97 : Int) ≤ (c : Int) := by omega
        have g1d : decide (97 ≤ c) = false := decide_eq_false (by omega)
        have g2 : (c : Int) ≤ 122 := by omega
        have g2d : decide (c ≤ 122) = true := decide_eq_true (by omega)
        have g3 : (48 : Int) ≤ (c : Int) := by omega
        have g3d : decide (48 ≤ c) = true := decide_eq_true (by omega)
        have g4 : (c : Int) ≤ 57 := by omega
        have g4d : decide (c ≤ 57) = true := decide_eq_true (by omega)
        have g5 : ((c : Int) != 46) = true := bneT (by omega)
        have g5d : (c != 46) = true := by simp; omega
        have g6 : ((c : Int) != 45) = true := bneT (by omega)
        have g6d : (c != 45) = true := by simp; omega
        clear c1 c2
        go_wp2
        go_roundg (n - (i + 1))
        case measure => have := HD.out; omega
        case rel => exact ⟨i + 1, HD.out, rfl, rfl, rfl, all_succN HA.out HOK.out⟩
      · have HR := Lib.hid (nameB_at (s := s) (i := i) (by have := HNN.out; have := HD.out; omega) (by rw [← HC.out]; unfold nameC; simp; omega))
        have g1 : ¬ (97 : Int) ≤ (c : Int) := by omega
        have g1d : decide (97 ≤ c) = false := decide_eq_false (by omega)
        have g2 : (c : Int) ≤ 122 := by omega
        have g2d : decide (c ≤ 122) = true := decide_eq_true (by omega)
        have g3 : (48 : Int) ≤ (c : Int) := by omega
        have g3d : decide (48 ≤ c) = true := decide_eq_true (by omega)
        have g4 : ¬ (c : Int) ≤ 57 := by omega
        have g4d : decide (c ≤ 57) = false := decide_eq_false (by omega)
        have g5 : ((c : Int) != 46) = true := bneT (by omega)
        have g5d : (c != 46) = true := by simp; omega
        have g6 : ((c : Int) != 45) = true := bneT (by omega)
        have g6d : (c != 45) = true := by simp; omega
        clear c1 c2
        go_wp2
        go_ret
        exact ⟨by rw [HR.out]; rfl, rfl⟩
      · have HOK := Lib.hid (show nameC (chr s i) = true from by rw [← HC.out]; unfold nameC; simp; omega)
        have g1 : (97 : Int) ≤ (c : Int) := by omega
        have g1d : decide (97 ≤ c) = true := decide_eq_true (by omega)
        have g2 : (c : Int) ≤ 122 := by omega
        have g2d : decide (c ≤ 122) = true := decide_eq_true (by omega)
        have g3 : (48 : Int) ≤ (c : Int) := by omega
        have g3d : decide (48 ≤ c) = true := decide_eq_true (by omega)
        have g4 : ¬ (c : Int) ≤ 57 := by omega
        have g4d : decide (c ≤ 57) = false := decide_eq_false (by omega)
        have g5 : ((c : Int) != 46) = true := bneT (by omega)
        have g5d : (c != 46) = true := by simp; omega
        have g6 : ((c : Int) != 45) = true := bneT (by omega)
        have g6d : (c != 45) = true := by simp; omega
        clear c1 c2
        go_wp2
        go_roundg (n - (i + 1))
        case measure => have := HD.out; omega
        case rel => exact ⟨i + 1, HD.out, rfl, rfl, rfl, all_succN HA.out HOK.out⟩
      · have HR := Lib.hid (nameB_at (s := s) (i := i) (by have := HNN.out; have := HD.out; omega) (by rw [← HC.out]; unfold nameC; simp; omega))
        have g1 : (97 : Int) ≤ (c : Int) := by omega
        have g1d : decide (97 ≤ c) = true := decide_eq_true (by omega)
        have g2 : ¬ (c : Int) ≤ 122 := by omega
        have g2d : decide (c ≤ 122) = false := decide_eq_false (by omega)
        have g3 : (48 : Int) ≤ (c : Int) := by omega
        have g3d : decide (48 ≤ c) = true := decide_eq_true (by omega)
        have g4 : ¬ (c : Int) ≤ 57 := by omega
        have g4d : decide (c ≤ 57) = false := decide_eq_false (by omega)
        have g5 : ((c : Int) != 46) = true := bneT (by omega)
        have g5d : (c != 46) = true := by simp; omega
        have g6 : ((c : Int) != 45) = true := bneT (by omega)
        have g6d : (c != 45) = true := by simp; omega
        clear c1
        go_wp2
        go_ret
        exact ⟨by rw [HR.out]; rfl, rfl⟩
    · have hdi : ¬ (i : Int) < (n : Int) := by omega
      have hls : (s.size : Int) = (n : Int) := by have := HNN.out; omega
      have hie : i = n := by omega
      have HR := Lib.hid (nameB_yes HN.out (fun j hj => HA.out j (by have := HNN.out; omega)))
      clear hd hin hie
      go_wp2
      go_ret
      exact ⟨by rw [HR.out]; rfl, rfl⟩
end Go.Proofs.YtficodklidaheaaDoor
