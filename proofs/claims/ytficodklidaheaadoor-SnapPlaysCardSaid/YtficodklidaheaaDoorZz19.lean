/- Texts put together: F17, WB, WQ, SA, WA, F18r. -/
import Derived.Test.YtficodklidaheaaDoorZz18
import Derived.Test.YtficodklidaheaaDoorZz4
import Derived.Test.YtficodklidaheaaDoorZz7
import Derived.Deep.RegionWith
/- Frames one behind the other, plainly; Bulk. -/
namespace Go.Proofs.YtficodklidaheaaDoor
open Go.RowKit
attribute [local go_sem ↓] Go.wp_at_zero Go.wp_at_succ

/-- Frames one behind the other. -/
def allL (Ls : List (List Nat)) : List Nat := (Ls.map frameL).flatten
theorem allL_append (a b : List (List Nat)) : allL (a ++ b) = allL a ++ allL b := by simp [allL]
theorem allL_one (l : List Nat) : allL [l] = frameL l := by simp [allL]
theorem allL_cons (l : List Nat) (Ls : List (List Nat)) : allL (l :: Ls) = frameL l ++ allL Ls := by simp [allL]
theorem scan_frames (Ls : List (List Nat)) (hl : ∀ l ∈ Ls, l.length ≤ 65536) (r : List Nat) (L : List (List Nat)) (u e : Nat) (h : ScanR r L u e) : ScanR (allL Ls ++ r) (Ls ++ L) ((allL Ls).length + u) e := by
  induction Ls with
  | nil => simpa [allL] using h
  | cons l Ls ih =>
    have h1 := ih (fun x hx => hl x (List.mem_cons_of_mem _ hx))
    have h2 := ScanR.frame (hl l (by simp)) h1
    rw [allL_cons, List.append_assoc, List.length_append, frameL_len, Nat.add_assoc]
    exact h2
/-- A frame that is cut off. -/
theorem cut_first (p : List Nat) (hp : p.length ≤ 65536) (t : Nat) (h0 : 0 < t) (ht : t < 9 + p.length) : firstE ((frameL p).take t) = 2 := by
  have hl : ((frameL p).take t).length = t := by rw [List.length_take, frameL_len]; omega
  have h1 : ((frameL p).take t).getD 0 0 = 165 := by
    simp only [List.getD_eq_getElem?_getD, List.getElem?_take, if_pos h0]
    have := frame_cons p []
    rw [List.append_nil] at this
    rw [this]; rfl
  unfold firstE
  rw [hl, h1, if_neg (by omega), if_neg (by omega)]
  by_cases h9 : t < 9
  · rw [if_pos h9]
  · have hs : sizeL ((frameL p).take t) = p.length := by
      unfold sizeL
      have e : (((frameL p).take t).drop 1).take 4 = ((frameL p ++ []).drop 1).take 4 := by
        rw [List.append_nil, List.drop_take, List.take_take, Nat.min_eq_left (by omega)]
      rw [e, frame_drop1, num_four _ (by omega)]
    rw [if_neg h9, hs, if_neg (by omega), if_pos (by omega)]
/-- Frames, cut off anywhere. -/
theorem scan_cut (Ls : List (List Nat)) (hl : ∀ l ∈ Ls, l.length ≤ 65536) (k m : Nat) (hm : m ≤ Ls.length) (h1 : (allL (Ls.take m)).length ≤ k) (hk : k ≤ (allL Ls).length) (h2 : ∀ q, q ≤ Ls.length → m < q → k < (allL (Ls.take q)).length) :
    ∃ e, ScanR ((allL Ls).take k) (Ls.take m) (allL (Ls.take m)).length e ∧ ((e = 0 ∧ (allL (Ls.take m)).length = k) ∨ (e = 2 ∧ (allL (Ls.take m)).length ≠ k)) := by
  have hsp : allL Ls = allL (Ls.take m) ++ allL (Ls.drop m) := by rw [← allL_append, List.take_append_drop]
  have htk : (allL Ls).take k = allL (Ls.take m) ++ (allL (Ls.drop m)).take (k - (allL (Ls.take m)).length) := by
    rw [hsp, List.take_append, List.take_of_length_le h1]
  have hlt : ∀ l ∈ Ls.take m, l.length ≤ 65536 := fun l h => hl l (List.mem_of_mem_take h)
  by_cases he : (allL (Ls.take m)).length = k
  · refine ⟨0, ?_, .inl ⟨rfl, he⟩⟩
    rw [htk, he, Nat.sub_self, List.take_zero]
    have := scan_frames (Ls.take m) hlt [] [] 0 0 .done
    simpa [he] using this
  · refine ⟨2, ?_, .inr ⟨rfl, he⟩⟩
    have hmn : m < Ls.length := by
      rcases Nat.lt_or_eq_of_le hm with h | h
      · exact h
      · subst h
        rw [List.take_length] at he h1
        omega
    obtain ⟨p, hp⟩ : ∃ p, p = Ls[m] := ⟨_, rfl⟩
    have hd : Ls.drop m = p :: Ls.drop (m + 1) := by rw [hp]; exact List.drop_eq_getElem_cons hmn
    have hq := h2 (m + 1) (by omega) (by omega)
    have hsucc : Ls.take (m + 1) = Ls.take m ++ [p] := by rw [hp, List.take_add_one, List.getElem?_eq_getElem hmn]; rfl
    rw [hsucc, allL_append, allL_one, List.length_append, frameL_len] at hq
    have hpl : p.length ≤ 65536 := hl p (by rw [hp]; exact List.getElem_mem hmn)
    have ht : (allL (Ls.drop m)).take (k - (allL (Ls.take m)).length) = (frameL p).take (k - (allL (Ls.take m)).length) := by
      rw [hd, allL_cons, List.take_append_of_le_length (by rw [frameL_len]; omega)]
    have hf := cut_first p hpl (k - (allL (Ls.take m)).length) (by omega) (by omega)
    have hne : (frameL p).take (k - (allL (Ls.take m)).length) ≠ [] := by
      intro e
      have := congrArg List.length e
      rw [List.length_take, frameL_len] at this
      simp at this
      omega
    have hb := ScanR.bad _ hne (by rw [hf]; omega)
    rw [hf] at hb
    have := scan_frames (Ls.take m) hlt _ [] 0 2 hb
    rw [htk, ht]
    simpa using this

set_option maxHeartbeats 1000000 in
theorem bulk_any (va : Value) (L : List (List Nat)) (hL : L.length ≤ 9223372036854775807) (w : World) (HA : RowsAt w va L) (hb : ∀ l ∈ L, l.length ≤ 9223372036854775807) :
    Calls Tryd.prog 18 #[va, .int .i64 3000] w fun e w' => ∃ n : Nat, e = .returned (.int .i64 n) ∧ (n ≤ 3000 → ∀ l ∈ L, l.length ≤ 3000) ∧ w = w' := by
  obtain ⟨ao, c, rfl, ha⟩ := HA
  have HA := Lib.hid ha
  obtain ⟨N, hN⟩ : ∃ N, N = L.length := ⟨_, rfl⟩
  have HB : Hid (∀ i, i < N → (L.getD i []).length ≤ 9223372036854775807) := Lib.hid fun i hi => hb _ (by rw [List.getD_eq_getElem?_getD, List.getElem?_eq_getElem (by omega)]; simp)
  have HE : Hid (∀ n : Nat, (n ≤ 3000 → ∀ i, i < N → (L.getD i []).length ≤ 3000) → n ≤ 3000 → ∀ l ∈ L, l.length ≤ 3000) := Lib.hid fun n h hn l hl => by
    obtain ⟨i, hi, rfl⟩ := List.getElem_of_mem hl
    have := h hn i (by omega)
    rwa [List.getD_eq_getElem?_getD, List.getElem?_eq_getElem hi] at this
  rw [← hN] at HA hL ⊢
  clear ha hN hb
  go_enter Tryd.func18, Tryd.ntmps18
  go_wp2
  go_loopw [5, 6] (fun x t wr => ∃ n j : Nat, j ≤ N ∧ n ≤ 6002 ∧ x = .int .i64 n ∧ t = .int .i64 j ∧ (n ≤ 3000 → ∀ i, i < j → (L.getD i []).length ≤ 3000) ∧ w = wr) (fun _ t _ => N - (intOf t).toNat)
  case atStart => exact ⟨0, 0, by omega, by omega, rfl, rfl, fun _ i hi => absurd hi (by omega), rfl⟩
  case round =>
    obtain ⟨n, j, hj, hn, rfl, rfl, hall, rfl⟩ := hrel
    have HALL := Lib.hid hall
    clear hall
    by_cases hd : j < N
    · have hd' : (j : Int) < (N : Int) := by omega
      have hj0 : (0 : Int) ≤ (j : Int) := by omega
      by_cases hn3 : n ≤ 3000
      · have hn' : (n : Int) ≤ 3000 := by omega
        obtain ⟨a, ai, ci, rfl, h1, h2⟩ := HA.out j hd
        have hlen := HB.out j hd
        have HALL2 : Hid (∀ M, M = (L.getD j []).length → ∀ q : Nat, ((M ≤ 3001 ∧ q = n + 1 + M) ∨ (3001 < M ∧ q = n + 1 + 3001)) → q ≤ 3000 → ∀ i, i < j + 1 → (L.getD i []).length ≤ 3000) := Lib.hid fun M hM q hq hq3 i hi => by
          rcases Nat.lt_or_eq_of_le (Nat.le_of_lt_succ hi) with h | rfl
          · exact HALL.out hn3 i h
          · omega
        obtain ⟨M, hM⟩ : ∃ M, M = (L.getD j []).length := ⟨_, rfl⟩
        have HALL3 := Lib.hid (HALL2.out M hM)
        rw [← hM] at h1 hlen
        clear h2 hM
        have e1 : IntKind.i64.wrap ((n : Int) + 1) = ((n + 1 : Nat) : Int) := by rw [IntWalk.i64_in _ ⟨by omega, by omega⟩]; omega
        by_cases hm : M ≤ 3001
        · have cm : min (M : Int) 3001 = (M : Int) := by omega
          have e2 : IntKind.i64.wrap (((n + 1 : Nat) : Int) + (M : Int)) = ((n + 1 + M : Nat) : Int) := by rw [IntWalk.i64_in _ ⟨by omega, by omega⟩]; omega
          go_wp2
          go_roundw
          case rel => exact ⟨n + 1 + M, j + 1, hd, by omega, by go_num, by go_num, fun h => HALL3.out _ (.inl ⟨hm, rfl⟩) h, trivial⟩
          case measure => simp [intOf]; omega
        · have cm : min (M : Int) 3001 = 3001 := by omega
          have e2 : IntKind.i64.wrap (((n + 1 : Nat) : Int) + 3001) = ((n + 1 + 3001 : Nat) : Int) := by rw [IntWalk.i64_in _ ⟨by omega, by omega⟩]; omega
          go_wp2
          go_roundw
          case rel => exact ⟨n + 1 + 3001, j + 1, hd, by omega, by go_num, by go_num, fun h => HALL3.out _ (.inr ⟨by omega, rfl⟩) h, trivial⟩
          case measure => simp [intOf]; omega
      · have hn' : decide ((n : Int) ≤ 3000) = false := decide_eq_false (by omega)
        have HX : Hid (∀ l ∈ L, l.length ≤ 3000 ∨ 3000 < n) := Lib.hid fun _ _ => .inr (by omega)
        go_wp2
        go_ret
        exact ⟨n, rfl, fun h => absurd h hn3, rfl⟩
    · obtain rfl : j = N := by omega
      have HF := Lib.hid (HE.out n HALL.out)
      go_wp2
      go_ret
      exact ⟨n, rfl, HF.out, rfl⟩
end Go.Proofs.YtficodklidaheaaDoor
/- Layer 20 plainly: what Save and Load do. -/
namespace Go.Proofs.YtficodklidaheaaDoor
open Go.RowKit

/-- What stands behind the name of the new file. -/
def nwN : ByteArray := { data := #[46, 110, 101, 119] }
def thereD (D : DA) (s : ByteArray) : Bool := !D.down && (getM D.L s).isSome
def tidyD (D : DA) (s : ByteArray) : DA × Int := if thereD D s = true then removeD D s else (D, 0)
/-- One call behind another: only where the first one went well. -/
def thenD (r : DA × Int) (f : DA → DA × Int) : DA × Int := if r.2 = 0 then f r.1 else r
/-- The calls of Save. -/
def triesD (D : DA) (nx s : ByteArray) (b : List Nat) : DA × Int :=
  thenD (tidyD D nx) fun D => thenD (createD D nx) fun D => thenD (appendD D nx b) fun D => thenD (syncD D nx) fun D => renameD D nx s
/-- What is undone behind an error. -/
def undoD (r : DA × Int) (nx : ByteArray) : DA × Int := if r.2 = 0 ∨ r.2 = 13 then r else ((tidyD r.1 nx).1, r.2)
def saveD (D : DA) (s : ByteArray) (l : List Nat) : DA × Int :=
  if 28 < s.size then (D, 3) else if 65536 < l.length then (D, 4) else undoD (triesD D (s ++ nwN) s (frameL l)) (s ++ nwN)
/-- What a file's bytes are, loaded: the payload, whether it is there, an error. -/
def loadF : Option PF → List Nat × Bool × Int
  | none => ([], false, 0)
  | some f => if firstE f.b = 0 ∧ 9 + sizeL f.b = f.b.length then (payL f.b, true, 0) else ([], false, 15)
def loadD (D : DA) (s : ByteArray) : DA × List Nat × Bool × Int :=
  if D.down = true then (D, [], false, 13)
  else if (tidyD D (s ++ nwN)).2 = 0 then ((tidyD D (s ++ nwN)).1, loadF (getM (tidyD D (s ++ nwN)).1.L s)) else ((tidyD D (s ++ nwN)).1, [], false, (tidyD D (s ++ nwN)).2)

theorem tidyD_ok {D : DA} (h : DOk D) (s : ByteArray) : DOk (tidyD D s).1 := by
  unfold tidyD
  split
  · exact removeD_ok h s
  · exact h
theorem thenD_ok {r : DA × Int} {f : DA → DA × Int} (h : DOk r.1) (hf : ∀ D, DOk D → DOk (f D).1) : DOk (thenD r f).1 := by
  unfold thenD
  split
  · exact hf _ h
  · exact h
/-- Behind a call's error but ErrDown the disk is up. -/
def UpErr (r : DA × Int) : Prop := r.2 ≠ 0 → r.2 ≠ 13 → r.1.down = false
theorem beginD_up (D : DA) : UpErr (beginD D) ∧ ((beginD D).2 = 0 → (beginD D).1.down = false) := by
  unfold UpErr beginD
  by_cases h1 : D.down = true
  · rw [if_pos h1]; exact ⟨fun _ h => absurd rfl h, fun h => by cases h⟩
  rw [if_neg h1]
  have hd : (countedD D).down = false := by
    show D.down = false
    cases hx : D.down
    · rfl
    · exact absurd hx h1
  by_cases h2 : D.crashIn = 0
  · rw [if_pos h2]; exact ⟨fun _ h => absurd rfl h, fun h => by cases h⟩
  rw [if_neg h2]
  by_cases h3 : D.failIn = 0
  · rw [if_pos h3]; exact ⟨fun _ _ => hd, fun _ => hd⟩
  · rw [if_neg h3]; exact ⟨fun _ _ => hd, fun _ => hd⟩
theorem behindD_up {D : DA} {f : DA → DA × Int} (hf : ∀ D, D.down = false → UpErr (f D)) : UpErr (behindD D f) := by
  unfold behindD
  by_cases h : (beginD D).2 = 0
  · rw [if_pos h]; exact hf _ ((beginD_up D).2 h)
  · rw [if_neg h]; exact (beginD_up D).1
theorem withF_up {D : DA} {s : ByteArray} {g : PF → DA → DA × Int} (hd : D.down = false) (hg : ∀ f, UpErr (g f D)) : UpErr (withF s g D) := by
  unfold withF
  split
  · exact fun _ _ => hd
  · exact hg _
theorem removeD_up (D : DA) (s : ByteArray) : UpErr (removeD D s) := behindD_up fun _ hd => withF_up hd fun _ h => absurd rfl h
theorem createD_up (D : DA) (s : ByteArray) : UpErr (createD D s) := behindD_up fun D hd => by
  unfold createF
  split
  · exact fun _ _ => hd
  split
  · exact fun _ _ => hd
  split
  · exact fun _ _ => hd
  · exact fun h => absurd rfl h
theorem appendD_up (D : DA) (s : ByteArray) (b : List Nat) : UpErr (appendD D s b) := behindD_up fun D hd => withF_up hd fun f => by
  split
  · exact fun _ _ => hd
  · exact fun h => absurd rfl h
theorem syncD_up (D : DA) (s : ByteArray) : UpErr (syncD D s) := behindD_up fun _ hd => withF_up hd fun _ h => absurd rfl h
theorem renameD_up (D : DA) (a c : ByteArray) : UpErr (renameD D a c) := behindD_up fun D hd => by
  split
  · exact fun _ _ => hd
  · exact withF_up hd fun _ h => absurd rfl h
theorem tidyD_up (D : DA) (s : ByteArray) : UpErr (tidyD D s) := by
  unfold tidyD
  split
  · exact removeD_up D s
  · exact fun h => absurd rfl h
theorem thenD_up {r : DA × Int} {f : DA → DA × Int} (h : UpErr r) (hf : ∀ D, UpErr (f D)) : UpErr (thenD r f) := by
  unfold thenD
  split
  · exact hf _
  · exact h
theorem triesD_up (D : DA) (nx s : ByteArray) (b : List Nat) : UpErr (triesD D nx s b) :=
  thenD_up (tidyD_up D nx) fun D => thenD_up (createD_up D nx) fun D => thenD_up (appendD_up D nx b) fun D => thenD_up (syncD_up D nx) fun D => renameD_up D nx s
theorem triesD_ok {D : DA} (h : DOk D) (nx s : ByteArray) {b : List Nat} (hb : ∀ x ∈ b, x < 256) : DOk (triesD D nx s b).1 :=
  thenD_ok (tidyD_ok h nx) fun _ h => thenD_ok (createD_ok h nx) fun _ h => thenD_ok (appendD_ok h nx hb) fun _ h => thenD_ok (syncD_ok h nx) fun _ h => renameD_ok h nx s
theorem undoD_ok {r : DA × Int} (h : DOk r.1) (nx : ByteArray) : DOk (undoD r nx).1 := by
  unfold undoD
  split
  · exact h
  · exact tidyD_ok h nx
end Go.Proofs.YtficodklidaheaaDoor
/- Layer 20: there, tidy. -/
namespace Go.Proofs.YtficodklidaheaaDoor
open Go.RowKit
attribute [local go_sem ↓] Go.wp_at_zero Go.wp_at_succ

theorem thereD_eq (D : DA) (s : ByteArray) : thereD D s = decide ((sizeA D s).2.2 = 0) := by
  unfold thereD sizeA
  cases D.down with
  | true => rfl
  | false =>
    cases getM D.L s with
    | none => rfl
    | some f => rfl
theorem sizeA_err (D : DA) (s : ByteArray) : (sizeA D s).2.2 = 0 ∨ (sizeA D s).2.2 = 7 ∨ (sizeA D s).2.2 = 13 := by
  unfold sizeA
  cases D.down with
  | true => exact .inr (.inr rfl)
  | false =>
    cases getM D.L s with
    | none => exact .inr (.inl rfl)
    | some f => exact .inl rfl
set_option maxRecDepth 100000 in
set_option maxHeartbeats 2000000 in
theorem sThere_any (base db mb : Nat) (L : List (ByteArray × Fi)) (D : DA) (s : ByteArray) (hs : s.size ≤ maxLen) (w : World) (h : DK base w db mb L D) :
    Calls Tryd.prog 96 #[.pointer (some ⟨db, 0, none⟩), .string s] w fun e w' => e = .returned (.bool (thereD D s)) ∧ Kept (fun _ => False) w w' := by
  have HS := Lib.hid (dSize_any base db mb L D s hs w h)
  have HT := Lib.hid (thereD_eq D s)
  have HE := Lib.hid (sizeA_err D s)
  obtain ⟨b, hb⟩ : ∃ b, b = thereD D s := ⟨_, rfl⟩
  rw [← hb] at HT ⊢
  obtain ⟨x, y, z, hx⟩ : ∃ x y z, sizeA D s = (x, y, z) := ⟨_, _, _, rfl⟩
  rw [hx] at HS HT HE
  dsimp only at HS HT HE
  clear h hb hx
  have HB : Hid (b = decide (z = 0)) := HT
  rcases HE.out with rfl | rfl | rfl
  all_goals (
    go_enter Tryd.func96, Tryd.ntmps96
    go_wp2_with fail
    refine HS.out.mono ?_
    rintro e w1 ⟨rfl, k1⟩
    have HK := Lib.hid k1
    clear k1
    go_wp2
    go_ret
    exact ⟨by rw [HB.out]; rfl, HK.out⟩)
set_option maxRecDepth 100000 in
set_option maxHeartbeats 2000000 in
theorem sTidy_any (base db mb : Nat) (L : List (ByteArray × Fi)) (D : DA) (s : ByteArray) (hs : s.size ≤ maxLen) (w : World) (h : DK base w db mb L D) :
    Calls Tryd.prog 76 #[.pointer (some ⟨db, 0, none⟩), .string s] w (DTo base w db mb L (tidyD D s)) := by
  have HT := Lib.hid (sThere_any base db mb L D s hs w h)
  have HR := Lib.hid (fun w' (k : Kept (fun _ => False) w w') => dRemove_any base db mb L D s hs w' (h.kept k (fun _ _ x => x)))
  have HH := Lib.hid h
  have HD : Hid (tidyD D s = if thereD D s = true then removeD D s else (D, 0)) := Lib.hid rfl
  clear h
  cases ht : thereD D s with
  | false =>
    rw [ht] at HT HD
    rw [HD.out]
    clear ht
    go_enter Tryd.func76, Tryd.ntmps76
    go_wp2_with fail
    refine HT.out.mono ?_
    rintro e w1 ⟨rfl, k1⟩
    have HK := Lib.hid k1
    clear k1
    go_wp2
    go_ret
    exact ⟨L, rfl, HH.out.kept HK.out (fun _ _ x => x), HK.out.mono (fun _ _ x => x.elim), Foot.refl _ _ _ _⟩
  | true =>
    rw [ht] at HT HD
    rw [HD.out]
    clear ht
    go_enter Tryd.func76, Tryd.ntmps76
    go_wp2_with fail
    refine HT.out.mono ?_
    rintro e w1 ⟨rfl, k1⟩
    have HK := Lib.hid k1
    clear k1
    go_wp2_with fail
    refine (HR.out w1 HK.out).mono ?_
    rintro e w2 ⟨L2, rfl, h2, k2, f2⟩
    have H2 := Lib.hid (And.intro h2 (And.intro k2 f2))
    clear h2 k2 f2
    go_wp2
    go_ret
    exact ⟨L2, rfl, H2.out.1, (HK.out.mono (fun _ _ x => x.elim)).trans H2.out.2.1, fun j e => (H2.out.2.2 j e).imp id (Nat.le_trans HK.out.size)⟩
end Go.Proofs.YtficodklidaheaaDoor
/- Layer 18: Rename. -/
namespace Go.Proofs.YtficodklidaheaaDoor
open Go.RowKit
attribute [local go_sem ↓] Go.wp_at_zero Go.wp_at_succ

theorem DK.moved {base : Nat} {w w' : World} {db mb : Nat} {L : List (ByteArray × Fi)} {D D' : DA} (h : DK base w db mb L D) {a c : ByteArray} {f : Fi} (hf : getM L a = some f) (ok : DOk D') (hL : D'.L = putS (delM D.L a) c f.t)
    (hb : BoxAt w' db 111 (boxD mb D')) (hm : MapIs w' mb (setM (delM (mapM Fi.val L) a) c f.val)) (hk : Kept (fun k => k = mb) w w') :
    DK base w' db mb (setM (delM L a) c f) D' ∧ Kept (foot db mb L) w w' ∧ Foot w db mb L (setM (delM L a) c f) := by
  rw [delM_map, setM_map] at hm
  have hfm := getM_mem hf
  have hdp := delM_pair h.pair a
  have hno : ∀ p ∈ L, ∀ j, p.2.v.ownBlock = some j → ¬ j = mb := fun p hp j e => (h.noBox hp e).2
  refine ⟨⟨hb, hm, DK.ofGet (setM_pair hdp c f) ok (fun t => ?_), fun p hp => ?_, fun p hp q hq hne k e => ?_, h.base, ok⟩, hk.mono (fun k _ e => .inr (.inl e)), fun k e => ?_⟩
  · rw [hL, getM_set, getM_put]
    by_cases e : c = t
    · rw [if_pos e, if_pos e]; rfl
    · rw [if_neg e, if_neg e, getM_del, getM_del]
      by_cases e2 : a = t
      · rw [if_pos e2, if_pos e2]; rfl
      · rw [if_neg e2, if_neg e2, h.get]
  · rcases setM_mem' hdp hp with rfl | ⟨hp, _⟩
    · exact (h.data _ hfm).kept hk (fun j e => hno _ hfm j e)
    · exact (h.data _ (delM_mem hp).1).kept hk (fun j e => hno _ (delM_mem hp).1 j e)
  · rcases setM_mem' hdp hp with rfl | ⟨hp, hp'⟩
    · rcases setM_mem' hdp hq with rfl | ⟨hq, hq'⟩
      · exact absurd rfl hne
      · exact h.sep _ hfm q (delM_mem hq).1 (delM_mem hq).2.symm k e
    · rcases setM_mem' hdp hq with rfl | ⟨hq, hq'⟩
      · exact h.sep p (delM_mem hp).1 _ hfm (delM_mem hp).2 k e
      · exact h.sep p (delM_mem hp).1 q (delM_mem hq).1 hne k e
  · rcases e with e | e | ⟨p, hp, e⟩
    · exact .inl (.inl e)
    · exact .inl (.inr (.inl e))
    · rcases setM_mem' hdp hp with rfl | ⟨hp, _⟩
      · exact .inl (.inr (.inr ⟨_, hfm, e⟩))
      · exact .inl (.inr (.inr ⟨p, (delM_mem hp).1, e⟩))
theorem rename_same {D : DA} (h : DOk D) {a : ByteArray} {f : PF} (hf : getM D.L a = some f) : putS (delM D.L a) a f = D.L := by
  refine asc_ext (putS_asc (delM_asc h.asc a) a f) h.asc (fun t => ?_)
  rw [getM_put, getM_del]
  by_cases e : a = t
  · rw [if_pos e, ← e, hf]
  · rw [if_neg e, if_neg e]
theorem rename_two {D : DA} (h : DOk D) (a c : ByteArray) (f : PF) : putS (delM (delM D.L c) a) c f = putS (delM D.L a) c f := by
  refine asc_ext (putS_asc (delM_asc (delM_asc h.asc c) a) c f) (putS_asc (delM_asc h.asc a) c f) (fun t => ?_)
  rw [getM_put, getM_put, getM_del, getM_del, getM_del]
  by_cases e : c = t
  · rw [if_pos e, if_pos e]
  · rw [if_neg e, if_neg e, if_neg e]
theorem rename_used {D : DA} (h : DOk D) {a c : ByteArray} (hac : a ≠ c) {f : PF} (hf : getM D.L a = some f) : usedL (putS (delM D.L a) c f) = usedL (delM D.L c) := by
  have e1 := usedL_put (delM_pair h.asc.pair a) c f
  have e2 := usedL_del h.asc.pair a
  have e3 := usedL_del h.asc.pair c
  rw [getM_del, if_neg hac] at e1
  rw [hf] at e2
  simp only [szM] at e2
  omega
theorem renameD_ne {D : DA} {a c : ByteArray} (h : (beginD D).2 ≠ 0) : renameD D a c = beginD D := behindD_ne h
theorem renameD_zero {D : DA} {a c : ByteArray} (h : (beginD D).2 = 0) : renameD D a c = if nameB c = false then ((beginD D).1, 3) else withF a (fun f D => ({ D with L := putS (delM D.L a) c f }, 0)) (beginD D).1 := behindD_eq h
theorem toList_eqB {a b : ByteArray} (h : a = b) : (a.toList == b.toList) = true := by rw [h]; exact beq_self_eq_true _
set_option maxRecDepth 100000 in
set_option maxHeartbeats 4000000 in
theorem dRename_any (base db mb : Nat) (L : List (ByteArray × Fi)) (D : DA) (x c : ByteArray) (hx : x.size ≤ maxLen) (hc : c.size ≤ maxLen) (w : World) (h : DK base w db mb L D) :
    Calls Tryd.prog 77 #[.pointer (some ⟨db, 0, none⟩), .string x, .string c] w (DTo base w db mb L (renameD D x c)) := by
  have HC := Lib.hid (dchange_any base db mb L D w h)
  have HX := Lib.hid (And.intro (fun e : (beginD D).2 ≠ 0 => renameD_ne (a := x) (c := c) e) (fun e : (beginD D).2 = 0 => renameD_zero (a := x) (c := c) e))
  have HOK := Lib.hid (renameD_ok h.ok x c)
  obtain ⟨r, hr⟩ : ∃ r, r = beginD D := ⟨_, rfl⟩
  rw [← hr] at HC HX
  obtain ⟨D1, z⟩ := r
  have HS := Lib.hid (And.intro hx hc)
  have HN := Lib.hid (fun w => isName_any c w (by unfold maxLen at hc; omega))
  clear hr hx hc h
  by_cases hz : z = 0
  · have q0 : (z != 0) = false := bneF hz
    have HY := Lib.hid (HX.out.2 hz)
    subst hz
    go_enter Tryd.func77, Tryd.ntmps77
    go_wp2_with fail
    refine HC.out.mono ?_
    rintro e w1 ⟨rfl, h1, hk1⟩
    have HD := Lib.hid (And.intro h1 hk1)
    clear h1 hk1
    cases hn : nameB c with
    | false =>
      rw [hn] at HN HY
      clear hn
      go_wp2_with fail
      refine (HN.out _).mono ?_
      rintro e w2 ⟨rfl, rfl⟩
      go_wp2
      go_ret
      rw [HY.out]
      exact BeganTo.to ⟨rfl, HD.out.1, HD.out.2⟩
    | true =>
      rw [hn] at HN HY
      clear hn
      have h1 := HD.out.1
      have c0 := h1.c.1
      have hl := (h1.look HS.out.1).2
      have hg1 := h1.get x
      go_wp2_with fail
      refine (HN.out _).mono ?_
      rintro e w2 ⟨rfl, rfl⟩
      cases hf : getM L x with
      | none =>
        rw [hf] at hg1
        have HE : Hid (renameD D x c = (D1, 7)) := Lib.hid (by
          rw [HY.out, if_neg (by decide)]
          unfold withF
          rw [← hg1]
          rfl)
        rw [lookF_none hf, ← hg1] at hl
        replace hl : (Instr.lookup 109 (.map (some mb)) (.string x) true).run Tryd.prog w1 = .ok (.tuple #[.agg #[.slice none 0 0, .int .i64 0], .bool false]) w1 := hl
        have HA := Lib.hid (h1.kept ((Kept.refl (fun _ => False) w1).alloc (.cells #[.slice none 0 0, .int .i64 0] 114)) (fun _ _ x => x))
        have HK := Lib.hid (HD.out.2.alloc (.cells #[.slice none 0 0, .int .i64 0] 114))
        clear hf hg1 h1
        go_wp2
        go_ret
        rw [HE.out]
        exact BeganTo.to ⟨rfl, HA.out, HK.out⟩
      | some f =>
        rw [hf] at hg1
        obtain ⟨a, cc, b, y⟩ := f
        rw [lookF_some hf, ← hg1] at hl
        have hgx : getM D1.L x = some ⟨b, y⟩ := hg1.symm
        simp only [Option.map_some, Option.isSome_some] at hl
        obtain ⟨n, hn⟩ : ∃ n, n = b.length := ⟨_, rfl⟩
        rw [← hn] at hl
        have HE : Hid (renameD D x c = ({ D1 with L := putS (delM D1.L x) c ⟨b, y⟩ }, 0)) := Lib.hid (by
          rw [HY.out, if_neg (by decide)]
          unfold withF
          rw [hgx])
        obtain ⟨q, hq⟩ : ∃ q, q = w1.heap.size := ⟨_, rfl⟩
        obtain ⟨wa, hwa⟩ : ∃ wa, wa = w1.alloc (.cells #[.slice a n cc, .int .i64 (y : Int)] 114) := ⟨_, rfl⟩
        have ka : Kept (fun _ => False) w1 wa := by rw [hwa]; exact (Kept.refl _ _).alloc _
        have BA : BoxAt wa q 114 #[.slice a n cc, .int .i64 (y : Int)] := by rw [hwa, hq]; exact BoxAt.new w1 _ _
        have ha := h1.kept ka (fun _ _ x => x)
        have hkw : Kept (fun k => k = db) w wa := HD.out.2.trans (ka.mono (fun _ _ x => x.elim))
        have HA := Lib.hid (And.intro ha hkw)
        have HW := Lib.hid (And.intro hwa hq)
        by_cases hxc : x = c
        · have q1 : (x.toList == c.toList) = true := toList_eqB hxc
          have HF : Hid (({ D1 with L := putS (delM D1.L x) c ⟨b, y⟩ } : DA) = D1) := Lib.hid (by
            rw [← hxc, rename_same ha.ok hgx])
          clear hf hg1 h1 hgx ka BA ha hkw hn hwa hq hxc
          go_wp2
          go_ret
          rw [HE.out, HF.out, ← HW.out.1]
          exact BeganTo.to ⟨rfl, HA.out.1, HA.out.2⟩
        · have q1 : (x.toList == c.toList) = false := toList_ne hxc
          have HRM := Lib.hid (dremove_any base db mb L D1 c HS.out.2 wa ha)
          have qlt : ∀ k, foot db mb L k → k ≠ q := fun k e => by have := (h1.lt e).1; omega
          have HF := Lib.hid (And.intro (And.intro hf hgx) (And.intro hxc (And.intro BA qlt)))
          have HN' := Lib.hid hn
          clear hf hg1 h1 hgx ka BA ha hkw hn hwa hq hxc qlt
          go_upto_region 7 with fail
          rw [← HW.out.1, ← HW.out.2]
          go_wp2_with fail
          refine HRM.out.mono ?_
          rintro e w2 ⟨rfl, h2, k2, ft2⟩
          have H2 := Lib.hid (And.intro h2 (And.intro k2 ft2))
          have c20 := h2.c.1
          have BA2 : BoxAt w2 q 114 #[.slice a n cc, .int .i64 (y : Int)] := HF.out.2.2.1.kept k2 (fun e => HF.out.2.2.2 q e rfl)
          obtain ⟨w3, hd3, hm3, hk3⟩ := h2.map.delete Tryd.underlying9 Tryd.underlying109 HS.out.1 0
          have BA3 := BA2.kept hk3 (fun e => by
            have := HF.out.2.2.2 mb (.inr (.inl rfl))
            exact this e.symm)
          have c30 : w3.cell? ⟨db, 0, none⟩ = some (.map (some mb)) := (h2.box.kept hk3 h2.ne).cell rfl
          have q30 : w3.cell? ⟨q, 0, none⟩ = some (.slice a n cc) := BA3.cell rfl
          have q31 : w3.cell? ⟨q, 1, none⟩ = some (.int .i64 (y : Int)) := BA3.cell rfl
          obtain ⟨w4, hu4, hm4, hk4⟩ := (hm3.kept ((Kept.refl (fun _ => False) w3).drew) (fun x => x)).update Tryd.underlying9 Tryd.underlying109 HS.out.2 (⟨a, cc, b, y⟩ : Fi).val (by
            have h5 := h2.ok.count
            have h6 := h2.len
            have h7 := List.length_filter_le (fun p => decide (p.1 ≠ x)) (mapM Fi.val (delM L c))
            unfold delM maxLen
            unfold delM at h6 h7
            unfold mapM at h7 ⊢
            rw [List.length_map] at h7
            simp only at h5 h6
            unfold delM at h5
            omega)
          have HR := Lib.hid (show DK base w4 db mb (setM (delM (delM L c) x) c ⟨a, cc, b, y⟩) { D1 with L := putS (delM D1.L x) c ⟨b, y⟩ } ∧ Kept (foot db mb (delM L c)) w2 w4 ∧ Foot w2 db mb (delM L c) (setM (delM (delM L c) x) c ⟨a, cc, b, y⟩) from by
            refine h2.moved (by rw [getM_del, if_neg (Ne.symm HF.out.2.1)]; exact HF.out.1.1) (by have := HOK.out; rw [HE.out] at this; exact this) ?_ ?_ hm4 ((hk3.drew).trans hk4)
            · exact (rename_two HA.out.1.ok x c ⟨b, y⟩).symm
            · have e := rename_used HA.out.1.ok HF.out.2.1 HF.out.1.2
              have hb := ((h2.box.kept hk3 h2.ne).kept ((Kept.refl (fun _ => False) w3).drew) (fun x => x)).kept hk4 h2.ne
              unfold boxD at hb ⊢
              simp only at hb
              simp only [e]
              exact hb)
          replace hu4 : (Instr.mapUpdate 109 (.map (some mb)) (.string c) (.agg #[.slice a n cc, .int .i64 (y : Int)])).run Tryd.prog w3.drew = .ok () w4 := by
            unfold Fi.val at hu4
            simp only [← HN'.out] at hu4
            exact hu4
          clear h2 k2 ft2 BA2 BA3 hm3 hk3 hm4 hk4
          go_upto_region 12 with fail
          go_region
          go_wp2
          go_ret
          rw [HE.out]
          refine DTo.behind HA.out.2 ⟨_, rfl, HR.out.1, ?_, fun k e => ?_⟩
          · refine H2.out.2.1.trans (HR.out.2.1.step (S' := fun _ => False) (Kept.refl _ _) (fun _ _ x => x.elim) |>.mono (fun k _ e => ?_))
            rcases e with e | e | ⟨p, hp, e⟩
            · exact .inl e
            · exact .inr (.inl e)
            · exact .inr (.inr ⟨p, (delM_mem hp).1, e⟩)
          · rcases HR.out.2.2 k e with e | e
            · exact H2.out.2.2 k e
            · exact .inr (Nat.le_trans H2.out.2.1.size e)
  · have q0 : (z != 0) = true := bneT hz
    have HY := Lib.hid (HX.out.1 hz)
    clear hz
    go_enter Tryd.func77, Tryd.ntmps77
    go_wp2_with fail
    refine HC.out.mono ?_
    rintro e w1 ⟨rfl, h1, hk1⟩
    have HD := Lib.hid (And.intro h1 hk1)
    clear h1 hk1
    go_wp2
    go_ret
    rw [HY.out]
    exact BeganTo.to ⟨rfl, HD.out.1, HD.out.2⟩
end Go.Proofs.YtficodklidaheaaDoor
/- Layer 19 plainly: a disk of one file, whose bytes are frames one behind the other. -/
namespace Go.Proofs.YtficodklidaheaaDoor
open Go.RowKit

theorem putS_one {α : Type} (s : ByteArray) (f g : α) : putS [(s, f)] s g = [(s, g)] := by simp [putS, ltN_irrefl]
theorem putS_nil {α : Type} (s : ByteArray) (g : α) : putS [] s g = [(s, g)] := rfl
theorem getM_one {α : Type} (s : ByteArray) (f : α) : getM [(s, f)] s = some f := by simp [getM]
/-- A disk that won't fail. -/
structure Calm (D : DA) : Prop where
  down : D.down = false
  fail : D.failIn = -1
  crash : D.crashIn = -1
theorem Calm.begin {D : DA} (h : Calm D) : beginD D = (countedD D, 0) := by
  unfold beginD
  rw [h.down, h.crash, h.fail]
  rfl
theorem Calm.counted {D : DA} (h : Calm D) : Calm (countedD D) := ⟨h.down, by unfold countedD; rw [h.fail]; rfl, by unfold countedD; rw [h.crash]; rfl⟩
theorem Calm.behind {D : DA} (h : Calm D) (f : DA → DA × Int) : behindD D f = f (countedD D) := by unfold behindD; rw [h.begin]; rfl
/-- What a call's beginning leaves, if no call is to fail. -/
theorem beginD_one {D : DA} (hf : D.failIn = -1) : ((beginD D).2 = 0 ∨ (beginD D).2 = 13) ∧ (beginD D).1.L = D.L ∧ (beginD D).1.cap = D.cap ∧ (beginD D).1.failIn = -1 ∧ ((beginD D).2 = 13 → (beginD D).1.down = true) := by
  unfold beginD
  by_cases h1 : D.down = true
  · rw [if_pos h1]; exact ⟨.inr rfl, rfl, rfl, hf, fun _ => h1⟩
  rw [if_neg h1]
  have e1 : (countedD D).failIn = -1 := by unfold countedD; rw [hf]; rfl
  by_cases h2 : D.crashIn = 0
  · rw [if_pos h2]; exact ⟨.inr rfl, rfl, rfl, e1, fun _ => rfl⟩
  rw [if_neg h2, if_neg (by omega)]
  exact ⟨.inl rfl, rfl, rfl, e1, fun h => by cases h⟩
theorem behind_one {D : DA} (hf : D.failIn = -1) (f : DA → DA × Int) : (behindD D f = f (beginD D).1 ∧ (beginD D).2 = 0) ∨ (behindD D f = beginD D ∧ (beginD D).2 = 13) := by
  unfold behindD
  rcases (beginD_one hf).1 with h | h
  · exact .inl ⟨if_pos h, h⟩
  · exact .inr ⟨if_neg (by omega), h⟩
theorem append_one {D : DA} {s : ByteArray} {f : PF} (h : D.L = [(s, f)]) (hf : D.failIn = -1) (b : List Nat) :
    (((appendD D s b).2 = 0 ∧ (appendD D s b).1.L = [(s, ⟨f.b ++ b, f.s⟩)]) ∨ (((appendD D s b).2 = 12 ∨ (appendD D s b).2 = 13) ∧ (appendD D s b).1.L = [(s, f)])) ∧ (appendD D s b).1.failIn = -1 ∧ (appendD D s b).1.cap = D.cap := by
  obtain ⟨_, h2, h3, h4, _⟩ := beginD_one hf
  unfold appendD
  rcases behind_one hf (withF s fun f D => if D.cap - usedL D.L < (b.length : Int) then (D, 12) else ({ D with L := putS D.L s ⟨f.b ++ b, f.s⟩ }, 0)) with ⟨e, _⟩ | ⟨e, e2⟩
  · rw [e]
    unfold withF
    rw [h2, h, getM_one]
    dsimp only
    split
    · exact ⟨.inr ⟨.inl rfl, by rw [h2, h]⟩, h4, h3⟩
    · exact ⟨.inl ⟨rfl, by dsimp only; rw [h2, h, putS_one]⟩, h4, h3⟩
  · rw [e]
    exact ⟨.inr ⟨.inr e2, by rw [h2, h]⟩, h4, h3⟩
theorem sync_one {D : DA} {s : ByteArray} {f : PF} (h : D.L = [(s, f)]) (hf : D.failIn = -1) :
    (((syncD D s).2 = 0 ∧ (syncD D s).1.L = [(s, ⟨f.b, f.b.length⟩)]) ∨ ((syncD D s).2 = 13 ∧ (syncD D s).1.L = [(s, f)])) ∧ (syncD D s).1.failIn = -1 ∧ (syncD D s).1.cap = D.cap := by
  obtain ⟨_, h2, h3, h4, _⟩ := beginD_one hf
  unfold syncD
  rcases behind_one hf (withF s fun f D => ({ D with L := putS D.L s ⟨f.b, f.b.length⟩ }, 0)) with ⟨e, _⟩ | ⟨e, e2⟩
  · rw [e]
    unfold withF
    rw [h2, h, getM_one]
    exact ⟨.inl ⟨rfl, by dsimp only; rw [h2, h, putS_one]⟩, h4, h3⟩
  · rw [e]
    exact ⟨.inr ⟨e2, by rw [h2, h]⟩, h4, h3⟩
theorem append_calm {D : DA} {s : ByteArray} {f : PF} (h : D.L = [(s, f)]) (hc : Calm D) (b : List Nat) :
    (D.cap - f.b.length < (b.length : Int) ∧ (appendD D s b).2 = 12 ∧ (appendD D s b).1.L = [(s, f)] ∧ Calm (appendD D s b).1) ∨ (appendD D s b).2 = 0 ∧ (appendD D s b).1.L = [(s, ⟨f.b ++ b, f.s⟩)] ∧ Calm (appendD D s b).1 := by
  unfold appendD
  rw [hc.behind]
  unfold withF
  have e1 : (countedD D).L = D.L := rfl
  rw [e1, h, getM_one]
  have e2 : usedL [(s, f)] = f.b.length := by simp [usedL]
  dsimp only
  rw [e1, h, e2]
  have e3 : (countedD D).cap = D.cap := rfl
  rw [e3]
  by_cases hs : D.cap - (f.b.length : Int) < (b.length : Int)
  · rw [if_pos hs]
    exact .inl ⟨hs, rfl, by rw [e1, h], hc.counted⟩
  · rw [if_neg hs]
    exact .inr ⟨rfl, by dsimp only; rw [putS_one], ⟨hc.counted.down, hc.counted.fail, hc.counted.crash⟩⟩
theorem cut_calm {D : DA} {s : ByteArray} {f : PF} (h : D.L = [(s, f)]) (hc : Calm D) {n : Nat} (hn : n ≤ f.b.length) :
    (cutD D s n).2 = 0 ∧ (cutD D s n).1.L = [(s, cutF f n)] ∧ Calm (cutD D s n).1 ∧ (cutD D s n).1.cap = D.cap := by
  unfold cutD
  rw [hc.behind]
  unfold withF
  have e1 : (countedD D).L = D.L := rfl
  rw [e1, h, getM_one]
  dsimp only
  rw [if_neg (by omega), e1, h, putS_one]
  exact ⟨rfl, by rw [Int.toNat_natCast], ⟨hc.counted.down, hc.counted.fail, hc.counted.crash⟩, rfl⟩
theorem create_calm {D : DA} {s : ByteArray} (h : D.L = []) (hc : Calm D) (hn : nameB s = true) :
    (createD D s).2 = 0 ∧ (createD D s).1.L = [(s, ⟨[], 0⟩)] ∧ Calm (createD D s).1 ∧ (createD D s).1.cap = D.cap := by
  unfold createD
  rw [hc.behind]
  unfold createF
  have e1 : (countedD D).L = D.L := rfl
  rw [hn, e1, h]
  exact ⟨rfl, rfl, ⟨hc.counted.down, hc.counted.fail, hc.counted.crash⟩, rfl⟩
theorem create_bad {D : DA} {s : ByteArray} (hc : Calm D) (hn : nameB s = false) : createD D s = (countedD D, 3) := by
  unfold createD
  rw [hc.behind]
  unfold createF
  rw [hn]
  rfl
theorem boot_one {D : DA} {s : ByteArray} {f : PF} (h : D.L = [(s, f)]) (hd : D.down = true) (keep : List Int) :
    (bootD D keep).2 = 0 ∧ (bootD D keep).1.L = [(s, bootF (keep.headD 0) f)] ∧ Calm (bootD D keep).1 ∧ (bootD D keep).1.cap = D.cap := by
  unfold bootD
  rw [if_pos hd]
  exact ⟨rfl, by dsimp only; rw [h]; rfl, ⟨rfl, rfl, rfl⟩, rfl⟩
/-- How many bytes the first records have, framed. -/
def enL (Ls : List (List Nat)) (m : Nat) : Nat := (allL (Ls.take m)).length
theorem enL_mono (Ls : List (List Nat)) {a b : Nat} (h : a ≤ b) : enL Ls a ≤ enL Ls b := by
  unfold enL
  have : Ls.take b = Ls.take a ++ (Ls.take b).drop a := by
    conv => lhs; rw [← List.take_append_drop a (Ls.take b)]
    rw [List.take_take, Nat.min_eq_left h]
  rw [this, allL_append, List.length_append]
  omega
theorem enL_all (Ls : List (List Nat)) : enL Ls Ls.length = (allL Ls).length := by unfold enL; rw [List.take_length]
/-- The greatest number of frames within so many bytes. -/
theorem enL_cut (Ls : List (List Nat)) (k : Nat) : ∃ m, m ≤ Ls.length ∧ enL Ls m ≤ k ∧ ∀ q, q ≤ Ls.length → m < q → k < enL Ls q := by
  have key : ∀ n, n ≤ Ls.length → ∃ m, m ≤ n ∧ enL Ls m ≤ k ∧ ∀ q, q ≤ n → m < q → k < enL Ls q := by
    intro n
    induction n with
    | zero => intro _; exact ⟨0, Nat.le_refl _, by simp [enL, allL], fun q h1 h2 => by omega⟩
    | succ n ih =>
      intro hn
      by_cases h : enL Ls (n + 1) ≤ k
      · exact ⟨n + 1, Nat.le_refl _, h, fun q h1 h2 => by omega⟩
      · obtain ⟨m, h1, h2, h3⟩ := ih (by omega)
        refine ⟨m, by omega, h2, fun q hq hm => ?_⟩
        by_cases e : q = n + 1
        · rw [e]; omega
        · exact h3 q (by omega) hm
  exact key _ (Nat.le_refl _)
/-- What is read of frames that were cut off: all that lie whole within. -/
theorem wal_cut (Ls : List (List Nat)) (hl : ∀ l ∈ Ls, l.length ≤ 65536) {k sure : Nat} (hk : k ≤ (allL Ls).length) (hs : sure ≤ Ls.length) (hs2 : enL Ls sure ≤ k) :
    ∃ m e, m ≤ Ls.length ∧ sure ≤ m ∧ ScanR ((allL Ls).take k) (Ls.take m) (enL Ls m) e ∧ (e = 0 ∨ e = 2) ∧ enL Ls m ≤ k := by
  obtain ⟨m, h1, h2, h3⟩ := enL_cut Ls k
  obtain ⟨e, h4, h5⟩ := scan_cut Ls hl k m h1 h2 hk h3
  refine ⟨m, e, h1, ?_, h4, h5.imp (·.1) (·.1), h2⟩
  rcases Nat.lt_or_ge m sure with h | h
  · have := h3 sure hs h; omega
  · exact h
theorem scan_all (Ls : List (List Nat)) (hl : ∀ l ∈ Ls, l.length ≤ 65536) : ScanR (allL Ls) Ls (allL Ls).length 0 := by
  have := scan_frames Ls hl [] [] 0 0 .done
  simpa using this
end Go.Proofs.YtficodklidaheaaDoor
/- Rows of bytes that are owned, as rows. -/
namespace Go.Proofs.YtficodklidaheaaDoor
open Go.RowKit

theorem own_RowsAt {w : World} {B C : Nat} {v : Value} {vs : List Value} {Ls : List (List Nat)} (hb : ∀ l ∈ Ls, ∀ x ∈ l, x < 256) (ho : w.ownsRow B 22 1 v vs.length vs) (hr : Rows8 w C vs Ls) : RowsAt w v Ls := by
  have hl := hr.length
  obtain ⟨ao, c, rfl⟩ := ownsRow_slice ho
  rw [hl]
  refine ⟨ao, c, rfl, fun i hi => ?_⟩
  obtain ⟨u, hu, h8⟩ := hr.at_ i hi
  obtain ⟨g, cap, hv, _, _⟩ := own_at ho (by omega)
  injection hv with h1 h2 h3
  subst h1
  have hc := ho.cells (g := g) rfl i u hu
  obtain ⟨ai, ci, rfl⟩ := ownsRow_slice h8
  exact ⟨_, ai, ci, rfl, hc, row8_own (hb _ (by rw [List.getD_eq_getElem?_getD, List.getElem?_eq_getElem hi]; simp)) h8⟩
end Go.Proofs.YtficodklidaheaaDoor
