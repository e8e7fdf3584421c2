/- package frame, layer 4: frames, plainly; what the document tells (awake). -/
import Derived.Test.YtficodklidaheaaDoorF6
namespace Go.Proofs.YtficodklidaheaaDoor
open Go.RowKit
attribute [local go_sem ↓] Go.wp_at_zero Go.wp_at_succ

theorem row8_none (w : World) : Row8 w (.slice none 0 0) [] := ⟨none, 0, rfl, by simp, fun j hj => absurd hj (by simp)⟩
theorem frame_cons (l r : List Nat) : frameL l ++ r = 165 :: (fourL l.length ++ (fourL (sumL l) ++ (l ++ r))) := by simp [frameL, headL]
theorem frame_len (l r : List Nat) : (frameL l ++ r).length = 9 + l.length + r.length := by rw [List.length_append, frameL_len]
theorem frame_drop1 (l r : List Nat) : ((frameL l ++ r).drop 1).take 4 = fourL l.length := by
  rw [frame_cons]
  show ((fourL l.length ++ (fourL (sumL l) ++ (l ++ r)))).take 4 = _
  rw [List.take_append_of_le_length (by rw [fourL_len]; omega)]; rfl
theorem frame_drop5 (l r : List Nat) : ((frameL l ++ r).drop 5).take 4 = fourL (sumL l) := by
  rw [frame_cons]
  show ((fourL (sumL l) ++ (l ++ r))).take 4 = _
  rw [List.take_append_of_le_length (by rw [fourL_len]; omega)]; rfl
theorem frame_drop9 (l r : List Nat) : (frameL l ++ r).drop 9 = l ++ r := by
  rw [frame_cons]; rfl
theorem frame_size (l r : List Nat) (hl : l.length ≤ 65536) : sizeL (frameL l ++ r) = l.length := by
  unfold sizeL; rw [frame_drop1, num_four _ (by omega)]
theorem frame_pay (l r : List Nat) (hl : l.length ≤ 65536) : payL (frameL l ++ r) = l := by
  unfold payL; rw [frame_size l r hl, frame_drop9]; simp
theorem frame_take5 (l r : List Nat) : (frameL l ++ r).take 5 = headL l := by
  rw [frame_cons]; rfl
theorem frame_want (l r : List Nat) : wantL (frameL l ++ r) = sumL l := by
  unfold wantL; rw [frame_drop5, num_four _ (sumL_lt l)]
theorem frame_first (l r : List Nat) (hl : l.length ≤ 65536) : firstE (frameL l ++ r) = 0 := by
  unfold firstE
  have h1 : (frameL l ++ r).getD 0 0 = 165 := by rw [frame_cons]; rfl
  rw [frame_len, frame_size l r hl, frame_pay l r hl, frame_take5, frame_want, h1, if_neg (by omega), if_neg (by omega), if_neg (by omega), if_neg (by omega), if_neg (by omega)]
  have : crcMore (crcMore 0 (headL l)) l = sumL l := rfl
  rw [this]; simp
theorem frame_rest (l r : List Nat) (hl : l.length ≤ 65536) : (frameL l ++ r).drop (9 + sizeL (frameL l ++ r)) = r := by
  rw [frame_size l r hl, ← List.drop_drop, frame_drop9]; simp
theorem ScanR.frame {l r : List Nat} (hl : l.length ≤ 65536) {Ls : List (List Nat)} {u e : Nat} (h : ScanR r Ls u e) : ScanR (frameL l ++ r) (l :: Ls) (9 + l.length + u) e := by
  have := ScanR.more (frameL l ++ r) Ls u e (frame_first l r hl) (by rw [frame_rest l r hl]; exact h)
  rwa [frame_pay l r hl, frame_size l r hl] at this
theorem scan_awake : ScanR (frameL [] ++ [165]) [[]] 9 2 := ScanR.frame (l := []) (by simp) (ScanR.bad [165] (by simp) (by decide))

/-- A row that has something begins at a block's start. -/
theorem own_at {w : World} {base : Nat} {E : TypeId} {v : Value} {n : Nat} {xs : List Value} (ho : w.ownsRow base E 1 v n xs) (hn : 0 < n) : ∃ g cap, v = .slice (some ⟨g, 0, none⟩) n cap ∧ base ≤ g ∧ n ≤ cap := by
  rcases ho.2 with ⟨_, h⟩ | ⟨g, cap, cur, rfl, hg, _, hc, _⟩
  · omega
  · exact ⟨g, cap, rfl, hg, hc⟩

set_option maxHeartbeats 1000000 in
theorem awake_any (w : World) (HN : Nibs w) :
    Calls Tryd.prog 12 #[] w fun e w' => e = .returned (.bool true) ∧ Kept (fun _ => False) w w' := by
  obtain ⟨i0, hi, hz0, hz1, hz2⟩ := info_parts info_u8
  have HW := Lib.hid (wrap_any (.slice none 0 0) [] (by simp) w (row8_none w) HN)
  have HN' := Lib.hid HN
  clear HN
  go_enter Tryd.func12, Tryd.ntmps12
  go_wp2_with (first
    | (go_at_call 19; refine HW.out.mono ?_; intro e w1 h1; obtain ⟨v1, rfl, ho, hk⟩ := h1; obtain ⟨g, cap, rfl, hg, hcap⟩ := own_at ho (by omega); have HO := Lib.hid ho; have HK := Lib.hid hk; clear ho hk)
    | (at_builtin; refine wpList_append_src _ rfl (.tmp 11) (.tmp 12) 22 22 rfl w1.heap.size 5 i0 (.int .u8 0) 1 1 Tryd.underlying22 hi hz0 hz1 hz2 rfl (.slice (some ⟨w1.heap.size, 0, none⟩) 0 0) 0 (b8 []) rfl ?c0 (.slice (some ⟨g, 0, none⟩) 9 cap) 9 (b8 (frameL [])) rfl ?cs ?c1 ?c2 ?c3 ?_))
  case c0 => exact own_new w1 w1.heap.size [] (by simp [maxLen]) rfl 0 rfl
  case cs =>
    have := ((row8_own (frameL_lt [] (by simp)) HO.out).kept ((Kept.refl _ w1).alloc (.cells #[] 5))).src'
    exact this
  case c1 => simp [maxLen]
  case c2 => omega
  case c3 => simp
  intro v2 w2 hown hgr _ hat
  have K2 : Kept (fun _ => False) w1 w2 := ((Kept.refl _ w1).alloc _).grown hgr (fun k e hlt => by simp [Value.ownBlock] at e; omega)
  have O2 : w2.ownsRow w1.heap.size 5 1 v2 9 (b8 (frameL [])) := by simpa [b8] using hown
  have HO2 := Lib.hid O2
  have HK2 := Lib.hid K2
  clear hown hgr hat O2 K2
  go_wp2_with (at_builtin; refine wpList_append_src _ rfl (.tmp 13) (.tmp 14) 22 22 rfl w1.heap.size 5 i0 (.int .u8 0) 1 1 Tryd.underlying22 hi hz0 hz1 hz2 rfl v2 9 (b8 (frameL [])) rfl ?c0 (.slice (some ⟨w2.heap.size, 0, none⟩) 1 1) 1 [.int .u8 165] rfl ?cs ?c1 ?c2 ?c3 ?_)
  case c0 => exact ((Kept.refl (fun _ => False) w2).alloc _).owns HO2.out (fun _ _ x => x)
  case cs => exact src_one _ Tryd.underlying22 _ rfl
  case c1 => simp [maxLen]
  case c2 => omega
  case c3 => have := HK2.out.size; simp; omega
  intro v3 w3 hown hgr _ hat
  have K3 : Kept (fun _ => False) w1 w3 := (HK2.out.alloc _).grown hgr (fun k e hlt => by have := (ownsRow_lt HO2.out e).2; omega)
  have O3 : w3.ownsRow w1.heap.size 5 1 v3 10 (b8 (frameL [] ++ [165])) := by rw [b8_append]; exact hown
  obtain ⟨g3, cap3, rfl, _, hcap3⟩ := own_at O3 (by omega)
  have R3 := row8_own (l := frameL [] ++ [165]) (by intro x hx; rcases List.mem_append.1 hx with h | h; exact frameL_lt [] (by simp) x h; simp at h; omega) O3
  have hl3 : (frameL [] ++ [165]).length = 10 := by simp [frameL_len]
  have S3 := scan_any (some ⟨g3, 0, none⟩) cap3 (frameL [] ++ [165]) (by omega) (by omega) w3 (by rw [hl3]; exact R3) (HN'.out.kept (HK.out.trans K3))
  rw [hl3] at S3
  have HS3 := Lib.hid S3
  have HK3 := Lib.hid K3
  clear S3 K3 R3 O3 hown hgr hat hl3 HO2 HK2
  have HC : Hid (∀ w', Kept (fun _ => False) w3 w' → w'.cell? ⟨g, 0, none⟩ = some (.int .u8 165)) := Lib.hid fun w' hk => by
    have := hk.cell (HK3.out.cell (HO.out.cells (g := g) rfl 0 (.int .u8 165) (by rfl)) (fun x => x)) (fun x => x)
    simpa [Addr.add] using this
  go_wp2_with (go_at_call 15; refine HS3.out.mono ?_; intro e w4 h1; obtain ⟨vl, vs, Ls, u, n, hr, rfl, hown, hrows, hk⟩ := h1; obtain ⟨rfl, rfl, rfl⟩ := hr.fn scan_awake; obtain ⟨al, cl, rfl⟩ := ownsRow_slice hown; have hvl := hrows.length; have hvl1 : vs.length = 1 := hvl; rw [hvl1]; have hcell := HC.out _ hk; have HK4 := Lib.hid hk; clear hrows hown hk hvl hvl1 hr)
  go_ret
  exact ⟨rfl, (HK.out.trans HK3.out).trans HK4.out⟩
end Go.Proofs.YtficodklidaheaaDoor
