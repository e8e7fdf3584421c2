/- Layer 6: a writer and a row that were made; awake. -/
import Derived.Test.YtaagjedkojlbpaaDoorV23
import Derived.Test.YtaagjedkojlbpaaDoorL3
namespace Go.Proofs.YtaagjedkojlbpaaDoor
open Go.RowKit
attribute [local go_sem ↓] Go.wp_at_zero Go.wp_at_succ

theorem Tabs.lt {w : World} (h : Tabs w) : 1 < w.heap.size := World.block_lt_of_cell? w _ (h.y 0 (by omega))
theorem Kept.newer {W w w' : World} {S : Nat → Prop} (h : Kept (fun _ => False) W w) (k : Kept S w w') (hs : ∀ i, S i → W.heap.size ≤ i) : Kept (fun _ => False) W w' := h.step k (fun i hi x => by have := hs i x; omega)
theorem BwAt.apartT {w : World} {B p r : Nat} {v : Value} {bs : List Bool} {cs : Array Value} {T : TypeId} {fr : Nat × Nat} (h : BwAt w B p v bs) (hr : w.heap[r]? = some (.cells cs T fr)) (h1 : T ≠ 74) (h2 : T ≠ 5) : r ≠ p ∧ v.ownBlock ≠ some r := by
  refine ⟨?_, ?_⟩
  · rintro rfl
    have := h.box
    rw [hr] at this
    injection this with this; injection this with _ e _
    exact h1 e
  · intro e
    obtain ⟨cur, hc⟩ := ownsRow_block h.owns e
    rw [hr] at hc
    injection hc with this; injection this with _ e _
    exact h2 e
/-- A writer that was made behind the world W. -/
structure WrS (W w : World) (p : Nat) (v : Value) (bs : List Bool) : Prop where
  bw : BwAt w W.heap.size p v bs
  kept : Kept (fun _ => False) W w
/-- A writer and a row. -/
structure WRow (W w : World) (p r : Nat) (v : Value) (bs : List Bool) (n last step : Int) : Prop where
  bw : BwAt w W.heap.size p v bs
  row : RowBox w r n last step
  base : W.heap.size ≤ r
  kept : Kept (fun _ => False) W w
theorem WRow.ne {W w : World} {p r : Nat} {v : Value} {bs : List Bool} {n last step : Int} (h : WRow W w p r v bs n last step) : r ≠ p ∧ v.ownBlock ≠ some r := h.bw.apartT h.row (by decide) (by decide)
theorem WRow.on {W w w' : World} {p r : Nat} {v : Value} {bs : List Bool} {n last step : Int} (h : WRow W w p r v bs n last step) (hk : Kept (fun _ => False) w w') : WRow W w' p r v bs n last step :=
  ⟨h.bw.keptF hk, h.row.kept hk (fun x => x), h.base, h.kept.trans hk⟩
theorem WRow.put {W w w' : World} {p r : Nat} {v : Value} {bs bs2 : List Bool} {n last step : Int} (h : WRow W w p r v bs n last step) (ht : BwTo w w' W.heap.size p v bs2) : ∃ v', WRow W w' p r v' bs2 n last step := by
  obtain ⟨v', h1, a1, k1⟩ := ht
  refine ⟨v', h1, h.row.kept k1 (fun e => e.elim h.ne.1 h.ne.2), h.base, h.kept.newer k1 ?_⟩
  rintro i (rfl | e)
  · exact h.bw.base
  · exact (ownsRow_lt h.bw.owns e).2
theorem WRow.rput {W w w' : World} {p r : Nat} {v : Value} {bs : List Bool} {n last step x : Int} {e : Ending} (h : WRow W w p r v bs n last step) (ht : RowPut w W.heap.size p r v bs n last step x e w') : e = .returned (.tuple #[]) ∧ ∃ v', WRow W w' p r v' (bs ++ nextB n last step x) (n + 1) x (stepOf n last step x) := by
  obtain ⟨he, hr, v', h1, a1, k1⟩ := ht
  refine ⟨he, v', h1, hr, h.base, h.kept.newer k1 ?_⟩
  rintro i (rfl | e | rfl)
  · exact h.bw.base
  · exact (ownsRow_lt h.bw.owns e).2
  · exact h.base

theorem rowPutW (W w : World) (p r : Nat) (v : Value) (bs : List Bool) (n last step x : Int) (h : WRow W w p r v bs n last step) (HT : Tabs W) (hn : 0 ≤ n) (hn2 : n ≤ 1000000) (hx : I64 x) (hl : bs.length ≤ 900000000) :
    Calls Tryd.prog 28 #[.pointer (some ⟨r, 0, none⟩), .pointer (some ⟨p, 0, none⟩), .int .i64 x] w fun e w' => e = .returned (.tuple #[]) ∧ ∃ v', WRow W w' p r v' (bs ++ nextB n last step x) (n + 1) x (stepOf n last step x) :=
  (rowPut_any W.heap.size p r v bs n last step x w h.bw HT.lt h.kept.size h.row h.ne.1 h.ne.2 hn hn2 hx.1 hx.2 hl (HT.kept h.kept)).mono fun _ _ k => h.rput k

theorem bytesStr (W w : World) (p : Nat) (v : Value) (bs : List Bool) (h : BwAt w W.heap.size p v bs) (hl : bs.length ≤ 100000000) :
    Calls Tryd.prog 17 #[.pointer (some ⟨p, 0, none⟩)] w fun e w' => ∃ vb, e = .returned vb ∧ (∀ w'', Kept (fun _ => False) w' w'' → (convert 33 9 vb).run Tryd.prog w'' = .ok (.string (strN (packB bs))) w'') ∧ Kept (fun _ => False) w w' := by
  refine (bwbytes_any W.heap.size p v bs w h (by omega)).mono ?_
  rintro e w' ⟨vb, rfl, ho, hk⟩
  exact ⟨vb, rfl, fun w'' hk2 => run_strN ((SlAt.ofOwn ho).kept hk2 (fun _ _ x => x)) 33 5 9 Tryd.underlying33 Tryd.underlying5 Tryd.underlying9, hk⟩

def aw6 : List Int := [10, 20, 30, 31]
theorem aw6_I64 : ∀ x ∈ aw6, I64 x := by intro x hx; simp only [aw6, List.mem_cons, List.not_mem_nil, or_false] at hx; unfold I64; omega
theorem aw6_small : smallB 5 = bitsN 1 2 ++ bitsN 5 7 := rfl
theorem aw6_pack1 : strN (packB ([] ++ smallB 5)) = ⟨#[66, 128]⟩ := by decide +kernel
theorem aw6_len1 : ([] ++ smallB 5).length = 9 := by decide +kernel
theorem aw6_len2 : (rowB aw6 4).length = 27 := by decide +kernel
theorem aw6_pack2 : strN (packB (rowB aw6 4)) = ⟨#[74, 37, 22, 224]⟩ := by decide +kernel

set_option maxHeartbeats 4000000 in
set_option maxRecDepth 100000 in
theorem awake6_any (w : World) (HT : Tabs w) :
    Calls Tryd.prog 10 #[] w fun e w' => e = .returned (.bool true) ∧ Kept (fun _ => False) w w' := by
  have HTT := Lib.hid HT
  have hlt := HT.lt
  clear HT
  go_enter Tryd.func10, Tryd.ntmps10
  go_wp2_with fail
  refine (bnew_any w).mono ?_
  rintro e w1 ⟨rfl, hw1⟩
  have H0 := bnew_at w.heap.size w (Nat.le_refl _)
  rw [← hw1] at H0
  have K1 : Kept (fun _ => False) w w1 := by rw [hw1]; exact (Kept.refl _ _).alloc _
  have B1 := K1.size
  have hs1 : w1.heap.size = w.heap.size + 1 := by rw [hw1]; simp
  clear hw1
  go_wp2_with fail
  refine (newRow_any w1).mono ?_
  rintro e w2 ⟨rfl, hr, K2⟩
  have HH : WRow w w2 w.heap.size w1.heap.size (.slice none 0 0) [] 0 0 0 := ⟨H0.keptF K2, hr, K1.size, K1.trans K2⟩
  obtain ⟨r, hr1⟩ : ∃ r, r = w1.heap.size := ⟨_, rfl⟩
  obtain ⟨p, hp1⟩ : ∃ p, p = w.heap.size := ⟨_, rfl⟩
  have HH' : WRow w w2 p r (.slice none 0 0) [] 0 0 0 := by rw [hp1, hr1]; exact HH
  rw [← hr1, ← hp1]
  clear hr K1 K2 H0 hr1 hp1 hs1 B1 HH
  go_wp2_with fail
  refine (varyPut_any w.heap.size p _ [] 5 w2 HH'.bw (by omega) HH'.kept.size (by decide) (by decide) (HTT.out.kept HH'.kept).c).mono ?_
  rintro e w3 ⟨rfl, ht⟩
  obtain ⟨v3, H3⟩ := HH'.put ht
  clear HH' ht
  have HL3 := Lib.hid (bwlen_any _ _ _ _ _ H3.bw)
  rw [aw6_len1] at HL3
  have HB3 := Lib.hid (bytesStr _ _ _ _ _ H3.bw (by decide))
  rw [aw6_pack1] at HB3
  have HS3 := Lib.hid H3
  clear H3
  go_wp2_with (first
    | (go_at_call 16; refine HL3.out.mono ?_; rintro e w' ⟨rfl, rfl⟩)
    | (go_at_call 17; refine HB3.out.mono ?_; rintro e w4 ⟨vb, rfl, hcv, hk⟩; have hcv4 := hcv w4 (Kept.refl _ _); have H4 := Lib.hid (HS3.out.on hk); clear hcv hk)
    | (go_at_call 43; refine (bcut_yes _ p v3 _ 0 w4 H4.out.bw (by decide) (by decide)).mono ?_; rintro e w5 ⟨rfl, ht⟩; have H5 := Lib.hid (H4.out.put ht); clear ht))
  obtain ⟨v5, H5⟩ := H5.out
  rw [List.take_zero] at H5
  go_loopg [3] 4 (fun g s3 wr => ∃ k : Nat, k ≤ 4 ∧ g = 4 - k ∧ s3 = .int .i64 k ∧ ∃ v, WRow w wr p r v (rowB aw6 k) k (lastA aw6 k) (stepA aw6 k))
  case atStart => exact ⟨0, Nat.zero_le _, rfl, rfl, v5, H5⟩
  case round =>
    obtain ⟨k, hk, rfl, rfl, v6, H6⟩ := hrel
    have HR := Lib.hid H6
    clear H6 H5 HS3 hcv4
    have HST := Lib.hid (fun x (hx : x = aw6.getD k 0) w' (h : Kept (fun _ => False) wr w') => rowPutW w w' p r v6 _ _ _ _ x (HR.out.on h) HTT.out (by omega) (by omega) (by have := getD_I64 (l := aw6) aw6_I64 k; rw [hx]; exact this) (by have := rowB_length aw6 k; omega))
    have HNX : Hid (rowB aw6 (k + 1) = rowB aw6 k ++ nextB k (lastA aw6 k) (stepA aw6 k) (aw6.getD k 0)) := Lib.hid rfl
    have KA := Lib.hid ((Kept.refl (fun _ => False) wr).alloc (.cells #[.int .i64 10, .int .i64 20, .int .i64 30, .int .i64 31] 3))
    have hkk : k = 4 ∨ k = 0 ∨ k = 1 ∨ k = 2 ∨ k = 3 := by omega
    rcases hkk with rfl | hkk
    · have HL := Lib.hid (bwlen_any _ _ _ _ _ HR.out.bw)
      rw [aw6_len2] at HL
      have HB := Lib.hid (bytesStr _ _ _ _ _ HR.out.bw (by decide +kernel))
      rw [aw6_pack2] at HB
      have HN := Lib.hid (rowLen_any _ _ _ _ _ HR.out.row)
      clear hk
      go_wp2_with (first
        | (go_at_call 16; refine HL.out.mono ?_; rintro e w' ⟨rfl, rfl⟩)
        | (go_at_call 29; refine HN.out.mono ?_; rintro e w' ⟨rfl, rfl⟩)
        | (go_at_call 17; refine HB.out.mono ?_; rintro e w4 ⟨vb, rfl, hcv, hk⟩; have hcv4 := hcv w4 (Kept.refl _ _); have H4 := Lib.hid (HR.out.kept.trans hk); clear hcv hk))
      go_ret
      exact ⟨rfl, H4.out⟩
    · rcases hkk with rfl | rfl | rfl | rfl
      all_goals
        clear hk
        go_wp2_with (go_at_call 28; refine (HST.out _ rfl _ KA.out).mono ?_; rintro e w7 ⟨rfl, v7, h7⟩; have H7 := Lib.hid h7; clear h7)
        clear HST KA HR HB3 HL3
      · go_roundg 3
        case measure => omega
        case rel => exact ⟨1, by omega, rfl, rfl, v7, H7.out⟩
      · go_roundg 2
        case measure => omega
        case rel => exact ⟨2, by omega, rfl, rfl, v7, H7.out⟩
      · go_roundg 1
        case measure => omega
        case rel => exact ⟨3, by omega, rfl, rfl, v7, H7.out⟩
      · go_roundg 0
        case measure => omega
        case rel => exact ⟨4, by omega, rfl, rfl, v7, H7.out⟩
end Go.Proofs.YtaagjedkojlbpaaDoor
