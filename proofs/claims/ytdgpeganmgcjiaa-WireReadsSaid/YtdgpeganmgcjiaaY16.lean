/- Layer 30: awake; a row of one field; a row of fields cut at its front. -/
import Derived.Test.YtdgpeganmgcjiaaY15
namespace Go.Proofs.Ytdgpeganmgcjiaa
open Go.RowKit
attribute [local go_sem ↓] Go.wp_at_zero Go.wp_at_succ

theorem by_lit (w : World) (l : List Nat) (hb : ∀ x ∈ l, x < 256) (hl : l.length ≤ 1000) : By (w.alloc (.cells (bys l).toArray 5)) (some ⟨w.heap.size, 0, none⟩) l.length l := by
  have h := own_fresh w 5 1 (bys l) l.length (by simp) (by unfold maxLen; omega)
  have hm : Mine w (w.alloc (.cells (bys l).toArray 5)) 5 (.slice (some ⟨w.heap.size, 0, none⟩) l.length l.length) (bys l) := ⟨by rw [bys_length]; exact h, (Kept.refl _ _).alloc _⟩
  exact By.ofMine hm hb
theorem flds_one (w : World) (p : PR) (h : FldOk w p) : FldsAt (w.alloc (.cells #[.int .i64 p.r.num, .int .i64 p.r.ty, .int .u64 (p.r.v : Int), .slice p.a p.r.b.length p.c] 40)) (some ⟨w.heap.size, 0, none⟩) [p] := by
  refine ⟨fun _ => ⟨w.heap.size, 0, rfl, fun i q hi => ?_⟩, fun q hq => ?_⟩
  · cases i with
    | succ i => simp at hi
    | zero =>
      simp at hi; subst hi
      have hb := box4 (heap_alloc_new w (.cells #[.int .i64 p.r.num, .int .i64 p.r.ty, .int .u64 (p.r.v : Int), .slice p.a p.r.b.length p.c] 40))
      exact ⟨hb.1.1, hb.1.2.1, hb.1.2.2.1, hb.1.2.2.2⟩
  · rw [List.mem_singleton] at hq; subst hq
    exact h.kept ((Kept.refl _ _).alloc _)
/-- A row of fields without its first ones. -/
theorem FldsAt.drop {W : World} {g o : Nat} {L : List PR} (h : FldsAt W (some ⟨g, o, none⟩) L) (k : Nat) : FldsAt W (some ⟨g, o + k * 4, none⟩) (L.drop k) := by
  refine ⟨fun h0 => ?_, fun p hp => h.ok p (List.mem_of_mem_drop hp)⟩
  rw [List.length_drop] at h0
  obtain ⟨g', o', e, hr⟩ := h.at_ (by omega)
  injection e with e; injection e with e1 e2; subst e1; subst e2
  refine ⟨g, o + k * 4, rfl, fun i p hi => ?_⟩
  rw [List.getElem?_drop] at hi
  have := hr _ p hi
  rwa [show o + (k + i) * 4 = o + k * 4 + i * 4 by omega] at this
theorem run_cutL4 (g o len cap lo : Nat) (hlo : lo ≤ len) (hc : lo < cap) (w : World) :
    (Instr.slice 22 (.slice (some ⟨g, o, none⟩) len cap) (some (.int .i64 (lo : Int))) none none).run Try.prog w = .ok (.slice (some ⟨g, o + lo * 4, none⟩) (len - lo) (cap - lo)) w := by
  have he : Try.prog.elem 22 = 40 := by simp [Program.elem, Try.underlying22]
  obtain ⟨i, hi, hz0, hz1, hz2⟩ := info_parts Try.infoFld
  rw [run_slice_l w _ _ len cap (by rw [he]; exact Try.underlying22) .i64 lo (by omega) (by omega), he]
  have ha : (⟨g, o, none⟩ : Addr).add (lo * 4) = ⟨g, o + lo * 4, none⟩ := by unfold Addr.add; split <;> simp_all
  have hne : ¬ cap = lo := by omega
  simp [sizeOf, typeInfo, hi, hz1, sliced, ha, hne]

theorem s300 : strN [172, 2] = ByteArray.mk #[172, 2] := by decide
theorem s150 : strN [8, 150, 1] = ByteArray.mk #[8, 150, 1] := by decide
set_option maxHeartbeats 4000000 in
set_option maxRecDepth 100000 in
theorem awake30_any (w : World) :
    Calls Try.prog 6 #[] w fun e w' => e = .returned (.bool true) ∧ Kept (fun _ => False) w w' := by
  have HE := Lib.hid fun (w : World) => (show Calls Try.prog 8 #[.slice (some ⟨w.heap.size, 0, none⟩) 1 1] (w.alloc (.cells #[.int .i64 1, .int .i64 0, .int .u64 150, .slice none 0 0] 40)) (fun e w' => ∃ a c', e = .returned (.tuple #[.slice a 3 c', .int .i64 0]) ∧ Mine (w.alloc (.cells #[.int .i64 1, .int .i64 0, .int .u64 150, .slice none 0 0] 40)) w' 5 (.slice a 3 c') (bys [8, 150, 1])) from
    wEncode_any (some ⟨w.heap.size, 0, none⟩) 1 [⟨⟨1, 0, 150, []⟩, none, 0⟩] _ (flds_one w ⟨⟨1, 0, 150, []⟩, none, 0⟩ ⟨by unfold I64; simp only; omega, by unfold I64; simp only; omega, by simp, By.ofMine (Mine.nil w 5) (by simp)⟩) (by simp) (by simp) [8, 150, 1] 0 (by decide) (by decide))
  have HG := Lib.hid fun (w : World) => (show Calls Try.prog 18 #[.slice (some ⟨w.heap.size, 0, none⟩) 2 2, .int .i64 0] (w.alloc (.cells #[.int .u8 128, .int .u8 0] 5)) (fun e w' => e = .returned (.tuple #[.int .u64 0, .int .i64 0, .int .i64 3]) ∧ (w.alloc (.cells #[.int .u8 128, .int .u8 0] 5)) = w') from
    getVar_any (some ⟨w.heap.size, 0, none⟩) 2 [128, 0] _ (by_lit w [128, 0] (by decide) (by decide)) (by simp) 0 (by simp) 0 0 3 (by decide))
  have HD := Lib.hid fun (w : World) => (show Calls Try.prog 10 #[.slice (some ⟨w.heap.size, 0, none⟩) 3 3] (w.alloc (.cells #[.int .u8 8, .int .u8 1, .int .u8 13] 5)) (fun e w' => ∃ M a c', recsR M = [] ∧ e = .returned (.tuple #[.slice a M.length c', .int .i64 2, .int .i64 14]) ∧ MineF (w.alloc (.cells #[.int .u8 8, .int .u8 1, .int .u8 13] 5)).heap.size (w.alloc (.cells #[.int .u8 8, .int .u8 1, .int .u8 13] 5)) w' (.slice a M.length c') M) from
    wDecode_any (some ⟨w.heap.size, 0, none⟩) 3 [8, 1, 13] _ (by_lit w [8, 1, 13] (by decide) (by decide)) (by simp) [] 2 14 (by kernel_rfl))
  have HV := Lib.hid fun (w : World) => (show Calls Try.prog 19 #[.int .u64 300] w (fun e w' => ∃ a c, e = .returned (.slice a 2 c) ∧ Mine w w' 5 (.slice a 2 c) (bys [172, 2])) from wvar_any 300 (by decide) w)
  go_enter Try.func6, Try.ntmps6
  go_wp2_with fail
  refine (HE.out w).mono ?_
  rintro e w1 ⟨a1, c1, rfl, hm1⟩
  have HM1 := Lib.hid hm1
  clear hm1
  go_wp2_with fail
  refine (HG.out w1).mono ?_
  rintro e w2 ⟨rfl, rfl⟩
  have HK2 := Lib.hid ((Kept.refl (fun _ => False) w1).alloc (.cells #[.int .u8 128, .int .u8 0] 5))
  obtain ⟨w2, hw2⟩ : ∃ w2, w2 = w1.alloc (.cells #[.int .u8 128, .int .u8 0] 5) := ⟨_, rfl⟩
  rw [← hw2] at HK2 ⊢
  clear hw2
  go_wp2_with fail
  refine (HD.out w2).mono ?_
  rintro e w3 ⟨M, a3, c3, _, rfl, hm3⟩
  obtain ⟨m3, hm⟩ : ∃ m, m = M.length := ⟨_, rfl⟩
  rw [← hm]
  have HK3 := Lib.hid (((Kept.refl (fun _ => False) w2).alloc _).trans hm3.kept)
  clear hm3 hm
  go_wp2_with fail
  refine (HV.out w3).mono ?_
  rintro e w4 ⟨a4, c4, rfl, hm4⟩
  have HK4 := Lib.hid hm4.kept
  have q1 := mine_conv hm4
  have q2 := mine_conv (HM1.out.on ((HK2.out.trans HK3.out).trans HK4.out))
  rw [s300] at q1
  rw [s150] at q2
  clear hm4
  go_wp2
  go_ret
  exact ⟨rfl, ((((Kept.refl _ _).alloc _).trans HM1.out.kept).trans HK2.out).trans (HK3.out.trans HK4.out)⟩
end Go.Proofs.Ytdgpeganmgcjiaa
