/- The walk of 'PackNums'. -/
import Derived.Test.YtanhdjdojeoodaaP10
import Derived.Outline
import Derived.Deep.RegionWith
namespace Go.Proofs.Ytanhdjdojeoodaa
open Go.RowKit
attribute [local go_sem ↓] Go.wp_at_zero Go.wp_at_succ

set_option maxHeartbeats 1000000 in
theorem packNums_long (a : Option Addr) (len cap : Nat) (w : World) (hlen : (60 : Int) < (len : Int)) :
    Calls Try.prog 8 #[.slice a len cap] w fun e w' => e = .returned (.bool true) ∧ Kept (fun _ => False) w w' := by
  go_enter Try.func8, Try.ntmps8
  go_wp2_with fail
  refine (awake2_any w).mono ?_
  rintro e w1 ⟨rfl, K1⟩
  go_wp2
  go_ret
  exact ⟨rfl, K1⟩

set_option maxHeartbeats 6000000 in
set_option maxRecDepth 100000 in
theorem packNums_short (a : Option Addr) (cap : Nat) (l : List Int) (w : World) (hv : SliceAt w (.slice a l.length cap) a l.length cap (u8s l)) (hb : ∀ x ∈ l, 0 ≤ x ∧ x < 256) (hl : l.length ≤ 60) (hcap : l.length ≤ cap) :
    Calls Try.prog 8 #[.slice a l.length cap] w fun e w' => e = .returned (.bool true) ∧ Kept (fun _ => False) w w' := by
  have hl' : ¬ (60 : Int) < (l.length : Int) := by omega
  have hcap' : (l.length : Int) ≤ (cap : Int) := by omega
  go_enter Try.func8, Try.ntmps8
  go_wp2_with fail
  refine (awake2_any w).mono ?_
  rintro e w1 ⟨rfl, K1⟩
  have hv1 := hv.kept K1 (fun _ _ x => x)
  go_wp2_with fail
  refine (newReader_any _ a cap l w1 hv1 (by omega) hb).mono ?_
  rintro e w2 ⟨p, v2, rfl, HR2, K2⟩
  have K2' := K1.trans K2
  have hB2 := HR2.base
  have hW1 := K1.size
  go_wp2_with fail
  refine (rnum_any _ p v2 l 0 w2 HR2 (by omega)).mono ?_
  rintro e w3 ⟨rfl, HR3, K3⟩
  have K3' : Kept (fun _ => False) w w3 := K2'.step K3 (fun k hk hp => by omega)
  have hv3 := hv.kept K3' (fun _ _ x => x)
  go_wp2_with fail
  refine (getNum_any _ a cap l 0 w3 hv3 hb (by omega) (by omega)).mono ?_
  rintro e w4 ⟨rfl, K4⟩
  have K4' := K3'.trans K4
  have HR4 := HR3.kept K4 (fun x => x) (fun _ _ x => x)
  obtain ⟨r, hr⟩ : ∃ r, r = lookF l 0 := ⟨_, rfl⟩
  rw [← hr] at HR4 HR3 ⊢
  obtain ⟨x, n, er⟩ := r
  simp only [Nat.zero_add] at HR4
  have htk : 0 + n ≤ l.length := by have := lookF_taken l 0 (by omega); rw [← hr] at this; exact this
  have HH := Lib.hid hr
  clear hr
  unfold Got
  go_wp2_with fail
  obtain ⟨wx, hwx⟩ : ∃ wx, wx = w4.alloc (.cells #[.int .u64 x, .int .i64 n, .int .i64 er] 70) := ⟨_, rfl⟩
  have hbx : wx.heap[w4.heap.size]? = some (.cells #[.int .u64 x, .int .i64 n, .int .i64 er] 70 (0, 0)) := by rw [hwx]; exact heap_alloc_new w4 _
  have Kx : Kept (fun _ => False) w4 wx := by rw [hwx]; exact (Kept.refl _ _).alloc _
  rw [← hwx]
  clear hwx
  have hx0 : wx.cell? ⟨w4.heap.size, 0, none⟩ = some (.int .u64 x) := by rw [cell_of_row wx _ 0 _ _ _ hbx]; rfl
  have hx1 : wx.cell? ⟨w4.heap.size, 1, none⟩ = some (.int .i64 n) := by rw [cell_of_row wx _ 1 _ _ _ hbx]; rfl
  have hx2 : wx.cell? ⟨w4.heap.size, 2, none⟩ = some (.int .i64 er) := by rw [cell_of_row wx _ 2 _ _ _ hbx]; rfl
  have HRx := HR4.kept Kx (fun x => x) (fun _ _ x => x)
  have HR4' := HR4
  have Kx' := K4'.trans Kx
  have hn1 : (n : Int) ≤ (l.length : Int) := by omega
  have hn2 : (l.length : Int) ≤ 60 := by omega
  go_quiet ((first | (go_at_call 48; exact quietSame (err_any _ p v2 l n er _ (HRx.drewN _))) | (go_at_call 49; exact quietSame (at_any _ p v2 l n er _ (HRx.drewN _))) | (go_at_call 50; exact quietDrawn (left_any _ p v2 l n er _ (HRx.drewN _) (by omega)))))
  by_cases he : er = 0
  · subst he
    obtain ⟨hnum, x0, x1, hn3, hn4, _⟩ := look_num l 0 n x hb HH.out.symm
    simp only [List.drop_zero] at hnum
    obtain ⟨g, off, rfl, _⟩ := hv.addr (by omega)
    clear HR2 HR3 HR4 hv1 hv3 hx0 hbx
    go_wp2_with fail
    obtain ⟨wy, hwy⟩ : ∃ wy, wy = wx.drewN nq := ⟨_, rfl⟩
    have HRy : RdAt 88 5 wy w1.heap.size p v2 l n 0 := by rw [hwy]; exact HRx.drewN _
    have hy1 : wy.cell? ⟨w4.heap.size, 1, none⟩ = some (.int .i64 n) := by rw [hwy]; simpa using hx1
    have Ky : Kept (fun _ => False) w wy := by rw [hwy]; exact Kx'.drewN _
    rw [← hwy]
    clear hwy
    refine (newWriter_any wy).mono ?_
    rintro e w5 ⟨rfl, hw5⟩
    have H5 := newWriter_at wy.heap.size wy (Nat.le_refl _)
    rw [← hw5] at H5
    have K5 : Kept (fun _ => False) wy w5 := by rw [hw5]; exact (Kept.refl _ _).alloc _
    clear hw5
    go_wp2_with fail
    refine (num_any wy.heap.size wy.heap.size _ _ x w5 H5 K5.size x0 x1 (by simp)).mono ?_
    rintro e w6 ⟨rfl, T6⟩
    have K6 : Kept (fun k => wy.heap.size ≤ k) wy w6 := (K5.mono (fun _ _ h => h.elim)).trans (WrTo.below H5 T6)
    obtain ⟨v6, H6, _, _⟩ := T6.part
    rw [hnum, List.nil_append] at H6
    have Ky6 : Kept (fun _ => False) w w6 := Ky.step K6 (fun k hk hp => by have := Ky.size; omega)
    have hv6 := hv.kept Ky6 (fun _ _ x => x)
    have HR6 := HRy.kept K6 (by have := HRy.lt; omega) (fun k hk => by have := (ownsRow_lt HRy.owns hk).1; omega)
    have h61 := K6.cell hy1 (by have := World.block_lt_of_cell? wy _ hy1; simp only at *; omega)
    have kd : Kept (fun _ => False) w6 w6.drew := (Kept.refl _ _).drew
    have H6d := H6.kept kd (fun x => x) (fun _ _ x => x)
    have HR6d := HR6.kept kd (fun x => x) (fun _ _ x => x)
    have hv6d := hv6.kept kd (fun _ _ x => x)
    have c6 := hv6d.str (m := n) (c' := cap) (by omega) (P := Try.prog) 29 5 9 Try.underlying29 Try.underlying5 Try.underlying9
    have F6 := Lib.hid (Ky6.trans kd)
    clear T6 H5 HRx hx2 hx1 Ky6 Ky K5 K6 HR6 HRy hv6 H6 Kx' Kx K4' K4 K3' K3 K2' K2 K1 hB2 hW1 HR4' hb htk
    have n0 : (0 : Int) ≤ (n : Int) := by omega
    have ncap : (n : Int) ≤ (cap : Int) := by omega
    have hd : (n = l.length ∧ ((n : Int) == (l.length : Int)) = true) ∨ (¬ n = l.length ∧ ((n : Int) == (l.length : Int)) = false) := by
      by_cases h : n = l.length
      · exact .inl ⟨h, beq_iff_eq.2 (by omega)⟩
      · exact .inr ⟨h, beq_eq_false_iff_ne.2 (by omega)⟩
    have dn : ∃ r : Int, (if n = l.length then (0 : Int) else 3) = r ∧ ((r == 0) == ((n : Int) == (l.length : Int))) = true := by
      rcases hd with ⟨a, b⟩ | ⟨a, b⟩
      · exact ⟨0, if_pos a, by rw [b]; rfl⟩
      · exact ⟨3, if_neg a, by rw [b]; rfl⟩
    obtain ⟨r, hr1, hr2⟩ := dn
    have HD := Lib.hid hr1
    clear hr1 hd
    all_goals
      go_wp2_with fail
      go_outline
      go_region_with
        (first
          | (go_at_call 44; refine (wbytes_any _ _ v6 _ _ H6d (by rw [List.length_take]; omega)).mono ?_; rintro e w7 ⟨v7, rfl, ho7, K7⟩; have h71 := K7.cell (p := ⟨w4.heap.size, 1, none⟩) (v := .int .i64 n) (by simpa using h61) (fun x => x); have hv7 := hv6d.kept K7 (fun _ _ x => x); have c7 := hv7.str (m := n) (c' := cap) (by omega) (P := Try.prog) 29 5 9 Try.underlying29 Try.underlying5 Try.underlying9; have c7d := fun q => (hv7.kept ((Kept.refl (fun _ => False) w7).drewN q) (fun _ _ x => x)).str (m := n) (c' := cap) (by omega) (P := Try.prog) 29 5 9 Try.underlying29 Try.underlying5 Try.underlying9; have c8 := run_str_own ho7 29 5 9 Try.underlying29 Try.underlying5 Try.underlying9; have HR7 := HR6d.kept K7 (fun x => x) (fun _ _ x => x))
          | (go_at_call 51; refine (done_ok _ p v2 l n _ HR7 (by omega)).mono ?_; rw [HD.out]; rintro e w' ⟨rfl, q, rfl⟩))
      all_goals
        go_wp2
        go_ret
        refine ⟨rfl, ?_⟩
        first | exact F6.out.trans K7 | exact (F6.out.trans K7).drewN _
  · have he1 : (er != 0) = true := by rw [bne_iff_ne]; exact he
    have he2 : (er == 0) = false := beq_eq_false_iff_ne.2 he
    obtain ⟨rfl, rfl⟩ := look_fault l 0 n x er HH.out.symm he
    clear he HR2 HR3 HR4 hv1 hv3 hx0 hx1 hbx
    go_wp2_with fail
    obtain ⟨wy, hwy⟩ : ∃ wy, wy = wx.drewN nq := ⟨_, rfl⟩
    have HRy : RdAt 88 5 wy w1.heap.size p v2 l 0 er := by rw [hwy]; exact HRx.drewN _
    have hy2 : wy.cell? ⟨w4.heap.size, 2, none⟩ = some (.int .i64 er) := by rw [hwy]; simpa using hx2
    have Ky : Kept (fun _ => False) w wy := by rw [hwy]; exact Kx'.drewN _
    have hp4 : ¬ w4.heap.size = p := by have := HR4'.lt; omega
    rw [← hwy]
    clear hwy
    go_region_held3 (fun w' => w'.cell? ⟨w4.heap.size, 2, none⟩ = some (.int .i64 er)) (first | go_keep | assumption)
      (first
        | (go_at_call 51; refine (done_err _ p v2 l 0 er _ (by first | exact HRy | exact HRy.drewN _ | exact HRy.drewN 1 | exact (HRy.drewN 1).drewN _) he2).mono ?_; rintro e w' ⟨rfl, q, rfl⟩)
        | (go_at_call 46; refine (rnum_err _ p v2 l 0 er _ (by first | exact HRy | exact HRy.drewN _ | exact HRy.drewN 1 | exact (HRy.drewN 1).drewN _ | exact (HRy.drewN _).drewN 1) (by omega) he1).mono ?_; rintro e wn ⟨rfl, HRn, Kn⟩; have hn2 := Kn.cell (p := ⟨w4.heap.size, 2, none⟩) (v := .int .i64 er) (by simpa using hy2) hp4)
        | (go_at_call 49; refine (at_any _ p v2 l 0 er _ HRn).mono ?_; rintro e w' ⟨rfl, rfl⟩))
    all_goals
      have fin : Kept (fun _ => False) w wn := by
        first
          | exact Ky.step Kn (fun k hk hp => by omega)
          | exact (Ky.drewN _).step Kn (fun k hk hp => by omega)
          | exact (Ky.drewN 1).step Kn (fun k hk hp => by omega)
          | exact ((Ky.drewN 1).drewN _).step Kn (fun k hk hp => by omega)
          | exact ((Ky.drewN _).drewN 1).step Kn (fun k hk hp => by omega)
      go_wp2
      go_ret
      exact ⟨rfl, fin⟩
end Go.Proofs.Ytanhdjdojeoodaa
