/- Texts put together: WM, F22, WH, F17b. -/
import Derived.Test.YtficodklidaheaaDoorZz14
import Derived.Test.YtficodklidaheaaDoorZz15
import Derived.Deep.Cut
import Derived.Test.YtficodklidaheaaDoorZz7
/- Layer 19: what WalKeeps holds, plainly and in memory. -/
namespace Go.Proofs.YtficodklidaheaaDoor
open Go.RowKit

theorem enL_snoc (In : List (List Nat)) (l : List Nat) {k : Nat} (h : k ≤ In.length) : enL (In ++ [l]) k = enL In k := by
  unfold enL
  rw [List.take_append_of_le_length h]
theorem allL_snoc (In : List (List Nat)) (l : List Nat) : allL (In ++ [l]) = allL In ++ frameL l := by rw [allL_append, allL_one]
/-- The disk while records are appended. -/
structure KD (D : DA) (cap : Int) (In : List (List Nat)) (sure : Nat) : Prop where
  file : ∃ s, D.L = [(nmW, ⟨allL In, s⟩)] ∧ enL In sure ≤ s
  le : sure ≤ In.length
  fail : D.failIn = -1
  cap : D.cap = cap
theorem KD.app {D : DA} {cap : Int} {In : List (List Nat)} {sure : Nat} (h : KD D cap In sure) (l : List Nat) :
    ((appendD D nmW (frameL l)).2 = 0 ∧ KD (appendD D nmW (frameL l)).1 cap (In ++ [l]) sure) ∨ (((appendD D nmW (frameL l)).2 = 12 ∨ (appendD D nmW (frameL l)).2 = 13) ∧ KD (appendD D nmW (frameL l)).1 cap In sure) := by
  obtain ⟨s, h1, h2⟩ := h.file
  obtain ⟨a1, a2, a3⟩ := append_one h1 h.fail (frameL l)
  rcases a1 with ⟨a1, a4⟩ | ⟨a1, a4⟩
  · refine .inl ⟨a1, ⟨s, by rw [a4, allL_snoc], by rw [enL_snoc _ _ h.le]; exact h2⟩, by have := h.le; rw [List.length_append]; omega, a2, a3.trans h.cap⟩
  · exact .inr ⟨a1, ⟨s, a4, h2⟩, h.le, a2, a3.trans h.cap⟩
theorem KD.sync {D : DA} {cap : Int} {In : List (List Nat)} {sure : Nat} (h : KD D cap In sure) :
    ((syncD D nmW).2 = 0 ∧ KD (syncD D nmW).1 cap In In.length) ∨ ((syncD D nmW).2 = 13 ∧ KD (syncD D nmW).1 cap In sure) := by
  obtain ⟨s, h1, h2⟩ := h.file
  obtain ⟨a1, a2, a3⟩ := sync_one h1 h.fail
  rcases a1 with ⟨a1, a4⟩ | ⟨a1, a4⟩
  · exact .inl ⟨a1, ⟨_, a4, by rw [enL_all]; exact Nat.le_refl _⟩, Nat.le_refl _, a2, a3.trans h.cap⟩
  · exact .inr ⟨a1, ⟨s, a4, h2⟩, h.le, a2, a3.trans h.cap⟩
theorem KD.crash {D : DA} {cap : Int} {In : List (List Nat)} {sure : Nat} (h : KD D cap In sure) (k : Int) : KD (crashD D k) cap In sure := ⟨h.file, h.le, h.fail, h.cap⟩
theorem KD.off {D : DA} {cap : Int} {In : List (List Nat)} {sure : Nat} (h : KD D cap In sure) (hd : D.down = false) : (syncD (crashD D 0) nmW).1.down = true ∧ KD (syncD (crashD D 0) nmW).1 cap In sure := by
  have e : beginD (crashD D 0) = ({ countedD (crashD D 0) with down := true }, 13) := by
    unfold beginD
    have : (crashD D 0).down = false := hd
    rw [this]
    have : (crashD D 0).crashIn = 0 := rfl
    rw [this]
    rfl
  have e2 : syncD (crashD D 0) nmW = beginD (crashD D 0) := by
    unfold syncD behindD
    rw [e]
    rfl
  rw [e2, e]
  refine ⟨rfl, h.file, h.le, ?_, h.cap⟩
  show max (-1) ((crashD D 0).failIn - 1) = -1
  rw [show (crashD D 0).failIn = D.failIn from rfl, h.fail]
  rfl
/-- A disk that won't fail, of one file that is frames, cut off behind k bytes. -/
structure KB (D : DA) (cap : Int) (In : List (List Nat)) (sure k : Nat) : Prop where
  file : ∃ s, D.L = [(nmW, ⟨(allL In).take k, s⟩)]
  le : sure ≤ In.length
  k1 : enL In sure ≤ k
  k2 : k ≤ (allL In).length
  calm : Calm D
  cap : D.cap = cap
theorem KD.boot {D : DA} {cap : Int} {In : List (List Nat)} {sure : Nat} (h : KD D cap In sure) (ok : DOk D) (hd : D.down = true) (keep : List Int) : (bootD D keep).2 = 0 ∧ ∃ k, KB (bootD D keep).1 cap In sure k := by
  obtain ⟨s, h1, h2⟩ := h.file
  obtain ⟨b1, b2, b3, b4⟩ := boot_one h1 hd keep
  have hs : s ≤ (allL In).length := ok.sure (nmW, ⟨allL In, s⟩) (by rw [h1]; exact List.mem_singleton.2 rfl)
  have := leftF_le (keep.headD 0) (f := ⟨allL In, s⟩) hs
  exact ⟨b1, leftF (keep.headD 0) ⟨allL In, s⟩, ⟨_, b2⟩, h.le, Nat.le_trans h2 this.1, this.2, b3, b4.trans h.cap⟩
theorem allL_split (In : List (List Nat)) (m : Nat) : (allL In).take (enL In m) = allL (In.take m) := by
  conv => lhs; rw [← List.take_append_drop m In, allL_append]
  unfold enL
  rw [List.take_append_drop]
  exact List.take_left' rfl
/-- Opened: the records that lie whole within what is left. -/
theorem KB.opened {D : DA} {cap : Int} {In : List (List Nat)} {sure k : Nat} (h : KB D cap In sure k) (hl : ∀ l ∈ In, l.length ≤ 65536) :
    ∃ m e f, m ≤ In.length ∧ sure ≤ m ∧ getM D.L nmW = some f ∧ ScanR f.b (In.take m) (enL In m) e ∧ (e = 0 ∨ e = 2) ∧ f.b.length ≤ (allL In).length ∧ (enL In m < f.b.length → (cutD D nmW (enL In m : Nat)).2 = 0) ∧
      ∃ s, (if enL In m < f.b.length then (cutD D nmW (enL In m : Nat)).1 else D).L = [(nmW, ⟨allL (In.take m), s⟩)] ∧ Calm (if enL In m < f.b.length then (cutD D nmW (enL In m : Nat)).1 else D) ∧ (if enL In m < f.b.length then (cutD D nmW (enL In m : Nat)).1 else D).cap = cap := by
  obtain ⟨s, h1⟩ := h.file
  obtain ⟨m, e, m1, m2, m3, m4, m5⟩ := wal_cut In hl h.k2 h.le h.k1
  have hlen : ((allL In).take k).length = k := by rw [List.length_take]; have := h.k2; omega
  obtain ⟨c1, c2, c3, c4⟩ := cut_calm (n := enL In m) h1 h.calm (by dsimp only; rw [hlen]; exact m5)
  refine ⟨m, e, ⟨(allL In).take k, s⟩, m1, m2, by rw [h1, getM_one], m3, m4, by dsimp only; rw [hlen]; exact h.k2, fun _ => c1, ?_⟩
  dsimp only
  by_cases hu : enL In m < ((allL In).take k).length
  · rw [if_pos hu]
    refine ⟨min s (enL In m), ?_, c3, c4.trans h.cap⟩
    rw [c2]
    unfold cutF
    dsimp only
    rw [List.take_take, Nat.min_eq_left m5, allL_split]
  · rw [if_neg hu]
    have e1 : enL In m = k := by omega
    refine ⟨s, ?_, h.calm, h.cap⟩
    rw [h1, ← e1, allL_split]
theorem DK.downB {b0 base : Nat} {w : World} {db mb : Nat} {L : List (ByteArray × Fi)} {D : DA} (h : DK base w db mb L D) (hb : b0 ≤ base) : DK b0 w db mb L D :=
  ⟨h.box, h.map, h.perm, fun p hp => (h.data p hp).imp id (fun ⟨g, cur, h1, h2, h3⟩ => ⟨g, cur, h1, Nat.le_trans hb h2, h3⟩), h.sep, ⟨Nat.le_trans hb h.base.1, Nat.le_trans hb h.base.2⟩, h.ok⟩
/-- None of the disk's blocks holds rows of bytes. -/
theorem DK.noRow {base : Nat} {w : World} {db mb : Nat} {L : List (ByteArray × Fi)} {D : DA} (h : DK base w db mb L D) {k : Nat} {cur : Array Value} {fr : Nat × Nat} (hk : w.heap[k]? = some (.cells cur 22 fr)) : ¬ foot db mb L k := by
  intro f
  rcases f with e | e | ⟨p, hp, e⟩
  · subst e
    have h1 := h.box
    unfold BoxAt at h1
    rw [h1] at hk
    injection hk with hk
    simp at hk
  · subst e
    exact h.map.notCells hk rfl
  · obtain ⟨cur2, hc, _⟩ := (h.data p hp).block e
    rw [hc] at hk
    injection hk with hk
    simp at hk
/-- The records that were appended, as a row of slices. -/
structure RIn (W w : World) (v : Value) (vs : List Value) (In : List (List Nat)) : Prop where
  mine : Mine W w 22 v vs
  rows : RowsV W vs In
theorem RIn.kept {W w w' : World} {v : Value} {vs : List Value} {In : List (List Nat)} {S : Nat → Prop} (h : RIn W w v vs In) (k : Kept S w w') (hS : ∀ j, S j → W.heap.size ≤ j) (hn : ∀ j cur fr, w.heap[j]? = some (.cells cur 22 fr) → ¬ S j) : RIn W w' v vs In :=
  ⟨h.mine.keptS k (fun j e => by obtain ⟨cur, hc⟩ := ownsRow_block h.mine.own e; exact hn j cur _ hc) hS, h.rows⟩
theorem RIn.at_ {W w : World} {v : Value} {vs : List Value} {In : List (List Nat)} (h : RIn W w v vs In) : RowsAt w v In := h.rows.at_ h.mine.kept h.mine.own
theorem wpList_mineRB {ops : Array Oper} {rest : List Oper} {o : Oper} {a : Act} {Q : Exit → Act → World → Prop} {w : World} (hgd : o.guard = none) (s x : Operand)
    (ho : o.op = .call { callee := .builtin .append, args := #[s, x], argTypes := #[30, 30] })
    (W : World) (v : Value) (xs : List Value) (hv : a.eval s = v) (hm : Mine W w 22 v xs)
    (y : Value) (news : List Value) (hy : a.eval x = y) (hs : Src Tryd.prog 1 30 y news.length news w)
    (hl : xs.length + news.length ≤ 1000000000000)
    (h : ∀ v' w', Mine W w' 22 v' (xs ++ news) → Kept (fun k => v.ownBlock = some k) w w' → (v'.ownBlock = v.ownBlock ∨ v'.ownBlock = some w.heap.size) → wpList Tryd.prog ops Q rest (a.put o.dst v') w') : wpList Tryd.prog ops Q (o :: rest) a w := by
  obtain ⟨iI, hiI, hzI0, hzI1, hzI2⟩ := info_parts infoRow
  exact wpList_mine2 hgd s x _ _ ho 22 iI (.slice none 0 0) 24 Tryd.underlying30 hiI hzI0 hzI1 hzI2 rfl (by omega) W v xs hv hm y news hy hs hl h
theorem src_oneRB (w : World) (u : Value) (hu : u.oneCell' = true) : Src Tryd.prog 1 30 (.slice (some ⟨w.heap.size, 0, none⟩) 1 1) ([u] : List Value).length [u] (w.alloc (.cells #[u] 22)) := src_one w Tryd.underlying30 u hu
end Go.Proofs.YtficodklidaheaaDoor
/- package limnographref04: the walk of Scan. -/
namespace Go.Proofs.YtficodklidaheaaDoor
open Go.RowKit
attribute [local go_sem ↓] Go.wp_at_zero Go.wp_at_succ

theorem row_info : (Tryd.prog.info? 34).map (·.size) = some 3 := by kernel_rfl

set_option maxHeartbeats 4000000 in
set_option maxRecDepth 100000 in
theorem refScan_any (ao : Option Addr) (c : Nat) (l : List Nat) (hl : l.length ≤ 1000000000) (hcap : l.length ≤ c) (w : World) (HB : Row8 w (.slice ao l.length c) l) :
    Calls Tryd.prog 16 #[.slice ao l.length c] w (RefScanned w l) := by
  obtain ⟨i1, hi', hz0', hz1', hz2'⟩ := info_parts infoRow
  obtain ⟨VB, hVB⟩ : ∃ VB, VB = Value.slice ao l.length c := ⟨_, rfl⟩
  have HF : Hid (∀ U, U ≤ l.length → ∀ w1, Kept (fun _ => False) w w1 → Calls Tryd.prog 14 #[.slice ao l.length c, .int .i64 (U : Int)] w1 (RefGot VB l w1 (l.drop U))) := Lib.hid fun U hU w1 hk => by
    rw [hVB]; exact refFirst_any ao c l U hl hcap hU w1 (HB.kept hk)
  have HVB := Lib.hid hVB
  clear hVB
  have HB' := Lib.hid HB
  obtain ⟨N, hN⟩ : ∃ N, N = l.length := ⟨_, rfl⟩
  have HN := Lib.hid hN
  rw [← hN] at HF hl ⊢
  have K2 : Kept (fun _ => False) w ((w.alloc (.cells #[.slice none 0 0, .int .i64 0, .int .i64 0] 34)).alloc (.cells #[.slice none 0 0, .int .i64 0, .int .i64 0] 34)) := ((Kept.refl _ w).alloc _).alloc _
  have HST : Hid (RefAt w l 0 (.slice none 0 0) [] [] ((w.alloc (.cells #[.slice none 0 0, .int .i64 0, .int .i64 0] 34)).alloc (.cells #[.slice none 0 0, .int .i64 0, .int .i64 0] 34))) := Lib.hid (by
    refine ⟨by omega, ?_, ?_, World.ownsRow_nil _ _ _ _, ⟨rfl, fun i h => absurd h (by simp)⟩, K2, by simp, fun L u e h => by simpa using h⟩
    · have := heap_alloc_new (w.alloc (.cells #[.slice none 0 0, .int .i64 0, .int .i64 0] 34)) (.cells #[.slice none 0 0, .int .i64 0, .int .i64 0] 34)
      simpa using this
    · exact ((Kept.refl (fun _ => False) (w.alloc (.cells #[.slice none 0 0, .int .i64 0, .int .i64 0] 34))).alloc _).same (heap_alloc_new w _) (fun x => x))
  clear K2 HB hN hcap
  go_enter Tryd.func16, Tryd.ntmps16
  go_wp2
  go_loopw [] (fun wr => ∃ (U : Nat) (vL : Value) (vs : List Value) (Ls : List (List Nat)), RefAt w l U vL vs Ls wr) (fun wr => N - (intOf ((wr.cell? ⟨w.heap.size + 1, 1, none⟩).getD undef)).toNat)
  case atStart => exact ⟨0, _, _, _, HST.out⟩
  case round =>
    obtain ⟨U, vL, vs, Ls, hr⟩ := hrel
    have HR := Lib.hid hr
    have hU := hr.le
    rw [← HN.out] at hU
    obtain ⟨aL, cL, hv⟩ := ownsRow_slice hr.own
    subst hv
    have b0 : wr.cell? ⟨w.heap.size + 1, 0, none⟩ = some (.slice aL vs.length cL) := by rw [cell_of_row _ _ 0 _ _ _ hr.box]; rfl
    have b1 : wr.cell? ⟨w.heap.size + 1, 1, none⟩ = some (.int .i64 U) := by rw [cell_of_row _ _ 1 _ _ _ hr.box]; rfl
    have b2 : wr.cell? ⟨w.heap.size + 1, 2, none⟩ = some (.int .i64 0) := by rw [cell_of_row _ _ 2 _ _ _ hr.box]; rfl
    have r0 : wr.cell? ⟨w.heap.size, 0, none⟩ = some (.slice none 0 0) := by rw [cell_of_row _ _ 0 _ _ _ hr.res]; rfl
    have r1 : wr.cell? ⟨w.heap.size, 1, none⟩ = some (.int .i64 0) := by rw [cell_of_row _ _ 1 _ _ _ hr.res]; rfl
    have r2 : wr.cell? ⟨w.heap.size, 2, none⟩ = some (.int .i64 0) := by rw [cell_of_row _ _ 2 _ _ _ hr.res]; rfl
    clear hr
    by_cases hd : U < N
    · have hd' : (U : Int) < (N : Int) := by omega
      have q0 : decide ((U : Int) < (N : Int)) = true := decide_eq_true hd'
      obtain ⟨R, hRe⟩ : ∃ R, R = l.drop U := ⟨_, rfl⟩
      have F1 := HF.out U (by omega) wr HR.out.kept
      rw [← hRe] at F1
      have HF1 := Lib.hid F1
      have HRe := Lib.hid hRe
      have box1 : Hid (∀ w1, Kept (fun _ => False) wr w1 → w1.heap[w.heap.size + 1]? = some (.cells #[.slice aL vs.length cL, .int .i64 U, .int .i64 0] 34 (0, 0))) := Lib.hid fun w1 hk => hk.same HR.out.box (fun x => x)
      have res1 : Hid (∀ w1, Kept (fun _ => False) wr w1 → w1.heap[w.heap.size]? = some (.cells #[.slice none 0 0, .int .i64 0, .int .i64 0] 34 (0, 0))) := Lib.hid fun w1 hk => hk.same HR.out.res (fun x => x)
      clear F1 hRe b0 b2 r0 r1 r2
      by_cases he : firstE R = 0
      · have HX : Hid (∀ e w1, RefGot VB l wr R e w1 → ∃ a c1, e = .returned (.agg #[.slice a (sizeL R) c1, .int .i64 ((9 + sizeL R : Nat) : Int), .int .i64 0]) ∧ (∀ w0, Row8 w0 VB l → Row8 w0 (.slice a (sizeL R) c1) (payL R)) ∧ Kept (fun _ => False) wr w1) := Lib.hid fun e w1 h => by
          unfold RefGot at h; rw [if_pos he] at h; exact h
        have hsz := firstE_size R he
        have hRl : R.length = N - U := by rw [HRe.out, List.length_drop, HN.out]
        have hpl : sizeL R = (payL R).length := by unfold payL; rw [List.length_take, List.length_drop]; omega
        have HE := Lib.hid he
        have HPL := Lib.hid hpl
        obtain ⟨Z9, hZ9⟩ : ∃ Z9, Z9 = 9 + sizeL R := ⟨_, rfl⟩
        obtain ⟨U2, hU2⟩ : ∃ U2, U2 = U + Z9 := ⟨_, rfl⟩
        have HU2 : Hid (U2 = U + (9 + sizeL R)) := Lib.hid (by rw [hU2, hZ9])
        have hU3 : U2 ≤ N := by omega
        have hlt : N - U2 < N - U := by omega
        have u1 : (U : Int) + (Z9 : Int) = (U2 : Int) := by omega
        have u2 : IntKind.i64.wrap (U2 : Int) = (U2 : Int) := IntWalk.i64_in _ ⟨by omega, by omega⟩
        rw [← hZ9] at HX
        obtain ⟨Y, hY⟩ : ∃ Y, Y = sizeL R := ⟨_, rfl⟩
        rw [← hY] at HX HPL
        clear hsz hRl hpl he hZ9 hU2 hY
        go_upto_region 7 with (go_at_call 14; refine HF1.out.mono ?_; intro e w1 h1; obtain ⟨ax, cx, rfl, hrow, hk1⟩ := HX.out e w1 h1; have HK1 := Lib.hid hk1; have HROW := Lib.hid hrow; clear h1 hk1 hrow)
        have bx := box1.out _ (HK1.out.alloc (.cells #[.slice ax Y cx, .int .i64 (Z9 : Int), .int .i64 0] 28))
        have gx := heap_alloc_new w1 (.cells #[.slice ax Y cx, .int .i64 (Z9 : Int), .int .i64 0] 28)
        have KW := HK1.out.alloc (.cells #[.slice ax Y cx, .int .i64 (Z9 : Int), .int .i64 0] 28)
        obtain ⟨w2, hw2⟩ : ∃ w2, w2 = w1.alloc (.cells #[.slice ax Y cx, .int .i64 (Z9 : Int), .int .i64 0] 28) := ⟨_, rfl⟩
        rw [← hw2] at bx gx KW ⊢
        clear hw2
        have b0 : w2.cell? ⟨w.heap.size + 1, 0, none⟩ = some (.slice aL vs.length cL) := by rw [cell_of_row _ _ 0 _ _ _ bx]; rfl
        have g0 : w2.cell? ⟨w1.heap.size, 0, none⟩ = some (.slice ax Y cx) := by rw [cell_of_row _ _ 0 _ _ _ gx]; rfl
        have BX := Lib.hid bx
        have GX := Lib.hid gx
        have HKW := Lib.hid KW
        have HOWN := Lib.hid (KW.owns HR.out.own (fun _ _ x => x))
        clear bx gx KW
        go_wp2_with (at_builtin; refine wpList_append_src _ rfl (.tmp 23) (.tmp 26) 30 30 rfl w.heap.size 22 i1 (.slice none 0 0) 1 24 Tryd.underlying30 hi' hz0' hz1' hz2' rfl (.slice aL vs.length cL) vs.length vs rfl ?c0 (.slice (some ⟨w2.heap.size, 0, none⟩) 1 1) 1 [.slice ax Y cx] rfl ?cs ?c1 ?c2 ?c3 ?_)
        case c0 => exact ((Kept.refl (fun _ => False) w2).alloc _).owns HOWN.out (fun _ _ x => x)
        case cs => exact src_one _ Tryd.underlying30 _ rfl
        case c1 => have := HR.out.len; unfold maxLen; omega
        case c2 => have := HR.out.len; omega
        case c3 => have := HKW.out.size; have := HR.out.kept.size; simp; omega
        intro v3 w3 hown hg _ hat
        obtain ⟨a3, c3, hv3⟩ := ownsRow_slice hown
        obtain ⟨N1, hN1⟩ : ∃ N1, N1 = vs.length + 1 := ⟨_, rfl⟩
        have HN1 := Lib.hid hN1
        rw [← hN1] at hv3
        subst hv3
        try rw [← hN1]
        clear hN1
        have HOWN3 := Lib.hid hown
        have HG3 := Lib.hid hg
        have KA := (Kept.refl (fun _ => False) w2).alloc (.cells #[.slice ax Y cx] 22)
        have oA := KA.owns HOWN.out (fun _ _ x => x)
        have k3 : Kept (fun k => some k = (Value.slice aL vs.length cL).ownBlock) (w2.alloc (.cells #[.slice ax Y cx] 22)) w3 := ⟨hg.os, hg.tape, hg.output, hg.size, fun k hk hn => hg.block k hk hn⟩
        have bx3 := k3.same (KA.same BX.out (fun x => x)) (fun e => by
          obtain ⟨c1, e1⟩ := ownsRow_block oA e.symm
          rw [KA.same BX.out (fun x => x)] at e1; simp at e1)
        have gx3 := k3.same (KA.same GX.out (fun x => x)) (fun e => by
          obtain ⟨c1, e1⟩ := ownsRow_block oA e.symm
          rw [KA.same GX.out (fun x => x)] at e1; simp at e1)
        have b3 : w3.cell? ⟨w.heap.size + 1, 0, none⟩ = some (.slice aL vs.length cL) := by rw [cell_of_row _ _ 0 _ _ _ bx3]; rfl
        have f3 := frozen_of_row _ _ 0 _ _ bx3
        have hne : w1.heap.size ≠ w.heap.size + 1 := by
          have h1 := (Array.getElem?_eq_some_iff.1 (box1.out _ HK1.out)).1
          omega
        have BX3 := Lib.hid bx3
        have GX3 := Lib.hid gx3
        have HNE := Lib.hid hne
        clear b0 g0 bx3 gx3 k3 oA KA hown hg hat hne
        go_upto_region 8 with fail
        have bx4 := heap_setCell_same _ _ 0 _ _ (.slice a3 N1 c3) BX3.out
        have gx4 : (w3.setCell ⟨w.heap.size + 1, 0, none⟩ (.slice a3 N1 c3)).heap[w1.heap.size]? = _ := ((Kept.refl (fun k => k = w.heap.size + 1) w3).setCell (p := ⟨w.heap.size + 1, 0, none⟩) (fun _ => rfl) (.slice a3 N1 c3)).same GX3.out HNE.out
        obtain ⟨w4, hw4⟩ : ∃ w4, w4 = w3.setCell ⟨w.heap.size + 1, 0, none⟩ (.slice a3 N1 c3) := ⟨_, rfl⟩
        rw [← hw4] at bx4 gx4 ⊢
        have HW4 := Lib.hid hw4
        clear hw4 b3 f3
        have b4 : w4.cell? ⟨w.heap.size + 1, 1, none⟩ = some (.int .i64 U) := by rw [cell_of_row _ _ 1 _ _ _ bx4]; rfl
        have g4 : w4.cell? ⟨w1.heap.size, 1, none⟩ = some (.int .i64 (Z9 : Int)) := by rw [cell_of_row _ _ 1 _ _ _ gx4]; rfl
        have f4 := frozen_of_row _ _ 1 _ _ bx4
        have BX4 := Lib.hid bx4
        clear bx4 gx4
        have HB1 := Lib.hid b1
        clear b1
        have STEP : Hid (RefAt w l U2 (.slice a3 N1 c3) (vs ++ [.slice ax Y cx]) (Ls ++ [payL R]) (w4.setCell ⟨w.heap.size + 1, 1, none⟩ (.int .i64 (U2 : Int)))) :=
          Lib.hid (HR.out.step (HKW.out.alloc _) (HROW.out _ (by rw [HVB.out]; exact HB'.out)) HPL.out HE.out HRe.out HU2.out (by rw [← HN.out]; exact hU3) HOWN3.out HG3.out (by rw [HW4.out]))
        go_wp2
        go_roundw
        case rel => exact ⟨U2, _, _, _, STEP.out⟩
        case measure =>
          have c5 : (w4.setCell ⟨w.heap.size + 1, 1, none⟩ (.int .i64 (U2 : Int))).cell? ⟨w.heap.size + 1, 1, none⟩ = some (.int .i64 (U2 : Int)) := by rw [cell_of_row _ _ 1 _ _ _ STEP.out.box]; rfl
          rw [c5, HB1.out]
          simpa [intOf] using hlt
      · have HX : Hid (∀ e w1, RefGot VB l wr R e w1 → e = .returned (.agg #[.slice none 0 0, .int .i64 0, .int .i64 ((firstE R : Nat) : Int)]) ∧ Kept (fun _ => False) wr w1) := Lib.hid fun e w1 h => by
          unfold RefGot at h; rw [if_neg he] at h; exact h
        have HBAD := Lib.hid fun w2 hk => HR.out.bad (w2 := w2) (by rw [← HN.out]; exact hd) HRe.out he hk
        obtain ⟨E1, hE1⟩ : ∃ E1, E1 = firstE R := ⟨_, rfl⟩
        rw [← hE1] at HX HBAD he
        have q2 : ((E1 : Int) != 0) = true := by simp; omega
        clear hE1 he
        go_upto_region 5 with (go_at_call 14; refine HF1.out.mono ?_; intro e w1 h1; obtain ⟨rfl, hk1⟩ := HX.out e w1 h1; have HK1 := Lib.hid hk1; clear h1 hk1)
        have bx := box1.out _ (HK1.out.alloc (.cells #[.slice none 0 0, .int .i64 0, .int .i64 (E1 : Int)] 28))
        have rs := res1.out _ (HK1.out.alloc (.cells #[.slice none 0 0, .int .i64 0, .int .i64 (E1 : Int)] 28))
        have KW : Kept (fun k => k = w.heap.size ∨ k = w.heap.size + 1) wr (w1.alloc (.cells #[.slice none 0 0, .int .i64 0, .int .i64 (E1 : Int)] 28)) := (HK1.out.alloc _).mono (fun _ _ x => x.elim)
        have g2 : (w1.alloc (.cells #[.slice none 0 0, .int .i64 0, .int .i64 (E1 : Int)] 28)).cell? ⟨w1.heap.size, 2, none⟩ = some (.int .i64 (E1 : Int)) := by rw [cell_of_row _ _ 2 _ _ _ (heap_alloc_new w1 _)]; rfl
        obtain ⟨w2, hw2⟩ : ∃ w2, w2 = w1.alloc (.cells #[.slice none 0 0, .int .i64 0, .int .i64 (E1 : Int)] 28) := ⟨_, rfl⟩
        rw [← hw2] at bx rs KW g2 ⊢
        clear hw2
        have b2 : w2.cell? ⟨w.heap.size + 1, 2, none⟩ = some (.int .i64 0) := by rw [cell_of_row _ _ 2 _ _ _ bx]; rfl
        have f2 := frozen_of_row _ _ 2 _ _ bx
        have BX := Lib.hid bx
        have RS := Lib.hid rs
        have KWH := Lib.hid KW
        clear bx rs KW b1
        go_upto_region 6 with fail
        have bx3 := heap_setCell_same _ _ 2 _ _ (.int .i64 (E1 : Int)) BX.out
        have rs3 : (w2.setCell ⟨w.heap.size + 1, 2, none⟩ (.int .i64 (E1 : Int))).heap[w.heap.size]? = _ := ((Kept.refl (fun k => k = w.heap.size + 1) w2).setCell (p := ⟨w.heap.size + 1, 2, none⟩) (fun _ => rfl) (.int .i64 (E1 : Int))).same RS.out (by omega)
        have KW3 : Kept (fun k => k = w.heap.size ∨ k = w.heap.size + 1) wr (w2.setCell ⟨w.heap.size + 1, 2, none⟩ (.int .i64 (E1 : Int))) := KWH.out.setCell (p := ⟨w.heap.size + 1, 2, none⟩) (fun _ => .inr rfl) _
        obtain ⟨w3, hw3⟩ : ∃ w3, w3 = w2.setCell ⟨w.heap.size + 1, 2, none⟩ (.int .i64 (E1 : Int)) := ⟨_, rfl⟩
        rw [← hw3] at bx3 rs3 KW3 ⊢
        clear hw3 b2 f2 g2
        have b0 : w3.cell? ⟨w.heap.size + 1, 0, none⟩ = some (.slice aL vs.length cL) := by rw [cell_of_row _ _ 0 _ _ _ bx3]; rfl
        have b1 : w3.cell? ⟨w.heap.size + 1, 1, none⟩ = some (.int .i64 U) := by rw [cell_of_row _ _ 1 _ _ _ bx3]; rfl
        have b2 : w3.cell? ⟨w.heap.size + 1, 2, none⟩ = some (.int .i64 (E1 : Int)) := by rw [cell_of_row _ _ 2 _ _ _ bx3]; rfl
        have r0 : w3.cell? ⟨w.heap.size, 0, none⟩ = some (.slice none 0 0) := by rw [cell_of_row _ _ 0 _ _ _ rs3]; rfl
        have r1 : w3.cell? ⟨w.heap.size, 1, none⟩ = some (.int .i64 0) := by rw [cell_of_row _ _ 1 _ _ _ rs3]; rfl
        have r2 : w3.cell? ⟨w.heap.size, 2, none⟩ = some (.int .i64 0) := by rw [cell_of_row _ _ 2 _ _ _ rs3]; rfl
        have f0 := frozen_of_row _ _ 0 _ _ rs3
        have f1 := frozen_of_row _ _ 1 _ _ rs3
        have f2 := frozen_of_row _ _ 2 _ _ rs3
        have HRES := Lib.hid rs3
        have FIN : Hid (RefScanned w l (.returned (.agg #[.slice aL vs.length cL, .int .i64 U, .int .i64 (E1 : Int)])) (((w3.setCell ⟨w.heap.size, 0, none⟩ (.slice aL vs.length cL)).setCell ⟨w.heap.size, 1, none⟩ (.int .i64 U)).setCell ⟨w.heap.size, 2, none⟩ (.int .i64 (E1 : Int)))) :=
          Lib.hid (HBAD.out _ (((KW3.setCell (p := ⟨w.heap.size, 0, none⟩) (fun _ => .inl rfl) _).setCell (p := ⟨w.heap.size, 1, none⟩) (fun _ => .inl rfl) _).setCell (p := ⟨w.heap.size, 2, none⟩) (fun _ => .inl rfl) _))
        clear bx3 rs3 KW3
        go_wp2
        refine bodyPost_ret (v := .agg #[.slice aL vs.length cL, .int .i64 U, .int .i64 (E1 : Int)]) ?_ rfl ?_
        · exact results_cell_row Tryd.results16 _ _ w.heap.size 34 _ (0, 0) _ rfl (three_set HRES.out) Tryd.underlying34 rfl row_info
        · exact FIN.out
    · have hUN : U = N := by omega
      have q0 : decide ((U : Int) < (N : Int)) = false := decide_eq_false (by omega)
      have f0 := frozen_of_row _ _ 0 _ _ HR.out.res
      have f1 := frozen_of_row _ _ 1 _ _ HR.out.res
      have f2 := frozen_of_row _ _ 2 _ _ HR.out.res
      have KK : Kept (fun k => k = w.heap.size) wr (((wr.setCell ⟨w.heap.size, 0, none⟩ (.slice aL vs.length cL)).setCell ⟨w.heap.size, 1, none⟩ (.int .i64 U)).setCell ⟨w.heap.size, 2, none⟩ (.int .i64 0)) :=
        (((Kept.refl (fun k => k = w.heap.size) wr).setCell (p := ⟨w.heap.size, 0, none⟩) (fun _ => rfl) _).setCell (p := ⟨w.heap.size, 1, none⟩) (fun _ => rfl) _).setCell (p := ⟨w.heap.size, 2, none⟩) (fun _ => rfl) _
      have FIN := Lib.hid (HR.out.done (by rw [hUN, HN.out]) KK)
      have HRES := Lib.hid HR.out.res
      clear KK hUN
      go_wp2
      refine bodyPost_ret (v := .agg #[.slice aL vs.length cL, .int .i64 U, .int .i64 0]) ?_ rfl ?_
      · exact results_cell_row Tryd.results16 _ _ w.heap.size 34 _ (0, 0) _ rfl (three_set HRES.out) Tryd.underlying34 rfl row_info
      · exact FIN.out
end Go.Proofs.YtficodklidaheaaDoor
/- Layer 19: the document's Records; the walk of WalRecords. -/
namespace Go.Proofs.YtficodklidaheaaDoor
open Go.RowKit
attribute [local go_sem ↓] Go.wp_at_zero Go.wp_at_succ

theorem row8_keptBox {w w' : World} {q : Nat} {T : TypeId} {cs : Array Value} {v : Value} {l : List Nat} (h : Row8 w v l) (hb : BoxAt w q T cs) (hn : ∀ (i : Nat) (z : Int), cs[i]? ≠ some (Value.int .u8 z)) (k : Kept (fun j => j = q) w w') : Row8 w' v l := by
  obtain ⟨ao, c, e, hlt, hc⟩ := h
  refine ⟨ao, c, e, hlt, fun j hj => ?_⟩
  obtain ⟨a, ha, h1⟩ := hc j hj
  refine ⟨a, ha, k.cell h1 (fun x => ?_)⟩
  have hs := World.cell?_spot h1
  obtain ⟨b, o, sp⟩ := a
  have x' : b = q := by rw [add_block] at x; exact x
  subst x'
  generalize hg : (⟨b, o, sp⟩ : Addr).add j = a2 at h1 hs
  obtain ⟨b2, o2, sp2⟩ := a2
  have hs' : sp2 = none := hs
  subst hs'
  have hb2 : b2 = b := by have := congrArg Addr.block hg; rw [add_block] at this; exact this.symm
  subst hb2
  rw [cell_of_row _ _ o2 _ _ _ hb] at h1
  exact hn o2 _ h1
theorem RowsV.keptBox {w w' : World} {q : Nat} {T : TypeId} {cs : Array Value} {vs : List Value} {Ls : List (List Nat)} (h : RowsV w vs Ls) (hb : BoxAt w q T cs) (hn : ∀ (i : Nat) (z : Int), cs[i]? ≠ some (Value.int .u8 z)) (k : Kept (fun j => j = q) w w') : RowsV w' vs Ls :=
  ⟨h.1, fun i hi => by
    obtain ⟨ai, ci, h1, h2⟩ := h.2 i hi
    exact ⟨ai, ci, h1, row8_keptBox h2 hb hn k⟩⟩
theorem ScanR.few {l : List Nat} {Ls : List (List Nat)} {u e : Nat} (h : ScanR l Ls u e) : Ls.length ≤ l.length := by
  induction h with
  | done => exact Nat.le_refl _
  | bad l h he => exact Nat.zero_le _
  | more l Ls u e h hr ih =>
    have := firstE_size l h
    rw [List.length_drop] at ih
    rw [List.length_cons]
    omega
/-- What the document's Records answers. -/
def RefRec (w : World) (l : List Nat) (e : Ending) (w' : World) : Prop :=
  ∃ Ls u n, ScanR l Ls u n ∧ Kept (fun _ => False) w w' ∧
    (((n = 0 ∨ n = 2) ∧ ∃ v, e = .returned (.agg #[v, .int .i64 ((u : Nat) : Int), .int .i64 0]) ∧ RowsAt w' v Ls) ∨
     ((n ≠ 0 ∧ n ≠ 2) ∧ e = .returned (.agg #[.slice none 0 0, .int .i64 0, .int .i64 15])))
theorem got19_info : (Tryd.prog.info? 43).map (·.size) = some 3 := by kernel_rfl
set_option maxRecDepth 100000 in
set_option maxHeartbeats 4000000 in
theorem refRecords_any (ao : Option Addr) (c : Nat) (l : List Nat) (hl : l.length ≤ 1000000000) (hcap : l.length ≤ c) (w : World) (HB : Row8 w (.slice ao l.length c) l) :
    Calls Tryd.prog 22 #[.slice ao l.length c] w (RefRec w l) := by
  obtain ⟨w1, hw1⟩ : ∃ w1, w1 = w.alloc (.cells #[.slice none 0 0, .int .i64 0, .int .i64 0] 43) := ⟨_, rfl⟩
  have k1 : Kept (fun _ => False) w w1 := by rw [hw1]; exact (Kept.refl _ _).alloc _
  have b1 : BoxAt w1 w.heap.size 43 #[.slice none 0 0, .int .i64 0, .int .i64 0] := by rw [hw1]; exact BoxAt.new _ _ _
  have HS := Lib.hid (refScan_any ao c l hl hcap w1 (HB.kept k1))
  have HW1 := Lib.hid hw1
  have HB1 := Lib.hid (And.intro b1 k1)
  obtain ⟨m, hm⟩ : ∃ m, m = l.length := ⟨_, rfl⟩
  rw [← hm] at HS ⊢
  clear hw1 k1 b1 hm hl hcap HB
  go_enter Tryd.func22, Tryd.ntmps22
  go_upto_region 1 with fail
  rw [← HW1.out]
  go_wp2_with fail
  refine HS.out.mono ?_
  rintro e w2 ⟨v, Ls, u, n, hsc, rfl, hrows, hk, vs, hown, hrv⟩
  obtain ⟨va, vc, hv, hrest⟩ := hrows
  subst hv
  obtain ⟨q, hq⟩ : ∃ q, q = Ls.length := ⟨_, rfl⟩
  have HV : Hid (RowsAt w2 (.slice va q vc) Ls) := Lib.hid ⟨va, vc, by rw [hq], hrest⟩
  rw [← hq]
  obtain ⟨w3, hw3⟩ : ∃ w3, w3 = w2.alloc (.cells #[.slice va q vc, .int .i64 ((u : Nat) : Int), .int .i64 ((n : Nat) : Int)] 34) := ⟨_, rfl⟩
  obtain ⟨g, hg⟩ : ∃ g, g = w2.heap.size := ⟨_, rfl⟩
  have k3 : Kept (fun _ => False) w2 w3 := by rw [hw3]; exact (Kept.refl _ _).alloc _
  have b3 : BoxAt w3 g 34 #[.slice va q vc, .int .i64 ((u : Nat) : Int), .int .i64 ((n : Nat) : Int)] := by rw [hw3, hg]; exact BoxAt.new _ _ _
  have HR3 := Lib.hid (HB1.out.1.kept (hk.trans k3) (fun x => x))
  have HK3 := Lib.hid (HB1.out.2.trans (hk.trans k3))
  have HV3 : Hid (∀ w', Kept (fun k => k = w.heap.size) w3 w' → RowsAt w' (.slice va q vc) Ls) := Lib.hid (fun w' k => by
    have ho := k.owns (k3.owns hown (fun _ _ x => x)) (fun j e x => by have h9 := (ownsRow_lt hown e).2; have h10 := HB1.out.1.lt; omega)
    rw [hq]
    exact (hrv.keptBox HB1.out.1 (fun i z => by
      match i with
      | 0 => simp
      | 1 => simp
      | 2 => simp
      | i + 3 => simp) (((hk.trans k3).mono (fun _ _ x => x.elim)).trans k)).at_ (Kept.refl _ _) ho)
  have HSC := Lib.hid hsc
  have HW3 := Lib.hid (And.intro hw3 hg)
  obtain ⟨z, hz⟩ : ∃ z : Int, z = ((n : Nat) : Int) := ⟨_, rfl⟩
  obtain ⟨x, hx⟩ : ∃ x : Int, x = ((u : Nat) : Int) := ⟨_, rfl⟩
  rw [← hz, ← hx] at HW3 b3
  rw [← hz, ← hx]
  have HX := Lib.hid hx
  have d0 := b3.cell (i := 0) (u := .slice va q vc) rfl
  have d1 := b3.cell (i := 1) (u := .int .i64 x) rfl
  have d2 := b3.cell (i := 2) (u := .int .i64 z) rfl
  have r0 := HR3.out.cell (i := 0) (u := .slice none 0 0) rfl
  have r1 := HR3.out.cell (i := 1) (u := .int .i64 0) rfl
  have r2 := HR3.out.cell (i := 2) (u := .int .i64 0) rfl
  have f0 := HR3.out.fz 0
  have f1 := HR3.out.fz 1
  have f2 := HR3.out.fz 2
  clear hrest hq hw3 hg k3 b3 hk hsc hx hown hrv
  by_cases h0 : n = 0 ∨ n = 2
  · have HN := Lib.hid h0
    have HF := Lib.hid (show Kept (fun k => k = w.heap.size) w3 (((w3.setCell ⟨w.heap.size, 0, none⟩ (.slice va q vc)).setCell ⟨w.heap.size, 1, none⟩ (.int .i64 x)).setCell ⟨w.heap.size, 2, none⟩ (.int .i64 0)) from ((kept_set _ _ _ _).trans (kept_set _ _ _ _)).trans (kept_set _ _ _ _))
    have hzz : z = 0 ∨ z = 2 := by omega
    clear h0 hz
    rcases hzz with rfl | rfl
    all_goals (
      go_upto_region 2 with fail
      rw [← HW3.out.1, ← HW3.out.2]
      go_wp2
      refine bodyPost_ret (v := .agg #[.slice va q vc, .int .i64 x, .int .i64 0]) ?_ rfl ?_
      · exact results_cell_row Tryd.results22 _ _ w.heap.size 43 _ (0, 0) _ rfl (((HR3.out.set 0 _).set 1 _).set 2 _) Tryd.underlying43 rfl got19_info
      · refine ⟨Ls, u, n, HSC.out, (HK3.out.newer HF.out (fun j e => by rw [e]; exact Nat.le_refl _)), .inl ⟨HN.out, _, by rw [HX.out], ?_⟩⟩
        exact HV3.out _ HF.out)
  · have HN : Hid (n ≠ 0 ∧ n ≠ 2) := Lib.hid ⟨fun e => h0 (.inl e), fun e => h0 (.inr e)⟩
    have HF := Lib.hid (show Kept (fun k => k = w.heap.size) w3 (((w3.setCell ⟨w.heap.size, 0, none⟩ (.slice none 0 0)).setCell ⟨w.heap.size, 1, none⟩ (.int .i64 0)).setCell ⟨w.heap.size, 2, none⟩ (.int .i64 15)) from ((kept_set _ _ _ _).trans (kept_set _ _ _ _)).trans (kept_set _ _ _ _))
    have q0 : (z == 0) = false := beq_eq_false_iff_ne.2 (by have := HN.out.1; omega)
    have q2 : (z == 2) = false := beq_eq_false_iff_ne.2 (by have := HN.out.2; omega)
    have q1 : (z != 0) = true := by simp [bne, q0]
    have q3 : (z != 2) = true := by simp [bne, q2]
    clear h0 hz q0 q2
    go_upto_region 2 with fail
    rw [← HW3.out.1, ← HW3.out.2]
    go_wp2
    refine bodyPost_ret (v := .agg #[.slice none 0 0, .int .i64 0, .int .i64 15]) ?_ rfl ?_
    · exact results_cell_row Tryd.results22 _ _ w.heap.size 43 _ (0, 0) _ rfl (((HR3.out.set 0 _).set 1 _).set 2 _) Tryd.underlying43 rfl got19_info
    · exact ⟨Ls, u, n, HSC.out, (HK3.out.newer HF.out (fun j e => by rw [e]; exact Nat.le_refl _)), .inr ⟨HN.out, rfl⟩⟩
end Go.Proofs.YtficodklidaheaaDoor
/- Bulk of rows, as far as 8,000. -/
namespace Go.Proofs.YtficodklidaheaaDoor
open Go.RowKit
attribute [local go_sem ↓] Go.wp_at_zero Go.wp_at_succ

set_option maxHeartbeats 1000000 in
theorem bulk8_any (va : Value) (L : List (List Nat)) (hL : L.length ≤ 9223372036854775807) (w : World) (HA : RowsAt w va L) (hb : ∀ l ∈ L, l.length ≤ 9223372036854775807) :
    Calls Tryd.prog 18 #[va, .int .i64 8000] w fun e w' => ∃ n : Nat, e = .returned (.int .i64 n) ∧ (n ≤ 8000 → ∀ l ∈ L, l.length ≤ 8000) ∧ w = w' := by
  obtain ⟨ao, c, rfl, ha⟩ := HA
  have HA := Lib.hid ha
  obtain ⟨N, hN⟩ : ∃ N, N = L.length := ⟨_, rfl⟩
  have HB : Hid (∀ i, i < N → (L.getD i []).length ≤ 9223372036854775807) := Lib.hid fun i hi => hb _ (by rw [List.getD_eq_getElem?_getD, List.getElem?_eq_getElem (by omega)]; simp)
  have HE : Hid (∀ n : Nat, (n ≤ 8000 → ∀ i, i < N → (L.getD i []).length ≤ 8000) → n ≤ 8000 → ∀ l ∈ L, l.length ≤ 8000) := Lib.hid fun n h hn l hl => by
    obtain ⟨i, hi, rfl⟩ := List.getElem_of_mem hl
    have := h hn i (by omega)
    rwa [List.getD_eq_getElem?_getD, List.getElem?_eq_getElem hi] at this
  rw [← hN] at HA hL ⊢
  clear ha hN hb
  go_enter Tryd.func18, Tryd.ntmps18
  go_wp2
  go_loopw [5, 6] (fun x t wr => ∃ n j : Nat, j ≤ N ∧ n ≤ 16002 ∧ x = .int .i64 n ∧ t = .int .i64 j ∧ (n ≤ 8000 → ∀ i, i < j → (L.getD i []).length ≤ 8000) ∧ w = wr) (fun _ t _ => N - (intOf t).toNat)
  case atStart => exact ⟨0, 0, by omega, by omega, rfl, rfl, fun _ i hi => absurd hi (by omega), rfl⟩
  case round =>
    obtain ⟨n, j, hj, hn, rfl, rfl, hall, rfl⟩ := hrel
    have HALL := Lib.hid hall
    clear hall
    by_cases hd : j < N
    · have hd' : (j : Int) < (N : Int) := by omega
      have hj0 : (0 : Int) ≤ (j : Int) := by omega
      by_cases hn3 : n ≤ 8000
      · have hn' : (n : Int) ≤ 8000 := by omega
        obtain ⟨a, ai, ci, rfl, h1, h2⟩ := HA.out j hd
        have hlen := HB.out j hd
        have HALL2 : Hid (∀ M, M = (L.getD j []).length → ∀ q : Nat, ((M ≤ 8001 ∧ q = n + 1 + M) ∨ (8001 < M ∧ q = n + 1 + 8001)) → q ≤ 8000 → ∀ i, i < j + 1 → (L.getD i []).length ≤ 8000) := Lib.hid fun M hM q hq hq3 i hi => by
          rcases Nat.lt_or_eq_of_le (Nat.le_of_lt_succ hi) with h | rfl
          · exact HALL.out hn3 i h
          · omega
        obtain ⟨M, hM⟩ : ∃ M, M = (L.getD j []).length := ⟨_, rfl⟩
        have HALL3 := Lib.hid (HALL2.out M hM)
        rw [← hM] at h1 hlen
        clear h2 hM
        have e1 : IntKind.i64.wrap ((n : Int) + 1) = ((n + 1 : Nat) : Int) := by rw [IntWalk.i64_in _ ⟨by omega, by omega⟩]; omega
        by_cases hm : M ≤ 8001
        · have cm : min (M : Int) 8001 = (M : Int) := by omega
          have e2 : IntKind.i64.wrap (((n + 1 : Nat) : Int) + (M : Int)) = ((n + 1 + M : Nat) : Int) := by rw [IntWalk.i64_in _ ⟨by omega, by omega⟩]; omega
          go_wp2
          go_roundw
          case rel => exact ⟨n + 1 + M, j + 1, hd, by omega, by go_num, by go_num, fun h => HALL3.out _ (.inl ⟨hm, rfl⟩) h, trivial⟩
          case measure => simp [intOf]; omega
        · have cm : min (M : Int) 8001 = 8001 := by omega
          have e2 : IntKind.i64.wrap (((n + 1 : Nat) : Int) + 8001) = ((n + 1 + 8001 : Nat) : Int) := by rw [IntWalk.i64_in _ ⟨by omega, by omega⟩]; omega
          go_wp2
          go_roundw
          case rel => exact ⟨n + 1 + 8001, j + 1, hd, by omega, by go_num, by go_num, fun h => HALL3.out _ (.inr ⟨by omega, rfl⟩) h, trivial⟩
          case measure => simp [intOf]; omega
      · have hn' : decide ((n : Int) ≤ 8000) = false := decide_eq_false (by omega)
        have HX : Hid (∀ l ∈ L, l.length ≤ 8000 ∨ 8000 < n) := Lib.hid fun _ _ => .inr (by omega)
        go_wp2
        go_ret
        exact ⟨n, rfl, fun h => absurd h hn3, rfl⟩
    · obtain rfl : j = N := by omega
      have HF := Lib.hid (HE.out n HALL.out)
      go_wp2
      go_ret
      exact ⟨n, rfl, HF.out, rfl⟩
end Go.Proofs.YtficodklidaheaaDoor
