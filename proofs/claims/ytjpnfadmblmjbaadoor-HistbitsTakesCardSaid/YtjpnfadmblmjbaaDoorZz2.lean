/- Texts put together: H3, HS, HX, J1, J2, J3, J4, HC, Z1. -/
import Derived.Test.YtjpnfadmblmjbaaDoorZz1
/- package hist: Check, At. -/
namespace Go.Proofs.YtjpnfadmblmjbaaDoor
open Go.RowKit
attribute [local go_sem ↓] Go.wp_at_zero Go.wp_at_succ

theorem sideE_le (o : Int) (l : List Nat) : sideE o l ≤ 4 := by
  unfold sideE
  split
  · omega
  · split
    · split <;> omega
    · split
      · omega
      · split <;> omega

set_option maxHeartbeats 4000000 in
set_option maxRecDepth 100000 in
theorem histCheck_any (h : HistV) (pv nv : Value) (w : World) (ha : HistAt w h pv nv) (hok : h.ok) (hp : h.pl.length ≤ 1000000) (hn : h.nl.length ≤ 1000000) :
    Calls Tryd.prog 64 #[histV h pv nv] w fun e w' => e = .returned (.int .i64 ((h.err : Nat) : Int)) ∧ Kept (fun _ => False) w w' := by
  obtain ⟨⟨ao, c, rfl⟩, bo, d, rfl⟩ := ha.sl
  have HCP := Lib.hid fun w' (k : Kept (fun _ => False) w w') => checkSide_any h.po h.pl _ w' (ha.on k).p hok.po
  have HCN := Lib.hid fun w' (k : Kept (fun _ => False) w w') => checkSide_any h.no h.nl _ w' (ha.on k).n hok.no
  have HTO := Lib.hid fun w' (k : Kept (fun _ => False) w w') => histTotal_any h _ _ w' (ha.on k) hok.ze hp hn hok.pl hok.nl
  have hsc := hok.sc
  have hE : h.err = if h.sc < -10 ∨ 20 < h.sc then 1 else if sideE h.po h.pl ≠ 0 then sideE h.po h.pl else if sideE h.no h.nl ≠ 0 then sideE h.no h.nl else if 18446744073709551616 ≤ h.total then 4 else 0 := rfl
  obtain ⟨E1, hE1⟩ : ∃ E, E = sideE h.po h.pl := ⟨_, rfl⟩
  obtain ⟨E2, hE2⟩ : ∃ E, E = sideE h.no h.nl := ⟨_, rfl⟩
  rw [← hE1, ← hE2] at hE
  rw [← hE1] at HCP
  rw [← hE2] at HCN
  unfold totV at HTO
  obtain ⟨T, hT⟩ : ∃ E, E = h.total := ⟨_, rfl⟩
  rw [← hT] at hE HTO
  obtain ⟨sc, ze, po, pl, no, nl⟩ := h
  unfold histV at HTO ⊢
  simp only at HCP HCN HTO hp hn hE hsc ⊢
  have hE0 := Lib.hid hE
  have KB := Lib.hid ((Kept.refl (fun _ => False) w).alloc (.cells #[.int .i64 sc, .int .u64 (ze : Int), .int .i64 po, .slice ao pl.length c, .int .i64 no, .slice bo nl.length d] 62))
  have hcase : sc < -10 ∨ (-10 ≤ sc ∧ 20 < sc) ∨ (-10 ≤ sc ∧ ¬ 20 < sc) := by omega
  clear ha hok hE1 hE2 hT hE
  rcases hcase with h1 | ⟨h1, h2⟩ | ⟨h1, h2⟩
  · have HE := Lib.hid (show _ = 1 from hE0.out.trans (if_pos (.inl h1)))
    go_enter Tryd.func64, Tryd.ntmps64
    go_wp2
    go_ret
    exact ⟨by rw [HE.out]; rfl, KB.out⟩
  · have HE := Lib.hid (show _ = 1 from hE0.out.trans (if_pos (.inr h2)))
    go_enter Tryd.func64, Tryd.ntmps64
    go_wp2
    go_ret
    exact ⟨by rw [HE.out]; rfl, KB.out⟩
  · have HE := Lib.hid (hE0.out.trans (if_neg (by omega)))
    obtain ⟨ER, hER⟩ : ∃ E, E = HistV.err ⟨sc, ze, po, pl, no, nl⟩ := ⟨_, rfl⟩
    rw [← hER] at HE ⊢
    clear hE0 hER
    go_enter Tryd.func64, Tryd.ntmps64
    go_wp2
    go_loopg [4, 5, 21, 22, 23, 24, 25, 26, 27, 28, 29] 2 (fun g s4 s5 s21 s22 s23 s24 s25 s26 s27 s28 s29 wr => ∃ k : Nat, k ≤ 2 ∧ g = 2 - k ∧ s21 = .int .i64 k ∧ (k = 0 ∨ k = 1 ∧ E1 = 0 ∨ k = 2 ∧ E1 = 0 ∧ E2 = 0) ∧ Kept (fun _ => False) (w.alloc (.cells #[.int .i64 sc, .int .u64 (ze : Int), .int .i64 po, .slice ao pl.length c, .int .i64 no, .slice bo nl.length d] 62)) wr)
    case atStart => exact ⟨0, by omega, rfl, rfl, .inl rfl, Kept.refl _ _⟩
    case round =>
      obtain ⟨k, hk2, rfl, rfl, hcase, hkw⟩ := hrel
      have HK := Lib.hid (KB.out.trans hkw)
      have HKB := Lib.hid hkw
      clear hkw
      rcases hcase with rfl | ⟨rfl, z1⟩ | ⟨rfl, z1, z2⟩
      · have ix : ∀ w, (Instr.index 118 (.agg #[.int .i64 po, .slice ao pl.length c, .int .i64 no, .slice bo nl.length d]) (.int .i64 0)).run Tryd.prog w = .ok (.agg #[.int .i64 po, .slice ao pl.length c]) w := fun _ => by kernel_rfl
        by_cases z : E1 = 0
        · have q : ((E1 : Int) != 0) = false := bneF (by omega)
          have Z := Lib.hid z
          clear z hk2
          go_wp2_with (go_at_call 87; refine (HCP.out _ (HK.out.alloc _)).mono ?_; rintro e w1 ⟨rfl, k1⟩; have K1 := Lib.hid ((HKB.out.alloc _).trans k1); clear k1)
          go_roundg 1
          case measure => omega
          case rel => exact ⟨1, by omega, rfl, rfl, .inr (.inl ⟨rfl, Z.out⟩), K1.out⟩
        · have q : ((E1 : Int) != 0) = true := bneT (by omega)
          have HE2 := Lib.hid (HE.out.trans (if_pos z))
          clear z hk2
          go_wp2_with (go_at_call 87; refine (HCP.out _ (HK.out.alloc _)).mono ?_; rintro e w1 ⟨rfl, k1⟩; have K1 := Lib.hid ((HK.out.alloc _).trans k1); clear k1)
          go_ret
          exact ⟨by rw [HE2.out]; rfl, K1.out⟩
      · have ix : ∀ w, (Instr.index 118 (.agg #[.int .i64 po, .slice ao pl.length c, .int .i64 no, .slice bo nl.length d]) (.int .i64 1)).run Tryd.prog w = .ok (.agg #[.int .i64 no, .slice bo nl.length d]) w := fun _ => by kernel_rfl
        have Z1 := Lib.hid z1
        have HE1 := Lib.hid (HE.out.trans (if_neg (by omega)))
        by_cases z : E2 = 0
        · have q : ((E2 : Int) != 0) = false := bneF (by omega)
          have Z := Lib.hid z
          clear z hk2 z1
          go_wp2_with (go_at_call 87; refine (HCN.out _ (HK.out.alloc _)).mono ?_; rintro e w1 ⟨rfl, k1⟩; have K1 := Lib.hid ((HKB.out.alloc _).trans k1); clear k1)
          go_roundg 0
          case measure => omega
          case rel => exact ⟨2, by omega, rfl, rfl, .inr (.inr ⟨rfl, Z1.out, Z.out⟩), K1.out⟩
        · have q : ((E2 : Int) != 0) = true := bneT (by omega)
          have HE2 := Lib.hid (HE1.out.trans (if_pos z))
          clear z hk2 z1
          go_wp2_with (go_at_call 87; refine (HCN.out _ (HK.out.alloc _)).mono ?_; rintro e w1 ⟨rfl, k1⟩; have K1 := Lib.hid ((HK.out.alloc _).trans k1); clear k1)
          go_ret
          exact ⟨by rw [HE2.out]; rfl, K1.out⟩
      · have HE1 := Lib.hid (HE.out.trans ((if_neg (by omega)).trans (if_neg (by omega))))
        have hbox : wr.heap[w.heap.size]? = some (.cells #[.int .i64 sc, .int .u64 (ze : Int), .int .i64 po, .slice ao pl.length c, .int .i64 no, .slice bo nl.length d] 62 (0, 0)) := HKB.out.same (heap_alloc_new w _) (fun x => x)
        have b0 : wr.cell? ⟨w.heap.size, 0, none⟩ = some (.int .i64 sc) := by rw [cell_of_row _ _ 0 _ _ _ hbox]; rfl
        have b1 : wr.cell? ⟨w.heap.size, 1, none⟩ = some (.int .u64 (ze : Int)) := by rw [cell_of_row _ _ 1 _ _ _ hbox]; rfl
        have b2 : wr.cell? ⟨w.heap.size, 2, none⟩ = some (.int .i64 po) := by rw [cell_of_row _ _ 2 _ _ _ hbox]; rfl
        have b3 : wr.cell? ⟨w.heap.size, 3, none⟩ = some (.slice ao pl.length c) := by rw [cell_of_row _ _ 3 _ _ _ hbox]; rfl
        have b4 : wr.cell? ⟨w.heap.size, 4, none⟩ = some (.int .i64 no) := by rw [cell_of_row _ _ 4 _ _ _ hbox]; rfl
        have b5 : wr.cell? ⟨w.heap.size, 5, none⟩ = some (.slice bo nl.length d) := by rw [cell_of_row _ _ 5 _ _ _ hbox]; rfl
        have HTW := Lib.hid (HTO.out wr HK.out)
        clear z1 z2 hk2 hbox HTO
        by_cases ht : T < 18446744073709551616
        · have HE2 := Lib.hid (HE1.out.trans (if_neg (by omega)))
          rw [if_pos ht, decide_eq_true ht] at HTW
          clear ht
          go_wp2_with (go_at_call 88; refine HTW.out.mono ?_; rintro e w1 ⟨rfl, k1⟩; have K1 := Lib.hid (HK.out.trans k1); clear k1)
          go_ret
          exact ⟨by rw [HE2.out]; rfl, K1.out⟩
        · have HE2 := Lib.hid (HE1.out.trans (if_pos (by omega)))
          rw [if_neg ht, decide_eq_false ht] at HTW
          clear ht
          go_wp2_with (go_at_call 88; refine HTW.out.mono ?_; rintro e w1 ⟨rfl, k1⟩; have K1 := Lib.hid (HK.out.trans k1); clear k1)
          go_ret
          exact ⟨by rw [HE2.out]; rfl, K1.out⟩
end Go.Proofs.YtjpnfadmblmjbaaDoor
/- slices.Clone of counts; counts that are appended. -/
namespace Go.Proofs.YtjpnfadmblmjbaaDoor
open Go.RowKit
attribute [local go_sem ↓] Go.wp_at_zero Go.wp_at_succ

theorem Tryd.infoU64 : (Tryd.prog.info? 28).map (fun i => (i.zero, i.size, i.bytes)) = some (some (.int .u64 0), 1, 8) := by kernel_rfl

/-- A new slice of the counts. -/
def Fresh64 (w : World) (xs : List Value) (e : Ending) (w' : World) : Prop := ∃ v, e = .returned v ∧ Mine w w' 28 v xs

set_option maxHeartbeats 400000 in
theorem sclone_any (v : Value) (xs : List Value) (w : World) (hv : SlAt w v xs) (h1 : ∀ u ∈ xs, u.oneCell' = true) (hl : xs.length ≤ 100000000000) :
    Calls Tryd.prog 86 #[v] w (Fresh64 w xs) := by
  obtain ⟨i0, hi, hz0, hz1, hz2⟩ := info_parts Tryd.infoU64
  have q29 := fun (w : World) (a : Option Addr) (n c n' c' : Nat) => Lib.run_eql_slice_nil (P := Tryd.prog) w 22 28 a n c n' c' Tryd.underlying22
  obtain ⟨ao, c, rfl, hn, hcl⟩ := hv.val
  cases ao with
  | none =>
    obtain rfl := hn rfl
    clear hcl hn hv
    go_enter Tryd.func86, Tryd.ntmps86
    go_wp2
    go_ret
    exact ⟨_, rfl, Mine.nil _ _⟩
  | some a =>
    have hs := (hv.kept (((Kept.refl (fun _ => False) w).alloc (.cells #[] 28))) (fun _ _ h => h)).src Tryd.underlying22 h1
    have hown0 : Mine w (w.alloc (.cells #[] 28)) 28 (.slice (some ⟨w.heap.size, 0, none⟩) 0 0) [] :=
      ⟨⟨rfl, .inr ⟨w.heap.size, 0, #[], rfl, Nat.le_refl _, heap_alloc_new w _, Nat.le_refl _, by unfold maxLen; omega, rfl, rfl⟩⟩, (Kept.refl _ _).alloc _⟩
    have HO := Lib.hid hown0
    have HS := Lib.hid hs
    clear hcl hn hv hown0 hs
    go_enter Tryd.func86, Tryd.ntmps86
    go_wp2_with (at_builtin; refine wpList_mine rfl (.tmp 5) (.tmp 6) 22 22 rfl 28 i0 (.int .u64 0) 8 Tryd.underlying22 hi hz0 hz1 hz2 rfl (by omega) w _ [] rfl HO.out _ xs rfl HS.out (by simp; omega) ?_; intro v' w1 hm; have HM := Lib.hid hm; clear hm)
    go_ret
    exact ⟨_, rfl, by have := HM.out; simpa using this⟩
theorem wpList_mineU {ops : Array Oper} {rest : List Oper} {o : Oper} {a : Act} {Q : Exit → Act → World → Prop} {w : World} (hgd : o.guard = none) (s x : Operand)
    (ho : o.op = .call { callee := .builtin .append, args := #[s, x], argTypes := #[22, 22] })
    (W : World) (v : Value) (xs : List Value) (hv : a.eval s = v) (hm : Mine W w 28 v xs)
    (y : Value) (news : List Value) (hy : a.eval x = y) (hs : Src Tryd.prog 1 22 y news.length news w)
    (hl : xs.length + news.length ≤ 1000000000000)
    (h : ∀ v' w', Mine W w' 28 v' (xs ++ news) → Kept (fun k => v.ownBlock = some k) w w' → (v'.ownBlock = v.ownBlock ∨ v'.ownBlock = some w.heap.size) → wpList Tryd.prog ops Q rest (a.put o.dst v') w') : wpList Tryd.prog ops Q (o :: rest) a w := by
  obtain ⟨iI, hiI, hzI0, hzI1, hzI2⟩ := info_parts Tryd.infoU64
  exact wpList_mine2 hgd s x _ _ ho 28 iI (.int .u64 0) 8 Tryd.underlying22 hiI hzI0 hzI1 hzI2 rfl (by omega) W v xs hv hm y news hy hs hl h
theorem step_mineU {ops : Array Oper} {o : Oper} {a : Act} {K : Act → World → Prop} {Q : Exit → Act → World → Prop} {E : Prop} {w : World} (hgd : o.guard = none) (s x : Operand)
    (ho : o.op = .call { callee := .builtin .append, args := #[s, x], argTypes := #[22, 22] })
    (W : World) (v : Value) (xs : List Value) (hv : a.eval s = v) (hm : Mine W w 28 v xs)
    (y : Value) (news : List Value) (hy : a.eval x = y) (hs : Src Tryd.prog 1 22 y news.length news w)
    (hl : xs.length + news.length ≤ 1000000000000)
    (h : ∀ v' w', Mine W w' 28 v' (xs ++ news) → Kept (fun k => v.ownBlock = some k) w w' → (v'.ownBlock = v.ownBlock ∨ v'.ownBlock = some w.heap.size) → K (a.put o.dst v') w') :
    if Region.wanted o (yielded ops a.tmps) = true then Oper.wp Tryd.prog o a w K Q else E := by
  obtain ⟨iI, hiI, hzI0, hzI1, hzI2⟩ := info_parts Tryd.infoU64
  exact step_mine hgd s x _ _ ho 28 iI (.int .u64 0) 8 Tryd.underlying22 hiI hzI0 hzI1 hzI2 rfl (by omega) W v xs hv hm y news hy hs hl h
theorem src_oneU (w : World) (u : Value) (hu : u.oneCell' = true) : Src Tryd.prog 1 22 (.slice (some ⟨w.heap.size, 0, none⟩) 1 1) ([u] : List Value).length [u] (w.alloc (.cells #[u] 28)) := src_one w Tryd.underlying22 u hu
theorem uvals_drop (l : List Nat) (i : Nat) : uvals (l.drop i) = (uvals l).drop i := by unfold uvals; rw [List.map_drop]
theorem uvals_take (l : List Nat) (i : Nat) : uvals (l.take i) = (uvals l).take i := by unfold uvals; rw [List.map_take]
theorem uvals_append (l m : List Nat) : uvals (l ++ m) = uvals l ++ uvals m := by unfold uvals; rw [List.map_append]
end Go.Proofs.YtjpnfadmblmjbaaDoor
/- A histogram in its block. -/
namespace Go.Proofs.YtjpnfadmblmjbaaDoor
open Go.RowKit
attribute [local go_sem ↓] Go.wp_at_zero Go.wp_at_succ

theorem hist_info : (Tryd.prog.info? 62).map (·.size) = some 6 := by kernel_rfl
/-- A histogram in its block. -/
def HistBox (w : World) (q : Nat) (h : HistV) (pv nv : Value) : Prop := w.heap[q]? = some (.cells #[.int .i64 h.sc, .int .u64 (h.ze : Int), .int .i64 h.po, pv, .int .i64 h.no, nv] 62 (0, 0))
theorem HistBox.c {w : World} {q : Nat} {h : HistV} {pv nv : Value} (b : HistBox w q h pv nv) : w.cell? ⟨q, 0, none⟩ = some (.int .i64 h.sc) ∧ w.cell? ⟨q, 1, none⟩ = some (.int .u64 (h.ze : Int)) ∧ w.cell? ⟨q, 2, none⟩ = some (.int .i64 h.po) ∧ w.cell? ⟨q, 3, none⟩ = some pv ∧ w.cell? ⟨q, 4, none⟩ = some (.int .i64 h.no) ∧ w.cell? ⟨q, 5, none⟩ = some nv := by
  refine ⟨?_, ?_, ?_, ?_, ?_, ?_⟩
  · rw [cell_of_row _ _ 0 _ _ _ b]; rfl
  · rw [cell_of_row _ _ 1 _ _ _ b]; rfl
  · rw [cell_of_row _ _ 2 _ _ _ b]; rfl
  · rw [cell_of_row _ _ 3 _ _ _ b]; rfl
  · rw [cell_of_row _ _ 4 _ _ _ b]; rfl
  · rw [cell_of_row _ _ 5 _ _ _ b]; rfl
theorem HistBox.f {w : World} {q : Nat} {h : HistV} {pv nv : Value} (b : HistBox w q h pv nv) : w.frozen? ⟨q, 0, none⟩ = false ∧ w.frozen? ⟨q, 1, none⟩ = false ∧ w.frozen? ⟨q, 2, none⟩ = false ∧ w.frozen? ⟨q, 3, none⟩ = false ∧ w.frozen? ⟨q, 4, none⟩ = false ∧ w.frozen? ⟨q, 5, none⟩ = false := by
  unfold HistBox at b; simp [World.frozen?, b]
theorem HistBox.same {S : Nat → Prop} {w w' : World} {q : Nat} {h : HistV} {pv nv : Value} (b : HistBox w q h pv nv) (hk : Kept S w w') (hn : ¬ S q) : HistBox w' q h pv nv := hk.same b hn
/-- Six cells are set one behind the other. -/
def set6 (w : World) (q : Nat) (a b c d e f : Value) : World := (((((w.setCell ⟨q, 0, none⟩ a).setCell ⟨q, 1, none⟩ b).setCell ⟨q, 2, none⟩ c).setCell ⟨q, 3, none⟩ d).setCell ⟨q, 4, none⟩ e).setCell ⟨q, 5, none⟩ f
theorem HistBox.set {w : World} {q : Nat} {h : HistV} {pv nv : Value} (b : HistBox w q h pv nv) (h' : HistV) (pv' nv' : Value) : HistBox (set6 w q (.int .i64 h'.sc) (.int .u64 (h'.ze : Int)) (.int .i64 h'.po) pv' (.int .i64 h'.no) nv') q h' pv' nv' := by
  unfold HistBox set6 at *; simp [World.setCell, Array.getElem?_modify, b]
theorem set6_kept (w : World) (q : Nat) (a b c d e f : Value) : Kept (fun k => k = q) w (set6 w q a b c d e f) :=
  ((((((Kept.refl (fun k => k = q) w).setCell (p := ⟨q, 0, none⟩) (fun _ => rfl) a).setCell (p := ⟨q, 1, none⟩) (fun _ => rfl) b).setCell (p := ⟨q, 2, none⟩) (fun _ => rfl) c).setCell (p := ⟨q, 3, none⟩) (fun _ => rfl) d).setCell (p := ⟨q, 4, none⟩) (fun _ => rfl) e).setCell (p := ⟨q, 5, none⟩) (fun _ => rfl) f
theorem Mine.set6 {W w : World} {v : Value} {xs : List Value} {q : Nat} {h : HistV} {pv nv : Value} (m : Mine W w 28 v xs) (hb : HistBox w q h pv nv) (hq : W.heap.size ≤ q) (a b c d e f : Value) : Mine W (set6 w q a b c d e f) 28 v xs :=
  m.keptS (set6_kept w q a b c d e f) (fun k e x => own_box m.own hb (by decide) (by rw [e, x])) (fun k e => by omega)

theorem hist_end {fn : Func} {p s : Tmp} {a : Act} {P : Ending → World → Prop} {w : World} {q : Nat} {h : HistV} {pv nv x : Value} (hres : fn.results = #[.cell p 62, .tmp s]) (hp : a.tmps.getD p undef = .pointer (some ⟨q, 0, none⟩)) (hx : a.tmps.getD s undef = x) (hd : a.defers = [])
    (hg : HistBox w q h pv nv) (hP : P (.returned (.tuple #[histV h pv nv, x])) w) : bodyPost Tryd.prog fn P .ret a w := by
  refine bodyPost_ret (v := .tuple #[histV h pv nv, x]) ?_ hd hP
  have hp' : a.tmps[p]?.getD undef = .pointer (some ⟨q, 0, none⟩) := by simpa using hp
  have hx' : a.tmps[s]?.getD undef = x := by simpa using hx
  have hl := run_loadVar_row (P := Tryd.prog) w q 62 62 _ (0, 0) _ hg Tryd.underlying62 rfl hist_info
  simp [results, hres, hp', hx', asAddr, hl, histV]

def zeroH : HistV := ⟨0, 0, 0, [], 0, []⟩
theorem err_light {h : HistV} (he : h.err = 0) : (-10 ≤ h.sc ∧ h.sc ≤ 20) ∧ sideE h.po h.pl = 0 ∧ sideE h.no h.nl = 0 ∧ h.total < 18446744073709551616 := by
  unfold HistV.err at he
  split at he
  · omega
  · split at he
    · omega
    · split at he
      · omega
      · split at he
        · omega
        · refine ⟨by omega, by omega, by omega, by omega⟩
theorem sideE_zero {o : Int} {l : List Nat} (h : sideE o l = 0) : l.length ≤ 160 ∧ (l.length = 0 → o = 0) ∧ (l.length ≠ 0 → l.getD 0 0 ≠ 0 ∧ l.getD (l.length - 1) 0 ≠ 0 ∧ -1073741824 ≤ o ∧ o + (l.length : Int) - 1 ≤ 1073741824) := by
  unfold sideE at h
  split at h
  · omega
  · split at h
    · split at h
      · refine ⟨by omega, fun _ => by assumption, fun h' => absurd (by assumption) h'⟩
      · omega
    · split at h
      · omega
      · split at h
        · omega
        · rename_i h1 h2 h3 h4
          refine ⟨by omega, fun h' => absurd h' h2, fun _ => ⟨fun e => h3 (.inl e), fun e => h3 (.inr e), by omega, by omega⟩⟩
/-- A histogram that came in. -/
structure HistIn (W : World) (h : HistV) (pv nv : Value) : Prop where
  at_ : HistAt W h pv nv
  ok : h.ok
  cp : ∀ a n c, pv = .slice a n c → n ≤ c
  cn : ∀ a n c, nv = .slice a n c → n ≤ c
theorem hist_boxed (W : World) (h : HistV) (pv nv : Value) : HistBox (W.alloc (.cells #[.int .i64 h.sc, .int .u64 (h.ze : Int), .int .i64 h.po, pv, .int .i64 h.no, nv] 62)) W.heap.size h pv nv := heap_alloc_new W _
theorem side_info : (Tryd.prog.info? 60).map (·.size) = some 2 := by kernel_rfl
/-- A side in its block. -/
def SideBox (w : World) (q : Nat) (o : Int) (v : Value) : Prop := w.heap[q]? = some (.cells #[.int .i64 o, v] 60 (0, 0))
theorem SideBox.c {w : World} {q : Nat} {o : Int} {v : Value} (h : SideBox w q o v) : (w.cell? ⟨q, 0, none⟩ = some (.int .i64 o) ∧ w.cell? ⟨q, 1, none⟩ = some v) ∧ w.frozen? ⟨q, 0, none⟩ = false ∧ w.frozen? ⟨q, 1, none⟩ = false := by
  refine ⟨⟨?_, ?_⟩, ?_⟩
  · rw [cell_of_row _ _ 0 _ _ _ h]; rfl
  · rw [cell_of_row _ _ 1 _ _ _ h]; rfl
  · unfold SideBox at h; simp [World.frozen?, h]
theorem SideBox.set {w : World} {q : Nat} {o : Int} {v : Value} (h : SideBox w q o v) (o' : Int) (v' : Value) : SideBox ((w.setCell ⟨q, 0, none⟩ (.int .i64 o')).setCell ⟨q, 1, none⟩ v') q o' v' := by
  unfold SideBox at *; simp [World.setCell, Array.getElem?_modify, h]
theorem SideBox.same {S : Nat → Prop} {w w' : World} {q : Nat} {o : Int} {v : Value} (h : SideBox w q o v) (hk : Kept S w w') (hn : ¬ S q) : SideBox w' q o v := hk.same h hn
theorem side_end {fn : Func} {p : Tmp} {a : Act} {P : Ending → World → Prop} {w : World} {q : Nat} {o : Int} {v : Value} (hres : fn.results = #[.cell p 60]) (hp : a.tmps.getD p undef = .pointer (some ⟨q, 0, none⟩)) (hd : a.defers = [])
    (hg : SideBox w q o v) (h : P (.returned (.agg #[.int .i64 o, v])) w) : bodyPost Tryd.prog fn P .ret a w :=
  bodyPost_ret (v := .agg #[.int .i64 o, v]) (results_cell_row hres _ _ q 60 _ (0, 0) _ hp hg Tryd.underlying60 rfl side_info) hd h
end Go.Proofs.YtjpnfadmblmjbaaDoor
/- The document's answer for hist: sum, Total. -/
namespace Go.Proofs.YtjpnfadmblmjbaaDoor
open Go.RowKit
attribute [local go_sem ↓] Go.wp_at_zero Go.wp_at_succ

/-- A sum, and whether it fits. -/
def sumV (a : Nat) (l : List Nat) : Value := .tuple #[.int .u64 (((if sumN a l < 18446744073709551616 then sumN a l else 0 : Nat)) : Int), .bool (decide (sumN a l < 18446744073709551616))]

set_option maxHeartbeats 4000000 in
set_option maxRecDepth 100000 in
theorem refSum_any (a : Nat) (l : List Nat) (v : Value) (w : World) (hv : SlAt w v (uvals l)) (ha : a < 18446744073709551616) (hl : l.length ≤ 1000000) (hb : ∀ x ∈ l, x < 18446744073709551616) :
    Calls Tryd.prog 89 #[.int .u64 (a : Int), v] w fun e w' => e = .returned (sumV a l) ∧ w' = w := by
  have hv0 := Lib.hid hv
  obtain ⟨ao, c, hval, _, _⟩ := hv.val
  rw [uvals_length] at hval
  subst hval
  have HLE := Lib.hid fun i => sumN_le a l i
  have HST := Lib.hid fun i (hi : i < l.length) => sumN_take a l i hi
  obtain ⟨T, hT⟩ : ∃ T, T = sumN a l := ⟨_, rfl⟩
  have HT := Lib.hid hT
  have HBAD : Hid (18446744073709551616 ≤ T → Ending.returned (.tuple #[.int .u64 0, .bool false]) = .returned (sumV a l)) := Lib.hid fun h => by
    unfold sumV; rw [← hT, if_neg (by omega), decide_eq_false (by omega)]; rfl
  have HGOOD : Hid (T < 18446744073709551616 → Ending.returned (.tuple #[.int .u64 (T : Int), .bool true]) = .returned (sumV a l)) := Lib.hid fun h => by
    unfold sumV; rw [← hT, if_pos h, decide_eq_true h]
  clear hv hT
  go_enter Tryd.func89, Tryd.ntmps89
  go_wp2
  go_loopg [0, 6] l.length (fun g s0 s6 wr => ∃ i : Nat, i ≤ l.length ∧ g = l.length - i ∧ s6 = .int .i64 i ∧ s0 = .int .u64 ((sumN a (l.take i) : Nat) : Int) ∧ sumN a (l.take i) < 18446744073709551616 ∧ wr = w)
  case atStart => exact ⟨0, Nat.zero_le _, rfl, rfl, by rw [List.take_zero, sumN_nil], by rw [List.take_zero, sumN_nil]; exact ha, rfl⟩
  case round =>
    obtain ⟨i, hil, rfl, rfl, rfl, hSi, rfl⟩ := hrel
    obtain ⟨X, hX⟩ : ∃ X, X = sumN a (l.take i) := ⟨_, rfl⟩
    rw [← hX] at hSi ⊢
    by_cases hd : i < l.length
    · have hdi : (i : Int) < (l.length : Int) := by omega
      have i0 : (0 : Int) ≤ (i : Int) := by omega
      have HD := Lib.hid hd
      obtain ⟨g, off, rfl, c0⟩ := hv0.out.elem (uvals_get hd)
      obtain ⟨y, hy⟩ : ∃ y, y = l.getD i 0 := ⟨_, rfl⟩
      rw [← hy] at c0
      have hst := HST.out i hd
      rw [← hX, ← hy] at hst
      have hle := HLE.out (i + 1)
      rw [hst, ← HT.out] at hle
      have hyb : y < 18446744073709551616 := by rw [hy]; exact getD_u64 hb i
      obtain ⟨Z, hZ⟩ : ∃ Z : Nat, Z = 18446744073709551615 - X := ⟨_, rfl⟩
      have e1 : IntKind.u64.wrap (18446744073709551615 - (X : Int)) = (Z : Int) := by rw [IntKind.wrap_u64]; omega
      have e2 : (18446744073709551615 : Int) - (X : Int) = (Z : Int) := by omega
      have e3 : IntKind.u64.wrap (Z : Int) = (Z : Int) := by rw [IntKind.wrap_u64]; omega
      by_cases hov : Z < y
      · have hov' : (Z : Int) < (y : Int) := by omega
        have HBIG := Lib.hid (show 18446744073709551616 ≤ T by omega)
        clear hst hX hy hd hle hyb hSi hZ
        go_wp2
        go_ret2
        exact ⟨HBAD.out HBIG.out, rfl⟩
      · have hov' : ¬ (Z : Int) < (y : Int) := by omega
        obtain ⟨Y, hY⟩ : ∃ Y, Y = X + y := ⟨_, rfl⟩
        have e4 : IntKind.u64.wrap ((X : Int) + (y : Int)) = (Y : Int) := by rw [IntKind.wrap_u64]; omega
        have e5 : IntKind.u64.wrap (Y : Int) = (Y : Int) := by rw [IntKind.wrap_u64]; omega
        have e6 : (X : Int) + (y : Int) = (Y : Int) := by omega
        rw [← hY] at hst
        have HS2 := Lib.hid hst
        have HOV := Lib.hid (show Y < 18446744073709551616 by omega)
        clear hst hX hy hd hle hyb hSi hZ hY hov
        go_wp2
        go_roundg (l.length - (i + 1))
        case measure => have := HD.out; omega
        case rel => exact ⟨i + 1, HD.out, rfl, by go_num, by rw [HS2.out], by rw [HS2.out]; exact HOV.out, rfl⟩
    · obtain rfl : i = l.length := by omega
      rw [List.take_length, ← HT.out] at hX
      subst hX
      have HSI := Lib.hid hSi
      clear hd hSi
      go_wp2
      go_ret2
      exact ⟨HGOOD.out HSI.out, rfl⟩

set_option maxHeartbeats 4000000 in
set_option maxRecDepth 100000 in
theorem refTotal_any (h : HistV) (pv nv : Value) (w : World) (ha : HistAt w h pv nv) (hz : h.ze < 18446744073709551616) (hp : h.pl.length ≤ 1000000) (hn : h.nl.length ≤ 1000000) (hpb : ∀ x ∈ h.pl, x < 18446744073709551616) (hnb : ∀ x ∈ h.nl, x < 18446744073709551616) :
    Calls Tryd.prog 70 #[histV h pv nv] w fun e w' => e = .returned (totV h) ∧ Kept (fun _ => False) w w' := by
  obtain ⟨⟨ao, c, rfl⟩, bo, d, rfl⟩ := ha.sl
  have HS1 := Lib.hid fun w' (k : Kept (fun _ => False) w w') => refSum_any h.ze h.pl _ w' (ha.on k).p hz hp hpb
  have HS2 := Lib.hid fun w' (k : Kept (fun _ => False) w w') (a : Nat) (hA : a < 18446744073709551616) => refSum_any a h.nl _ w' (ha.on k).n hA hn hnb
  obtain ⟨T1, hT1⟩ : ∃ T, T = sumN h.ze h.pl := ⟨_, rfl⟩
  have htot : h.total = sumN T1 h.nl := by rw [hT1]; rfl
  have hle : T1 ≤ sumN T1 h.nl := by unfold sumN; omega
  obtain ⟨T2, hT2⟩ : ∃ T, T = sumN T1 h.nl := ⟨_, rfl⟩
  rw [← hT2] at hle htot
  have HT : Hid (totV h = .tuple #[.int .u64 (((if T2 < 18446744073709551616 then T2 else 0 : Nat)) : Int), .bool (decide (T2 < 18446744073709551616))]) := Lib.hid (by unfold totV; rw [htot])
  have HT2 := Lib.hid hT2
  unfold sumV at HS1 HS2
  rw [← hT1] at HS1
  have HSB := Lib.hid fun w' (k : Kept (fun _ => False) w w') (hA : T1 < 18446744073709551616) => HS2.out w' k T1 hA
  rw [← hT2] at HSB
  have kb := (Kept.refl (fun _ => False) w).alloc (.cells #[.int .i64 h.sc, .int .u64 (h.ze : Int), .int .i64 h.po, .slice ao h.pl.length c, .int .i64 h.no, .slice bo h.nl.length d] 62)
  have KB := Lib.hid kb
  have HLE := Lib.hid hle
  clear ha hT1 htot hT2 HS2 kb hle hz
  obtain ⟨sc, ze, po, pl, no, nl⟩ := h
  unfold histV
  simp only at HS1 HSB KB
  by_cases h1 : T1 < 18446744073709551616
  · rw [if_pos h1, decide_eq_true h1] at HS1
    have HB2 := Lib.hid fun w' k => HSB.out w' k h1
    by_cases h2 : T2 < 18446744073709551616
    all_goals
      first
        | rw [if_pos h2, decide_eq_true h2] at HB2 HT
        | rw [if_neg h2, decide_eq_false h2] at HB2 HT
      clear HSB h1 h2
      go_enter Tryd.func70, Tryd.ntmps70
      go_wp2_with (first
        | (have _tok := HW1.out; go_at_call 89; refine (HB2.out _ KB.out).mono ?_; rintro e w2 ⟨rfl, rfl⟩)
        | (go_at_call 89; refine (HS1.out _ KB.out).mono ?_; rintro e w1 ⟨rfl, hw1⟩; have HW1 := Lib.hid hw1; subst hw1)
        | fail)
      go_ret2
      exact ⟨by rw [HT.out]; rfl, KB.out⟩
  · have HX := Lib.hid (show totV ⟨sc, ze, po, pl, no, nl⟩ = .tuple #[.int .u64 0, .bool false] by rw [HT.out, if_neg (by have := HLE.out; omega), decide_eq_false (by have := HLE.out; omega)]; rfl)
    rw [if_neg h1, decide_eq_false h1] at HS1
    clear HSB h1
    go_enter Tryd.func70, Tryd.ntmps70
    go_wp2_with (first
      | (go_at_call 89; refine (HS1.out _ KB.out).mono ?_; rintro e w1 ⟨rfl, rfl⟩)
      | fail)
    go_ret2
    exact ⟨by rw [HX.out]; rfl, KB.out⟩
end Go.Proofs.YtjpnfadmblmjbaaDoor
/- The document's answer for hist: side, Light, half. -/
namespace Go.Proofs.YtjpnfadmblmjbaaDoor
open Go.RowKit
attribute [local go_sem ↓] Go.wp_at_zero Go.wp_at_succ

set_option maxHeartbeats 1000000 in
theorem refSide_any (o : Int) (l : List Nat) (v : Value) (w : World) (hv : SlAt w v (uvals l)) (ho : I64 o) (hl : l.length ≤ 1000000) :
    Calls Tryd.prog 69 #[.agg #[.int .i64 o, v]] w fun e w' => e = .returned (.int .i64 ((sideE o l : Nat) : Int)) ∧ Kept (fun _ => False) w w' := by
  obtain ⟨h0, h1⟩ := ho
  have hv0 := Lib.hid hv
  obtain ⟨ao, c, hval, _, _⟩ := hv.val
  rw [uvals_length] at hval
  subst hval
  by_cases hA : 160 < l.length
  · have e : sideE o l = 4 := by unfold sideE; rw [if_pos hA]
    have q : (160 : Int) < (l.length : Int) := by omega
    rw [e]
    clear hv e
    go_enter Tryd.func69, Tryd.ntmps69
    go_wp2
    go_ret
    exact ⟨rfl, (Kept.refl _ _).alloc _⟩
  · have q1 : ¬ (160 : Int) < (l.length : Int) := by omega
    have q1b : decide (160 < l.length) = false := decide_eq_false hA
    by_cases hB : l.length = 0
    · have q2 : ((l.length : Int) == 0) = true := beqT (by omega)
      by_cases hC : o = 0
      · have e : sideE o l = 0 := by unfold sideE; rw [if_neg hA, if_pos hB, if_pos hC]
        rw [e]
        have q3 : (o != 0) = false := by simp [hC]
        clear hv e hC hB
        go_enter Tryd.func69, Tryd.ntmps69
        go_wp2
        go_ret
        exact ⟨rfl, (Kept.refl _ _).alloc _⟩
      · have e : sideE o l = 3 := by unfold sideE; rw [if_neg hA, if_pos hB, if_neg hC]
        rw [e]
        have q3 : (o != 0) = true := by simp [hC]
        clear hv e hC hB
        go_enter Tryd.func69, Tryd.ntmps69
        go_wp2
        go_ret
        exact ⟨rfl, (Kept.refl _ _).alloc _⟩
    · have q2 : ((l.length : Int) == 0) = false := beqF (by omega)
      obtain ⟨n, hn⟩ : ∃ n, n = l.length - 1 := ⟨_, rfl⟩
      have hv1 := hv.kept ((Kept.refl (fun _ => False) w).alloc (.cells #[.int .i64 o, .slice ao l.length c] 60)) (fun _ _ x => x)
      obtain ⟨g, off, e1, c0⟩ := hv1.elem (uvals_get (j := 0) (by omega))
      subst e1
      obtain ⟨_, _, e', c1⟩ := hv1.elem (uvals_get (j := n) (by omega))
      injection e' with e'; injection e' with e1 e2; subst e1; subst e2
      rw [Nat.add_zero] at c0
      have l0 : (0 : Int) < (l.length : Int) := by omega
      have l0n : 0 < l.length := by omega
      have n1 : IntKind.i64.wrap ((l.length : Int) - 1) = (n : Int) := by rw [IntWalk.i64_in _ ⟨by omega, by omega⟩]; omega
      have n2 : (l.length : Int) - 1 = (n : Int) := by omega
      have n0 : (0 : Int) ≤ (n : Int) := by omega
      have nl : (n : Int) < (l.length : Int) := by omega
      obtain ⟨x, hx⟩ : ∃ x, x = l.getD 0 0 := ⟨_, rfl⟩
      obtain ⟨y, hy⟩ : ∃ y, y = l.getD n 0 := ⟨_, rfl⟩
      have hd : sideE o l = if x = 0 ∨ y = 0 then 3 else if o < -1073741824 ∨ 1073741824 < o + ((l.length : Nat) : Int) - 1 then 1 else 0 := by
        unfold sideE; rw [if_neg hA, if_neg hB, hx, hy, hn]
      have HD := Lib.hid hd
      rw [← hx] at c0
      rw [← hy] at c1
      have m1 : 1073741824 - (n : Int) = 1073741825 - (l.length : Int) := by omega
      have hcase : x = 0 ∨ (x ≠ 0 ∧ y = 0) ∨ (x ≠ 0 ∧ y ≠ 0 ∧ o < -1073741824) ∨ (x ≠ 0 ∧ y ≠ 0 ∧ ¬ o < -1073741824 ∧ 1073741824 < o) ∨ (x ≠ 0 ∧ y ≠ 0 ∧ ¬ o < -1073741824 ∧ ¬ 1073741824 < o ∧ 1073741824 < o + (n : Int)) ∨ (x ≠ 0 ∧ y ≠ 0 ∧ ¬ o < -1073741824 ∧ ¬ 1073741824 < o ∧ ¬ 1073741824 < o + (n : Int)) := by omega
      have hres : (x = 0 ∨ y = 0 → sideE o l = 3) ∧ (x ≠ 0 → y ≠ 0 → (o < -1073741824 ∨ 1073741824 < o ∨ 1073741824 < o + (n : Int)) → sideE o l = 1) ∧ (x ≠ 0 → y ≠ 0 → ¬ o < -1073741824 → ¬ 1073741824 < o → ¬ 1073741824 < o + (n : Int) → sideE o l = 0) := by
        rw [hd]
        refine ⟨fun h => by rw [if_pos h], fun a b h => by rw [if_neg (by omega), if_pos (by omega)], fun a b h i j => by rw [if_neg (by omega), if_neg (by omega)]⟩
      have HRES := Lib.hid hres
      clear hv hv1 hd hres hx hy hn hA hB m1
      rcases hcase with h | ⟨h, h'⟩ | ⟨h, h', h''⟩ | ⟨h, h', h'', h3⟩ | ⟨h, h', h'', h3, h4⟩ | ⟨h, h', h'', h3, h4⟩
      · have e := HRES.out.1 (.inl h)
        have qx : ((x : Int) == 0) = true := by simp; omega
        rw [e]
        clear e h
        go_enter Tryd.func69, Tryd.ntmps69
        go_wp2
        go_ret
        exact ⟨rfl, (Kept.refl _ _).alloc _⟩
      · have e := HRES.out.1 (.inr h')
        have qx : ((x : Int) == 0) = false := by simp; omega
        have qy : ((y : Int) == 0) = true := by simp; omega
        rw [e]
        clear e h h'
        go_enter Tryd.func69, Tryd.ntmps69
        go_wp2
        go_ret
        exact ⟨rfl, (Kept.refl _ _).alloc _⟩
      all_goals
        have qx : ((x : Int) == 0) = false := by simp; omega
        have qy : ((y : Int) == 0) = false := by simp; omega
        try
          have s1 : IntKind.i64.wrap (o + (l.length : Int)) = o + (l.length : Int) := IntWalk.i64_in _ ⟨by omega, by omega⟩
          have s2 : IntKind.i64.wrap (o + (l.length : Int) - 1) = o + (n : Int) := by rw [IntWalk.i64_in _ ⟨by omega, by omega⟩]; omega
          have s3 : IntKind.i64.wrap (o + (n : Int)) = o + (n : Int) := IntWalk.i64_in _ ⟨by omega, by omega⟩
          have s4 : o + (l.length : Int) - 1 = o + (n : Int) := by omega
        first
          | have e := HRES.out.2.2 h h' h'' h3 h4
          | have e := HRES.out.2.1 h h' (.inr (.inr h4))
          | have e := HRES.out.2.1 h h' (.inr (.inl h3))
          | have e := HRES.out.2.1 h h' (.inl h'')
        rw [e]
        clear e h h'
        go_enter Tryd.func69, Tryd.ntmps69
        go_wp2
        go_ret
        exact ⟨rfl, (Kept.refl _ _).alloc _⟩

set_option maxHeartbeats 1000000 in
theorem refLight_any (h : HistV) (pv nv : Value) (w : World) (ha : HistAt w h pv nv) :
    Calls Tryd.prog 36 #[histV h pv nv] w fun e w' => e = .returned (.bool (decide (h.pl.length ≤ 300 ∧ h.nl.length ≤ 300))) ∧ Kept (fun _ => False) w w' := by
  obtain ⟨⟨ao, c, rfl⟩, bo, d, rfl⟩ := ha.sl
  have hres : h.pl.length ≤ 300 ∧ h.nl.length ≤ 300 ∨ ¬ (h.pl.length ≤ 300 ∧ h.nl.length ≤ 300) := Decidable.em _
  obtain ⟨A, hA⟩ : ∃ A, A = h.pl.length := ⟨_, rfl⟩
  obtain ⟨B, hB⟩ : ∃ A, A = h.nl.length := ⟨_, rfl⟩
  rw [← hA, ← hB]
  obtain ⟨sc, ze, po, pl, no, nl⟩ := h
  unfold histV
  simp only
  clear ha hA hB hres
  by_cases h1 : A ≤ 300
  · have q1 : (A : Int) ≤ 300 := by omega
    have q1b : decide (A ≤ 300) = true := decide_eq_true h1
    by_cases h2 : B ≤ 300
    · have q2 : (B : Int) ≤ 300 := by omega
      have q2b : decide (B ≤ 300) = true := decide_eq_true h2
      rw [decide_eq_true ⟨h1, h2⟩]
      go_enter Tryd.func36, Tryd.ntmps36
      go_wp2
      go_ret
      exact ⟨rfl, (Kept.refl _ _).alloc _⟩
    · have q2 : ¬ (B : Int) ≤ 300 := by omega
      have q2b : decide (B ≤ 300) = false := decide_eq_false h2
      rw [decide_eq_false (show ¬ (A ≤ 300 ∧ B ≤ 300) by omega)]
      go_enter Tryd.func36, Tryd.ntmps36
      go_wp2
      go_ret
      exact ⟨rfl, (Kept.refl _ _).alloc _⟩
  · have q1 : ¬ (A : Int) ≤ 300 := by omega
    have q1b : decide (A ≤ 300) = false := decide_eq_false h1
    rw [decide_eq_false (show ¬ (A ≤ 300 ∧ B ≤ 300) by omega)]
    go_enter Tryd.func36, Tryd.ntmps36
    go_wp2
    go_ret
    exact ⟨rfl, (Kept.refl _ _).alloc _⟩
end Go.Proofs.YtjpnfadmblmjbaaDoor
/- The document's answer for hist: SameSide. -/
namespace Go.Proofs.YtjpnfadmblmjbaaDoor
open Go.RowKit
attribute [local go_sem ↓] Go.wp_at_zero Go.wp_at_succ

theorem take_same {l m : List Nat} {i : Nat} (hi : i < l.length) (hm : i < m.length) (h : l.take i = m.take i) (e : l.getD i 0 = m.getD i 0) : l.take (i + 1) = m.take (i + 1) := by
  have e1 : l.getD i 0 = l[i] := by rw [List.getD_eq_getElem?_getD, List.getElem?_eq_getElem hi]; rfl
  have e2 : m.getD i 0 = m[i] := by rw [List.getD_eq_getElem?_getD, List.getElem?_eq_getElem hm]; rfl
  rw [List.take_succ_eq_append_getElem hi, List.take_succ_eq_append_getElem hm, h, ← e1, ← e2, e]

set_option maxHeartbeats 4000000 in
set_option maxRecDepth 100000 in
theorem refSameSide_any (o1 o2 : Int) (l1 l2 : List Nat) (v1 v2 : Value) (w : World) (h1 : SlAt w v1 (uvals l1)) (h2 : SlAt w v2 (uvals l2)) (hl : l1.length ≤ 1000000) :
    Calls Tryd.prog 76 #[.agg #[.int .i64 o1, v1], .agg #[.int .i64 o2, v2]] w fun e w' => e = .returned (.bool (decide (o1 = o2 ∧ l1 = l2))) ∧ Kept (fun _ => False) w w' := by
  obtain ⟨ao, c, hval, _, _⟩ := h1.val
  rw [uvals_length] at hval
  subst hval
  obtain ⟨bo, d, hval, _, _⟩ := h2.val
  rw [uvals_length] at hval
  subst hval
  obtain ⟨w0, hw0⟩ : ∃ w0, w0 = (w.alloc (.cells #[.int .i64 o1, .slice ao l1.length c] 60)).alloc (.cells #[.int .i64 o2, .slice bo l2.length d] 60) := ⟨_, rfl⟩
  have k0 : Kept (fun _ => False) w w0 := by rw [hw0]; exact ((Kept.refl _ w).alloc _).alloc _
  have bx : SideBox w0 w.heap.size o1 (.slice ao l1.length c) := by
    rw [hw0]; exact ((Kept.refl (fun _ => False) _).alloc _).same (heap_alloc_new w _) (fun x => x)
  have by' : SideBox w0 (w.heap.size + 1) o2 (.slice bo l2.length d) := by
    rw [hw0]
    have := heap_alloc_new (w.alloc (.cells #[.int .i64 o1, .slice ao l1.length c] 60)) (.cells #[.int .i64 o2, .slice bo l2.length d] 60)
    simpa [SideBox] using this
  have HV1 := Lib.hid fun w' (k : Kept (fun _ => False) w0 w') => (h1.kept (k0.trans k) (fun _ _ x => x))
  have HV2 := Lib.hid fun w' (k : Kept (fun _ => False) w0 w') => (h2.kept (k0.trans k) (fun _ _ x => x))
  have BX := Lib.hid bx
  have BY := Lib.hid by'
  have K0 := Lib.hid k0
  clear bx by' h1 h2 k0
  by_cases ho : o1 = o2
  · by_cases hn : l1.length = l2.length
    · have HRES : Hid (∀ b, b = decide (l1 = l2) → decide (o1 = o2 ∧ l1 = l2) = b) := Lib.hid fun b hb => by rw [hb]; simp [ho]
      obtain ⟨rb, hrb⟩ : ∃ b, b = decide (o1 = o2 ∧ l1 = l2) := ⟨_, rfl⟩
      rw [← hrb] at HRES ⊢
      have q1 : (o1 != o2) = false := by simp [ho]
      have q2 : ((l1.length : Int) != (l2.length : Int)) = false := bneF (by omega)
      have HN := Lib.hid hn
      clear ho hn hrb
      go_enter Tryd.func76, Tryd.ntmps76
      go_wp2
      rw [← hw0]
      clear hw0
      go_loopg [5, 20, 21, 22, 23, 24, 25, 26, 27, 28, 29, 30, 31, 32, 33, 34, 35, 36, 37] l1.length (fun g s5 s20 s21 s22 s23 s24 s25 s26 s27 s28 s29 s30 s31 s32 s33 s34 s35 s36 s37 wr => ∃ i : Nat, i ≤ l1.length ∧ g = l1.length - i ∧ s5 = .int .i64 i ∧ l1.take i = l2.take i ∧ Kept (fun _ => False) w0 wr)
      case atStart => exact ⟨0, Nat.zero_le _, rfl, rfl, rfl, Kept.refl _ _⟩
      case round =>
        obtain ⟨i, hil, rfl, rfl, hsame, hk⟩ := hrel
        have HSAME := Lib.hid hsame
        have HK := Lib.hid hk
        obtain ⟨⟨b0, b1⟩, _⟩ := (BX.out.same hk (fun x => x)).c
        obtain ⟨⟨d0, d1⟩, _⟩ := (BY.out.same hk (fun x => x)).c
        clear hsame hk
        by_cases hd : i < l1.length
        · have hdi : (i : Int) < (l1.length : Int) := by omega
          have hdi2 : (i : Int) < (l2.length : Int) := by have := HN.out; omega
          have i0 : (0 : Int) ≤ (i : Int) := by omega
          have HD := Lib.hid hd
          have HD2 := Lib.hid (show i < l2.length by omega)
          obtain ⟨g, off, rfl, c0⟩ := (HV1.out _ HK.out).elem (uvals_get hd)
          obtain ⟨g2, off2, rfl, c2⟩ := (HV2.out _ HK.out).elem (uvals_get HD2.out)
          obtain ⟨x, hx⟩ : ∃ x, x = l1.getD i 0 := ⟨_, rfl⟩
          obtain ⟨y, hy⟩ : ∃ y, y = l2.getD i 0 := ⟨_, rfl⟩
          rw [← hx] at c0
          rw [← hy] at c2
          have HX := Lib.hid hx
          have HY := Lib.hid hy
          clear hx hy hd
          by_cases hxy : x = y
          · have q3 : ((x : Int) != (y : Int)) = false := bneF (by omega)
            have HS2 := Lib.hid (take_same HD.out HD2.out HSAME.out (by rw [← HX.out, ← HY.out, hxy]))
            clear hxy
            go_wp2
            go_quiet (fail)
            go_wp2
            go_roundg (l1.length - (i + 1))
            case measure => have := HD.out; omega
            case rel => exact ⟨i + 1, HD.out, rfl, by go_num, HS2.out, HK.out.drewN _⟩
          · have q3 : ((x : Int) != (y : Int)) = true := bneT (by omega)
            have HF := Lib.hid (HRES.out false (decide_eq_false fun e => hxy (by rw [HX.out, HY.out, e])).symm)
            clear hxy
            go_wp2
            go_quiet (fail)
            go_wp2
            go_ret
            exact ⟨by rw [HF.out]; rfl, (K0.out.trans HK.out).drewN _⟩
        · obtain rfl : i = l1.length := by omega
          have HF := Lib.hid (HRES.out true (by have := HSAME.out; rw [List.take_length, HN.out, List.take_length] at this; rw [decide_eq_true this]))
          clear hd
          go_wp2
          go_ret
          exact ⟨by rw [HF.out]; rfl, K0.out.trans HK.out⟩
    · have e : decide (o1 = o2 ∧ l1 = l2) = false := decide_eq_false fun h => hn (by rw [h.2])
      rw [e]
      have q1 : (o1 != o2) = false := by simp [ho]
      have q2 : ((l1.length : Int) != (l2.length : Int)) = true := bneT (by omega)
      clear e ho hn
      go_enter Tryd.func76, Tryd.ntmps76
      go_wp2
      go_ret
      exact ⟨rfl, by rw [← hw0]; exact K0.out⟩
  · have e : decide (o1 = o2 ∧ l1 = l2) = false := decide_eq_false fun h => ho h.1
    rw [e]
    have q1 : (o1 != o2) = true := by simp [ho]
    clear e ho
    go_enter Tryd.func76, Tryd.ntmps76
    go_wp2
    go_ret
    exact ⟨rfl, by rw [← hw0]; exact K0.out⟩
end Go.Proofs.YtjpnfadmblmjbaaDoor
/- The document's answer for hist: Check, Same. -/
namespace Go.Proofs.YtjpnfadmblmjbaaDoor
open Go.RowKit
attribute [local go_sem ↓] Go.wp_at_zero Go.wp_at_succ

set_option maxHeartbeats 4000000 in
set_option maxRecDepth 100000 in
theorem refCheck_any (h : HistV) (pv nv : Value) (w : World) (ha : HistAt w h pv nv) (hok : h.ok) (hp : h.pl.length ≤ 1000000) (hn : h.nl.length ≤ 1000000) :
    Calls Tryd.prog 40 #[histV h pv nv] w fun e w' => e = .returned (.int .i64 ((h.err : Nat) : Int)) ∧ Kept (fun _ => False) w w' := by
  obtain ⟨⟨ao, c, rfl⟩, bo, d, rfl⟩ := ha.sl
  have HCP := Lib.hid fun w' (k : Kept (fun _ => False) w w') => refSide_any h.po h.pl _ w' (ha.on k).p hok.po hp
  have HCN := Lib.hid fun w' (k : Kept (fun _ => False) w w') => refSide_any h.no h.nl _ w' (ha.on k).n hok.no hn
  have HTO := Lib.hid fun w' (k : Kept (fun _ => False) w w') => refTotal_any h _ _ w' (ha.on k) hok.ze hp hn hok.pl hok.nl
  have hsc := hok.sc
  have hE : h.err = if h.sc < -10 ∨ 20 < h.sc then 1 else if sideE h.po h.pl ≠ 0 then sideE h.po h.pl else if sideE h.no h.nl ≠ 0 then sideE h.no h.nl else if 18446744073709551616 ≤ h.total then 4 else 0 := rfl
  obtain ⟨E1, hE1⟩ : ∃ E, E = sideE h.po h.pl := ⟨_, rfl⟩
  obtain ⟨E2, hE2⟩ : ∃ E, E = sideE h.no h.nl := ⟨_, rfl⟩
  rw [← hE1, ← hE2] at hE
  rw [← hE1] at HCP
  rw [← hE2] at HCN
  unfold totV at HTO
  obtain ⟨T, hT⟩ : ∃ E, E = h.total := ⟨_, rfl⟩
  rw [← hT] at hE HTO
  obtain ⟨ER, hER⟩ : ∃ E, E = h.err := ⟨_, rfl⟩
  rw [← hER] at hE ⊢
  have kb := (Kept.refl (fun _ => False) w).alloc (.cells #[.int .i64 h.sc, .int .u64 (h.ze : Int), .int .i64 h.po, .slice ao h.pl.length c, .int .i64 h.no, .slice bo h.nl.length d] 62)
  have KB := Lib.hid kb
  have hbx : HistBox (w.alloc (.cells #[.int .i64 h.sc, .int .u64 (h.ze : Int), .int .i64 h.po, .slice ao h.pl.length c, .int .i64 h.no, .slice bo h.nl.length d] 62)) w.heap.size h (.slice ao h.pl.length c) (.slice bo h.nl.length d) := heap_alloc_new w _
  have HBX := Lib.hid hbx
  obtain ⟨sc, ze, po, pl, no, nl⟩ := h
  unfold histV at HTO ⊢
  simp only at HCP HCN HTO hE hsc KB HBX ⊢
  clear ha hok hE1 hE2 hT hER kb hbx
  by_cases h1 : sc < -10
  · rw [if_pos (.inl h1)] at hE
    subst hE
    go_enter Tryd.func40, Tryd.ntmps40
    go_wp2
    go_ret
    exact ⟨rfl, KB.out⟩
  · by_cases h2 : 20 < sc
    · rw [if_pos (.inr h2)] at hE
      subst hE
      go_enter Tryd.func40, Tryd.ntmps40
      go_wp2
      go_ret
      exact ⟨rfl, KB.out⟩
    · rw [if_neg (by omega)] at hE
      have HE := Lib.hid hE
      clear hE
      obtain ⟨wb, hwb⟩ : ∃ wb, wb = w.alloc (.cells #[.int .i64 sc, .int .u64 (ze : Int), .int .i64 po, .slice ao pl.length c, .int .i64 no, .slice bo nl.length d] 62) := ⟨_, rfl⟩
      rw [← hwb] at KB HBX
      have HWB := Lib.hid hwb
      clear hwb
      by_cases z1 : E1 = 0
      · have q1 : ((E1 : Int) != 0) = false := bneF (by omega)
        have HE1 := Lib.hid (HE.out.trans (if_neg (by omega)))
        by_cases z2 : E2 = 0
        · have q2 : ((E2 : Int) != 0) = false := bneF (by omega)
          have HE2 := Lib.hid (HE1.out.trans (if_neg (by omega)))
          by_cases ht : T < 18446744073709551616
          all_goals
            first
              | (rw [if_pos ht, decide_eq_true ht] at HTO; have HE3 := Lib.hid (HE2.out.trans (if_neg (by omega))))
              | (rw [if_neg ht, decide_eq_false ht] at HTO; have HE3 := Lib.hid (HE2.out.trans (if_pos (by omega))))
            clear z1 z2 ht
            go_enter Tryd.func40, Tryd.ntmps40
            go_wp2_with (first
              | (have _tok := HK2.out; go_at_call 70; refine (HTO.out _ (KB.out.trans HK2.out)).mono ?_; rintro e w3 ⟨rfl, k3⟩; have HK3 := Lib.hid (HK2.out.trans k3); clear k3)
              | (have _tok := HK1.out; go_at_call 69; refine (HCN.out _ (KB.out.trans HK1.out)).mono ?_; rintro e w2 ⟨rfl, k2⟩; have HK2 := Lib.hid (HK1.out.trans k2); obtain ⟨c0, c1, c2, c3, c4, c5⟩ := (HBX.out.same HK2.out (fun x => x)).c; clear k2)
              | (go_at_call 69; rw [← HWB.out]; refine (HCP.out _ KB.out).mono ?_; rintro e w1 ⟨rfl, k1⟩; have HK1 := Lib.hid k1; obtain ⟨c0, c1, c2, c3, c4, c5⟩ := (HBX.out.same HK1.out (fun x => x)).c; clear k1)
              | fail)
            go_ret
            exact ⟨by rw [HE3.out]; rfl, KB.out.trans HK3.out⟩
        · have q2 : ((E2 : Int) != 0) = true := bneT (by omega)
          have HE2 := Lib.hid (HE1.out.trans (if_pos z2))
          clear z1 z2
          go_enter Tryd.func40, Tryd.ntmps40
          go_wp2_with (first
            | (have _tok := HK1.out; go_at_call 69; refine (HCN.out _ (KB.out.trans HK1.out)).mono ?_; rintro e w2 ⟨rfl, k2⟩; have HK2 := Lib.hid (HK1.out.trans k2); clear k2)
            | (go_at_call 69; rw [← HWB.out]; refine (HCP.out _ KB.out).mono ?_; rintro e w1 ⟨rfl, k1⟩; have HK1 := Lib.hid k1; obtain ⟨c0, c1, c2, c3, c4, c5⟩ := (HBX.out.same HK1.out (fun x => x)).c; clear k1)
            | fail)
          go_ret
          exact ⟨by rw [HE2.out]; rfl, KB.out.trans HK2.out⟩
      · have q1 : ((E1 : Int) != 0) = true := bneT (by omega)
        have HE1 := Lib.hid (HE.out.trans (if_pos z1))
        clear z1
        go_enter Tryd.func40, Tryd.ntmps40
        go_wp2_with (first
          | (go_at_call 69; rw [← HWB.out]; refine (HCP.out _ KB.out).mono ?_; rintro e w1 ⟨rfl, k1⟩; have HK1 := Lib.hid k1; clear k1)
          | fail)
        go_ret
        exact ⟨by rw [HE1.out]; rfl, KB.out.trans HK1.out⟩

/-- Whether two histograms are the same. -/
def sameH (g h : HistV) : Prop := g.sc = h.sc ∧ g.ze = h.ze ∧ (g.po = h.po ∧ g.pl = h.pl) ∧ (g.no = h.no ∧ g.nl = h.nl)
instance (g h : HistV) : Decidable (sameH g h) := by unfold sameH; infer_instance
theorem sameH_iff (g h : HistV) : sameH g h ↔ g = h := by
  obtain ⟨a1, a2, a3, a4, a5, a6⟩ := g
  obtain ⟨b1, b2, b3, b4, b5, b6⟩ := h
  unfold sameH
  constructor
  · rintro ⟨h1, h2, ⟨h3, h4⟩, h5, h6⟩
    simp only at h1 h2 h3 h4 h5 h6
    subst h1 h2 h3 h4 h5 h6
    rfl
  · intro h
    injection h with h1 h2 h3 h4 h5 h6
    exact ⟨h1, h2, ⟨h3, h4⟩, h5, h6⟩

set_option maxHeartbeats 4000000 in
set_option maxRecDepth 100000 in
theorem refSame_any (g h : HistV) (gp gn pv nv : Value) (w : World) (hg : HistAt w g gp gn) (ha : HistAt w h pv nv) (hp : g.pl.length ≤ 1000000) (hn : g.nl.length ≤ 1000000) :
    Calls Tryd.prog 44 #[histV g gp gn, histV h pv nv] w fun e w' => e = .returned (.bool (decide (sameH g h))) ∧ Kept (fun _ => False) w w' := by
  obtain ⟨⟨ao, c, rfl⟩, bo, d, rfl⟩ := hg.sl
  obtain ⟨⟨ao', c', rfl⟩, bo', d', rfl⟩ := ha.sl
  obtain ⟨w0, hw0⟩ : ∃ w0, w0 = (w.alloc (.cells #[.int .i64 g.sc, .int .u64 (g.ze : Int), .int .i64 g.po, .slice ao g.pl.length c, .int .i64 g.no, .slice bo g.nl.length d] 62)).alloc (.cells #[.int .i64 h.sc, .int .u64 (h.ze : Int), .int .i64 h.po, .slice ao' h.pl.length c', .int .i64 h.no, .slice bo' h.nl.length d'] 62) := ⟨_, rfl⟩
  have k0 : Kept (fun _ => False) w w0 := by rw [hw0]; exact ((Kept.refl _ w).alloc _).alloc _
  have bx : HistBox w0 w.heap.size g (.slice ao g.pl.length c) (.slice bo g.nl.length d) := by
    rw [hw0]; exact ((Kept.refl (fun _ => False) _).alloc _).same (heap_alloc_new w _) (fun x => x)
  have rx : HistBox w0 (w.heap.size + 1) h (.slice ao' h.pl.length c') (.slice bo' h.nl.length d') := by
    rw [hw0]
    have := heap_alloc_new (w.alloc (.cells #[.int .i64 g.sc, .int .u64 (g.ze : Int), .int .i64 g.po, .slice ao g.pl.length c, .int .i64 g.no, .slice bo g.nl.length d] 62)) (.cells #[.int .i64 h.sc, .int .u64 (h.ze : Int), .int .i64 h.po, .slice ao' h.pl.length c', .int .i64 h.no, .slice bo' h.nl.length d'] 62)
    have e : (w.alloc (.cells #[.int .i64 g.sc, .int .u64 (g.ze : Int), .int .i64 g.po, .slice ao g.pl.length c, .int .i64 g.no, .slice bo g.nl.length d] 62)).heap.size = w.heap.size + 1 := by simp
    rw [e] at this
    exact this
  have HS1 := Lib.hid fun w' (k : Kept (fun _ => False) w0 w') => refSameSide_any g.po h.po g.pl h.pl _ _ w' (hg.on (k0.trans k)).p (ha.on (k0.trans k)).p hp
  have HS2 := Lib.hid fun w' (k : Kept (fun _ => False) w0 w') => refSameSide_any g.no h.no g.nl h.nl _ _ w' (hg.on (k0.trans k)).n (ha.on (k0.trans k)).n hn
  have HK0 := Lib.hid k0
  have HBX := Lib.hid bx
  have HRX := Lib.hid rx
  have HW0 := Lib.hid hw0
  obtain ⟨P, hP⟩ : ∃ b : Bool, b = decide (g.po = h.po ∧ g.pl = h.pl) := ⟨_, rfl⟩
  obtain ⟨Q, hQ⟩ : ∃ b : Bool, b = decide (g.no = h.no ∧ g.nl = h.nl) := ⟨_, rfl⟩
  have hres : decide (sameH g h) = (decide (g.sc = h.sc) && (decide (g.ze = h.ze) && (P && Q))) := by
    rw [hP, hQ]; apply Bool.eq_iff_iff.mpr; simp only [Bool.and_eq_true, decide_eq_true_eq]; unfold sameH; exact Iff.rfl
  rw [hres]
  rw [← hP] at HS1
  rw [← hQ] at HS2
  clear hg ha k0 bx rx hw0 hP hQ hres hp hn
  obtain ⟨sc, ze, po, pl, no, nl⟩ := g
  obtain ⟨sc', ze', po', pl', no', nl'⟩ := h
  unfold histV
  simp only at HS1 HS2 HBX HRX HW0 ⊢
  by_cases h1 : sc = sc'
  · have q1 : (sc == sc') = true := beqT h1
    rw [decide_eq_true h1]
    by_cases h2 : ze = ze'
    · have q2 : ((ze : Int) == (ze' : Int)) = true := beqT (by omega)
      rw [decide_eq_true h2]
      clear h1 h2
      cases P with
      | true =>
        go_enter Tryd.func44, Tryd.ntmps44
        go_wp2_with (first
          | (have _tok := HK1.out; go_at_call 76; refine (HS2.out _ HK1.out).mono ?_; rintro e w2 ⟨rfl, k2⟩; have HK2 := Lib.hid (HK1.out.trans k2); clear k2)
          | (go_at_call 76; rw [← HW0.out]; refine (HS1.out _ (Kept.refl _ _)).mono ?_; rintro e w1 ⟨rfl, k1⟩; have HK1 := Lib.hid k1; obtain ⟨c0, c1, c2, c3, c4, c5⟩ := (HBX.out.same k1 (fun x => x)).c; obtain ⟨d0, d1, d2, d3, d4, d5⟩ := (HRX.out.same k1 (fun x => x)).c; clear k1)
          | fail)
        go_ret
        exact ⟨by simp, HK0.out.trans HK2.out⟩
      | false =>
        go_enter Tryd.func44, Tryd.ntmps44
        go_wp2_with (first
          | (go_at_call 76; rw [← HW0.out]; refine (HS1.out _ (Kept.refl _ _)).mono ?_; rintro e w1 ⟨rfl, k1⟩; have HK1 := Lib.hid k1; clear k1)
          | fail)
        go_ret
        exact ⟨by simp, HK0.out.trans HK1.out⟩
    · have q2 : ((ze : Int) == (ze' : Int)) = false := beqF (by omega)
      rw [decide_eq_false h2]
      clear h1 h2
      go_enter Tryd.func44, Tryd.ntmps44
      go_wp2
      rw [← HW0.out]
      go_ret
      exact ⟨by simp, HK0.out⟩
  · have q1 : (sc == sc') = false := beqF h1
    rw [decide_eq_false h1]
    clear h1
    go_enter Tryd.func44, Tryd.ntmps44
    go_wp2
    rw [← HW0.out]
    go_ret
    exact ⟨by simp, HK0.out⟩
end Go.Proofs.YtjpnfadmblmjbaaDoor
/- package hist: Clone. -/
namespace Go.Proofs.YtjpnfadmblmjbaaDoor
open Go.RowKit
attribute [local go_sem ↓] Go.wp_at_zero Go.wp_at_succ

theorem six_set3 {w : World} {g : Nat} {a b c d e f x : Value} {T : TypeId} (h : w.heap[g]? = some (.cells #[a, b, c, d, e, f] T (0, 0))) : (w.setCell ⟨g, 3, none⟩ x).heap[g]? = some (.cells #[a, b, c, x, e, f] T (0, 0)) := by
  have h1 := heap_setCell_same _ _ 3 _ _ x h
  simpa using h1
theorem six_set5 {w : World} {g : Nat} {a b c d e f x : Value} {T : TypeId} (h : w.heap[g]? = some (.cells #[a, b, c, d, e, f] T (0, 0))) : (w.setCell ⟨g, 5, none⟩ x).heap[g]? = some (.cells #[a, b, c, d, e, x] T (0, 0)) := by
  have h1 := heap_setCell_same _ _ 5 _ _ x h
  simpa using h1
theorem cell_other9 {w : World} {g k : Nat} {o : Nat} {x : Value} (h : k ≠ g) : (w.setCell ⟨g, o, none⟩ x).heap[k]? = w.heap[k]? := Below.heap_setCell _ _ _ _ (fun e => h e)
theorem mine_box {W w : World} {v : Value} {xs : List Value} {k : Nat} {cs : Array Value} (h : Mine W w 28 v xs) (hb : w.heap[k]? = some (.cells cs 62 (0, 0))) : v.ownBlock ≠ some k := own_box h.own hb (by decide)

set_option maxHeartbeats 2000000 in
theorem hclone_any (h : HistV) (pv nv : Value) (w : World) (ha : HistAt w h pv nv) (hp : h.pl.length ≤ 1000000) (hn : h.nl.length ≤ 1000000) :
    Calls Tryd.prog 63 #[histV h pv nv] w fun e w' => ∃ p n, e = .returned (histV h p n) ∧ Mine w w' 28 p (uvals h.pl) ∧ Mine w w' 28 n (uvals h.nl) := by
  obtain ⟨⟨ao, c, rfl⟩, bo, d, rfl⟩ := ha.sl
  obtain ⟨sc, ze, po, pl, no, nl⟩ := h
  unfold histV
  simp only at hp hn ha ⊢
  obtain ⟨w0, hw0⟩ : ∃ w0, w0 = (w.alloc (.cells #[.int .i64 sc, .int .u64 (ze : Int), .int .i64 po, .slice ao pl.length c, .int .i64 no, .slice bo nl.length d] 62)).alloc (.cells #[.int .i64 0, .int .u64 0, .int .i64 0, .slice none 0 0, .int .i64 0, .slice none 0 0] 62) := ⟨_, rfl⟩
  have K0 : Kept (fun _ => False) w w0 := by rw [hw0]; exact ((Kept.refl _ _).alloc _).alloc _
  have h1 : w0.heap[w.heap.size]? = some (.cells #[.int .i64 sc, .int .u64 (ze : Int), .int .i64 po, .slice ao pl.length c, .int .i64 no, .slice bo nl.length d] 62 (0, 0)) := by
    rw [hw0]; exact ((Kept.refl (fun _ => False) _).alloc _).same (heap_alloc_new w _) (fun x => x)
  have h2 : w0.heap[w.heap.size + 1]? = some (.cells #[.int .i64 0, .int .u64 0, .int .i64 0, .slice none 0 0, .int .i64 0, .slice none 0 0] 62 (0, 0)) := by
    rw [hw0]
    have := heap_alloc_new (w.alloc (.cells #[.int .i64 sc, .int .u64 (ze : Int), .int .i64 po, .slice ao pl.length c, .int .i64 no, .slice bo nl.length d] 62)) (.cells #[.int .i64 0, .int .u64 0, .int .i64 0, .slice none 0 0, .int .i64 0, .slice none 0 0] 62)
    simpa using this
  have HA := Lib.hid ha
  have HK0 := Lib.hid K0
  have H1 := Lib.hid h1
  have H2 := Lib.hid h2
  have HW0 := Lib.hid hw0
  have HL := Lib.hid (And.intro hp hn)
  obtain ⟨q, hq⟩ : ∃ q, q = w.heap.size := ⟨_, rfl⟩
  have HQ := Lib.hid hq
  rw [← hq] at H1 H2
  clear ha K0 h1 h2 hw0 hp hn hq
  go_enter Tryd.func63, Tryd.ntmps63
  go_upto_region 1 with fail
  rw [← HW0.out, ← HQ.out]
  obtain ⟨x0, x1, x2, x3, x4, x5⟩ := HistBox.c (h := ⟨sc, ze, po, pl, no, nl⟩) (show HistBox w0 q ⟨sc, ze, po, pl, no, nl⟩ _ _ from H1.out)
  go_wp2_with fail
  refine (sclone_any (.slice ao pl.length c) (uvals pl) w0 (HA.out.on HK0.out).p (uvals_one _) (by rw [uvals_length]; have := HL.out.1; omega)).mono ?_
  rintro e w1 ⟨v1, rfl, hm1⟩
  obtain ⟨a1, c1, rfl⟩ := hm1.slice
  rw [uvals_length] at hm1 ⊢
  have HM1 := Lib.hid hm1
  have H1a := Lib.hid (hm1.kept.same H1.out (fun x => x))
  have H2a := Lib.hid (hm1.kept.same H2.out (fun x => x))
  have y := HistBox.f (h := ⟨sc, ze, po, pl, no, nl⟩) (show HistBox w1 q ⟨sc, ze, po, pl, no, nl⟩ _ _ from H1a.out)
  obtain ⟨z0, z1, z2, z3, z4, z5⟩ := HistBox.c (h := ⟨sc, ze, po, pl, no, nl⟩) (show HistBox w1 q ⟨sc, ze, po, pl, no, nl⟩ _ _ from H1a.out)
  clear hm1 x0 x1 x2 x3 x4 x5
  go_upto_region 2 with fail
  have hks := (Kept.refl (fun k => k = q) w1).setCell (p := ⟨q, 3, none⟩) (fun _ => rfl) (.slice a1 pl.length c1)
  have H1b := Lib.hid (six_set3 (x := .slice a1 pl.length c1) H1a.out)
  have H2b := Lib.hid ((cell_other9 (w := w1) (g := q) (k := q + 1) (o := 3) (x := .slice a1 pl.length c1) (by omega)).trans H2a.out)
  have HKs := Lib.hid ((HK0.out.trans HM1.out.kept).setCell (p := ⟨q, 3, none⟩) (fun hlt => by simp only at hlt; have := HQ.out; omega) (.slice a1 pl.length c1))
  have HM1b := Lib.hid ((HM1.out.down HK0.out).keptS hks (fun k e x => mine_box HM1.out H1a.out (by rw [e, x])) (fun k e => by have := HQ.out; omega))
  obtain ⟨ws, hws⟩ : ∃ ws, ws = w1.setCell ⟨q, 3, none⟩ (.slice a1 pl.length c1) := ⟨_, rfl⟩
  rw [← hws] at H1b H2b HKs HM1b ⊢
  clear hws hks y z0 z1 z2 z3 z4 z5
  obtain ⟨x0, x1, x2, x3, x4, x5⟩ := HistBox.c (h := ⟨sc, ze, po, pl, no, nl⟩) (show HistBox ws q ⟨sc, ze, po, pl, no, nl⟩ _ _ from H1b.out)
  go_wp2_with fail
  refine (sclone_any (.slice bo nl.length d) (uvals nl) ws (HA.out.on HKs.out).n (uvals_one _) (by rw [uvals_length]; have := HL.out.2; omega)).mono ?_
  rintro e w2 ⟨v2, rfl, hm2⟩
  obtain ⟨a2, c2, rfl⟩ := hm2.slice
  rw [uvals_length] at hm2 ⊢
  have HM2 := Lib.hid hm2
  have HM1c := Lib.hid (HM1b.out.on hm2.kept)
  have H1c := Lib.hid (hm2.kept.same H1b.out (fun x => x))
  have H2c := Lib.hid (hm2.kept.same H2b.out (fun x => x))
  have y := HistBox.f (h := ⟨sc, ze, po, pl, no, nl⟩) (show HistBox w2 q ⟨sc, ze, po, pl, no, nl⟩ _ _ from H1c.out)
  obtain ⟨z0, z1, z2, z3, z4, z5⟩ := HistBox.c (h := ⟨sc, ze, po, pl, no, nl⟩) (show HistBox w2 q ⟨sc, ze, po, pl, no, nl⟩ _ _ from H1c.out)
  clear hm2 x0 x1 x2 x3 x4 x5
  go_upto_region 3 with fail
  have hks := (Kept.refl (fun k => k = q) w2).setCell (p := ⟨q, 5, none⟩) (fun _ => rfl) (.slice a2 nl.length c2)
  have H1d := Lib.hid (six_set5 (x := .slice a2 nl.length c2) H1c.out)
  have H2d := Lib.hid ((cell_other9 (w := w2) (g := q) (k := q + 1) (o := 5) (x := .slice a2 nl.length c2) (by omega)).trans H2c.out)
  have HM1d := Lib.hid (HM1c.out.keptS hks (fun k e x => mine_box HM1c.out H1c.out (by rw [e, x])) (fun k e => by have := HQ.out; omega))
  have HM2d := Lib.hid ((HM2.out.down HKs.out).keptS hks (fun k e x => mine_box HM2.out H1c.out (by rw [e, x])) (fun k e => by have := HQ.out; omega))
  obtain ⟨wt, hwt⟩ : ∃ ws, ws = w2.setCell ⟨q, 5, none⟩ (.slice a2 nl.length c2) := ⟨_, rfl⟩
  rw [← hwt] at H1d H2d HM1d HM2d ⊢
  clear hwt hks y z0 z1 z2 z3 z4 z5
  obtain ⟨x0, x1, x2, x3, x4, x5⟩ := HistBox.c (h := ⟨sc, ze, po, pl, no, nl⟩) (show HistBox wt q ⟨sc, ze, po, pl, no, nl⟩ _ _ from H1d.out)
  have hz := show HistBox wt (q + 1) zeroH (.slice none 0 0) (.slice none 0 0) from H2d.out
  obtain ⟨z0, z1, z2, z3, z4, z5⟩ := hz.c
  have y := hz.f
  have hset := Lib.hid (hz.set ⟨sc, ze, po, pl, no, nl⟩ (.slice a1 pl.length c1) (.slice a2 nl.length c2))
  have hk6 := Lib.hid (set6_kept wt (q + 1) (.int .i64 sc) (.int .u64 (ze : Int)) (.int .i64 po) (.slice a1 pl.length c1) (.int .i64 no) (.slice a2 nl.length c2))
  clear hz
  go_wp2
  refine bodyPost_ret (v := .agg #[.int .i64 sc, .int .u64 (ze : Int), .int .i64 po, .slice a1 pl.length c1, .int .i64 no, .slice a2 nl.length c2]) ?_ rfl ?_
  · exact results_cell_row Tryd.results63 _ _ (q + 1) 62 _ (0, 0) _ (by rw [HQ.out]; rfl) hset.out Tryd.underlying62 rfl hist_info
  · exact ⟨_, _, rfl, HM1d.out.keptS hk6.out (fun k e x => mine_box HM1d.out H2d.out (by rw [e, x])) (fun k e => by have := HQ.out; omega), HM2d.out.keptS hk6.out (fun k e x => mine_box HM2d.out H2d.out (by rw [e, x])) (fun k e => by have := HQ.out; omega)⟩
end Go.Proofs.YtjpnfadmblmjbaaDoor
/- package histbits: countsOf, shapeOf, NewRow, Len, goOn. -/
namespace Go.Proofs.YtjpnfadmblmjbaaDoor
open Go.RowKit
attribute [local go_sem ↓] Go.wp_at_zero Go.wp_at_succ

/-- A histogram's counts. -/
def cntL (h : HistV) : List Nat := h.ze :: (h.pl ++ h.nl)
theorem cntL_length (h : HistV) : (cntL h).length = 1 + h.pl.length + h.nl.length := by unfold cntL; simp; omega
/-- Its shape as a value. -/
def shapeV (h : HistV) : Value := .agg #[.int .i64 h.sc, .int .i64 h.po, .int .i64 (h.pl.length : Int), .int .i64 h.no, .int .i64 (h.nl.length : Int)]

/-- A new block whose cells are a row's. -/
theorem own_freshZ (w : World) (E : TypeId) (s : Nat) (xs : List Value) (n : Nat) (hl : xs.length = n * s) (hm : n ≤ maxLen) : (w.alloc (.cells xs.toArray E)).ownsRow w.heap.size E s (.slice (some ⟨w.heap.size, 0, none⟩) n n) n xs :=
  ⟨hl, .inr ⟨w.heap.size, n, _, rfl, Nat.le_refl _, heap_alloc_new w _, Nat.le_refl _, hm, by simp [hl], by rw [← hl]; simp⟩⟩
set_option maxHeartbeats 2000000 in
theorem countsOf_any (h : HistV) (pv nv : Value) (w : World) (ha : HistAt w h pv nv) (hp : h.pl.length ≤ 1000000) (hn : h.nl.length ≤ 1000000) :
    Calls Tryd.prog 65 #[histV h pv nv] w fun e w' => ∃ a c, e = .returned (.slice a (cntL h).length c) ∧ Mine w w' 28 (.slice a (cntL h).length c) (uvals (cntL h)) := by
  obtain ⟨⟨ao, c, rfl⟩, bo, d, rfl⟩ := ha.sl
  obtain ⟨sc, ze, po, pl, no, nl⟩ := h
  unfold histV
  simp only at hp hn ha ⊢
  have HA := Lib.hid ha
  have HL := Lib.hid (And.intro hp hn)
  have HCN := Lib.hid (show uvals (cntL ⟨sc, ze, po, pl, no, nl⟩) = [.int .u64 (ze : Int)] ++ uvals pl ++ uvals nl by unfold cntL uvals; simp)
  obtain ⟨w0, hw0⟩ : ∃ w0, w0 = w.alloc (.cells #[.int .i64 sc, .int .u64 (ze : Int), .int .i64 po, .slice ao pl.length c, .int .i64 no, .slice bo nl.length d] 62) := ⟨_, rfl⟩
  have HB := Lib.hid (show HistBox w0 w.heap.size ⟨sc, ze, po, pl, no, nl⟩ (.slice ao pl.length c) (.slice bo nl.length d) by rw [hw0]; exact hist_boxed w ⟨sc, ze, po, pl, no, nl⟩ _ _)
  have HK := Lib.hid (show Kept (fun _ => False) w w0 by rw [hw0]; exact (Kept.refl _ _).alloc _)
  have HW0 := Lib.hid hw0
  obtain ⟨q, hq⟩ : ∃ q, q = w.heap.size := ⟨_, rfl⟩
  have HQ := Lib.hid hq
  rw [← hq] at HB
  have HM0 := Lib.hid (show Mine w0 (w0.alloc (.cells #[.int .u64 (ze : Int)] 28)) 28 (.slice (some ⟨w0.heap.size, 0, none⟩) 1 1) [.int .u64 (ze : Int)] from ⟨own_freshZ w0 _ 1 [.int .u64 (ze : Int)] 1 rfl (by simp [maxLen]), (Kept.refl _ _).alloc _⟩)
  have HS1 := Lib.hid ((HA.out.p.kept (HK.out.alloc (.cells #[.int .u64 (ze : Int)] 28)) (fun _ _ x => x)).src (P := Tryd.prog) Tryd.underlying22 (uvals_one _))
  rw [uvals_length] at HS1
  clear ha hp hn hw0 hq
  obtain ⟨x0, x1, x2, x3, x4, x5⟩ := HB.out.c
  simp only at x0 x1 x2 x3 x4 x5
  have xa := fun o => ((Kept.refl (fun _ => False) w0).alloc o).cell x3 (fun x => x)
  go_enter Tryd.func65, Tryd.ntmps65
  go_upto_region 1 with fail
  rw [← HW0.out, ← HQ.out]
  go_upto_region 2 with (at_builtin; refine wpList_mineU rfl (.tmp 6) (.tmp 9) rfl w0 _ _ rfl HM0.out _ (uvals pl) rfl (by rw [uvals_length]; exact HS1.out) (by rw [uvals_length]; have := HL.out.1; simp; omega) ?_; intro v6 w6 hm6 hk6 _; obtain ⟨a6, c6, e6⟩ := hm6.slice; obtain ⟨n6, hn6⟩ : ∃ n, v6 = Value.slice a6 n c6 := ⟨_, e6⟩; subst hn6; have HM6 := Lib.hid hm6; have HB6 := Lib.hid (hm6.kept.same HB.out (fun x => x)); clear hm6 hk6 e6 x0 x1 x2 x3 x4 x5 xa)
  obtain ⟨x0, x1, x2, x3, x4, x5⟩ := HistBox.c (h := ⟨sc, ze, po, pl, no, nl⟩) HB6.out
  simp only at x0 x1 x2 x3 x4 x5
  have HS2 := Lib.hid ((HA.out.n.kept (HK.out.trans HM6.out.kept) (fun _ _ x => x)).src (P := Tryd.prog) Tryd.underlying22 (uvals_one _))
  rw [uvals_length] at HS2
  go_wp2_with (at_builtin; refine wpList_mineU rfl (.tmp 11) (.tmp 14) rfl w0 _ _ rfl HM6.out _ (uvals nl) rfl (by rw [uvals_length]; exact HS2.out) (by rw [List.length_append, uvals_length, uvals_length]; have := HL.out; simp; omega) ?_; intro v7 w7 hm7 hk7 _; have HM7 := Lib.hid hm7; clear hm7 hk7)
  go_ret
  have hm := HM7.out.down HK.out
  rw [← HCN.out] at hm
  obtain ⟨a7, c7, e7⟩ := hm.slice
  rw [uvals_length] at e7
  rw [e7] at hm ⊢
  exact ⟨a7, c7, rfl, hm⟩

set_option maxHeartbeats 2000000 in
theorem shapeOf_any (h : HistV) (pv nv : Value) (w : World) (ha : HistAt w h pv nv) :
    Calls Tryd.prog 66 #[histV h pv nv] w fun e w' => e = .returned (shapeV h) ∧ Kept (fun _ => False) w w' := by
  obtain ⟨⟨ao, c, rfl⟩, bo, d, rfl⟩ := ha.sl
  obtain ⟨sc, ze, po, pl, no, nl⟩ := h
  unfold histV shapeV
  simp only
  clear ha
  obtain ⟨pn, hpn⟩ : ∃ n, n = pl.length := ⟨_, rfl⟩
  obtain ⟨nn, hnn⟩ : ∃ n, n = nl.length := ⟨_, rfl⟩
  rw [← hpn, ← hnn]
  clear hpn hnn
  obtain ⟨w0, hw0⟩ : ∃ w0, w0 = (w.alloc (.cells #[.int .i64 sc, .int .u64 (ze : Int), .int .i64 po, .slice ao pn c, .int .i64 no, .slice bo nn d] 62)).alloc (.cells #[.int .i64 0, .int .i64 0, .int .i64 0, .int .i64 0, .int .i64 0] 101) := ⟨_, rfl⟩
  have HK := Lib.hid (show Kept (fun _ => False) w w0 by rw [hw0]; exact ((Kept.refl _ _).alloc _).alloc _)
  have h1 : w0.heap[w.heap.size]? = some (.cells #[.int .i64 sc, .int .u64 (ze : Int), .int .i64 po, .slice ao pn c, .int .i64 no, .slice bo nn d] 62 (0, 0)) := by
    rw [hw0]; exact ((Kept.refl (fun _ => False) _).alloc _).same (heap_alloc_new w _) (fun x => x)
  have h2 : w0.heap[w.heap.size + 1]? = some (.cells #[.int .i64 0, .int .i64 0, .int .i64 0, .int .i64 0, .int .i64 0] 101 (0, 0)) := by
    rw [hw0]
    have := heap_alloc_new (w.alloc (.cells #[.int .i64 sc, .int .u64 (ze : Int), .int .i64 po, .slice ao pn c, .int .i64 no, .slice bo nn d] 62)) (.cells #[.int .i64 0, .int .i64 0, .int .i64 0, .int .i64 0, .int .i64 0] 101)
    simpa using this
  have HW0 := Lib.hid hw0
  have H2 := Lib.hid h2
  obtain ⟨q, hq⟩ : ∃ q, q = w.heap.size := ⟨_, rfl⟩
  have HQ := Lib.hid hq
  rw [← hq] at h1 h2 H2
  have hc := fun j => cell_of_row _ q j _ _ _ h1
  have x0 : w0.cell? ⟨q, 0, none⟩ = some (.int .i64 sc) := (hc 0).trans rfl
  have x2 : w0.cell? ⟨q, 2, none⟩ = some (.int .i64 po) := (hc 2).trans rfl
  have x3 : w0.cell? ⟨q, 3, none⟩ = some (.slice ao pn c) := (hc 3).trans rfl
  have x4 : w0.cell? ⟨q, 4, none⟩ = some (.int .i64 no) := (hc 4).trans rfl
  have x5 : w0.cell? ⟨q, 5, none⟩ = some (.slice bo nn d) := (hc 5).trans rfl
  have hd := fun j => cell_of_row _ (q + 1) j _ _ _ h2
  have y0 : w0.cell? ⟨q + 1, 0, none⟩ = some (.int .i64 0) := (hd 0).trans rfl
  have y1 : w0.cell? ⟨q + 1, 1, none⟩ = some (.int .i64 0) := (hd 1).trans rfl
  have y2 : w0.cell? ⟨q + 1, 2, none⟩ = some (.int .i64 0) := (hd 2).trans rfl
  have y3 : w0.cell? ⟨q + 1, 3, none⟩ = some (.int .i64 0) := (hd 3).trans rfl
  have y4 : w0.cell? ⟨q + 1, 4, none⟩ = some (.int .i64 0) := (hd 4).trans rfl
  have z0 : w0.frozen? ⟨q + 1, 0, none⟩ = false := by simp [World.frozen?, h2]
  have z1 : w0.frozen? ⟨q + 1, 1, none⟩ = false := by simp [World.frozen?, h2]
  have z2 : w0.frozen? ⟨q + 1, 2, none⟩ = false := by simp [World.frozen?, h2]
  have z3 : w0.frozen? ⟨q + 1, 3, none⟩ = false := by simp [World.frozen?, h2]
  have z4 : w0.frozen? ⟨q + 1, 4, none⟩ = false := by simp [World.frozen?, h2]
  clear hw0 hq h1 h2 hc hd
  go_enter Tryd.func66, Tryd.ntmps66
  go_upto_region 1 with fail
  rw [← HW0.out, ← HQ.out]
  go_wp2
  have e0 := heap_setCell_same _ _ 0 _ _ (.int .i64 sc) H2.out
  have e1 := heap_setCell_same _ _ 1 _ _ (.int .i64 po) e0
  have e2 := heap_setCell_same _ _ 2 _ _ (.int .i64 (pn : Int)) e1
  have e3 := heap_setCell_same _ _ 3 _ _ (.int .i64 no) e2
  have e4 := heap_setCell_same _ _ 4 _ _ (.int .i64 (nn : Int)) e3
  refine bodyPost_ret (v := .agg #[.int .i64 sc, .int .i64 po, .int .i64 (pn : Int), .int .i64 no, .int .i64 (nn : Int)]) ?_ rfl ?_
  · exact results_cell_row Tryd.results66 _ _ (q + 1) 101 _ (0, 0) _ (by rw [HQ.out]; rfl) (by simpa using e4) Tryd.underlying101 rfl (by kernel_rfl)
  · exact ⟨rfl, ((((HK.out.setCell (p := ⟨q + 1, 0, none⟩) (fun hlt => by simp only at hlt; have := HQ.out; omega) _).setCell (p := ⟨q + 1, 1, none⟩) (fun hlt => by simp only at hlt; have := HQ.out; omega) _).setCell (p := ⟨q + 1, 2, none⟩) (fun hlt => by simp only at hlt; have := HQ.out; omega) _).setCell (p := ⟨q + 1, 3, none⟩) (fun hlt => by simp only at hlt; have := HQ.out; omega) _).setCell (p := ⟨q + 1, 4, none⟩) (fun hlt => by simp only at hlt; have := HQ.out; omega) _⟩
end Go.Proofs.YtjpnfadmblmjbaaDoor
