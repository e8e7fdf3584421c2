/- Fields in memory: those that came in, and rows that are made. bytes.Clone. -/
import Derived.Test.YtdgpeganmgcjiaaY3
import Derived.Test.YtdgpeganmgcjiaaY5
import Derived.Test.YtdgpeganmgcjiaaR2
import Derived.Deep.WholeRow
namespace Go.Proofs.Ytdgpeganmgcjiaa
open Go.RowKit Go.ChangeShapes Go.WideShapes
attribute [local go_sem ↓] Go.wp_at_zero Go.wp_at_succ

/-- A field, and where its bytes lie. -/
structure PR where
  r : FR
  a : Option Addr
  c : Nat
theorem By.keptS {S : Nat → Prop} {w w' : World} {ao : Option Addr} {c : Nat} {l : List Nat} (h : By w ao c l) (k : Kept S w w') (hn : l ≠ [] → ∀ a, ao = some a → ¬ S a.block) : By w' ao c l := by
  refine ⟨?_, h.cap, h.lt⟩
  by_cases h0 : l = []
  · subst h0
    obtain ⟨ao', c', e, hz, hc⟩ := h.at_.val
    exact ⟨ao', c', e, hz, fun a ha j u hu => by simp [bys] at hu⟩
  · refine h.at_.kept k fun k' hk' => ?_
    cases ao with
    | none => cases hk'
    | some a => simp [Value.ownBlock] at hk'; subst hk'; exact hn h0 a rfl
theorem By.blt {w : World} {a : Addr} {c : Nat} {l : List Nat} (h : By w (some a) c l) (h0 : l ≠ []) : a.block < w.heap.size := by
  have hp : 0 < l.length := by cases l with | nil => exact absurd rfl h0 | cons => simp
  obtain ⟨g, off, e, hc⟩ := h.at_.elem (bys_get (j := 0) hp)
  injection e with e
  subst e
  exact World.block_lt_of_cell? _ _ hc
theorem By.ofMine {W w : World} {a : Option Addr} {c : Nat} {l : List Nat} (h : Mine W w 5 (.slice a l.length c) (bys l)) (hb : ∀ x ∈ l, x < 256) : By w a c l := by
  refine ⟨h.at_, ?_, hb⟩
  have := h.own
  have h2 := own_cap this
  rwa [bys_length] at h2

/-- A field lies at a place. -/
structure FldAt (W : World) (g o : Nat) (p : PR) : Prop where
  c0 : W.cell? ⟨g, o, none⟩ = some (.int .i64 p.r.num)
  c1 : W.cell? ⟨g, o + 1, none⟩ = some (.int .i64 p.r.ty)
  c2 : W.cell? ⟨g, o + 2, none⟩ = some (.int .u64 (p.r.v : Int))
  c3 : W.cell? ⟨g, o + 3, none⟩ = some (.slice p.a p.r.b.length p.c)
/-- A field's parts are right. -/
structure FldOk (W : World) (p : PR) : Prop where
  num : I64 p.r.num
  ty : I64 p.r.ty
  v : p.r.v < 18446744073709551616
  by_ : By W p.a p.c p.r.b
theorem FldOk.keptS {S : Nat → Prop} {W w : World} {p : PR} (h : FldOk W p) (k : Kept S W w) (hn : p.r.b ≠ [] → ∀ a, p.a = some a → ¬ S a.block) : FldOk w p := ⟨h.num, h.ty, h.v, h.by_.keptS k hn⟩
theorem FldOk.kept {W w : World} {p : PR} (h : FldOk W p) (k : Kept (fun _ => False) W w) : FldOk w p := h.keptS k (fun _ _ _ x => x)
structure FldsAt (W : World) (ao : Option Addr) (L : List PR) : Prop where
  at_ : 0 < L.length → ∃ g o, ao = some ⟨g, o, none⟩ ∧ ∀ i p, L[i]? = some p → FldAt W g (o + i * 4) p
  ok : ∀ p ∈ L, FldOk W p
theorem FldAt.keptS {S : Nat → Prop} {W w : World} {g o : Nat} {p : PR} (h : FldAt W g o p) (k : Kept S W w) (hn : ¬ S g) : FldAt w g o p := ⟨k.cell h.c0 hn, k.cell h.c1 hn, k.cell h.c2 hn, k.cell h.c3 hn⟩
theorem FldsAt.keptS {S : Nat → Prop} {W w : World} {ao : Option Addr} {L : List PR} (h : FldsAt W ao L) (k : Kept S W w) (hn : ∀ a, ao = some a → 0 < L.length → ¬ S a.block) (hb : ∀ p ∈ L, p.r.b ≠ [] → ∀ a, p.a = some a → ¬ S a.block) : FldsAt w ao L := by
  refine ⟨fun h0 => ?_, fun p hp => (h.ok p hp).keptS k (hb p hp)⟩
  obtain ⟨g, o, e, hr⟩ := h.at_ h0
  exact ⟨g, o, e, fun i p hi => (hr i p hi).keptS k (hn _ e h0)⟩
theorem FldsAt.kept {W w : World} {ao : Option Addr} {L : List PR} (h : FldsAt W ao L) (k : Kept (fun _ => False) W w) : FldsAt w ao L := h.keptS k (fun _ _ _ x => x) (fun _ _ _ _ _ x => x)
/-- A field's block: where its bytes lie, if it has any. -/
theorem FldsAt.blt {W : World} {ao : Option Addr} {L : List PR} (h : FldsAt W ao L) : (∀ a, ao = some a → 0 < L.length → a.block < W.heap.size) ∧ ∀ p ∈ L, p.r.b ≠ [] → ∀ a, p.a = some a → a.block < W.heap.size := by
  refine ⟨fun a ha h0 => ?_, fun p hp h0 a ha => ?_⟩
  · obtain ⟨g, o, e, hr⟩ := h.at_ h0
    rw [ha] at e; injection e with e; subst e
    have := (hr 0 L[0] (List.getElem?_eq_getElem h0)).c0
    exact World.block_lt_of_cell? _ _ this
  · have := (h.ok p hp).by_
    rw [ha] at this
    exact this.blt h0

def cellsP (p : PR) : List Value := [.int .i64 p.r.num, .int .i64 p.r.ty, .int .u64 (p.r.v : Int), .slice p.a p.r.b.length p.c]
def flatP (L : List PR) : List Value := L.flatMap cellsP
theorem flatP_length (L : List PR) : (flatP L).length = L.length * 4 := by
  induction L with
  | nil => rfl
  | cons p L ih => unfold flatP at ih ⊢; rw [List.flatMap_cons, List.length_append, ih]; simp [cellsP]; omega
theorem flatP_append (a b : List PR) : flatP (a ++ b) = flatP a ++ flatP b := by simp [flatP]
theorem flatP_get {L : List PR} {i : Nat} {p : PR} (h : L[i]? = some p) {j : Nat} (hj : j < 4) : (flatP L)[i * 4 + j]? = (cellsP p)[j]? := by
  induction L generalizing i with
  | nil => simp at h
  | cons q L ih =>
    unfold flatP at ih ⊢
    rw [List.flatMap_cons]
    have hq : (cellsP q).length = 4 := rfl
    cases i with
    | zero =>
      simp at h; subst h
      rw [List.getElem?_append_left (by omega)]; simp
    | succ i =>
      simp at h
      rw [List.getElem?_append_right (by omega), hq, show (i + 1) * 4 + j - 4 = i * 4 + j by omega]
      exact ih h

/-- A row of fields that was made behind the world W; what their bytes have lies in no block below lo. -/
structure MineF (lo : Nat) (W w : World) (v : Value) (L : List PR) : Prop where
  own : w.ownsRow W.heap.size 40 4 v L.length (flatP L)
  ok : ∀ p ∈ L, FldOk w p
  sep : ∀ p ∈ L, p.r.b ≠ [] → ∀ a, p.a = some a → v.ownBlock ≠ some a.block ∧ lo ≤ a.block
  kept : Kept (fun _ => False) W w
theorem MineF.nil (lo : Nat) (w : World) : MineF lo w w (.slice none 0 0) [] := ⟨World.ownsRow_nil _ _ _ _, by simp, by simp, Kept.refl _ _⟩
theorem MineF.on {lo : Nat} {W w w' : World} {v : Value} {L : List PR} (h : MineF lo W w v L) (hk : Kept (fun _ => False) w w') : MineF lo W w' v L := ⟨hk.owns h.own (fun _ _ x => x), fun p hp => (h.ok p hp).kept hk, h.sep, h.kept.trans hk⟩
theorem MineF.slice {lo : Nat} {W w : World} {v : Value} {L : List PR} (h : MineF lo W w v L) : ∃ a c, v = .slice a L.length c := ownsRow_slice h.own
theorem MineF.at_ {lo : Nat} {W w : World} {a : Option Addr} {n c : Nat} {L : List PR} (h : MineF lo W w (.slice a n c) L) : FldsAt w a L := by
  refine ⟨fun h0 => ?_, h.ok⟩
  rcases h.own.2 with ⟨_, e⟩ | ⟨g, cap, cur, e, _⟩
  · omega
  · injection e with e1 e2 e3
    subst e1
    refine ⟨g, 0, rfl, fun i p hi => ?_⟩
    have hc := h.own.cells (g := g) rfl
    have key : ∀ j u, j < 4 → (cellsP p)[j]? = some u → w.cell? ⟨g, i * 4 + j, none⟩ = some u := by
      intro j u hj hu
      have := hc (i * 4 + j) u (by rw [flatP_get hi hj]; exact hu)
      rwa [addr_add0] at this
    refine ⟨?_, ?_, ?_, ?_⟩
    · rw [Nat.zero_add]; exact key 0 _ (by omega) rfl
    · rw [Nat.zero_add]; exact key 1 _ (by omega) rfl
    · rw [Nat.zero_add]; exact key 2 _ (by omega) rfl
    · rw [Nat.zero_add]; exact key 3 _ (by omega) rfl
theorem Try.infoFld : (Try.prog.info? 40).map (fun i => (i.zero, i.size, i.bytes)) = some (some (.agg #[.int .i64 0, .int .i64 0, .int .u64 0, .slice none 0 0]), 4, 48) := by kernel_rfl
theorem src_oneF (w : World) (p : PR) : Src Try.prog 4 22 (.slice (some ⟨w.heap.size, 0, none⟩) 1 1) 1 (cellsP p) (w.alloc (.cells (cellsP p).toArray 40)) :=
  Src.ofSlice _ Try.underlying22 _ 1 1 (cellsP p) rfl (World.news_of_block (cs := (cellsP p).toArray) (t := 40) (fr := (0, 0)) (heap_alloc_new w _)) (by intro u hu; simp [cellsP] at hu; rcases hu with rfl | rfl | rfl | rfl <;> rfl)
theorem wpList_mineF {ops : Array Oper} {rest : List Oper} {o : Oper} {a : Act} {Q : Exit → Act → World → Prop} {w : World} (hgd : o.guard = none) (s x : Operand)
    (ho : o.op = .call { callee := .builtin .append, args := #[s, x], argTypes := #[22, 22] })
    (lo : Nat) (W : World) (v : Value) (L : List PR) (hv : a.eval s = v) (hm : MineF lo W w v L)
    (y : Value) (p : PR) (hy : a.eval x = y) (hs : Src Try.prog 4 22 y 1 (cellsP p) w) (hp : FldOk w p) (hsep : p.r.b ≠ [] → ∀ a, p.a = some a → v.ownBlock ≠ some a.block ∧ lo ≤ a.block)
    (hl : L.length + 1 ≤ 1000000000000)
    (h : ∀ v' w', MineF lo W w' v' (L ++ [p]) → Kept (fun k => v.ownBlock = some k) w w' → wpList Try.prog ops Q rest (a.put o.dst v') w') : wpList Try.prog ops Q (o :: rest) a w := by
  obtain ⟨i, hi, hz0, hz1, hz2⟩ := info_parts Try.infoFld
  refine wpList_append_src w hgd s x _ _ ho W.heap.size 40 i _ 4 48 Try.underlying22 hi hz0 hz1 hz2 rfl v L.length (flatP L) hv hm.own y 1 (cellsP p) hy hs (by unfold maxLen; omega) (by omega) hm.kept.size ?_
  intro v' w' hown hg _ hat
  have hkS : Kept (fun k => v.ownBlock = some k) w w' := (Kept.refl (fun k => v.ownBlock = some k) w).grown hg (fun k e _ => e)
  refine h v' w' ⟨?_, ?_, ?_, ?_⟩ hkS
  · rw [List.length_append, flatP_append]
    simpa [flatP] using hown
  · intro q hq
    rcases List.mem_append.1 hq with hq | hq
    · exact (hm.ok q hq).keptS hkS (fun h0 a ha => (hm.sep q hq h0 a ha).1)
    · rw [List.mem_singleton] at hq; subst hq
      exact hp.keptS hkS (fun h0 a ha => (hsep h0 a ha).1)
  · intro q hq h0 a ha
    have hqq : v.ownBlock ≠ some a.block ∧ lo ≤ a.block := by
      rcases List.mem_append.1 hq with hq | hq
      · exact hm.sep q hq h0 a ha
      · rw [List.mem_singleton] at hq; subst hq; exact hsep h0 a ha
    refine ⟨?_, hqq.2⟩
    rcases hat with e | e
    · rw [e]; exact hqq.1
    · rw [e]
      have hq1 : FldOk w q := by
        rcases List.mem_append.1 hq with hq | hq
        · exact hm.ok q hq
        · rw [List.mem_singleton] at hq; subst hq; exact hp
      have hby := hq1.by_
      rw [ha] at hby
      have := hby.blt h0
      intro e2; injection e2; omega
  · exact hm.kept.grown hg (fun k e hlt => by have := (ownsRow_lt hm.own e).2; omega)

set_option maxHeartbeats 1000000 in
theorem wclone_any (ao : Option Addr) (c : Nat) (l : List Nat) (w : World) (hb : By w ao c l) (hl : l.length ≤ 100000000000) :
    Calls Try.prog 28 #[.slice ao l.length c] w fun e w' => ∃ a c', e = .returned (.slice a l.length c') ∧ Mine w w' 5 (.slice a l.length c') (bys l) := by
  have q29 := fun (w : World) (a : Option Addr) (n c n' c' : Nat) => Lib.run_eql_slice_nil (P := Try.prog) w 25 5 a n c n' c' Try.underlying25
  cases ao with
  | none =>
    have h0 : l = [] := by
      obtain ⟨ao', c', e, hz, _⟩ := hb.at_.val
      injection e with e1 e2 e3
      have := hz e1.symm
      exact List.eq_nil_of_length_eq_zero (by have h := congrArg List.length this; simpa using h)
    subst h0
    clear hb
    go_enter Try.func28, Try.ntmps28
    go_wp2
    go_ret
    exact ⟨none, 0, rfl, Mine.nil _ _⟩
  | some a =>
    obtain ⟨n, hn⟩ : ∃ n, n = l.length := ⟨_, rfl⟩
    have hs := (hb.at_.kept ((Kept.refl (fun _ => False) w).alloc (.cells #[] 5)) (fun _ _ x => x)).src Try.underlying25 (bys_one l)
    have hm0 : Mine w (w.alloc (.cells #[] 5)) 5 (.slice (some ⟨w.heap.size, 0, none⟩) 0 0) [] := ⟨own_fresh w _ 1 [] 0 rfl (by simp [maxLen]), (Kept.refl _ _).alloc _⟩
    have HS := Lib.hid hs
    have HM := Lib.hid hm0
    have HL := Lib.hid (show 0 + (bys l).length ≤ 1000000000000 by rw [bys_length]; omega)
    rw [← hn] at HS ⊢
    have HN := Lib.hid hn
    clear hb hs hm0 hl hn
    go_enter Try.func28, Try.ntmps28
    go_wp2_with (at_builtin; refine wpList_mine8 rfl (.tmp 5) (.tmp 6) rfl w _ [] rfl HM.out _ (bys l) rfl HS.out HL.out ?_; intro v6 w6 hm6; have HM6 := Lib.hid hm6; clear hm6)
    go_ret
    obtain ⟨a6, c6, e6⟩ := HM6.out.slice
    rw [List.nil_append, bys_length, ← HN.out] at e6
    refine ⟨a6, c6, congrArg Ending.returned e6, ?_⟩
    have := HM6.out
    rw [e6, List.nil_append] at this
    exact this

theorem flds_of {H : Type} {enc : TypeId × Value → H} {W : World} {sp : Nat} {a : Option Addr} {len cap : Nat} {d : DataW H} {p : List MemPlace}
    (h : DataW.Trod enc Try.prog W sp (fun _ => true) true 22 (.slice a len cap) d p) : ∃ L : List PR, L.length = len ∧ FldsAt W a L ∧ len ≤ cap ∧ len ≤ 9223372036854775807 := by
  rcases recs_of Try.underlying22 Try.underlying40 (by kernel_rfl) (by kernel_rfl) h with ⟨rfl, rfl, rfl⟩ | ⟨x, rfl, hl, hm, hc⟩
  · exact ⟨[], rfl, ⟨fun h => absurd h (by simp), by simp⟩, Nat.le_refl _, by omega⟩
  · unfold maxLen at hm
    rcases Nat.eq_zero_or_pos len with h0 | h0
    · subst h0
      exact ⟨[], rfl, ⟨fun h => absurd h (by simp), by simp⟩, by omega, by omega⟩
    · obtain ⟨g, o, spot⟩ := x
      have hspot : spot = Option.none := by
        obtain ⟨v0, n0, y0, c0, _⟩ := hc 0 h0 0 _ rfl
        simpa [Addr.add] using World.cell?_spot c0
      subst hspot
      have key : ∀ i, i < len → ∃ r : PR, FldAt W g (o + i * 4) r ∧ FldOk W r := by
        intro i hi
        have hcs := hc i hi
        obtain ⟨v0, n0, y0, c0, t0⟩ := hcs 0 _ rfl
        obtain ⟨v1, n1, y1, c1, t1⟩ := hcs 1 _ rfl
        obtain ⟨v2, n2, y2, c2, t2⟩ := hcs 2 _ rfl
        obtain ⟨v3, n3, y3, c3, t3⟩ := hcs 3 _ rfl
        obtain ⟨k0, rfl, w0⟩ := trod_i64 Try.underlying3 t0
        obtain ⟨k2, rfl, w2⟩ := trod_i64 Try.underlying3 t1
        obtain ⟨k1, rfl, w1⟩ := trod_i64 Try.underlying38 t2
        obtain ⟨bo, bl, bc, zs, rfl, hrow⟩ := trod_row Try.underlying25 Try.underlying5 (by kernel_rfl) t3
        obtain ⟨lb, hlb, hb, hs⟩ := hrow.slAtN 256 wf_u8
        subst hlb
        have b0 := bd_i64 w0
        have b1 := bd_u64 w1
        have b2 := bd_i64 w2
        obtain ⟨n, rfl⟩ : ∃ n : Nat, k1 = n := ⟨k1.toNat, by omega⟩
        rw [Go.WideShapes.add_plain] at c0 c1 c2 c3
        exact ⟨⟨⟨k0, k2, n, lb⟩, bo, bc⟩, ⟨c0, c1, c2, c3⟩, b0, b2, by show n < 18446744073709551616; omega, hs, (isRow_cap hrow).1, hb⟩
      obtain ⟨rs, hrs, hp⟩ := choose_list key
      refine ⟨rs, hrs, ⟨fun _ => ⟨g, o, rfl, fun i p hi => (hp i p hi).1⟩, fun p hpm => ?_⟩, hl, by omega⟩
      obtain ⟨i, hi, e⟩ := List.getElem_of_mem hpm
      exact (hp i p (by rw [List.getElem?_eq_getElem hi, e])).2
end Go.Proofs.Ytdgpeganmgcjiaa
