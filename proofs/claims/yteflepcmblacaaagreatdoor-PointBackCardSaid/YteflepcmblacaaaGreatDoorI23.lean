/- Layer 12: rows that are written over; a point whose attributes are in order. -/
import Derived.Test.YteflepcmblacaaaGreatDoorI20
import Derived.Test.YteflepcmblacaaaGreatDoorI19
import Derived.Test.YteflepcmblacaaaGreatDoorI18
import Derived.Test.YteflepcmblacaaaGreatDoorI17
import Derived.Test.YteflepcmblacaaaGreatDoorI14
import Derived.Test.YteflepcmblacaaaGreatDoorI13
namespace Go.Proofs.YteflepcmblacaaaGreatDoor
open Go.RowKit

/-- A row that is written over: its block and its places stay, its cells are of a kind. -/
structure OverG (C : Value → Prop) (E : TypeId) (s B : Nat) (wb w : World) (a : Option Addr) (n c : Nat) : Prop where
  own : ∃ xs : List Value, (∀ u ∈ xs, C u) ∧ w.ownsRow B E s (.slice a n c) n xs
  kept : Kept (fun k => (Value.slice a n c).ownBlock = some k) wb w
section
variable {C : Value → Prop} {E E' : TypeId} {s B n c g : Nat} {wb w W : World} {a : Option Addr}
theorem OverG.start {xs : List Value} (h : w.ownsRow B E s (.slice a n c) n xs) (hc : ∀ u ∈ xs, C u) : OverG C E s B w w a n c := ⟨⟨xs, hc, h⟩, Kept.refl _ _⟩
theorem OverG.set (h : OverG C E s B wb w (some ⟨g, 0, none⟩) n c) (k : Nat) {u : Value} (hu : C u) : OverG C E s B wb (w.setCell ⟨g, k, none⟩ u) (some ⟨g, 0, none⟩) n c := by
  obtain ⟨⟨xs, hc, ho⟩, hk⟩ := h
  exact ⟨⟨_, fun v hv => (List.mem_or_eq_of_mem_set hv).elim (hc v) (fun e => e ▸ hu), owns_setS ho k u⟩, hk.setCell (p := ⟨g, k, none⟩) (fun _ => rfl) _⟩
theorem OverG.on {w' : World} (h : OverG C E s B wb w a n c) (k : Kept (fun _ => False) w w') : OverG C E s B wb w' a n c := by
  obtain ⟨⟨xs, hc, ho⟩, hk⟩ := h
  exact ⟨⟨xs, hc, k.owns ho (fun _ _ x => x)⟩, hk.trans (k.mono (fun _ _ x => x.elim))⟩
theorem OverG.at0 (h : OverG C E s B wb w a n c) (hn : 0 < n) : ∃ g, a = some ⟨g, 0, none⟩ ∧ ∀ k, k < n * s → (∃ u, C u ∧ w.cell? ⟨g, k, none⟩ = some u) ∧ w.frozen? ⟨g, k, none⟩ = false := by
  obtain ⟨⟨xs, hc, ho⟩, _⟩ := h
  have hl : xs.length = n * s := ho.1
  rcases ho.2 with ⟨e, _⟩ | ⟨g, cap, cur, e, hg, hb, rest⟩
  · cases e
    omega
  · injection e with e1 e2 e3
    subst e1
    refine ⟨g, rfl, fun k hk => ⟨⟨xs[k], hc _ (List.getElem_mem _), ?_⟩, by simp [World.frozen?, hb]⟩⟩
    have := ho.cells (g := g) rfl k xs[k] (List.getElem?_eq_getElem (by omega))
    rwa [addr_add0] at this
/-- What stays while a row elsewhere is written over. -/
theorem OverG.mine {v : Value} {xs ys : List Value} (o : OverG C E s B wb w a n c) (o0 : wb.ownsRow B E s (.slice a n c) n ys) (hB : W.heap.size ≤ B) (m : Mine W wb E' v xs) (hne : E' ≠ E) : Mine W w E' v xs :=
  m.keptS o.kept (fun _ e e2 => by obtain ⟨cur, hc⟩ := ownsRow_block m.own e; exact own_box o0 hc (fun x => hne x.symm) e2) (fun _ e => Nat.le_trans hB (ownsRow_lt o0 e).2)
theorem OverG.mineA {v : Value} {xs ys : List Value} (o : OverG C E s B wb w a n c) (o0 : wb.ownsRow B E s (.slice a n c) n ys) (hB : W.heap.size ≤ B) (m : Mine W wb E' v xs) (hap : ∀ k, v.ownBlock = some k → (Value.slice a n c).ownBlock ≠ some k) : Mine W w E' v xs :=
  m.keptS o.kept hap (fun _ e => Nat.le_trans hB (ownsRow_lt o0 e).2)
theorem OverG.mineP {v : Value} {L : List Pr} {ys : List Value} (o : OverG C E s B wb w a n c) (o0 : wb.ownsRow B E s (.slice a n c) n ys) (hB : W.heap.size ≤ B) (m : MineP W wb v L) (hne : 42 ≠ E) : MineP W w v L :=
  m.keptS o.kept (fun _ e e2 => by obtain ⟨cur, hc⟩ := ownsRow_block m.own e; exact own_box o0 hc (fun x => hne x.symm) e2) (fun _ e => Nat.le_trans hB (ownsRow_lt o0 e).2)
theorem OverG.minePA {v : Value} {L : List Pr} {ys : List Value} (o : OverG C E s B wb w a n c) (o0 : wb.ownsRow B E s (.slice a n c) n ys) (hB : W.heap.size ≤ B) (m : MineP W wb v L) (hap : ∀ k, v.ownBlock = some k → (Value.slice a n c).ownBlock ≠ some k) : MineP W w v L :=
  m.keptS o.kept hap (fun _ e => Nat.le_trans hB (ownsRow_lt o0 e).2)
theorem OverG.box {k : Nat} {cs : Array Value} {T : TypeId} {ys : List Value} (o : OverG C E s B wb w a n c) (o0 : wb.ownsRow B E s (.slice a n c) n ys) (hb : wb.heap[k]? = some (.cells cs T (0, 0))) (hne : E ≠ T) : w.heap[k]? = some (.cells cs T (0, 0)) :=
  o.kept.same hb (own_box o0 hb hne)
theorem OverG.keptW {ys : List Value} (o : OverG C E s B wb w a n c) (o0 : wb.ownsRow B E s (.slice a n c) n ys) (hB : W.heap.size ≤ B) (k : Kept (fun _ => False) W wb) : Kept (fun _ => False) W w :=
  k.newer o.kept (fun _ e => Nat.le_trans hB (ownsRow_lt o0 e).2)
end
/-- A whole value is stored into a box that was just made. -/
theorem wpList_store_box {P : Program} {ops : Array Oper} {rest : List Oper} {o : Oper} {a : Act} {w : World} {Q : Exit → Act → World → Prop} (hgd : o.guard = none) (ty : TypeId) (x y : Operand) (ho : o.op = .store ty x y)
    (w0 : World) (old cells : Array Value) (t : TypeId) (hw : w = w0.alloc (.cells old t)) (hx : a.eval x = .pointer (some ⟨w0.heap.size, 0, none⟩)) (hy : a.eval y = .agg cells)
    (hi : (P.info? ty).map (·.size) = some cells.size) (hold : old.size = cells.size) (h1 : cells.all (·.oneCell') = true)
    (h : ∀ w', w'.heap[w0.heap.size]? = some (.cells cells t (0, 0)) → Kept (fun _ => False) w0 w' → wpList P ops Q rest (a.put o.dst undef) w') : wpList P ops Q (o :: rest) a w := by
  subst hw
  refine wpList_store_row hgd ty x y ho _ cells hx hy t old (heap_alloc_new w0 _) hi hold h1 (h _ (setRow_heap _ _ _ _ _ _ (heap_alloc_new w0 _)) ?_)
  exact ((Kept.refl (fun _ => False) w0).alloc _).newer (setRow_keptW _ _ _) (fun i e => by rw [e]; exact Nat.le_refl _)
/-- Two blocks, one made ahead of the other. -/
theorem own_apart {w w' : World} {B B' : Nat} {E E' : TypeId} {v v' : Value} {n n' s s' : Nat} {xs xs' : List Value} (h : w.ownsRow B E s v n xs) (h' : w'.ownsRow B' E' s' v' n' xs') (hle : w.heap.size ≤ B') : ∀ k, v.ownBlock = some k → v'.ownBlock ≠ some k := by
  intro k e e'
  have h1 := (ownsRow_lt h e).1
  have h2 := (ownsRow_lt h' e').2
  omega
/-- The point whose attributes are in order. -/
def ordP (x : Pnt) : Pnt := { x with L := sortP x.L }
theorem ordP_light {x : Pnt} (h : x.light) : (ordP x).light :=
  ⟨h.name, by show (sortP x.L).length ≤ 20; rw [(sortP_perm x.L).length_eq]; exact h.len, fun p hp => h.sh p ((sortP_perm x.L).mem_iff.1 hp), h.pl, h.nl⟩
theorem ordP_same (x : Pnt) : sameP x (ordP x) = true := sameP_sort x
theorem uvals_ints (l : List Nat) : ∀ u ∈ uvals l, ∃ z : Int, u = .int .u64 z := by
  intro u hu
  unfold uvals at hu
  obtain ⟨z, _, rfl⟩ := List.mem_map.1 hu
  exact ⟨_, rfl⟩
theorem pntC_one (x : Pnt) (a b e : Option Addr) (n c m d k f : Nat) : (pntC x (.slice a n c) (.slice b m d) (.slice e k f)).all (·.oneCell') = true := by
  rw [Array.all_eq_true_iff_forall_mem]
  intro u hu
  simp only [pntC, List.mem_toArray, List.mem_cons, List.not_mem_nil, or_false] at hu
  rcases hu with rfl | rfl | rfl | rfl | rfl | rfl | rfl | rfl | rfl | rfl | rfl | rfl | rfl | rfl | rfl | rfl | rfl <;> rfl
/-- Bytes of a right point. -/
theorem bytes_back (x : Pnt) (hC : chk x = 0) (aa pa na : Option Addr) (ac pc nc : Nat) (w : World) (ha : PntAt w x aa ac (.slice pa x.h.pl.length pc) (.slice na x.h.nl.length nc)) (hok : x.ok) (hli : x.light) :
    Calls Tryz.prog 7 #[pntV x (.slice aa x.L.length ac) (.slice pa x.h.pl.length pc) (.slice na x.h.nl.length nc)] w fun e w' =>
      ∃ ao c, e = .returned (.tuple #[.slice ao (pntB x).length c, .int .i64 0]) ∧ w'.ownsRow w.heap.size 5 1 (.slice ao (pntB x).length c) (pntB x).length (u8s (pntB x)) ∧ Kept (fun _ => False) w w' := by
  refine (pBytes_any x aa pa na ac pc nc w ha hok hli).mono ?_
  rintro e w' (⟨h, _⟩ | ⟨_, v, rfl, ho, hk⟩)
  · exact absurd hC h
  · obtain ⟨ao, c, rfl⟩ := ownsRow_slice ho
    exact ⟨ao, c, rfl, ho, hk⟩
/-- Bytes of a point that isn't right. -/
theorem bytes_not (x : Pnt) (hC : chk x ≠ 0) (aa pa na : Option Addr) (ac pc nc : Nat) (w : World) (ha : PntAt w x aa ac (.slice pa x.h.pl.length pc) (.slice na x.h.nl.length nc)) (hok : x.ok) (hli : x.light) :
    Calls Tryz.prog 7 #[pntV x (.slice aa x.L.length ac) (.slice pa x.h.pl.length pc) (.slice na x.h.nl.length nc)] w fun e w' =>
      e = .returned (.tuple #[.slice none 0 0, .int .i64 ((chk x : Nat) : Int)]) ∧ Kept (fun _ => False) w w' := by
  refine (pBytes_any x aa pa na ac pc nc w ha hok hli).mono ?_
  rintro e w' (⟨_, rfl, hk⟩ | ⟨h, _⟩)
  · exact ⟨rfl, hk⟩
  · exact absurd h hC
/-- Read of a right point's bytes. -/
theorem read_back (x : Pnt) (hC : chk x = 0) (hok : x.ok) (hli : x.light) (B : Nat) (ao : Option Addr) (c : Nat) (w : World) (ho : w.ownsRow B 5 1 (.slice ao (pntB x).length c) (pntB x).length (u8s (pntB x))) :
    Calls Tryz.prog 9 #[.slice ao (pntB x).length c] w fun e w' =>
      ∃ CY a1 c1 va vc ua uc, e = .returned (.tuple #[.agg CY, .int .i64 0]) ∧ CY = pntC x (.slice a1 (ordP x).L.length c1) (.slice va x.h.pl.length vc) (.slice ua x.h.nl.length uc) ∧ MineP w w' (.slice a1 (ordP x).L.length c1) (ordP x).L ∧
        Mine w w' 23 (.slice va x.h.pl.length vc) (uvals x.h.pl) ∧ Mine w w' 23 (.slice ua x.h.nl.length uc) (uvals x.h.nl) := by
  have hR := right_of hC
  obtain ⟨ao', c', hs, _⟩ := SliceAt.ofOwn ho
  have hs' : SliceAt w (.slice ao (pntB x).length c) ao (pntB x).length c (u8s (pntB x)) := by
    have := hs.val
    injection this with e1 e2 e3
    subst e1 e3
    exact hs
  refine (pRead_any x hC hok hli (txt_small hR) ao c w hs' (pntB_byte hR hok hli)).mono ?_
  rintro e w' ⟨a1, c1, va, vc, ua, uc, rfl, m, o1, o2⟩
  have hlen : (ordP x).L.length = x.L.length := (sortP_perm x.L).length_eq
  refine ⟨pntC x (.slice a1 x.L.length c1) (.slice va x.h.pl.length vc) (.slice ua x.h.nl.length uc), a1, c1, va, vc, ua, uc, rfl, by rw [hlen], by rw [hlen]; exact m, Mine.ofFresh o1 m.kept, Mine.ofFresh o2 m.kept⟩
/-- What was read, and the box that it lies in. -/
structure RD (W w : World) (g : Nat) (CY : Array Value) (x : Pnt) (a1 va ua : Option Addr) (c1 vc uc : Nat) : Prop where
  eq : CY = pntC x (.slice a1 (ordP x).L.length c1) (.slice va x.h.pl.length vc) (.slice ua x.h.nl.length uc)
  box : w.heap[g]? = some (.cells CY 30 (0, 0))
  at_ : MineP W w (.slice a1 (ordP x).L.length c1) (ordP x).L
  mp : Mine W w 23 (.slice va x.h.pl.length vc) (uvals x.h.pl)
  mn : Mine W w 23 (.slice ua x.h.nl.length uc) (uvals x.h.nl)
/-- A clone, and the box that it lies in. -/
structure CL (W w : World) (g : Nat) (x : Pnt) (d1 d2 d3 : Option Addr) (c1 c2 c3 : Nat) : Prop where
  box : w.heap[g]? = some (.cells (pntC x (.slice d1 x.L.length c1) (.slice d2 x.h.pl.length c2) (.slice d3 x.h.nl.length c3)) 30 (0, 0))
  at_ : MineP W w (.slice d1 x.L.length c1) x.L
  mp : Mine W w 23 (.slice d2 x.h.pl.length c2) (uvals x.h.pl)
section
variable {W w w' : World} {g : Nat} {CY : Array Value} {x : Pnt} {a1 va ua d1 d2 d3 : Option Addr} {c1 vc uc c2 c3 : Nat}
theorem RD.on (h : RD W w g CY x a1 va ua c1 vc uc) (k : Kept (fun _ => False) w w') : RD W w' g CY x a1 va ua c1 vc uc := ⟨h.eq, k.same h.box (fun x => x), h.at_.on k, h.mp.on k, h.mn.on k⟩
theorem RD.pnt (h : RD W w g CY x a1 va ua c1 vc uc) : PntAt w (ordP x) a1 c1 (.slice va x.h.pl.length vc) (.slice ua x.h.nl.length uc) := ⟨h.at_.at_, own_capW h.at_.own, ⟨h.mp.at_, h.mn.at_⟩⟩
theorem RD.val (h : RD W w g CY x a1 va ua c1 vc uc) : pntV (ordP x) (.slice a1 (ordP x).L.length c1) (.slice va (ordP x).h.pl.length vc) (.slice ua (ordP x).h.nl.length uc) = .agg CY := by rw [h.eq]; rfl
theorem RD.size (h : RD W w g CY x a1 va ua c1 vc uc) : CY.size = 17 := by rw [h.eq]; rfl
theorem CL.on (h : CL W w g x d1 d2 d3 c1 c2 c3) (k : Kept (fun _ => False) w w') : CL W w' g x d1 d2 d3 c1 c2 c3 := ⟨k.same h.box (fun x => x), h.at_.on k, h.mp.on k⟩
variable {C : Value → Prop} {B n c : Nat} {a : Option Addr} {ys : List Value}
theorem RD.bytes (h : RD W w g CY x a1 va ua c1 vc uc) (o : OverG C 5 1 B w w' a n c) (o0 : w.ownsRow B 5 1 (.slice a n c) n ys) (hB : W.heap.size ≤ B) : RD W w' g CY x a1 va ua c1 vc uc :=
  ⟨h.eq, o.box o0 h.box (by decide), o.mineP o0 hB h.at_ (by decide), o.mine o0 hB h.mp (by decide), o.mine o0 hB h.mn (by decide)⟩
theorem CL.bytes (h : CL W w g x d1 d2 d3 c1 c2 c3) (o : OverG C 5 1 B w w' a n c) (o0 : w.ownsRow B 5 1 (.slice a n c) n ys) (hB : W.heap.size ≤ B) : CL W w' g x d1 d2 d3 c1 c2 c3 :=
  ⟨o.box o0 h.box (by decide), o.mineP o0 hB h.at_ (by decide), o.mine o0 hB h.mp (by decide)⟩
theorem RD.pairs (h : RD W w g CY x a1 va ua c1 vc uc) (o : OverG C 42 2 B w w' a n c) (o0 : w.ownsRow B 42 2 (.slice a n c) n ys) (hB : W.heap.size ≤ B) (hap : ∀ k, (Value.slice a1 (ordP x).L.length c1).ownBlock = some k → (Value.slice a n c).ownBlock ≠ some k) : RD W w' g CY x a1 va ua c1 vc uc :=
  ⟨h.eq, o.box o0 h.box (by decide), o.minePA o0 hB h.at_ hap, o.mine o0 hB h.mp (by decide), o.mine o0 hB h.mn (by decide)⟩
theorem RD.counts (h : RD W w g CY x a1 va ua c1 vc uc) (o : OverG C 23 1 B w w' a n c) (o0 : w.ownsRow B 23 1 (.slice a n c) n ys) (hB : W.heap.size ≤ B) (hap : ∀ k, (Value.slice va x.h.pl.length vc).ownBlock = some k → (Value.slice a n c).ownBlock ≠ some k) (hap2 : ∀ k, (Value.slice ua x.h.nl.length uc).ownBlock = some k → (Value.slice a n c).ownBlock ≠ some k) : RD W w' g CY x a1 va ua c1 vc uc :=
  ⟨h.eq, o.box o0 h.box (by decide), o.mineP o0 hB h.at_ (by decide), o.mineA o0 hB h.mp hap, o.mineA o0 hB h.mn hap2⟩
end
end Go.Proofs.YteflepcmblacaaaGreatDoor
