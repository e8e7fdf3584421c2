/- Layer 23: what holds while NetPlays plays. -/
import Derived.Test.YtkidbbmdlmnokaaUH
import Derived.Test.YtkidbbmdlmnokaaUI
namespace Go.Proofs.Ytkidbbmdlmnokaa
open Go.RowKit
attribute [local go_sem ↓] Go.wp_at_zero Go.wp_at_succ

/-- The net, and the list of the law. -/
structure PL (W Wn w : World) (nb : Nat) (L M : List Mg) (ao : Option Addr) (cp : Nat) (dv : Value) : Prop where
  ns : NS Wn w nb L ao cp
  doc : MineG cellsM 3 29 Wn w dv M
  same : L.map Mg.t = M.map Mg.t
  base : ∀ m ∈ M, m.At W ∧ (∀ x ∈ m.b, 0 ≤ x ∧ x < 256)
  old : Kept (fun _ => False) W Wn
  apart : ∀ k, dv.ownBlock = some k → (Value.slice ao L.length cp).ownBlock ≠ some k
section
variable {W Wn w w' : World} {nb cp : Nat} {L M : List Mg} {ao : Option Addr} {dv : Value}
theorem PL.keptW (h : PL W Wn w nb L M ao cp dv) : Kept (fun _ => False) W w := h.old.trans h.ns.row.kept
theorem PL.len (h : PL W Wn w nb L M ao cp dv) : L.length = M.length := by
  have := congrArg List.length h.same
  rwa [List.length_map, List.length_map] at this
theorem PL.kept (h : PL W Wn w nb L M ao cp dv) (k : Kept (fun _ => False) w w') : PL W Wn w' nb L M ao cp dv :=
  ⟨h.ns.kept k, h.doc.on k, h.same, h.base, h.old, h.apart⟩
/-- A block that was not there when the state held. -/
theorem PL.newer {S : Nat → Prop} (h : PL W Wn w nb L M ao cp dv) (k : Kept S w w') (hS : ∀ j, S j → w.heap.size ≤ j) : PL W Wn w' nb L M ao cp dv := by
  have k2 : Kept (fun _ => False) w w' := (Kept.refl (fun _ => False) w).newer k hS
  exact h.kept k2
theorem PL.at_ (h : PL W Wn w nb L M ao cp dv) {m : Mg} (hm : m ∈ M) : m.At w := (h.base m hm).1.kept h.keptW
theorem PL.get (h : PL W Wn w nb L M ao cp dv) {i : Nat} {m : Mg} (hi : M[i]? = some m) : ∃ l, L[i]? = some l ∧ l.t = m.t := by
  have := congrArg (fun x => x[i]?) h.same
  rw [List.getElem?_map, List.getElem?_map, hi] at this
  obtain ⟨l, hl, e⟩ := Option.map_eq_some_iff.1 this
  exact ⟨l, hl, e⟩
theorem PL.look (h : PL W Wn w nb L M ao cp dv) {i : Nat} {m : Mg} (hi : M[i]? = some m) : hasB L (i : Int) = true ∧ lookT L (i : Int) = m.t := by
  obtain ⟨l, hl, e⟩ := h.get hi
  have hj := (List.getElem?_eq_some_iff.1 hl).1
  have hh : hasB L (i : Int) = true := decide_eq_true ⟨by omega, by omega⟩
  refine ⟨hh, ?_⟩
  unfold lookT
  rw [if_pos hh, Int.toNat_natCast, List.getD_eq_getElem?_getD, hl]
  exact e
theorem PL.has (h : PL W Wn w nb L M ao cp dv) (i : Int) : hasB L i = hasB M i := by unfold hasB; rw [h.len]
/-- A message more in both. -/
theorem PL.grew {w1 w2 : World} {t : Tl} {x : Mg} (h : PL W Wn w nb L M ao cp dv) (k : Kept (fun _ => False) w w1) (g : GrewTo Wn w1 nb L ao cp t w2)
    (hx : x.t = t ∧ x.At W ∧ (∀ y ∈ x.b, 0 ≤ y ∧ y < 256)) : ∃ m ao' cp', NS Wn w2 nb (L ++ [m]) ao' cp' ∧ MineG cellsM 3 29 Wn w2 dv M ∧ (L ++ [m]).map Mg.t = (M ++ [x]).map Mg.t ∧
      (∀ k, dv.ownBlock = some k → (Value.slice ao' (L ++ [m]).length cp').ownBlock ≠ some k) ∧ (∀ k, m.v.ownBlock = some k → w1.heap.size ≤ k) ∧ (∀ k, (Value.slice ao' (L ++ [m]).length cp').ownBlock = some k → k < w.heap.size ∨ w1.heap.size ≤ k) := by
  obtain ⟨m, ao', cp', hmt, hn, hmo, hk, hat⟩ := g
  have hd : ∀ j, dv.ownBlock = some j → ¬ (j = nb ∨ (Value.slice ao L.length cp).ownBlock = some j) := by
    rintro j e (e2 | e2)
    · subst e2
      exact own_ne_box h.doc.own h.ns.box (by decide) e
    · exact h.apart j e e2
  refine ⟨m, ao', cp', hn, (h.doc.on k).keptS hk hd (fun j e => ?_), by rw [List.map_append, List.map_append, h.same]; simp [hmt, hx.1], fun j e => ?_, hmo, fun j e => ?_⟩
  · rcases e with e | e
    · subst e; exact h.ns.base
    · exact (ownsRow_lt h.ns.row.own e).2
  · rcases hat with h1 | ⟨i, h1, h2⟩
    · rw [h1]; exact h.apart j e
    · intro e2
      rw [h1] at e2
      injection e2 with e2
      have := (ownsRow_lt h.doc.own e).1
      have := k.size
      omega
  · rcases hat with h1 | ⟨i, h1, h2⟩
    · rw [h1] at e
      exact .inl (ownsRow_lt h.ns.row.own e).1
    · rw [h1] at e
      injection e with e
      exact .inr (by omega)
/-- The law's list has a message more. -/
theorem PL.listed {w3 w4 : World} {L' : List Mg} {ao' : Option Addr} {cp' : Nat} {x : Mg} {dv' : Value} {o : Obj} (hn : NS Wn w3 nb L' ao' cp') (hdoc : MineG cellsM 3 29 Wn w3 dv M) (hs : L'.map Mg.t = (M ++ [x]).map Mg.t)
    (hap : ∀ k, dv.ownBlock = some k → (Value.slice ao' L'.length cp').ownBlock ≠ some k) (hb : ∀ m ∈ M, m.At W ∧ (∀ x ∈ m.b, 0 ≤ x ∧ x < 256)) (hx : x.At W ∧ (∀ y ∈ x.b, 0 ≤ y ∧ y < 256)) (hold : Kept (fun _ => False) W Wn)
    (hm : MineG cellsM 3 29 Wn w4 dv' (M ++ [x])) (hk : Kept (fun k => dv.ownBlock = some k) (w3.alloc o) w4) (hat : dv'.ownBlock = dv.ownBlock ∨ dv'.ownBlock = some (w3.alloc o).heap.size) : PL W Wn w4 nb L' (M ++ [x]) ao' cp' dv' := by
  have ka : Kept (fun _ => False) w3 (w3.alloc o) := (Kept.refl _ _).alloc _
  have hn2 := hn.kept ka
  refine ⟨hn2.beside hk (fun j e => ?_), hm, hs, fun m hm' => ?_, hold, fun j e => ?_⟩
  · obtain ⟨cur, hc⟩ := ownsRow_block (hdoc.on ka).own e
    exact ⟨(ownsRow_lt hdoc.own e).2, fun m hm' => typ_ne (hn2.typ m hm') hc (by decide), box_ne hc hn2.box (by decide), hap j e⟩
  · rcases List.mem_append.1 hm' with h1 | h1
    · exact hb m h1
    · rw [List.mem_singleton] at h1; subst h1; exact hx
  · rcases hat with h1 | h1
    · rw [h1] at e; exact hap j e
    · rw [h1] at e
      injection e with e
      intro e2
      have := (ownsRow_lt hn2.row.own e2).1
      omega
/-- Both lists are others: the net's row in its place, the law's anew. -/
theorem PL.anew {w1 w2 : World} {L' M' : List Mg} {dv' : Value} (h : PL W Wn w nb L M ao cp dv) (hn : NS Wn w1 nb L' ao cp) (hs : L'.map Mg.t = M'.map Mg.t) (hM : ∀ m ∈ M', m ∈ M) (hm : MineG cellsM 3 29 w1 w2 dv' M') : PL W Wn w2 nb L' M' ao cp dv' := by
  have k12 := hm.kept
  refine ⟨hn.kept k12, hm.down hn.row.kept, hs, fun m hx => h.base m (hM m hx), h.old, fun j e e2 => ?_⟩
  have h1 := (ownsRow_lt hm.own e).2
  have h2 : (Value.slice ao L'.length cp).ownBlock = some j := e2
  have := (ownsRow_lt hn.row.own h2).1
  omega
theorem PL.lookT (h : PL W Wn w nb L M ao cp dv) (i : Int) : lookT L i = lookT M i := by
  by_cases hi : hasB M i = true
  · have h1 := of_decide_eq_true hi
    obtain ⟨j, rfl⟩ : ∃ j : Nat, i = (j : Int) := ⟨i.toNat, by omega⟩
    have hj : j < M.length := by omega
    rw [(h.look (List.getElem?_eq_getElem hj)).2]
    unfold Go.Proofs.Ytkidbbmdlmnokaa.lookT
    rw [if_pos hi, Int.toNat_natCast, List.getD_eq_getElem?_getD, List.getElem?_eq_getElem hj]
    rfl
  · unfold Go.Proofs.Ytkidbbmdlmnokaa.lookT
    rw [if_neg (by rw [h.has]; exact hi), if_neg hi]
end
theorem MineG.cells3 {W w : World} {ao : Option Addr} {n c : Nat} {M : List Mg} (h : MineG cellsM 3 29 W w (.slice ao n c) M) {i : Nat} {m : Mg} (hi : M[i]? = some m) : ∃ g, ao = some ⟨g, 0, none⟩ ∧ w.cell? ⟨g, i * 3, none⟩ = some (.bool m.ack) ∧ w.cell? ⟨g, i * 3 + 1, none⟩ = some (.int .i64 m.have_) ∧ w.cell? ⟨g, i * 3 + 2, none⟩ = some (.slice m.a m.b.length m.c) := by
  have hj := (List.getElem?_eq_some_iff.1 hi).1
  rcases h.own.2 with ⟨e, h0⟩ | ⟨g, cap, cur, e, _⟩
  · omega
  · injection e with e1 e2 e3
    obtain ⟨g', o', e4, hc⟩ := h.at_ cfM (by omega)
    rw [e1] at e4
    injection e4 with e4
    injection e4 with e5 e6
    subst e5 e6
    refine ⟨g, e1, ?_, ?_, ?_⟩
    · have := hc i m hi 0 (.bool m.ack) rfl
      simpa using this
    · have := hc i m hi 1 (.int .i64 m.have_) rfl
      simpa using this
    · have := hc i m hi 2 (.slice m.a m.b.length m.c) rfl
      simpa using this
theorem MineG.capM {W w : World} {ao : Option Addr} {n c : Nat} {M : List Mg} (h : MineG cellsM 3 29 W w (.slice ao n c) M) : n ≤ c ∧ n = M.length := by
  have hlen : n = M.length := by obtain ⟨_, _, e⟩ := h.slice; injection e with _ e _
  subst hlen
  refine ⟨?_, rfl⟩
  rcases h.own.2 with ⟨e, h0⟩ | ⟨g, cap, cur, e, _, _, hc, _⟩
  · injection e with _ e2 e3; omega
  · injection e with _ _ e3; subst e3; exact hc
theorem erase_map (L : List Mg) (i : Nat) : (L.eraseIdx i).map Mg.t = (L.map Mg.t).eraseIdx i := by
  rw [List.eraseIdx_eq_take_drop_succ, List.eraseIdx_eq_take_drop_succ, List.map_append, List.map_take, List.map_drop]
/-- An act in its block. -/
def AB (w : World) (q : Nat) (kind i k : Int) (ack : Bool) (hv : Int) (v : Value) : Prop := w.heap[q]? = some (.cells #[.int .i64 kind, .int .i64 i, .int .i64 k, .bool ack, .int .i64 hv, v] 31 (0, 0))
theorem AB.c {w : World} {q : Nat} {kind i k : Int} {ack : Bool} {hv : Int} {v : Value} (b : AB w q kind i k ack hv v) : w.cell? ⟨q, 0, none⟩ = some (.int .i64 kind) ∧ w.cell? ⟨q, 1, none⟩ = some (.int .i64 i) ∧ w.cell? ⟨q, 2, none⟩ = some (.int .i64 k) ∧ w.cell? ⟨q, 3, none⟩ = some (.bool ack) ∧ w.cell? ⟨q, 4, none⟩ = some (.int .i64 hv) ∧ w.cell? ⟨q, 5, none⟩ = some v :=
  ⟨(cell_of_row _ _ 0 _ _ _ b).trans rfl, (cell_of_row _ _ 1 _ _ _ b).trans rfl, (cell_of_row _ _ 2 _ _ _ b).trans rfl, (cell_of_row _ _ 3 _ _ _ b).trans rfl, (cell_of_row _ _ 4 _ _ _ b).trans rfl, (cell_of_row _ _ 5 _ _ _ b).trans rfl⟩
/-- What the net's calls change: its block, its row. -/
def NetS (nb : Nat) (L : List Mg) (ao : Option Addr) (cp : Nat) (j : Nat) : Prop := j = nb ∨ (Value.slice ao L.length cp).ownBlock = some j
section
variable {W Wn w w' : World} {nb cp q : Nat} {L M : List Mg} {ao : Option Addr} {dv : Value}
theorem PL.act (h : PL W Wn w nb L M ao cp dv) {kind i k : Int} {ack : Bool} {hv : Int} {v : Value} (b : AB w q kind i k ack hv v) (kk : Kept (fun j => j = nb ∨ (Value.slice ao L.length cp).ownBlock = some j) w w') : AB w' q kind i k ack hv v :=
  kk.same b (fun e => by
    rcases e with e | e
    · exact box_ne b h.ns.box (by decide) e
    · exact own_ne_box h.ns.row.own b (by decide) e)
theorem PL.msg (h : PL W Wn w nb L M ao cp dv) {ack : Bool} {hv : Int} {v : Value} (b : MB w q ack hv v) (hq : ∀ j, (Value.slice ao L.length cp).ownBlock = some j → j ≠ q) (kk : Kept (fun j => j = nb ∨ (Value.slice ao L.length cp).ownBlock = some j) w w') : MB w' q ack hv v :=
  kk.same b (fun e => by
    rcases e with e | e
    · exact box_ne b h.ns.box (by decide) e
    · exact hq q e rfl)
theorem PL.docK (h : PL W Wn w nb L M ao cp dv) (kk : Kept (fun j => j = nb ∨ (Value.slice ao L.length cp).ownBlock = some j) w w') : MineG cellsM 3 29 Wn w' dv M :=
  h.doc.keptS kk (fun j e e2 => by
    rcases e2 with e2 | e2
    · subst e2; exact own_ne_box h.doc.own h.ns.box (by decide) e
    · exact h.apart j e e2) (fun j e => by
    rcases e with e | e
    · subst e; exact h.ns.base
    · exact (ownsRow_lt h.ns.row.own e).2)
/-- The net as it was, in another world. -/
theorem PL.again (h : PL W Wn w nb L M ao cp dv) (kk : Kept (fun j => j = nb ∨ (Value.slice ao L.length cp).ownBlock = some j) w w') (hn : NS Wn w' nb L ao cp) : PL W Wn w' nb L M ao cp dv :=
  ⟨hn, h.docK kk, h.same, h.base, h.old, h.apart⟩
theorem PL.own_lt (h : PL W Wn w nb L M ao cp dv) : (∀ m ∈ L, ∀ j, m.v.ownBlock = some j → j < w.heap.size) ∧ nb < w.heap.size ∧ (∀ j, (Value.slice ao L.length cp).ownBlock = some j → j < w.heap.size) ∧ (∀ j, dv.ownBlock = some j → j < w.heap.size) := by
  refine ⟨fun m hm j e => ?_, (Array.getElem?_eq_some_iff.1 h.ns.box).1, fun j e => (ownsRow_lt h.ns.row.own e).1, fun j e => (ownsRow_lt h.doc.own e).1⟩
  obtain ⟨cs, fr, h1⟩ := h.ns.typ m hm j e
  exact (Array.getElem?_eq_some_iff.1 h1).1
end
theorem u8s_set (l : List Int) (j : Nat) (z : Int) : u8s (l.set j z) = (u8s l).set j (.int .u8 z) := by unfold u8s; rw [List.map_set]
end Go.Proofs.Ytkidbbmdlmnokaa
