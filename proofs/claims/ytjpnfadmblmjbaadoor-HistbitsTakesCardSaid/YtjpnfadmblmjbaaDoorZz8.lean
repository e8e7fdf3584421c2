/- Texts put together: Z14, Z15, Z16, Z17. -/
import Derived.Test.YtjpnfadmblmjbaaDoorZz7
/- package histbits: getCounts (written by tools/gen_XZ14.py). -/
namespace Go.Proofs.YtjpnfadmblmjbaaDoor
open Go.RowKit
attribute [local go_sem ↓] Go.wp_at_zero Go.wp_at_succ

/-- A pointer to a reader in a block of its own. -/
def PtrBox (w : World) (b p : Nat) : Prop := w.heap[b]? = some (.cells #[.pointer (some ⟨p, 0, none⟩)] 38 (0, 0))
theorem PtrBox.c {w : World} {b p : Nat} (h : PtrBox w b p) : w.cell? ⟨b, 0, none⟩ = some (.pointer (some ⟨p, 0, none⟩)) := by rw [cell_of_row _ _ 0 _ _ _ h]; rfl

set_option maxHeartbeats 1000000 in
theorem nextFn_any (B p rb : Nat) (v : Value) (bs : List Bool) (t : Nat) (w : World) (HR : BrAt w B p v bs t) (hB : B ≤ w.heap.size) (hl : bs.length ≤ 100000000) (HT : ClassTab w) (hb : PtrBox w rb p) :
    Calls Tryd.prog 93 #[.pointer (some ⟨rb, 0, none⟩)] w (GotAt .u64 w B p v bs t (readF 0 (bs.drop t)).1 (readF 0 (bs.drop t)).2.1 (readF 0 (bs.drop t)).2.2) := by
  have HG := Lib.hid (varyGet_any B p v bs t w HR hB hl HT)
  have c0 := hb.c
  obtain ⟨G, hG⟩ : ∃ G, G = gotSmall (bs.drop t) := ⟨_, rfl⟩
  unfold readF
  rw [← hG] at HG ⊢
  clear HR HT hb hG
  go_enter Tryd.func93, Tryd.ntmps93
  go_wp2_with fail
  refine HG.out.mono ?_
  rintro e w1 ⟨rfl, hb, hk⟩
  have HB1 := Lib.hid (And.intro hb hk)
  clear hb hk
  go_wp2
  go_ret2
  exact ⟨rfl, HB1.out.1, HB1.out.2⟩

/-- A function that reads numbers, one at each call: Inv i t w, it is about to read the i-th one, at t. -/
structure Getter (W : World) (bs : List Bool) (n : Nat) (f : Nat → List Bool → Nat × Nat × Nat) (K : Nat) (caps : Array Value) (S : Nat → Prop) (Inv : Nat → Nat → World → Prop) : Prop where
  call : ∀ i t w, Inv i t w → i < n → Calls Tryd.prog K caps w fun e w' => e = .returned (.tuple #[.int .u64 ((f i (bs.drop t)).1 : Int), .int .i64 ((f i (bs.drop t)).2.2 : Int)]) ∧ ((f i (bs.drop t)).2.2 = 0 → Inv (i + 1) (t + (f i (bs.drop t)).2.1) w') ∧ Kept S w w'
  keep : ∀ i t w w', Inv i t w → Kept (fun k => W.heap.size ≤ k) w w' → Inv i t w'
  old : ∀ k, S k → k < W.heap.size
  cf : ∀ w, (callFunc K caps).run Tryd.prog w = .ok (.enter K caps) w
  u64 : ∀ j b, (f j b).1 < 18446744073709551616

/-- Counts in memory that is newer than W. -/
def OwnU (W w : World) (v : Value) (l : List Nat) : Prop := w.ownsRow W.heap.size 28 1 v l.length (uvals l)
theorem OwnU.nil (W w : World) : OwnU W w (.slice none 0 0) [] := World.ownsRow_nil _ _ _ _
theorem OwnU.kept {S : Nat → Prop} {W w w' : World} {v : Value} {l : List Nat} (h : OwnU W w v l) (k : Kept S w w') (hn : ∀ j, v.ownBlock = some j → ¬ S j) : OwnU W w' v l := k.owns h hn
theorem OwnU.slice {W w : World} {v : Value} {l : List Nat} (h : OwnU W w v l) : ∃ a c, v = .slice a l.length c := ownsRow_slice h
theorem OwnU.at_ {W w : World} {v : Value} {l : List Nat} (h : OwnU W w v l) : SlAt w v (uvals l) := SlAt.ofOwn h
theorem wpList_ownU {ops : Array Oper} {rest : List Oper} {o : Oper} {a : Act} {Q : Exit → Act → World → Prop} {w : World} (hgd : o.guard = none) (s x : Operand)
    (ho : o.op = .call { callee := .builtin .append, args := #[s, x], argTypes := #[22, 22] })
    (W : World) (v : Value) (l : List Nat) (hv : a.eval s = v) (hm : OwnU W w v l) (hW : W.heap.size ≤ w.heap.size)
    (y : Value) (z : Nat) (hy : a.eval x = y) (hs : Src Tryd.prog 1 22 y 1 [.int .u64 (z : Int)] w)
    (hl : l.length ≤ 1000000)
    (h : ∀ v' w', OwnU W w' v' (l ++ [z]) → Kept (fun k => v.ownBlock = some k) w w' → (v'.ownBlock = v.ownBlock ∨ v'.ownBlock = some w.heap.size) → wpList Tryd.prog ops Q rest (a.put o.dst v') w') : wpList Tryd.prog ops Q (o :: rest) a w := by
  obtain ⟨iI, hiI, hzI0, hzI1, hzI2⟩ := info_parts Tryd.infoU64
  refine wpList_append_src w hgd s x 22 22 ho W.heap.size 28 iI (.int .u64 0) 1 8 Tryd.underlying22 hiI hzI0 hzI1 hzI2 rfl v l.length (uvals l) hv hm y 1 [.int .u64 (z : Int)] hy hs (by unfold maxLen; omega) (by omega) hW ?_
  intro v' w' hown hg _ hat
  refine h v' w' ?_ ((Kept.refl (fun k => v.ownBlock = some k) w).grown hg (fun k e _ => e)) hat
  unfold OwnU
  rw [List.length_append, uvals_append]
  exact hown

/-- Between two calls: i numbers were read; the sides' counts so far are l1 and l2, in the slices u1 and u2. -/
structure CS (W : World) (S : Nat → Prop) (Inv : Nat → Nat → World → Prop) (t : Nat) (f : Nat → List Bool → Nat × Nat × Nat) (L : List Bool) (s : ShV) (qs qr qd i : Nat) (l1 l2 : List Nat) (u1 u2 : Value) (wr : World) : Prop where
  inv : Inv i (t + (stN f L i).2.1) wr
  ok : (stN f L i).2.2 = 0
  bs : ShBox wr qs s
  br : HistBox wr qr zeroH (.slice none 0 0) (.slice none 0 0)
  bd : wr.heap[qd]? = some (.cells #[.int .i64 s.po, u1, .int .i64 s.no, u2] 118 (0, 0))
  o1 : OwnU W wr u1 l1
  o2 : OwnU W wr u2 l2
  ap : ∀ k, u1.ownBlock = some k → u2.ownBlock ≠ some k
  kp : Kept S W wr
  new : W.heap.size ≤ qs ∧ W.heap.size ≤ qr ∧ W.heap.size ≤ qd
section
variable {W : World} {S : Nat → Prop} {Inv : Nat → Nat → World → Prop} {t n : Nat} {f : Nat → List Bool → Nat × Nat × Nat} {bs : List Bool} {s : ShV} {qs qr qd i : Nat} {l1 l2 : List Nat} {u1 u2 : Value} {wr w1 : World} {K : Nat} {caps : Array Value}
theorem Kept.toT {T : Nat → Prop} {a b : World} (h : Kept (fun _ => False) a b) : Kept T a b := keptTo h
/-- What keeps all that the loop stands on. -/
theorem CS.on (G : Getter W bs n f K caps S Inv) (x : CS W S Inv t f (bs.drop t) s qs qr qd i l1 l2 u1 u2 wr) (k : Kept (fun _ => False) wr w1) : CS W S Inv t f (bs.drop t) s qs qr qd i l1 l2 u1 u2 w1 :=
  ⟨G.keep _ _ _ _ x.inv (keptTo k), x.ok, x.bs.same k (fun x => x), x.br.same k (fun x => x), k.same x.bd (fun x => x), x.o1.kept k (fun _ _ x => x), x.o2.kept k (fun _ _ x => x), x.ap, x.kp.step k (fun _ _ e => e.elim), x.new⟩
/-- The next number was read. -/
theorem CS.got (G : Getter W bs n f K caps S Inv) (x : CS W S Inv t f (bs.drop t) s qs qr qd i l1 l2 u1 u2 wr) (k : Kept S wr w1) (hE : (f i ((bs.drop t).drop (stN f (bs.drop t) i).2.1)).2.2 = 0) (hi : Inv (i + 1) (t + (stN f (bs.drop t) i).2.1 + (f i ((bs.drop t).drop (stN f (bs.drop t) i).2.1)).2.1) w1) : CS W S Inv t f (bs.drop t) s qs qr qd (i + 1) l1 l2 u1 u2 w1 := by
  have hs := stN_succ f (bs.drop t) i x.ok
  rw [if_neg (by rw [hE]; exact fun e => e rfl)] at hs
  have hnew := x.new
  refine ⟨by rw [hs]; simpa [Nat.add_assoc] using hi, by rw [hs], x.bs.same k ?_, x.br.same k ?_, k.same x.bd ?_, x.o1.kept k ?_, x.o2.kept k ?_, x.ap, x.kp.trans k, x.new⟩
  · intro e; have := G.old _ e; omega
  · intro e; have := G.old _ e; omega
  · intro e; have := G.old _ e; omega
  · intro j hj e; have := G.old _ e; have := (ownsRow_lt x.o1 hj).2; omega
  · intro j hj e; have := G.old _ e; have := (ownsRow_lt x.o2 hj).2; omega
theorem CS.bad (G : Getter W bs n f K caps S Inv) (x : CS W S Inv t f (bs.drop t) s qs qr qd i l1 l2 u1 u2 wr) (k : Kept S wr w1) : HistBox w1 qr zeroH (.slice none 0 0) (.slice none 0 0) ∧ Kept S W w1 :=
  ⟨x.br.same k (fun e => by have := G.old _ e; have := x.new; omega), x.kp.trans k⟩
theorem stN_last (f : Nat → List Bool → Nat × Nat × Nat) (l : List Bool) (i : Nat) (h : (stN f l i).2.2 = 0) (hE : (f i (l.drop (stN f l i).2.1)).2.2 = 0) (k : Nat) (hk : k ≤ i) : (stN f l (i + 1)).1.drop k = (stN f l i).1.drop k ++ [(f i (l.drop (stN f l i).2.1)).1] := by
  have hs := stN_succ f l i h
  rw [if_neg (by rw [hE]; exact fun e => e rfl)] at hs
  rw [hs]
  simp only
  rw [List.drop_append_of_le_length (by rw [stN_len f l i h]; exact hk)]
/-- A count went to the first side. -/
theorem CS.app1 {u3 : Value} {x : Nat} (G : Getter W bs n f K caps S Inv) (c : CS W S Inv t f (bs.drop t) s qs qr qd i l1 l2 u1 u2 wr) (o : OwnU W w1 u3 (l1 ++ [x])) (k : Kept (fun k => u1.ownBlock = some k) wr w1) (hat : u3.ownBlock = u1.ownBlock ∨ u3.ownBlock = some wr.heap.size) : CS W S Inv t f (bs.drop t) s qs qr qd i (l1 ++ [x]) l2 u3 u2 (w1.setCell ⟨qd, 1, none⟩ u3) := by
  have hb : w1.heap[qd]? = some (.cells #[.int .i64 s.po, u1, .int .i64 s.no, u2] 118 (0, 0)) := k.same c.bd (own_box c.o1 c.bd (by decide))
  have hb2 := heap_setCell_same _ _ 1 _ _ u3 hb
  have hk2 := (Kept.refl (fun k => k = qd) w1).setCell (p := ⟨qd, 1, none⟩) (fun _ => rfl) u3
  have kT : Kept (fun k => W.heap.size ≤ k) wr w1 := ⟨k.os, k.tape, k.output, k.size, fun j hj hn => k.block j hj (fun e => hn (ownsRow_lt c.o1 e).2)⟩
  have kT2 : Kept (fun k => W.heap.size ≤ k) wr (w1.setCell ⟨qd, 1, none⟩ u3) := kT.step hk2 (fun j _ e => by rw [e]; exact c.new.2.2)
  refine ⟨G.keep _ _ _ _ c.inv kT2, c.ok, (c.bs.same k (own_box c.o1 c.bs (by decide))).same hk2 ?_, (c.br.same k (own_box c.o1 c.br (by decide))).same hk2 ?_, hb2, o.kept hk2 ?_, (c.o2.kept k ?_).kept hk2 ?_, ?_, ?_, c.new⟩
  · intro e; have h1 := c.bs; unfold ShBox at h1; rw [e, c.bd] at h1; injection h1 with h1; injection h1 with _ h1; exact absurd h1 (by decide)
  · intro e; have h1 := c.br; unfold HistBox at h1; rw [e, c.bd] at h1; injection h1 with h1; injection h1 with _ h1; exact absurd h1 (by decide)
  · intro j hj e; subst e; exact own_box o hb (by decide) hj
  · intro j hj e; exact c.ap j e hj
  · intro j hj e; subst e; exact own_box (c.o2.kept k (fun j hj e => c.ap j e hj)) hb (by decide) hj
  · intro j hj e
    rcases hat with h | h
    · exact c.ap j (by rw [← h]; exact hj) e
    · rw [h] at hj; injection hj with hj; have := (ownsRow_lt c.o2 e).1; omega
  · refine (c.kp.step k (fun j hj e => absurd (ownsRow_lt c.o1 e).2 (by omega))).step hk2 (fun j hj e => absurd c.new.2.2 (by omega))
/-- A count went to the second side. -/
theorem CS.app2 {u3 : Value} {x : Nat} (G : Getter W bs n f K caps S Inv) (c : CS W S Inv t f (bs.drop t) s qs qr qd i l1 l2 u1 u2 wr) (o : OwnU W w1 u3 (l2 ++ [x])) (k : Kept (fun k => u2.ownBlock = some k) wr w1) (hat : u3.ownBlock = u2.ownBlock ∨ u3.ownBlock = some wr.heap.size) : CS W S Inv t f (bs.drop t) s qs qr qd i l1 (l2 ++ [x]) u1 u3 (w1.setCell ⟨qd, 3, none⟩ u3) := by
  have hb : w1.heap[qd]? = some (.cells #[.int .i64 s.po, u1, .int .i64 s.no, u2] 118 (0, 0)) := k.same c.bd (own_box c.o2 c.bd (by decide))
  have hb2 := heap_setCell_same _ _ 3 _ _ u3 hb
  have hk2 := (Kept.refl (fun k => k = qd) w1).setCell (p := ⟨qd, 3, none⟩) (fun _ => rfl) u3
  have kT : Kept (fun k => W.heap.size ≤ k) wr w1 := ⟨k.os, k.tape, k.output, k.size, fun j hj hn => k.block j hj (fun e => hn (ownsRow_lt c.o2 e).2)⟩
  have kT2 : Kept (fun k => W.heap.size ≤ k) wr (w1.setCell ⟨qd, 3, none⟩ u3) := kT.step hk2 (fun j _ e => by rw [e]; exact c.new.2.2)
  refine ⟨G.keep _ _ _ _ c.inv kT2, c.ok, (c.bs.same k (own_box c.o2 c.bs (by decide))).same hk2 ?_, (c.br.same k (own_box c.o2 c.br (by decide))).same hk2 ?_, hb2, (c.o1.kept k ?_).kept hk2 ?_, o.kept hk2 ?_, ?_, ?_, c.new⟩
  · intro e; have h1 := c.bs; unfold ShBox at h1; rw [e, c.bd] at h1; injection h1 with h1; injection h1 with _ h1; exact absurd h1 (by decide)
  · intro e; have h1 := c.br; unfold HistBox at h1; rw [e, c.bd] at h1; injection h1 with h1; injection h1 with _ h1; exact absurd h1 (by decide)
  · intro j hj e; exact c.ap j hj e
  · intro j hj e; subst e; exact own_box (c.o1.kept k (fun j hj e => c.ap j hj e)) hb (by decide) hj
  · intro j hj e; subst e; exact own_box o hb (by decide) hj
  · intro j hj e
    rcases hat with h | h
    · exact c.ap j hj (by rw [← h]; exact e)
    · rw [h] at e; injection e with e; have := (ownsRow_lt c.o1 hj).1; omega
  · refine (c.kp.step k (fun j hj e => absurd (ownsRow_lt c.o2 e).2 (by omega))).step hk2 (fun j hj e => absurd c.new.2.2 (by omega))
end
/-- What getCounts answers and leaves. -/
def CountsTo (W : World) (S : Nat → Prop) (Inv : Nat → Nat → World → Prop) (n t : Nat) (R : HistV × Nat × Nat) (e : Ending) (w' : World) : Prop :=
  ∃ pv nv, e = .returned (.tuple #[histV R.1 pv nv, .int .i64 (R.2.2 : Int)]) ∧ OwnU W w' pv R.1.pl ∧ OwnU W w' nv R.1.nl ∧ Kept S W w' ∧ (R.2.2 = 0 → Inv n (t + R.2.1) w')
theorem gotC_bad {f : Nat → List Bool → Nat × Nat × Nat} {s : ShV} {l : List Bool} {i E : Nat} (hi : i < 1 + s.pn + s.nn) (h : (stN f l i).2.2 = 0) (hE : (f i (l.drop (stN f l i).2.1)).2.2 = E) (h0 : E ≠ 0) : gotC f s l = (zeroH, 0, E) := by
  have := stN_bad f l (1 + s.pn + s.nn) i E h hE h0 hi
  unfold gotC
  simp only
  rw [if_pos (by rw [this]; exact h0), this]
theorem gotC_good {f : Nat → List Bool → Nat × Nat × Nat} {s : ShV} {l : List Bool} (h : (stN f l (1 + s.pn + s.nn)).2.2 = 0) : gotC f s l = (mkH s (stN f l (1 + s.pn + s.nn)).1, (stN f l (1 + s.pn + s.nn)).2.1, (mkH s (stN f l (1 + s.pn + s.nn)).1).err) := by
  unfold gotC
  simp only
  rw [if_neg (by rw [h]; exact fun e => e rfl)]

set_option maxHeartbeats 8000000 in
set_option maxRecDepth 100000 in
theorem getCounts_any (W : World) (bs : List Bool) (t : Nat) (s : ShV) (f : Nat → List Bool → Nat × Nat × Nat) (K : Nat) (caps : Array Value) (S : Nat → Prop) (Inv : Nat → Nat → World → Prop)
    (G : Getter W bs (1 + s.pn + s.nn) f K caps S Inv) (h0 : Inv 0 t W) (hsc : I64 s.sc) (hpo : I64 s.po) (hno : I64 s.no) (hp : s.pn ≤ 160) (hn : s.nn ≤ 160) :
    Calls Tryd.prog 92 #[s.val, .func (.func K) #[] caps] W (CountsTo W S Inv (1 + s.pn + s.nn) t (gotC f s (bs.drop t))) := by
  obtain ⟨sc, po, pn, no, nn⟩ := s
  unfold ShV.val
  dsimp only at *
  have hcf := G.cf
  have HG := Lib.hid G
  have HI := Lib.hid (And.intro hsc (And.intro hpo hno))
  have HP := Lib.hid (And.intro hp hn)
  have HBAD := Lib.hid fun i E => gotC_bad (f := f) (s := ⟨sc, po, pn, no, nn⟩) (l := (bs.drop t)) (i := i) (E := E)
  have HGOOD := Lib.hid (gotC_good (f := f) (s := ⟨sc, po, pn, no, nn⟩) (l := (bs.drop t)))
  dsimp only at HBAD HGOOD
  obtain ⟨R, hR⟩ : ∃ R, R = gotC f ⟨sc, po, pn, no, nn⟩ (bs.drop t) := ⟨_, rfl⟩
  rw [← hR] at HBAD HGOOD ⊢
  obtain ⟨w0, hw0⟩ : ∃ w0, w0 = (W.alloc (.cells #[.int .i64 sc, .int .i64 po, .int .i64 (pn : Int), .int .i64 no, .int .i64 (nn : Int)] 101)).alloc (.cells #[.int .i64 0, .int .u64 0, .int .i64 0, .slice none 0 0, .int .i64 0, .slice none 0 0] 62) := ⟨_, rfl⟩
  have k0 : Kept (fun _ => False) W w0 := by rw [hw0]; exact ((Kept.refl _ _).alloc _).alloc _
  have HS0 := Lib.hid (show ShBox w0 W.heap.size ⟨sc, po, pn, no, nn⟩ by rw [hw0]; exact ((Kept.refl (fun _ => False) _).alloc _).same (heap_alloc_new W _) (fun x => x))
  have HR0 := Lib.hid (show HistBox w0 (W.heap.size + 1) zeroH (.slice none 0 0) (.slice none 0 0) by unfold HistBox; dsimp only [zeroH]; rw [hw0]; have := heap_alloc_new (W.alloc (.cells #[.int .i64 sc, .int .i64 po, .int .i64 (pn : Int), .int .i64 no, .int .i64 (nn : Int)] 101)) (.cells #[.int .i64 0, .int .u64 0, .int .i64 0, .slice none 0 0, .int .i64 0, .slice none 0 0] 62); simpa using this)
  have HK0 := Lib.hid k0
  have HW0 := Lib.hid hw0
  have HI0 := Lib.hid (G.keep _ _ _ _ h0 (keptTo k0))
  obtain ⟨qs, hqs⟩ : ∃ q, q = W.heap.size := ⟨_, rfl⟩
  obtain ⟨qr, hqr⟩ : ∃ q, q = qs + 1 := ⟨_, rfl⟩
  rw [← hqs] at HS0 HR0
  rw [← hqr] at HR0
  have HQ := Lib.hid (And.intro hqs hqr)
  have HCA := Lib.hid (G.call 0 t w0 HI0.out (by omega))
  have hst1' : stN f (bs.drop t) 1 = if (f 0 (bs.drop t)).2.2 ≠ 0 then ([], 0, (f 0 (bs.drop t)).2.2) else ([(f 0 (bs.drop t)).1], (f 0 (bs.drop t)).2.1, 0) := by simp [stN]
  obtain ⟨g0, hg0⟩ : ∃ g, g = f 0 (bs.drop t) := ⟨_, rfl⟩
  have HB0 := Lib.hid fun (hE : g0.2.2 ≠ 0) => HBAD.out 0 g0.2.2 (by omega) rfl (by rw [hg0]; rfl) hE
  rw [← hg0] at HCA hst1'
  have HST := Lib.hid hst1'
  obtain ⟨V0, N0, E0⟩ := g0
  dsimp only at HCA HST HB0
  have HG0 := Lib.hid hg0
  clear G h0 hsc hpo hno hp hn hw0 hqs hqr k0 hR hst1' hg0
  by_cases hE : E0 = 0
  · subst hE
    replace HST : Hid (stN f (bs.drop t) 1 = ([V0], N0, 0)) := Lib.hid (by rw [HST.out]; simp)
    go_enter Tryd.func92, Tryd.ntmps92
    go_upto_region 1 with fail
    rw [← HW0.out, ← HQ.out.1]
    try rw [← HQ.out.2]
    go_wp2_with fail
    refine HCA.out.mono ?_
    rintro e w1 ⟨rfl, hi, hk⟩
    have hi1 := hi (by trivial)
    have HX1 := Lib.hid (And.intro hi1 hk)
    clear hi hi1
    have HS1 := Lib.hid (HS0.out.same hk (fun e => by have := HG.out.old _ e; have := HQ.out; omega))
    have HR1 := Lib.hid (HR0.out.same hk (fun e => by have := HG.out.old _ e; have := HQ.out; omega))
    clear hk
    obtain ⟨s0, s1, s2, s3, s4⟩ := ShBox.c (s := ⟨sc, po, pn, no, nn⟩) HS1.out
    dsimp only at s0 s1 s2 s3 s4
    go_upto_region 5 with fail
    obtain ⟨w2, hw2⟩ : ∃ w', w' = w1.alloc (.cells #[.int .i64 po, .slice none 0 0, .int .i64 no, .slice none 0 0] 118) := ⟨_, rfl⟩
    obtain ⟨qd, hqd⟩ : ∃ q, q = w1.heap.size := ⟨_, rfl⟩
    have hk2 : Kept (fun k => k = qd) w1 w2 := by rw [hw2]; exact (Kept.refl _ _).alloc _
    have hb2 : w2.heap[qd]? = some (.cells #[.int .i64 po, .slice none 0 0, .int .i64 no, .slice none 0 0] 118 (0, 0)) := by rw [hw2, hqd]; exact heap_alloc_new w1 _
    rw [← hw2, ← hqd]
    have hsz : W.heap.size ≤ w1.heap.size := Nat.le_trans HK0.out.size HX1.out.2.size
    have HC : Hid (CS W S Inv t f (bs.drop t) ⟨sc, po, pn, no, nn⟩ qs qr qd 1 [] [] (.slice none 0 0) (.slice none 0 0) w2) := Lib.hid ⟨HG.out.keep _ _ _ _ (by rw [HST.out]; exact HX1.out.1) ((keptTo (Kept.refl (fun _ => False) w1) : Kept (fun k => W.heap.size ≤ k) w1 w1).step hk2 (fun j _ e => by omega)), by rw [HST.out], HS1.out.same hk2 (by have := HS1.out; have := (Array.getElem?_eq_some_iff.1 HS1.out).1; omega), HR1.out.same hk2 (by have := (Array.getElem?_eq_some_iff.1 HR1.out).1; omega), hb2, OwnU.nil _ _, OwnU.nil _ _, fun k e => by simp [Value.ownBlock] at e, (((show Kept S W w0 from keptTo HK0.out).trans HX1.out.2).new hk2 (by omega)), by have := HQ.out; omega⟩
    clear hw2 hqd hk2 hb2 hsz s0 s1 s2 s3 s4
    obtain ⟨s0, s1, s2, s3, s4⟩ := ShBox.c (s := ⟨sc, po, pn, no, nn⟩) HC.out.bs
    dsimp only at s0 s1 s2 s3 s4
    go_wp2
    go_loopg [35] 2 (fun g s35 wr => ∃ k : Nat, k ≤ 2 ∧ g = 2 - k ∧ s35 = .int .i64 k ∧ ((k = 0 ∧ CS W S Inv t f (bs.drop t) ⟨sc, po, pn, no, nn⟩ qs qr qd 1 [] [] (.slice none 0 0) (.slice none 0 0) wr) ∨ (k = 1 ∧ ∃ u1, CS W S Inv t f (bs.drop t) ⟨sc, po, pn, no, nn⟩ qs qr qd (1 + pn) ((stN f (bs.drop t) (1 + pn)).1.drop 1) [] u1 (.slice none 0 0) wr) ∨ (k = 2 ∧ ∃ u1 u2, CS W S Inv t f (bs.drop t) ⟨sc, po, pn, no, nn⟩ qs qr qd (1 + pn + nn) ((stN f (bs.drop t) (1 + pn)).1.drop 1) ((stN f (bs.drop t) (1 + pn + nn)).1.drop (1 + pn)) u1 u2 wr)))
    case atStart => exact ⟨0, by omega, rfl, rfl, .inl ⟨rfl, HC.out⟩⟩
    case round =>
      obtain ⟨k, hk, rfl, rfl, ⟨rfl, hc⟩ | ⟨rfl, u1, hc⟩ | ⟨rfl, u1, u2, hc⟩⟩ := hrel <;> clear hk
      · have HCk := Lib.hid hc
        clear hc
        have ix : ∀ w, (Instr.index 119 (.agg #[.int .i64 (pn : Int), .int .i64 (nn : Int)]) (.int .i64 0)).run Tryd.prog w = .ok (.int .i64 (pn : Int)) w := fun _ => by kernel_rfl
        go_wp2
        go_loopg [40] pn (fun g s40 wr => ∃ j : Nat, j ≤ pn ∧ g = pn - j ∧ s40 = .int .i64 j ∧ ∃ u1, CS W S Inv t f (bs.drop t) ⟨sc, po, pn, no, nn⟩ qs qr qd (1 + j) ((stN f (bs.drop t) (1 + j)).1.drop 1) [] u1 (.slice none 0 0) wr)
        case atStart => exact ⟨0, Nat.zero_le _, rfl, rfl, _, by simpa [HST.out] using HCk.out⟩
        case round =>
          obtain ⟨j, hj, rfl, rfl, u1, hc⟩ := hrel
          have HCj := Lib.hid hc
          obtain ⟨l, hl⟩ : ∃ l, l = ((stN f (bs.drop t) (1 + j)).1.drop 1) := ⟨_, rfl⟩
          have hll : l.length = j := by rw [hl, List.length_drop, stN_len f (bs.drop t) _ hc.ok]; omega
          by_cases hd : j < pn
          · have hdi : (j : Int) < (pn : Int) := by omega
            have HD := Lib.hid hd
            have wi : IntKind.i64.wrap ((j : Int) + 1) = ((j + 1 : Nat) : Int) := by rw [IntWalk.i64_in _ ⟨by omega, by have := HP.out; omega⟩]; omega
            have hca := HG.out.call (1 + j) _ wr hc.inv (by have := HP.out; omega)
            rw [← List.drop_drop] at hca
            obtain ⟨g, hg⟩ : ∃ g, g = f (1 + j) ((bs.drop t).drop (stN f (bs.drop t) (1 + j)).2.1) := ⟨_, rfl⟩
            rw [← hg] at hca
            have HBD := Lib.hid fun (hE : g.2.2 ≠ 0) => HBAD.out (1 + j) g.2.2 (by have := HP.out; omega) hc.ok (by rw [hg]) hE
            have HGE := Lib.hid hg
            have HCA2 := Lib.hid hca
            have HLJ := Lib.hid hl
            have HLL := Lib.hid hll
            obtain ⟨V, N, E⟩ := g
            dsimp only at HCA2 HBD
            clear hc hg hca hd hj hl hll
            by_cases hE : E = 0
            · subst hE
              go_wp2_with fail
              refine HCA2.out.mono ?_
              rintro e w3 ⟨rfl, hi, hk⟩
              have HC3 := Lib.hid (HCj.out.got HG.out hk (by rw [← HGE.out]) (by rw [← HGE.out]; exact hi (by trivial)))
              clear hi hk
              have HC4 := Lib.hid (HC3.out.on HG.out ((Kept.refl _ _).alloc (.cells #[.int .u64 (V : Int)] 28)))
              obtain ⟨a, c, ea⟩ := HC3.out.o1.slice
              rw [← HLJ.out] at ea
              subst ea
              have hcell := fun i => cell_of_row _ qd i _ _ _ HC3.out.bd
              have hcc := hcell 1
              replace hcc : w3.cell? ⟨qd, 1, none⟩ = some (.slice a l.length c) := hcc.trans rfl
              clear hcell
              have ho4 := HC4.out.o1
              rw [← HLJ.out] at ho4
              have HO4 := Lib.hid ho4
              have HND := Lib.hid (own_box ho4 HC4.out.bd (by decide))
              have HLM := Lib.hid (show l.length ≤ 1000000 by rw [HLL.out]; have := HD.out; have := HP.out; omega)
              clear ho4
              go_wp2_with (at_builtin; refine wpList_ownU rfl (.tmp 55) (.tmp 57) rfl W (.slice a l.length c) l rfl HO4.out HC4.out.kp.size _ V rfl (src_oneU w3 (.int .u64 (V : Int)) rfl) HLM.out ?_; intro v5 w5 ho hk5 hat; obtain ⟨a5, c5, e5⟩ := ho.slice; obtain ⟨n5, hn5⟩ : ∃ n, n = (l ++ [V]).length := ⟨_, rfl⟩; rw [← hn5] at e5; subst e5; have HN5 := Lib.hid hn5; have HO := Lib.hid (And.intro ho (And.intro hk5 hat)); have hb5 := hk5.same HC4.out.bd HND.out; have HB5 := Lib.hid hb5; have hf5 : w5.frozen? ⟨qd, 1, none⟩ = false := (by simp [World.frozen?, hb5]); have hc5 : w5.cell? ⟨qd, 1, none⟩ = some (.slice a l.length c) := ((cell_of_row _ qd 1 _ _ _ hb5).trans rfl); clear ho hk5 hat hb5 hn5)
              have hc6 := HC4.out
              rw [← HLJ.out] at hc6
              have HC6 := Lib.hid (hc6.app1 HG.out HO.out.1 HO.out.2.1 HO.out.2.2)
              have HNX : Hid ((stN f (bs.drop t) (1 + (j + 1))).1.drop (1) = l ++ [V]) := Lib.hid (by have hh := stN_last f (bs.drop t) (1 + j) HCj.out.ok (by rw [← HGE.out]) (1) (by omega); rw [← HGE.out, ← HLJ.out] at hh; exact hh)
              clear hc6 hcc hf5 hc5
              go_wp2
              go_roundg (pn - (j + 1))
              case measure => have := HD.out; omega
              case rel => exact ⟨j + 1, HD.out, rfl, rfl, _, by rw [HNX.out]; exact HC6.out⟩
            · have q0 : ((E : Int) != 0) = true := bneT (by omega)
              have HNE := Lib.hid hE
              clear hE
              go_wp2_with fail
              refine HCA2.out.mono ?_
              rintro e w3 ⟨rfl, hi, hk⟩
              have hbb := HCj.out.bad HG.out hk
              have HBr := Lib.hid hbb.1
              have HKr := Lib.hid hbb.2
              clear hi hk hbb
              obtain ⟨y0, y1, y2, y3, y4, y5⟩ := HBr.out.c
              obtain ⟨f0, f1, f2, f3, f4, f5⟩ := HBr.out.f
              dsimp only [zeroH] at y0 y1 y2 y3 y4 y5
              go_wp2
              try simp only [Exit.inBlock, Exit.then]
              refine hist_end (h := zeroH) (pv := .slice none 0 0) (nv := .slice none 0 0) Tryd.results92 rfl rfl rfl (HBr.out.set zeroH (.slice none 0 0) (.slice none 0 0)) ?_
              have hR := HBD.out HNE.out
              rw [hR]
              exact ⟨_, _, rfl, OwnU.nil _ _, OwnU.nil _ _, HKr.out.new (set6_kept _ _ _ _ _ _ _ _) (by have := HQ.out; omega), fun e => absurd e HNE.out⟩
          · obtain rfl : pn = j := by omega
            clear hd hc hl hll hj
            go_wp2
            go_roundg 1
            case measure => omega
            case rel => exact ⟨1, by omega, rfl, rfl, .inr (.inl ⟨rfl, u1, HCj.out⟩)⟩
      · have HCk := Lib.hid hc
        clear hc
        have ix : ∀ w, (Instr.index 119 (.agg #[.int .i64 (pn : Int), .int .i64 (nn : Int)]) (.int .i64 1)).run Tryd.prog w = .ok (.int .i64 (nn : Int)) w := fun _ => by kernel_rfl
        go_wp2
        go_loopg [40] nn (fun g s40 wr => ∃ j : Nat, j ≤ nn ∧ g = nn - j ∧ s40 = .int .i64 j ∧ ∃ u1 u2, CS W S Inv t f (bs.drop t) ⟨sc, po, pn, no, nn⟩ qs qr qd (1 + pn + j) ((stN f (bs.drop t) (1 + pn)).1.drop 1) ((stN f (bs.drop t) (1 + pn + j)).1.drop (1 + pn)) u1 u2 wr)
        case atStart => exact ⟨0, Nat.zero_le _, rfl, rfl, _, _, by simpa [List.drop_of_length_le (Nat.le_of_eq (stN_len f (bs.drop t) (1 + pn) HCk.out.ok))] using HCk.out⟩
        case round =>
          obtain ⟨j, hj, rfl, rfl, u1, u2, hc⟩ := hrel
          have HCj := Lib.hid hc
          obtain ⟨l, hl⟩ : ∃ l, l = ((stN f (bs.drop t) (1 + pn + j)).1.drop (1 + pn)) := ⟨_, rfl⟩
          have hll : l.length = j := by rw [hl, List.length_drop, stN_len f (bs.drop t) _ hc.ok]; omega
          by_cases hd : j < nn
          · have hdi : (j : Int) < (nn : Int) := by omega
            have HD := Lib.hid hd
            have wi : IntKind.i64.wrap ((j : Int) + 1) = ((j + 1 : Nat) : Int) := by rw [IntWalk.i64_in _ ⟨by omega, by have := HP.out; omega⟩]; omega
            have hca := HG.out.call (1 + pn + j) _ wr hc.inv (by have := HP.out; omega)
            rw [← List.drop_drop] at hca
            obtain ⟨g, hg⟩ : ∃ g, g = f (1 + pn + j) ((bs.drop t).drop (stN f (bs.drop t) (1 + pn + j)).2.1) := ⟨_, rfl⟩
            rw [← hg] at hca
            have HBD := Lib.hid fun (hE : g.2.2 ≠ 0) => HBAD.out (1 + pn + j) g.2.2 (by have := HP.out; omega) hc.ok (by rw [hg]) hE
            have HGE := Lib.hid hg
            have HCA2 := Lib.hid hca
            have HLJ := Lib.hid hl
            have HLL := Lib.hid hll
            obtain ⟨V, N, E⟩ := g
            dsimp only at HCA2 HBD
            clear hc hg hca hd hj hl hll
            by_cases hE : E = 0
            · subst hE
              go_wp2_with fail
              refine HCA2.out.mono ?_
              rintro e w3 ⟨rfl, hi, hk⟩
              have HC3 := Lib.hid (HCj.out.got HG.out hk (by rw [← HGE.out]) (by rw [← HGE.out]; exact hi (by trivial)))
              clear hi hk
              have HC4 := Lib.hid (HC3.out.on HG.out ((Kept.refl _ _).alloc (.cells #[.int .u64 (V : Int)] 28)))
              obtain ⟨a, c, ea⟩ := HC3.out.o2.slice
              rw [← HLJ.out] at ea
              subst ea
              have hcell := fun i => cell_of_row _ qd i _ _ _ HC3.out.bd
              have hcc := hcell 3
              replace hcc : w3.cell? ⟨qd, 3, none⟩ = some (.slice a l.length c) := hcc.trans rfl
              clear hcell
              have ho4 := HC4.out.o2
              rw [← HLJ.out] at ho4
              have HO4 := Lib.hid ho4
              have HND := Lib.hid (own_box ho4 HC4.out.bd (by decide))
              have HLM := Lib.hid (show l.length ≤ 1000000 by rw [HLL.out]; have := HD.out; have := HP.out; omega)
              clear ho4
              go_wp2_with (at_builtin; refine wpList_ownU rfl (.tmp 55) (.tmp 57) rfl W (.slice a l.length c) l rfl HO4.out HC4.out.kp.size _ V rfl (src_oneU w3 (.int .u64 (V : Int)) rfl) HLM.out ?_; intro v5 w5 ho hk5 hat; obtain ⟨a5, c5, e5⟩ := ho.slice; obtain ⟨n5, hn5⟩ : ∃ n, n = (l ++ [V]).length := ⟨_, rfl⟩; rw [← hn5] at e5; subst e5; have HN5 := Lib.hid hn5; have HO := Lib.hid (And.intro ho (And.intro hk5 hat)); have hb5 := hk5.same HC4.out.bd HND.out; have HB5 := Lib.hid hb5; have hf5 : w5.frozen? ⟨qd, 3, none⟩ = false := (by simp [World.frozen?, hb5]); have hc5 : w5.cell? ⟨qd, 3, none⟩ = some (.slice a l.length c) := ((cell_of_row _ qd 3 _ _ _ hb5).trans rfl); clear ho hk5 hat hb5 hn5)
              have hc6 := HC4.out
              rw [← HLJ.out] at hc6
              have HC6 := Lib.hid (hc6.app2 HG.out HO.out.1 HO.out.2.1 HO.out.2.2)
              have HNX : Hid ((stN f (bs.drop t) (1 + pn + (j + 1))).1.drop (1 + pn) = l ++ [V]) := Lib.hid (by have hh := stN_last f (bs.drop t) (1 + pn + j) HCj.out.ok (by rw [← HGE.out]) (1 + pn) (by omega); rw [← HGE.out, ← HLJ.out] at hh; exact hh)
              clear hc6 hcc hf5 hc5
              go_wp2
              go_roundg (nn - (j + 1))
              case measure => have := HD.out; omega
              case rel => exact ⟨j + 1, HD.out, rfl, rfl, _, _, by rw [HNX.out]; exact HC6.out⟩
            · have q0 : ((E : Int) != 0) = true := bneT (by omega)
              have HNE := Lib.hid hE
              clear hE
              go_wp2_with fail
              refine HCA2.out.mono ?_
              rintro e w3 ⟨rfl, hi, hk⟩
              have hbb := HCj.out.bad HG.out hk
              have HBr := Lib.hid hbb.1
              have HKr := Lib.hid hbb.2
              clear hi hk hbb
              obtain ⟨y0, y1, y2, y3, y4, y5⟩ := HBr.out.c
              obtain ⟨f0, f1, f2, f3, f4, f5⟩ := HBr.out.f
              dsimp only [zeroH] at y0 y1 y2 y3 y4 y5
              go_wp2
              try simp only [Exit.inBlock, Exit.then]
              refine hist_end (h := zeroH) (pv := .slice none 0 0) (nv := .slice none 0 0) Tryd.results92 rfl rfl rfl (HBr.out.set zeroH (.slice none 0 0) (.slice none 0 0)) ?_
              have hR := HBD.out HNE.out
              rw [hR]
              exact ⟨_, _, rfl, OwnU.nil _ _, OwnU.nil _ _, HKr.out.new (set6_kept _ _ _ _ _ _ _ _) (by have := HQ.out; omega), fun e => absurd e HNE.out⟩
          · obtain rfl : nn = j := by omega
            clear hd hc hl hll hj
            go_wp2
            go_roundg 0
            case measure => omega
            case rel => exact ⟨2, by omega, rfl, rfl, .inr (.inr ⟨rfl, u1, u2, HCj.out⟩)⟩
      · obtain ⟨l1, hl1⟩ : ∃ l, l = (stN f (bs.drop t) (1 + pn)).1.drop 1 := ⟨_, rfl⟩
        obtain ⟨l2, hl2⟩ : ∃ l, l = (stN f (bs.drop t) (1 + pn + nn)).1.drop (1 + pn) := ⟨_, rfl⟩
        rw [← hl1, ← hl2] at hc
        obtain ⟨a1, c1, rfl⟩ := hc.o1.slice
        obtain ⟨a2, c2, rfl⟩ := hc.o2.slice
        have hok := hc.ok
        have h1 := stN_take f (bs.drop t) (1 + pn + nn) 1 hok (by omega)
        have h2 := stN_take f (bs.drop t) (1 + pn + nn) (1 + pn) hok (by omega)
        rw [HST.out] at h1
        have hmk : mkH ⟨sc, po, pn, no, nn⟩ (stN f (bs.drop t) (1 + pn + nn)).1 = ⟨sc, V0, po, l1, no, l2⟩ := by
          unfold mkH
          dsimp only
          have e1 : (stN f (bs.drop t) (1 + pn + nn)).1.getD 0 0 = V0 := by cases hv : (stN f (bs.drop t) (1 + pn + nn)).1 with | nil => rw [hv] at h1; simp at h1 | cons x y => rw [hv] at h1; simpa using h1
          have e2 : ((stN f (bs.drop t) (1 + pn + nn)).1.drop 1).take pn = l1 := by rw [hl1, ← h2, List.drop_take, Nat.add_sub_cancel_left]
          rw [e1, e2, hl2]
        have hgood := HGOOD.out hok
        rw [hmk] at hgood
        have hb64 := stN_u64 f HG.out.u64 (bs.drop t) (1 + pn + nn)
        have hb641 := stN_u64 f HG.out.u64 (bs.drop t) (1 + pn)
        have hll1 : l1.length = pn := by rw [hl1, List.length_drop, stN_len f (bs.drop t) _ (stN_down f (bs.drop t) _ (1 + pn) hok (by omega))]; omega
        have hll2 : l2.length = nn := by rw [hl2, List.length_drop, stN_len f (bs.drop t) _ hok]; omega
        have hv0 : V0 < 18446744073709551616 := by have := HG.out.u64 0 (bs.drop t); rw [← HG0.out] at this; exact this
        have hhok : HistV.ok ⟨sc, V0, po, l1, no, l2⟩ := ⟨HI.out.1, hv0, HI.out.2.1, fun x hx => hb641 x (by rw [hl1] at hx; exact List.mem_of_mem_drop hx), HI.out.2.2, fun x hx => hb64 x (by rw [hl2] at hx; exact List.mem_of_mem_drop hx)⟩
        have HCk := Lib.hid hc
        have HCH := Lib.hid fun w' (k : Kept (fun _ => False) wr w') => histCheck_any ⟨sc, V0, po, l1, no, l2⟩ _ _ w' ⟨(hc.o1.at_.kept k (fun _ _ x => x)), (hc.o2.at_.kept k (fun _ _ x => x))⟩ hhok (by dsimp only; have := HP.out; omega) (by dsimp only; have := HP.out; omega)
        obtain ⟨E, hE⟩ : ∃ E, E = HistV.err ⟨sc, V0, po, l1, no, l2⟩ := ⟨_, rfl⟩
        rw [← hE] at HCH hgood
        unfold histV at HCH
        dsimp only at HCH
        have HRG := Lib.hid hgood
        obtain ⟨w5, hw5⟩ : ∃ w', w' = wr.alloc (.cells #[.int .i64 sc, .int .u64 (V0 : Int), .int .i64 po, .slice a1 l1.length c1, .int .i64 no, .slice a2 l2.length c2] 62) := ⟨_, rfl⟩
        obtain ⟨qh, hqh⟩ : ∃ q, q = wr.heap.size := ⟨_, rfl⟩
        have k5 : Kept (fun _ => False) wr w5 := by rw [hw5]; exact (Kept.refl _ _).alloc _
        have HB5 := Lib.hid (show HistBox w5 qh ⟨sc, V0, po, l1, no, l2⟩ (.slice a1 l1.length c1) (.slice a2 l2.length c2) by rw [hw5, hqh]; exact heap_alloc_new wr _)
        have HQN := Lib.hid (show qh ≠ qr by have := (Array.getElem?_eq_some_iff.1 hc.br).1; omega)
        have HK5 := Lib.hid k5
        have HW5 := Lib.hid hw5
        have HQ5 := Lib.hid hqh
        have s0 : wr.cell? ⟨qs, 0, none⟩ = some (.int .i64 sc) := (ShBox.c hc.bs).1
        have hcell := fun i => cell_of_row _ qd i _ _ _ hc.bd
        have d0 : wr.cell? ⟨qd, 0, none⟩ = some (.int .i64 po) := (hcell 0).trans rfl
        have d1 : wr.cell? ⟨qd, 1, none⟩ = some (.slice a1 l1.length c1) := (hcell 1).trans rfl
        have d2 : wr.cell? ⟨qd, 2, none⟩ = some (.int .i64 no) := (hcell 2).trans rfl
        have d3 : wr.cell? ⟨qd, 3, none⟩ = some (.slice a2 l2.length c2) := (hcell 3).trans rfl
        clear hcell hw5 hqh k5 hc hok h1 h2 hmk hgood hb64 hb641 hll1 hll2 hv0 hhok hE hl1 hl2
        go_upto_region 17 with fail
        rw [← HW5.out, ← HQ5.out]
        have hkd := HK5.out.trans (Kept.refl (fun _ => False) w5).drew
        have HSSa : Hid ((fun w' => w'.cell? ⟨qh, 0, none⟩ = some (.int .i64 sc) ∧ w'.cell? ⟨qh, 1, none⟩ = some (.int .u64 (V0 : Int)) ∧ w'.cell? ⟨qh, 2, none⟩ = some (.int .i64 po) ∧ w'.cell? ⟨qh, 3, none⟩ = some (.slice a1 l1.length c1) ∧ w'.cell? ⟨qh, 4, none⟩ = some (.int .i64 no) ∧ w'.cell? ⟨qh, 5, none⟩ = some (.slice a2 l2.length c2)) w5.drew) := by
          obtain ⟨x0, x1, x2, x3, x4, x5⟩ := HistBox.c (h := ⟨sc, V0, po, l1, no, l2⟩) (HB5.out.same (Kept.refl (fun _ => False) w5).drew (fun x => x))
          exact Lib.hid ⟨x0, x1, x2, x3, x4, x5⟩
        have HKD := Lib.hid hkd
        clear hkd s0 d0 d1 d2 d3
        refine AnyBut.start (S := fun w' => w'.cell? ⟨qh, 0, none⟩ = some (.int .i64 sc) ∧ w'.cell? ⟨qh, 1, none⟩ = some (.int .u64 (V0 : Int)) ∧ w'.cell? ⟨qh, 2, none⟩ = some (.int .i64 po) ∧ w'.cell? ⟨qh, 3, none⟩ = some (.slice a1 l1.length c1) ∧ w'.cell? ⟨qh, 4, none⟩ = some (.int .i64 no) ∧ w'.cell? ⟨qh, 5, none⟩ = some (.slice a2 l2.length c2)) (k := 4) (by kernel_rfl) ?_
        refine AnyBut.take (i := 0) (v := ?v1) rfl (by kernel_rfl) (by kernel_rfl) (by kernel_rfl) (by kernel_rfl) (fun _ _ _ h => h) (HSSa.out) (Or.inl ⟨by kernel_rfl, ?hy1⟩) ?r1
        case hy1 =>
          intro w hSw
          try dsimp only at hSw
          go_simp
          try with_reducible rfl
        try simp only [Act.put, List.getElem_toArray, List.getElem_cons_zero, List.setIfInBounds_toArray, List.set_cons_zero, List.set_cons_succ]
        refine AnyBut.take (i := 1) (v := ?v2) rfl (by kernel_rfl) (by kernel_rfl) (by kernel_rfl) (by kernel_rfl) (fun _ _ _ h => h) (HSSa.out) (Or.inl ⟨by kernel_rfl, ?hy2⟩) ?r2
        case hy2 =>
          intro w hSw
          try dsimp only at hSw
          go_simp
          try with_reducible rfl
        try simp only [Act.put, List.getElem_toArray, List.getElem_cons_succ, List.getElem_cons_zero, List.setIfInBounds_toArray, List.set_cons_zero, List.set_cons_succ]
        refine AnyBut.one (i := 2) (by kernel_rfl) rfl (fun K hK => ?_)
        go_simp
        go_wp2_with fail
        refine (HCH.out _ HKD.out).mono ?_
        rintro e w6 ⟨rfl, k6⟩
        have HB6 := Lib.hid (HistBox.same HB5.out ((Kept.refl (fun _ => False) w5).drew.trans k6) (fun x => x))
        have HC6 := Lib.hid (HCk.out.on HG.out (HKD.out.trans k6))
        clear k6
        have HSSb : Hid ((fun w' => w'.cell? ⟨qh, 0, none⟩ = some (.int .i64 sc) ∧ w'.cell? ⟨qh, 1, none⟩ = some (.int .u64 (V0 : Int)) ∧ w'.cell? ⟨qh, 2, none⟩ = some (.int .i64 po) ∧ w'.cell? ⟨qh, 3, none⟩ = some (.slice a1 l1.length c1) ∧ w'.cell? ⟨qh, 4, none⟩ = some (.int .i64 no) ∧ w'.cell? ⟨qh, 5, none⟩ = some (.slice a2 l2.length c2)) w6) := by
          obtain ⟨x0, x1, x2, x3, x4, x5⟩ := HistBox.c (h := ⟨sc, V0, po, l1, no, l2⟩) HB6.out
          exact Lib.hid ⟨x0, x1, x2, x3, x4, x5⟩
        obtain ⟨y0, y1, y2, y3, y4, y5⟩ := HC6.out.br.c
        obtain ⟨f0, f1, f2, f3, f4, f5⟩ := HC6.out.br.f
        dsimp only [zeroH] at y0 y1 y2 y3 y4 y5
        go_wp2
        refine hK.out _ _ (HSSb.out) ?_
        clear hK K
        try simp only [Act.put, List.getElem_toArray, List.getElem_cons_succ, List.getElem_cons_zero, List.setIfInBounds_toArray, List.set_cons_zero, List.set_cons_succ]
        refine AnyBut.one (i := 3) (by kernel_rfl) rfl (fun K hK => ?_)
        have HSSc : Hid ((fun w' => w'.cell? ⟨qh, 0, none⟩ = some (.int .i64 sc) ∧ w'.cell? ⟨qh, 1, none⟩ = some (.int .u64 (V0 : Int)) ∧ w'.cell? ⟨qh, 2, none⟩ = some (.int .i64 po) ∧ w'.cell? ⟨qh, 3, none⟩ = some (.slice a1 l1.length c1) ∧ w'.cell? ⟨qh, 4, none⟩ = some (.int .i64 no) ∧ w'.cell? ⟨qh, 5, none⟩ = some (.slice a2 l2.length c2)) (set6 w6 qr (.int .i64 sc) (.int .u64 (V0 : Int)) (.int .i64 po) (.slice a1 l1.length c1) (.int .i64 no) (.slice a2 l2.length c2))) := by
          obtain ⟨x0, x1, x2, x3, x4, x5⟩ := HistBox.c (h := ⟨sc, V0, po, l1, no, l2⟩) (HistBox.same HB6.out (set6_kept w6 qr (.int .i64 sc) (.int .u64 (V0 : Int)) (.int .i64 po) (.slice a1 l1.length c1) (.int .i64 no) (.slice a2 l2.length c2)) HQN.out)
          exact Lib.hid ⟨x0, x1, x2, x3, x4, x5⟩
        go_simp
        refine hK.out _ _ (HSSc.out) ?_
        clear hK K
        try simp only [Act.put, List.getElem_toArray, List.getElem_cons_succ, List.getElem_cons_zero, List.setIfInBounds_toArray, List.set_cons_zero, List.set_cons_succ]
        refine AnyBut.last (by kernel_rfl) rfl (by kernel_rfl) (fun K hK => ?_)
        go_simp
        refine hK.out _ _ ?_
        clear hK K
        try simp only [Act.put, List.getElem_toArray, List.getElem_cons_succ, List.getElem_cons_zero, List.setIfInBounds_toArray, List.set_cons_zero, List.set_cons_succ]
        go_wp2
        try simp only [Exit.inBlock, Exit.then]
        refine hist_end (h := ⟨sc, V0, po, l1, no, l2⟩) (pv := .slice a1 l1.length c1) (nv := .slice a2 l2.length c2) Tryd.results92 rfl rfl rfl (HC6.out.br.set ⟨sc, V0, po, l1, no, l2⟩ (.slice a1 l1.length c1) (.slice a2 l2.length c2)) ?_
        have hR := HRG.out
        rw [hR]
        have hk7 := set6_kept w6 qr (.int .i64 sc) (.int .u64 (V0 : Int)) (.int .i64 po) (.slice a1 l1.length c1) (.int .i64 no) (.slice a2 l2.length c2)
        refine ⟨_, _, rfl, HC6.out.o1.kept hk7 (fun j hj e => own_box HC6.out.o1 HC6.out.br (by decide) (by rw [hj, e])), HC6.out.o2.kept hk7 (fun j hj e => own_box HC6.out.o2 HC6.out.br (by decide) (by rw [hj, e])), HC6.out.kp.new hk7 HC6.out.new.2.1, fun _ => ?_⟩
        refine HG.out.keep _ _ _ _ HC6.out.inv (hk7.mono ?_)
        exact fun j _ e => by rw [e]; exact HC6.out.new.2.1
  · have q0 : ((E0 : Int) != 0) = true := bneT (by omega)
    have HNE := Lib.hid hE
    clear hE
    go_enter Tryd.func92, Tryd.ntmps92
    go_upto_region 1 with fail
    rw [← HW0.out, ← HQ.out.1]
    try rw [← HQ.out.2]
    go_wp2_with fail
    refine HCA.out.mono ?_
    rintro e w1 ⟨rfl, hi, hk⟩
    have HBr := Lib.hid (HR0.out.same hk (fun e => by have := HG.out.old _ e; have := HQ.out; omega))
    have HKr := Lib.hid ((show Kept S W w0 from keptTo HK0.out).trans hk)
    clear hi hk
    obtain ⟨y0, y1, y2, y3, y4, y5⟩ := HBr.out.c
    obtain ⟨f0, f1, f2, f3, f4, f5⟩ := HBr.out.f
    dsimp only [zeroH] at y0 y1 y2 y3 y4 y5
    go_wp2
    try simp only [Exit.inBlock, Exit.then]
    refine hist_end (h := zeroH) (pv := .slice none 0 0) (nv := .slice none 0 0) Tryd.results92 rfl rfl rfl (HBr.out.set zeroH (.slice none 0 0) (.slice none 0 0)) ?_
    have hR := HB0.out HNE.out
    rw [hR]
    exact ⟨_, _, rfl, OwnU.nil _ _, OwnU.nil _ _, HKr.out.new (set6_kept _ _ _ _ _ _ _ _) (by have := HQ.out; omega), fun e => absurd e HNE.out⟩
end Go.Proofs.YtjpnfadmblmjbaaDoor
/- package histbits: getAlike. -/
namespace Go.Proofs.YtjpnfadmblmjbaaDoor
open Go.RowKit
attribute [local go_sem ↓] Go.wp_at_zero Go.wp_at_succ

theorem addU_wrap (a : Nat) (z : Int) : IntKind.u64.wrap ((a : Int) + IntKind.u64.wrap z) = ((addU a z : Nat) : Int) := by
  rw [IntKind.wrap_u64, IntKind.wrap_u64]
  unfold addU
  omega
def SlcBox (w : World) (b : Nat) (v : Value) : Prop := w.heap[b]? = some (.cells #[v] 22 (0, 0))
def IntBox (w : World) (b i : Nat) : Prop := w.heap[b]? = some (.cells #[.int .i64 (i : Int)] 3 (0, 0))
theorem block_ne {w : World} {a b : Nat} {cs ds : Array Value} {T U : TypeId} {fr fs : Nat × Nat} (ha : w.heap[a]? = some (.cells cs T fr)) (hb : w.heap[b]? = some (.cells ds U fs)) (h : T ≠ U) : a ≠ b := by
  rintro rfl
  rw [ha] at hb
  injection hb with hb
  injection hb with _ e
  exact h e

set_option maxHeartbeats 1000000 in
theorem alikeFn_any (B p rb lb ib i : Nat) (v : Value) (ao : Option Addr) (c : Nat) (D : List Nat) (bs : List Bool) (t : Nat) (w : World) (HR : BrAt w B p v bs t) (hB : B ≤ w.heap.size) (hl : bs.length ≤ 100000000) (HT : ClassTab w)
    (hr : PtrBox w rb p) (hlb : SlcBox w lb (.slice ao D.length c)) (hib : IntBox w ib i) (hD : SlAt w (.slice ao D.length c) (uvals D)) (hi : i < D.length) (hdl : D.length ≤ 1000000) :
    Calls Tryd.prog 96 #[.pointer (some ⟨rb, 0, none⟩), .pointer (some ⟨lb, 0, none⟩), .pointer (some ⟨ib, 0, none⟩)] w fun e w' =>
      e = .returned (.tuple #[.int .u64 ((readD D i (bs.drop t)).1 : Int), .int .i64 ((readD D i (bs.drop t)).2.2 : Int)]) ∧ BrAt w' B p v bs (t + (readD D i (bs.drop t)).2.1) ∧ IntBox w' ib (i + 1) ∧ Kept (fun k => k = p ∨ k = ib) w w' := by
  have HG := Lib.hid (varyGetInt_any B p v bs t w HR hB hl HT)
  have c0 := hr.c
  obtain ⟨G, hG⟩ : ∃ G, G = gotSmall (bs.drop t) := ⟨_, rfl⟩
  unfold readD
  rw [← hG] at HG ⊢
  dsimp only
  have hadd := addU_wrap (D.getD i 0) (zagI (G.1 : Int))
  obtain ⟨Z, hZ⟩ : ∃ Z, Z = zagI (G.1 : Int) := ⟨_, rfl⟩
  rw [← hZ] at HG hadd ⊢
  obtain ⟨A, hA⟩ : ∃ A, A = addU (D.getD i 0) Z := ⟨_, rfl⟩
  rw [← hA] at hadd ⊢
  obtain ⟨gb, off, rfl, hcell⟩ := hD.elem (uvals_get (l := D) (j := i) hi)
  obtain ⟨x, hx⟩ : ∃ x, x = D.getD i 0 := ⟨_, rfl⟩
  rw [← hx] at hadd hcell
  obtain ⟨U, hU⟩ : ∃ u, u = IntKind.u64.wrap Z := ⟨_, rfl⟩
  rw [← hU] at hadd
  replace hU := hU.symm
  have HBX := Lib.hid (show ∀ w1, Kept (fun k => k = p) w w1 → w1.cell? ⟨gb, off + i, none⟩ = some (.int .u64 (x : Int)) from fun w1 k => k.cell hcell (fun e => by
    have hg : gb = p := e
    obtain ⟨o, ho⟩ : ∃ o, w.heap[gb]? = some o := ⟨_, Array.getElem?_eq_some_iff.2 ⟨World.block_lt_of_cell? _ _ hcell, rfl⟩⟩
    rw [hg, HR.box] at ho
    subst hg
    have hc := fun j => cell_of_row _ gb j _ _ _ HR.box
    rw [hc] at hcell
    rcases hj : off + i with _ | _ | _ | k
    · rw [hj] at hcell; obtain ⟨b1, c1, e1⟩ := ownsRow_slice HR.owns; rw [e1] at hcell; simp at hcell
    · rw [hj] at hcell; simp at hcell
    · rw [hj] at hcell; simp at hcell
    · rw [hj] at hcell; simp at hcell))
  have HPB := Lib.hid (show lb ≠ p ∧ ib ≠ p ∧ v.ownBlock ≠ some ib from ⟨block_ne hlb HR.box (by decide), block_ne hib HR.box (by decide), own_box HR.owns hib (by decide)⟩)
  have HLB := Lib.hid hlb
  have HIB := Lib.hid hib
  have wi : IntKind.i64.wrap ((i : Int) + 1) = ((i + 1 : Nat) : Int) := by rw [IntWalk.i64_in _ ⟨by omega, by omega⟩]; omega
  have hid' : (i : Int) < (D.length : Int) := by omega
  obtain ⟨E, hE⟩ : ∃ E, E = G.2.2 := ⟨_, rfl⟩
  obtain ⟨N, hN⟩ : ∃ E, E = G.2.1 := ⟨_, rfl⟩
  rw [← hE, ← hN] at HG ⊢
  obtain ⟨dl, hdn⟩ : ∃ n, n = D.length := ⟨_, rfl⟩
  rw [← hdn] at HLB hid'
  clear HR HT hr hG hlb hib hD hcell hZ hA hx hdn hi hdl hE hN
  go_enter Tryd.func96, Tryd.ntmps96
  go_wp2_with fail
  refine HG.out.mono ?_
  rintro e w1 ⟨rfl, hb, hk⟩
  have HB1 := Lib.hid (And.intro hb hk)
  have hl1 := hk.same HLB.out HPB.out.1
  have hi1 := hk.same HIB.out HPB.out.2.1
  have HI1 := Lib.hid hi1
  have l0 : w1.cell? ⟨lb, 0, none⟩ = some (.slice (some ⟨gb, off, none⟩) dl c) := (cell_of_row _ _ 0 _ _ _ hl1).trans rfl
  have i0 : w1.cell? ⟨ib, 0, none⟩ = some (.int .i64 (i : Int)) := (cell_of_row _ _ 0 _ _ _ hi1).trans rfl
  have e0 := HBX.out w1 hk
  have f0 : w1.frozen? ⟨ib, 0, none⟩ = false := by simp [World.frozen?, hi1]
  clear hb hk hl1 hi1
  go_wp2
  try simp only [Exit.inBlock, Exit.then]
  refine bodyPost_ret (results_tmp2 rfl _ _ _) rfl ?_
  have hk2 := (Kept.refl (fun k => k = ib) w1).setCell (p := ⟨ib, 0, none⟩) (fun _ => rfl) (.int .i64 ((i + 1 : Nat) : Int))
  refine ⟨rfl, HB1.out.1.kept hk2 (fun e => HPB.out.2.1 e.symm) (fun k e e2 => HPB.out.2.2 (by rw [e, e2])), heap_setCell_same _ _ 0 _ _ (.int .i64 ((i + 1 : Nat) : Int)) HI1.out, ?_⟩
  exact (HB1.out.2.mono (fun _ _ e => .inl e)).step hk2 (fun _ _ e => .inr e)
end Go.Proofs.YtjpnfadmblmjbaaDoor
/- package histbits: getAlike; what its calls stand on. -/
namespace Go.Proofs.YtjpnfadmblmjbaaDoor
open Go.RowKit
attribute [local go_sem ↓] Go.wp_at_zero Go.wp_at_succ

/-- A function with a body is entered. -/
theorem run_body {f : FuncId} {fn : Func} (hf : Tryd.prog.funcs[f]? = some fn) (hn : (fn.name == "runtime.NumGoroutine") = false) (hb : fn.body.isSome = true) (args : Array Value) (w : World) :
    (callFunc f args).run Tryd.prog w = .ok (.enter f args) w := by
  have h1 : fn.name ≠ "runtime.NumGoroutine" := by simpa using hn
  obtain ⟨c, hc⟩ := Option.isSome_iff_exists.1 hb
  simp [callFunc, hf, h1, hc]
theorem enter_next (w : World) (caps : Array Value) : (callFunc 93 caps).run Tryd.prog w = .ok (.enter 93 caps) w :=
  run_body Tryd.func93 (by kernel_rfl) (by kernel_rfl) caps w
theorem enter_alike (w : World) (caps : Array Value) : (callFunc 96 caps).run Tryd.prog w = .ok (.enter 96 caps) w :=
  run_body Tryd.func96 (by kernel_rfl) (by kernel_rfl) caps w
/-- What getAlike's function stands on. -/
structure AlikeI (W0 : World) (n0 B p rb lb ib : Nat) (v lv : Value) (D : List Nat) (bs : List Bool) (i t : Nat) (w : World) : Prop where
  br : BrAt w B p v bs t
  hB : B ≤ w.heap.size
  ct : ClassTab w
  pbx : PtrBox w rb p
  lbx : SlcBox w lb lv
  ibx : IntBox w ib i
  ow : OwnU W0 w lv D
  old : p < n0 ∧ rb < n0 ∧ lb < n0 ∧ ib < n0
  ov : ∀ k, v.ownBlock = some k → k < n0
  ol : ∀ k, lv.ownBlock = some k → k < n0
  pos : 0 < B ∧ 0 < ib ∧ 0 < n0
theorem alike_getter {W W0 : World} {B p rb lb ib : Nat} {v lv : Value} {D : List Nat} {bs : List Bool} (hl : bs.length ≤ 100000000) (hdl : D.length ≤ 1000000) (hp : p < W.heap.size) (hib : ib < W.heap.size) :
    Getter W bs D.length (readD D) 96 #[.pointer (some ⟨rb, 0, none⟩), .pointer (some ⟨lb, 0, none⟩), .pointer (some ⟨ib, 0, none⟩)] (fun k => k = p ∨ k = ib) (AlikeI W0 W.heap.size B p rb lb ib v lv D bs) := by
  refine ⟨?_, ?_, ?_, fun w => enter_alike w _, fun j b => addU_lt _ _⟩
  · intro i t w h hi
    obtain ⟨a, c, rfl⟩ := h.ow.slice
    refine (alikeFn_any B p rb lb ib i v a c D bs t w h.br h.hB hl h.ct h.pbx h.lbx h.ibx h.ow.at_ hi hdl).mono ?_
    rintro e w' ⟨he, hb, hi', hk⟩
    refine ⟨he, fun _ => ?_, hk⟩
    have n1 : rb ≠ p := block_ne h.pbx h.br.box (by decide)
    have n2 : rb ≠ ib := block_ne h.pbx h.ibx (by decide)
    have n3 : lb ≠ p := block_ne h.lbx h.br.box (by decide)
    have n4 : lb ≠ ib := block_ne h.lbx h.ibx (by decide)
    have hbp := h.br.base
    refine ⟨hb, Nat.le_trans h.hB hk.size, h.ct.keptS hk ?_, hk.same h.pbx ?_, hk.same h.lbx ?_, hi', h.ow.kept hk ?_, h.old, h.ov, h.ol, h.pos⟩
    · have := h.pos; omega
    · rintro (e | e); exact n1 e; exact n2 e
    · rintro (e | e); exact n3 e; exact n4 e
    · rintro j hj (e | e)
      · exact own_box h.ow h.br.box (by decide) (by rw [hj, e])
      · exact own_box h.ow h.ibx (by decide) (by rw [hj, e])
  · intro i t w w' h k
    have ho := h.old
    refine ⟨h.br.kept k (by omega) (fun j hj => by have := h.ov j hj; omega), Nat.le_trans h.hB k.size, h.ct.keptS k (by have := h.pos; omega), k.same h.pbx (by omega), k.same h.lbx (by omega), k.same h.ibx (by omega), h.ow.kept k (fun j hj => by have := h.ol j hj; omega), h.old, h.ov, h.ol, h.pos⟩
  · rintro k (rfl | rfl) <;> assumption
/-- What next's function stands on. -/
structure NextI (n0 B p rb : Nat) (v : Value) (bs : List Bool) (i t : Nat) (w : World) : Prop where
  br : BrAt w B p v bs t
  hB : B ≤ w.heap.size
  ct : ClassTab w
  pb : PtrBox w rb p
  old : p < n0 ∧ rb < n0
  ov : ∀ k, v.ownBlock = some k → k < n0
  pos : 0 < B ∧ 0 < n0
theorem next_getter {W : World} {B p rb n : Nat} {v : Value} {bs : List Bool} (hl : bs.length ≤ 100000000) (hp : p < W.heap.size) :
    Getter W bs n readF 93 #[.pointer (some ⟨rb, 0, none⟩)] (fun k => k = p) (NextI W.heap.size B p rb v bs) := by
  refine ⟨?_, ?_, ?_, fun w => enter_next w _, fun j b => gotSmall_u64 b⟩
  · intro i t w h _
    refine (nextFn_any B p rb v bs t w h.br h.hB hl h.ct h.pb).mono ?_
    rintro e w' ⟨he, hb, hk⟩
    refine ⟨he, fun _ => ?_, hk⟩
    have n1 : rb ≠ p := block_ne h.pb h.br.box (by decide)
    have hbp := h.br.base
    exact ⟨hb, Nat.le_trans h.hB hk.size, h.ct.keptS hk (by have := h.pos; omega), hk.same h.pb n1, h.old, h.ov, h.pos⟩
  · intro i t w w' h k
    have ho := h.old
    exact ⟨h.br.kept k (by omega) (fun j hj => by have := h.ov j hj; omega), Nat.le_trans h.hB k.size, h.ct.keptS k (by have := h.pos; omega), k.same h.pb (by omega), h.old, h.ov, h.pos⟩
  · rintro k rfl; exact hp
theorem OwnU.down {W W0 w : World} {v : Value} {l : List Nat} (h : OwnU W w v l) (hk : W0.heap.size ≤ W.heap.size) : OwnU W0 w v l := by
  refine ⟨h.1, ?_⟩
  rcases h.2 with h0 | ⟨g, cap, cur, e, hg, rest⟩
  · exact .inl h0
  · exact .inr ⟨g, cap, cur, e, Nat.le_trans hk hg, rest⟩
/-- What taking a histogram answers and leaves. -/
def GotTo (w : World) (B p : Nat) (v : Value) (bs : List Bool) (t : Nat) (R : HistV × Nat × Nat) (e : Ending) (w' : World) : Prop :=
  ∃ pv nv, e = .returned (.tuple #[histV R.1 pv nv, .int .i64 (R.2.2 : Int)]) ∧ OwnU w w' pv R.1.pl ∧ OwnU w w' nv R.1.nl ∧ Kept (fun k => k = p) w w' ∧ (R.2.2 = 0 → BrAt w' B p v bs (t + R.2.1))
end Go.Proofs.YtjpnfadmblmjbaaDoor
/- package histbits: getAlike (written by tools/gen_XZ17.py). -/
namespace Go.Proofs.YtjpnfadmblmjbaaDoor
open Go.RowKit
attribute [local go_sem ↓] Go.wp_at_zero Go.wp_at_succ

set_option maxHeartbeats 8000000 in
set_option maxRecDepth 100000 in
theorem getAlike_any (B p r n : Nat) (v gp gn : Value) (g : HistV) (bs : List Bool) (t : Nat) (w : World) (HR : BrAt w B p v bs t) (hB : B ≤ w.heap.size) (hB0 : 0 < B) (hl : bs.length ≤ 100000000) (HT : ClassTab w)
    (hrow : HRow w r n g gp gn) (hga : HistAt w g gp gn) (hgo : g.ok) (hgpl : g.pl.length ≤ 160) (hgnl : g.nl.length ≤ 160) :
    Calls Tryd.prog 90 #[.pointer (some ⟨r, 0, none⟩), .pointer (some ⟨p, 0, none⟩)] w (GotTo w B p v bs t (if n = 0 then (zeroH, 0, 3) else gotC (readD (cntL g)) (shOf g) (bs.drop t))) := by
  obtain ⟨⟨a1, c1, rfl⟩, a2, c2, rfl⟩ := hga.sl
  have hlt := HR.lt
  obtain ⟨w0, hw0⟩ : ∃ w0, w0 = (w.alloc (.cells #[.pointer (some ⟨p, 0, none⟩)] 38)).alloc (.cells #[.int .i64 0, .int .u64 0, .int .i64 0, .slice none 0 0, .int .i64 0, .slice none 0 0] 62) := ⟨_, rfl⟩
  have k0 : Kept (fun _ => False) w w0 := by rw [hw0]; exact ((Kept.refl _ _).alloc _).alloc _
  have HP0 := Lib.hid (show PtrBox w0 w.heap.size p by rw [hw0]; exact ((Kept.refl (fun _ => False) _).alloc _).same (heap_alloc_new w _) (fun x => x))
  have HH0 := Lib.hid (show HistBox w0 (w.heap.size + 1) zeroH (.slice none 0 0) (.slice none 0 0) by unfold HistBox; dsimp only [zeroH]; rw [hw0]; have := heap_alloc_new (w.alloc (.cells #[.pointer (some ⟨p, 0, none⟩)] 38)) (.cells #[.int .i64 0, .int .u64 0, .int .i64 0, .slice none 0 0, .int .i64 0, .slice none 0 0] 62); simpa using this)
  have HK0 := Lib.hid k0
  have HW0 := Lib.hid hw0
  have hsz0 : w0.heap.size = w.heap.size + 2 := by rw [hw0]; simp
  have HB0 := Lib.hid (HR.keptF k0)
  have HX0 := Lib.hid (hrow.same k0 (fun x => x))
  have HA0 := Lib.hid (hga.on k0)
  have HT0 := Lib.hid (HT.kept k0)
  have hov : ∀ k, v.ownBlock = some k → k < w.heap.size := fun k e => (ownsRow_lt HR.owns e).1
  obtain ⟨rb, hrb⟩ : ∃ q, q = w.heap.size := ⟨_, rfl⟩
  obtain ⟨qr, hqr⟩ : ∃ q, q = rb + 1 := ⟨_, rfl⟩
  rw [← hrb] at HP0 HH0
  rw [← hqr] at HH0
  have HQ := Lib.hid (And.intro hrb hqr)
  have HSZ := Lib.hid (And.intro hsz0 (And.intro hlt (And.intro hB hB0)))
  have HOV := Lib.hid hov
  have HGO := Lib.hid (And.intro hgo.sc (And.intro hgo.po hgo.no))
  have HGL := Lib.hid (And.intro hgpl hgnl)
  have hsh : (shOf g).val = shapeV g := rfl
  have HSH := Lib.hid fun w' p1 n1 (k : HistAt w' g p1 n1) => shapeOf_any g p1 n1 w' k
  have HCO := Lib.hid fun w' p1 n1 (k : HistAt w' g p1 n1) => countsOf_any g p1 n1 w' k (by omega) (by omega)
  have HCL := Lib.hid (cntL_length g)
  obtain ⟨D, hD⟩ : ∃ D, D = cntL g := ⟨_, rfl⟩
  rw [← hD] at HCO HCL ⊢
  have HGC := Lib.hid fun (W W0 : World) (rb lb ib : Nat) (lv : Value) (h1 : p < W.heap.size) (h2 : ib < W.heap.size) (h0 : AlikeI W0 W.heap.size B p rb lb ib v lv D bs 0 t W) =>
    getCounts_any W bs t (shOf g) (readD D) 96 #[.pointer (some ⟨rb, 0, none⟩), .pointer (some ⟨lb, 0, none⟩), .pointer (some ⟨ib, 0, none⟩)] (fun k => k = p ∨ k = ib) (AlikeI W0 W.heap.size B p rb lb ib v lv D bs)
      (by have := alike_getter (W := W) (W0 := W0) (B := B) (p := p) (rb := rb) (lb := lb) (ib := ib) (v := v) (lv := lv) (D := D) (bs := bs) hl (by rw [HCL.out]; omega) h1 h2; rw [HCL.out] at this; exact this) h0 hgo.sc hgo.po hgo.no hgpl hgnl
  rw [hsh] at HGC
  obtain ⟨R, hR⟩ : ∃ R, R = gotC (readD D) (shOf g) (bs.drop t) := ⟨_, rfl⟩
  rw [← hR] at HGC ⊢
  unfold shapeV at HSH HGC
  unfold histV at HSH HCO
  obtain ⟨gsc, gze, gpo, gpl, gno, gnl⟩ := g
  dsimp only at HSH HCO HGC HGL HGO HX0 HA0 HCL
  obtain ⟨N, hN⟩ : ∃ n, n = D.length := ⟨_, rfl⟩
  rw [← hN] at HCO HCL
  have HN := Lib.hid hN
  clear HR hrow hga hgo HT hw0 k0 hlt hsz0 hov hrb hqr hgpl hgnl hsh hD hR hN hB hB0
  by_cases hn0 : n = 0
  · have q0 : ((n : Int) == 0) = true := beqT (by omega)
    rw [if_pos hn0]
    clear hn0
    go_enter Tryd.func90, Tryd.ntmps90
    go_upto_region 1 with fail
    rw [← HW0.out, ← HQ.out.1]
    try rw [← HQ.out.2]
    obtain ⟨y0, y1, y2, y3, y4, y5, y6⟩ := HRow.c (h := ⟨gsc, gze, gpo, gpl, gno, gnl⟩) HX0.out
    dsimp only at y0 y1 y2 y3 y4 y5 y6
    obtain ⟨x0, x1, x2, x3, x4, x5⟩ := HH0.out.c
    obtain ⟨f0, f1, f2, f3, f4, f5⟩ := HH0.out.f
    dsimp only [zeroH] at x0 x1 x2 x3 x4 x5
    go_wp2
    try simp only [Exit.inBlock, Exit.then]
    refine hist_end (h := zeroH) (pv := .slice none 0 0) (nv := .slice none 0 0) Tryd.results90 rfl rfl rfl (HH0.out.set zeroH (.slice none 0 0) (.slice none 0 0)) ?_
    refine ⟨_, _, rfl, OwnU.nil _ _, OwnU.nil _ _, ?_, fun e => absurd e (by decide)⟩
    exact (show Kept (fun k => k = p) w w0 from keptTo HK0.out).new (set6_kept _ _ _ _ _ _ _ _) (by have := HQ.out; omega)
  · have q0 : ((n : Int) == 0) = false := beqF (by omega)
    rw [if_neg hn0]
    clear hn0
    go_enter Tryd.func90, Tryd.ntmps90
    go_upto_region 1 with fail
    rw [← HW0.out, ← HQ.out.1]
    try rw [← HQ.out.2]
    obtain ⟨y0, y1, y2, y3, y4, y5, y6⟩ := HRow.c (h := ⟨gsc, gze, gpo, gpl, gno, gnl⟩) HX0.out
    dsimp only at y0 y1 y2 y3 y4 y5 y6
    go_wp2_with fail
    refine (HCO.out w0 _ _ HA0.out).mono ?_
    rintro e w1 ⟨a, c, rfl, m1⟩
    have HM1 := Lib.hid m1
    have HB1 := Lib.hid (HB0.out.keptF m1.kept)
    have HX1 := Lib.hid (HX0.out.same m1.kept (fun x => x))
    have HA1 := Lib.hid (HA0.out.on m1.kept)
    have HT1 := Lib.hid (HT0.out.kept m1.kept)
    have HP1 := Lib.hid (m1.kept.same HP0.out (fun x => x))
    have HH1 := Lib.hid (HH0.out.same m1.kept (fun x => x))
    have HK1 := Lib.hid (HK0.out.trans m1.kept)
    clear m1 y0 y1 y2 y3 y4 y5 y6
    go_upto_region 4 with fail
    obtain ⟨w2, hw2⟩ : ∃ w', w' = (w1.alloc (.cells #[.slice a N c] 22)).alloc (.cells #[.int .i64 0] 3) := ⟨_, rfl⟩
    have k2 : Kept (fun _ => False) w1 w2 := by rw [hw2]; exact ((Kept.refl _ _).alloc _).alloc _
    have HL2 := Lib.hid (show SlcBox w2 w1.heap.size (.slice a N c) by rw [hw2]; exact ((Kept.refl (fun _ => False) _).alloc _).same (heap_alloc_new w1 _) (fun x => x))
    have HI2 := Lib.hid (show IntBox w2 (w1.heap.size + 1) 0 by unfold IntBox; rw [hw2]; have := heap_alloc_new (w1.alloc (.cells #[.slice a N c] 22)) (.cells #[.int .i64 0] 3); simpa using this)
    have hs2 : w2.heap.size = w1.heap.size + 2 := by rw [hw2]; simp
    have HW2 := Lib.hid hw2
    obtain ⟨lb, hlb⟩ : ∃ q, q = w1.heap.size := ⟨_, rfl⟩
    obtain ⟨ib, hib⟩ : ∃ q, q = lb + 1 := ⟨_, rfl⟩
    rw [← hlb] at HL2 HI2 ⊢
    rw [← hib] at HI2 ⊢
    rw [← HW2.out]
    have HQ2 := Lib.hid (And.intro hlb (And.intro hib hs2))
    have HX2 := Lib.hid (HX1.out.same k2 (fun x => x))
    have HA2 := Lib.hid (HA1.out.on k2)
    have HK2 := Lib.hid k2
    clear hw2 k2 hs2 hlb hib
    obtain ⟨y0, y1, y2, y3, y4, y5, y6⟩ := HRow.c (h := ⟨gsc, gze, gpo, gpl, gno, gnl⟩) HX2.out
    dsimp only at y0 y1 y2 y3 y4 y5 y6
    have hmf : ∀ (fn : Fn) (first cap : Array Value) (w : World), (Instr.makeFunc fn first cap).run Tryd.prog w = .ok (.func fn first cap) w := fun _ _ _ _ => rfl
    go_wp2_with fail
    refine (HSH.out w2 _ _ HA2.out).mono ?_
    rintro e w3 ⟨rfl, k3⟩
    have HK23 := Lib.hid (HK2.out.trans k3)
    have hsz3 := k3.size
    have hsz1 := HK1.out.size
    have HAI : Hid (AlikeI w0 w3.heap.size B p rb lb ib v (.slice a N c) D bs 0 t w3) := Lib.hid ⟨HB1.out.keptF HK23.out, by have := HSZ.out; have := HK23.out.size; omega, HT1.out.kept HK23.out, HK23.out.same HP1.out (fun x => x), k3.same HL2.out (fun x => x), k3.same HI2.out (fun x => x), (by
        have h1 := (HM1.out.on HK23.out).own
        rw [uvals_length] at h1
        exact h1), by have := HSZ.out; have := HQ.out; have := HQ2.out; omega, fun k e => by have := HOV.out k e; have := HQ2.out; omega, fun k e => by
        have h1 := (ownsRow_lt (HM1.out.on HK23.out).own e).1; exact h1, by have := HSZ.out; have := HQ2.out; omega⟩
    have HH3 := Lib.hid (HistBox.same HH1.out HK23.out (fun x => x))
    have HN3 := Lib.hid (show p < w3.heap.size ∧ ib < w3.heap.size ∧ w.heap.size ≤ w3.heap.size ∧ w.heap.size ≤ ib ∧ qr ≠ p ∧ qr ≠ ib ∧ w.heap.size ≤ qr by have := HSZ.out; have := HQ.out; have := HQ2.out; have := HM1.out.kept.size; omega)
    have HK3 := Lib.hid (HK1.out.trans HK23.out)
    clear k3 hsz3 hsz1 y0 y1 y2 y3 y4 y5 y6
    go_wp2_with fail
    refine (HGC.out w3 w0 rb lb ib _ HN3.out.1 HN3.out.2.1 HAI.out).mono ?_
    rintro e w4 ⟨pv, nv, rfl, o1, o2, k4, hin⟩
    obtain ⟨b1, d1, rfl⟩ := o1.slice
    obtain ⟨b2, d2, rfl⟩ := o2.slice
    obtain ⟨⟨hsc, hze, hpo, hpl, hno, hnl⟩, NN, EE⟩ := R
    have HO := Lib.hid (And.intro o1 (And.intro o2 (And.intro k4 hin)))
    have HH4 := Lib.hid (HistBox.same HH3.out k4 (fun e => by have := HN3.out; omega))
    clear o1 o2 k4 hin
    unfold histV
    dsimp only
    obtain ⟨x0, x1, x2, x3, x4, x5⟩ := HH4.out.c
    obtain ⟨f0, f1, f2, f3, f4, f5⟩ := HH4.out.f
    dsimp only [zeroH] at x0 x1 x2 x3 x4 x5
    go_wp2
    try simp only [Exit.inBlock, Exit.then]
    refine hist_end (h := ⟨hsc, hze, hpo, hpl, hno, hnl⟩) (pv := .slice b1 hpl.length d1) (nv := .slice b2 hnl.length d2) Tryd.results90 rfl rfl rfl (HH4.out.set ⟨hsc, hze, hpo, hpl, hno, hnl⟩ (.slice b1 hpl.length d1) (.slice b2 hnl.length d2)) ?_
    have hk7 := set6_kept w4 qr (.int .i64 hsc) (.int .u64 (hze : Int)) (.int .i64 hpo) (.slice b1 hpl.length d1) (.int .i64 hno) (.slice b2 hnl.length d2)
    obtain ⟨o1, o2, k4, hin⟩ := HO.out
    refine ⟨_, _, rfl, (o1.kept hk7 (fun j hj e => own_box o1 HH4.out (by decide) (by rw [hj, e]))).down HN3.out.2.2.1, (o2.kept hk7 (fun j hj e => own_box o2 HH4.out (by decide) (by rw [hj, e]))).down HN3.out.2.2.1, ?_, fun e => ?_⟩
    · refine ((show Kept (fun k => k = p) w w3 from keptTo HK3.out).step k4 ?_).new hk7 HN3.out.2.2.2.2.2.2
      rintro k hk (e | e)
      · exact e
      · have := HN3.out; omega
    · have hb := (hin e).br
      exact hb.kept hk7 (fun e => HN3.out.2.2.2.2.1 e.symm) (fun k e1 e2 => by have h1 := HOV.out k e1; have h2 := HN3.out.2.2.2.2.2.2; omega)
end Go.Proofs.YtjpnfadmblmjbaaDoor
