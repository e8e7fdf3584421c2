/- Layer 18: the document's disk in memory; Used, Find, begin. -/
import Derived.Test.YtficodklidaheaaDoorS4
namespace Go.Proofs.YtficodklidaheaaDoor
open Go.RowKit
attribute [local go_sem ↓] Go.wp_at_zero Go.wp_at_succ

/-- A file of the document's disk. -/
structure RF where
  nm : ByteArray
  a : Option Addr
  c : Nat
  b : List Nat
  s : Nat
def RF.t (f : RF) : ByteArray × PF := (f.nm, ⟨f.b, f.s⟩)
def RF.v (f : RF) : Value := .slice f.a f.b.length f.c
def cellsR (f : RF) : List Value := [.string f.nm, .slice f.a f.b.length f.c, .int .i64 (f.s : Int)]
theorem cfR : Cf cellsR 3 := ⟨fun _ => rfl, fun x u hu => by
  unfold cellsR at hu
  rcases List.mem_cons.1 hu with rfl | hu
  · rfl
  · rcases List.mem_cons.1 hu with rfl | hu
    · rfl
    · rcases List.mem_cons.1 hu with rfl | hu
      · rfl
      · cases hu⟩
theorem SlAt.keptN {S : Nat → Prop} {w w' : World} {a : Option Addr} {n c : Nat} {xs : List Value} (h : SlAt w (.slice a n c) xs) (hk : Kept S w w') (hn : xs ≠ [] → ∀ k, (Value.slice a n c).ownBlock = some k → ¬ S k) : SlAt w' (.slice a n c) xs := by
  by_cases e : xs = []
  · subst e
    obtain ⟨ao, c', e1, _, _⟩ := h.val
    refine ⟨ao, c', e1, fun _ => rfl, fun _ _ j u hu => by simp at hu⟩
  · exact h.kept hk (hn e)
theorem SlAt.blk {w : World} {a : Option Addr} {n c : Nat} {xs : List Value} (h : SlAt w (.slice a n c) xs) (hx : xs ≠ []) {k : Nat} (hk : (Value.slice a n c).ownBlock = some k) : k < w.heap.size ∧ ∃ j u, xs[0]? = some u ∧ w.cell? ⟨k, j, none⟩ = some u := by
  have h0 : 0 < xs.length := List.length_pos_iff.2 hx
  obtain ⟨g, off, e1, e2⟩ := h.elem (i := 0) (u := xs[0]) (List.getElem?_eq_getElem h0)
  rw [e1] at hk
  injection hk with hk
  subst hk
  exact ⟨World.block_lt_of_cell? w _ e2, off + 0, xs[0], List.getElem?_eq_getElem h0, e2⟩
/-- The cells of the document's disk. -/
def boxR (ao : Option Addr) (n cp : Nat) (D : DA) : Array Value := #[.slice ao n cp, .int .i64 D.cap, .bool D.down, .int .i64 D.calls, .int .i64 D.failIn, .int .i64 D.crashIn, .int .i64 D.failBy]
def rfoot (rb : Nat) (ao : Option Addr) (L : List RF) (k : Nat) : Prop := k = rb ∨ (L ≠ [] ∧ ∃ a, ao = some a ∧ a.block = k) ∨ ∃ f ∈ L, f.b ≠ [] ∧ f.v.ownBlock = some k
/-- The document's disk in memory. -/
structure RK (w : World) (rb : Nat) (ao : Option Addr) (cp : Nat) (L : List RF) (D : DA) : Prop where
  box : BoxAt w rb 83 (boxR ao L.length cp D)
  row : GAt cellsR 3 w ao L
  cap : L.length ≤ cp
  eq : L.map RF.t = D.L
  data : ∀ f ∈ L, SlAt w f.v (byV f.b) ∧ f.b.length ≤ f.c
  ok : DOk D
section
variable {w w' : World} {rb cp : Nat} {ao : Option Addr} {L : List RF} {D : DA}
theorem byV_ne {l : List Nat} (h : byV l ≠ []) : l ≠ [] := fun e => h (by rw [e]; rfl)
theorem byV_ne' {l : List Nat} (h : l ≠ []) : byV l ≠ [] := fun e => h (by unfold byV at e; simpa using e)
theorem RK.kept {S : Nat → Prop} (h : RK w rb ao cp L D) (k : Kept S w w') (hn : ∀ j, rfoot rb ao L j → ¬ S j) : RK w' rb ao cp L D :=
  ⟨h.box.kept k (hn rb (.inl rfl)), h.row.keptS k (fun a e h0 => hn _ (.inr (.inl ⟨List.length_pos_iff.1 h0, a, e, rfl⟩))), h.cap, h.eq, fun f hf => ⟨(h.data f hf).1.keptN k (fun hx j e => hn j (.inr (.inr ⟨f, hf, byV_ne hx, e⟩))), (h.data f hf).2⟩, h.ok⟩
theorem RK.c (h : RK w rb ao cp L D) : w.cell? ⟨rb, 0, none⟩ = some (.slice ao L.length cp) ∧ w.cell? ⟨rb, 1, none⟩ = some (.int .i64 D.cap) ∧ w.cell? ⟨rb, 2, none⟩ = some (.bool D.down) ∧ w.cell? ⟨rb, 3, none⟩ = some (.int .i64 D.calls) ∧
    w.cell? ⟨rb, 4, none⟩ = some (.int .i64 D.failIn) ∧ w.cell? ⟨rb, 5, none⟩ = some (.int .i64 D.crashIn) ∧ w.cell? ⟨rb, 6, none⟩ = some (.int .i64 D.failBy) :=
  ⟨h.box.cell rfl, h.box.cell rfl, h.box.cell rfl, h.box.cell rfl, h.box.cell rfl, h.box.cell rfl, h.box.cell rfl⟩
theorem RK.len (h : RK w rb ao cp L D) : L.length = D.L.length := by rw [← h.eq, List.length_map]
theorem RK.get (h : RK w rb ao cp L D) {i : Nat} {f : RF} (hf : L[i]? = some f) : D.L[i]? = some f.t := by rw [← h.eq, List.getElem?_map, hf]; rfl
theorem RK.box_no (h : RK w rb ao cp L D) (j : Nat) : (∀ s, w.cell? ⟨rb, j, none⟩ ≠ some (.string s)) ∧ ∀ x, w.cell? ⟨rb, j, none⟩ ≠ some (.int .u8 x) := by
  have hb := cell_of_row _ _ j _ _ _ h.box
  rw [hb]
  unfold boxR
  rcases j with _ | _ | _ | _ | _ | _ | _ | j <;> simp
theorem RK.rowBlk (h : RK w rb ao cp L D) (h0 : L ≠ []) : ∃ a, ao = some a ∧ a.block < w.heap.size ∧ a.block ≠ rb := by
  have hp := List.length_pos_iff.2 h0
  obtain ⟨g, o, e, hc⟩ := h.row hp
  have := hc 0 L[0] (List.getElem?_eq_getElem hp) 0 (.string L[0].nm) rfl
  refine ⟨_, e, World.block_lt_of_cell? w _ this, fun x => ?_⟩
  simp only at x
  rw [x] at this
  exact (h.box_no _).1 _ this
theorem RK.lt (h : RK w rb ao cp L D) {k : Nat} (hk : rfoot rb ao L k) : k < w.heap.size := by
  rcases hk with rfl | ⟨h0, a, e, e2⟩ | ⟨f, hf, hb, e⟩
  · exact h.box.lt
  · obtain ⟨a', e', h1, _⟩ := h.rowBlk h0
    rw [e] at e'
    injection e' with e'
    rw [← e2, e']
    exact h1
  · exact ((h.data f hf).1.blk (byV_ne' hb) e).1
theorem RK.dataNe (h : RK w rb ao cp L D) {f : RF} (hf : f ∈ L) (hb : f.b ≠ []) {k : Nat} (e : f.v.ownBlock = some k) : k ≠ rb := by
  obtain ⟨_, j, u, h1, h2⟩ := (h.data f hf).1.blk (byV_ne' hb) e
  intro x
  rw [x] at h2
  unfold byV at h1
  rw [List.getElem?_map] at h1
  cases hx : f.b[0]? with
  | none => rw [hx] at h1; cases h1
  | some y =>
    rw [hx] at h1
    injection h1 with h1
    rw [← h1] at h2
    exact (h.box_no _).2 _ h2
/-- Only the disk's own cells were written, but for its row. -/
theorem RK.turned (h : RK w rb ao cp L D) {D' : DA} (hb : BoxAt w' rb 83 (boxR ao L.length cp D')) (k : Kept (fun k => k = rb) w w') (hL : D'.L = D.L) (ok : DOk D') : RK w' rb ao cp L D' :=
  ⟨hb, h.row.keptS k (fun a e h0 => by
    obtain ⟨a', e', _, h2⟩ := h.rowBlk (List.length_pos_iff.1 h0)
    rw [e] at e'
    injection e' with e'
    rw [e']
    exact h2), h.cap, h.eq.trans hL.symm, fun f hf => ⟨(h.data f hf).1.keptN k (fun hx j e => h.dataNe hf (byV_ne hx) e), (h.data f hf).2⟩, ok⟩
end
def RFoot (w : World) (rb : Nat) (ao : Option Addr) (L : List RF) (ao' : Option Addr) (L' : List RF) : Prop := ∀ k, rfoot rb ao' L' k → rfoot rb ao L k ∨ w.heap.size ≤ k
theorem RFoot.refl (w : World) (rb : Nat) (ao : Option Addr) (L : List RF) : RFoot w rb ao L ao L := fun _ h => .inl h
/-- What a call on the document's disk leaves. -/
def RTo (w : World) (rb : Nat) (ao : Option Addr) (L : List RF) (r : DA × Int) (e : Ending) (w' : World) : Prop := ∃ ao' cp' L', e = .returned (.int .i64 r.2) ∧ RK w' rb ao' cp' L' r.1 ∧ Kept (fun k => k = rb) w w' ∧ RFoot w rb ao L ao' L'
def RBegan (w : World) (rb : Nat) (ao : Option Addr) (cp : Nat) (L : List RF) (r : DA × Int) (e : Ending) (w' : World) : Prop := e = .returned (.int .i64 r.2) ∧ RK w' rb ao cp L r.1 ∧ Kept (fun k => k = rb) w w'
theorem RBegan.to {w : World} {rb cp : Nat} {ao : Option Addr} {L : List RF} {r : DA × Int} {e : Ending} {w' : World} (h : RBegan w rb ao cp L r e w') : RTo w rb ao L r e w' := ⟨ao, cp, L, h.1, h.2.1, h.2.2, RFoot.refl _ _ _ _⟩
theorem RTo.behind {w w1 : World} {rb : Nat} {ao : Option Addr} {L : List RF} {r : DA × Int} {e : Ending} {w' : World} (k : Kept (fun k => k = rb) w w1) (h : RTo w1 rb ao L r e w') : RTo w rb ao L r e w' := by
  obtain ⟨ao', cp', L', h1, h2, h3, h4⟩ := h
  refine ⟨ao', cp', L', h1, h2, k.trans h3, fun j e => ?_⟩
  rcases h4 j e with x | x
  · exact .inl x
  · exact .inr (Nat.le_trans k.size x)

theorem usedL_take_succ {L : List (ByteArray × PF)} {i : Nat} {p : ByteArray × PF} (h : L[i]? = some p) : usedL (L.take (i + 1)) = usedL (L.take i) + p.2.b.length := by
  rw [List.take_add_one, h, usedL_append]
  simp [usedL]
theorem usedL_take_le (L : List (ByteArray × PF)) (i : Nat) : usedL (L.take i) ≤ usedL L := by
  have := usedL_append (L.take i) (L.drop i)
  rw [List.take_append_drop] at this
  omega
set_option maxRecDepth 100000 in
set_option maxHeartbeats 2000000 in
theorem refUsed_any (rb : Nat) (ao : Option Addr) (cp : Nat) (L : List RF) (D : DA) (w : World) (h : RK w rb ao cp L D) :
    Calls Tryd.prog 74 #[.pointer (some ⟨rb, 0, none⟩)] w fun e w' => e = .returned (.int .i64 (usedL D.L : Int)) ∧ w = w' := by
  have c0 := h.c.1
  have hcap := h.ok.capR
  have hus := h.ok.used
  have hct := h.ok.count
  have hlen := h.len
  obtain ⟨n, hn⟩ : ∃ n, n = L.length := ⟨_, rfl⟩
  rw [← hn] at c0
  have HH := Lib.hid h
  have HB := Lib.hid (show usedL D.L ≤ 4194304 ∧ n ≤ 4096 ∧ n = L.length ∧ n = D.L.length from ⟨by omega, by omega, hn, by omega⟩)
  clear h hcap hus hct hlen hn
  go_enter Tryd.func74, Tryd.ntmps74
  go_wp2
  go_loopg [3, 4] n (fun g s3 s4 wr => ∃ i : Nat, i ≤ n ∧ g = n - i ∧ s4 = .int .i64 i ∧ s3 = .int .i64 (usedL (D.L.take i) : Int) ∧ w = wr)
  case atStart => exact ⟨0, Nat.zero_le _, rfl, rfl, rfl, rfl⟩
  case round =>
    obtain ⟨i, hin, rfl, rfl, rfl, rfl⟩ := hrel
    by_cases hd : i < n
    · have hdi : (i : Int) < (n : Int) := by omega
      have hdd : decide (i < n) = true := decide_eq_true hd
      have HI := Lib.hid hd
      obtain ⟨f, hf⟩ : ∃ f, L[i]? = some f := ⟨_, List.getElem?_eq_getElem (by have := HB.out; omega)⟩
      have hg := HH.out.get hf
      have hs := usedL_take_succ hg
      have hle := usedL_take_le D.L (i + 1)
      obtain ⟨gg, oo, hga, hgc⟩ := HH.out.row (by have := HB.out; omega)
      subst hga
      have g1 := hgc i f hf 1 (.slice f.a f.b.length f.c) rfl
      have e : f.t.2.b.length = f.b.length := rfl
      rw [e] at hs
      obtain ⟨a, ha⟩ : ∃ a, a = usedL (D.L.take i) := ⟨_, rfl⟩
      obtain ⟨b, hb⟩ : ∃ b, b = usedL (D.L.take (i + 1)) := ⟨_, rfl⟩
      obtain ⟨m, hm⟩ : ∃ m, m = f.b.length := ⟨_, rfl⟩
      obtain ⟨fa, fc, hv⟩ : ∃ fa fc, f.a = fa ∧ f.c = fc := ⟨_, _, rfl, rfl⟩
      rw [hv.1, hv.2, ← hm] at g1
      rw [← ha, ← hb, ← hm] at hs
      rw [← hb] at hle
      rw [← ha]
      have hb9 : b ≤ 4194304 := by have := HB.out.1; omega
      have wi : IntKind.i64.wrap ((i : Int) + 1) = ((i + 1 : Nat) : Int) := by have := HB.out; rw [IntWalk.i64_in _ ⟨by omega, by omega⟩]; omega
      have ws : IntKind.i64.wrap ((a : Int) + (m : Int)) = (b : Int) := by rw [IntWalk.i64_in _ ⟨by omega, by omega⟩]; omega
      have HS := Lib.hid hb
      clear hf hg hle hgc ha hb hm hs hv e hd hin
      go_wp2
      go_roundg (n - (i + 1))
      case measure => have := HI.out; omega
      case rel => exact ⟨i + 1, HI.out, rfl, rfl, by rw [HS.out], rfl⟩
    · have hdi : ¬ (i : Int) < (n : Int) := by omega
      have hdd : decide (i < n) = false := decide_eq_false hd
      have hie : i = n := by omega
      have HE : Hid (D.L.take i = D.L) := Lib.hid (by rw [hie, HB.out.2.2.2, List.take_length])
      clear hie hd hin
      go_wp2
      go_ret
      exact ⟨by rw [HE.out]; rfl, rfl⟩
end Go.Proofs.YtficodklidaheaaDoor
