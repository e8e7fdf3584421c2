/- Texts put together: WD, WR, WS. -/
import Derived.Test.YtficodklidaheaaDoorZz12
import Derived.Test.YtficodklidaheaaDoorZz11
import Derived.Deep.RegionWith
import Derived.ScopeJumps
import Derived.WalkMore
/- Layer 19: Records, Sync, Name, Len, Size. -/
namespace Go.Proofs.YtficodklidaheaaDoor
open Go.RowKit
attribute [local go_sem ↓] Go.wp_at_zero Go.wp_at_succ

theorem byV_b8 (l : List Nat) : byV l = b8 l := rfl
theorem slAt_row8 {w : World} {v : Value} {l : List Nat} (h : SlAt w v (byV l)) (hb : ∀ x ∈ l, x < 256) : Row8 w v l := by
  obtain ⟨ao, c, e, hn, hc⟩ := h.val
  rw [byV_length] at e
  refine ⟨ao, c, e, hb, fun j hj => ?_⟩
  cases ao with
  | none => have := congrArg List.length (hn rfl); rw [byV_length] at this; simp at this; rw [this] at hj; simp at hj
  | some a => exact ⟨a, rfl, hc a rfl j _ (byV_get hj)⟩
theorem row8_keptS {S : Nat → Prop} {w w' : World} {a : Option Addr} {n c : Nat} {l : List Nat} (h : Row8 w (.slice a n c) l) (k : Kept S w w') (hn : ∀ x, a = some x → ¬ S x.block) : Row8 w' (.slice a n c) l := by
  obtain ⟨ao, c', e, hb, hc⟩ := h
  injection e with e1 e2 e3
  subst e1 e2 e3
  refine ⟨a, c, rfl, hb, fun j hj => ?_⟩
  obtain ⟨x, hx, h1⟩ := hc j hj
  exact ⟨x, hx, k.cell h1 (by rw [add_block]; exact hn x hx)⟩
/-- Rows of bytes that were made between two worlds of so many blocks. -/
def GotRows (w : World) (B H : Nat) (v : Value) (Ls : List (List Nat)) : Prop :=
  ∃ ao c, v = .slice ao Ls.length c ∧ Ls.length ≤ c ∧ ∀ i, i < Ls.length → ∃ g ai ci, ao = some ⟨g, 0, none⟩ ∧ B ≤ g ∧ g < H ∧ w.cell? ⟨g, i, none⟩ = some (.slice ai (Ls.getD i []).length ci) ∧ Row8 w (.slice ai (Ls.getD i []).length ci) (Ls.getD i []) ∧ ∀ a, ai = some a → B ≤ a.block ∧ a.block < H
theorem GotRows.nil (w : World) (B H : Nat) : GotRows w B H (.slice none 0 0) [] := ⟨none, 0, rfl, Nat.le_refl _, fun i hi => absurd hi (by simp)⟩
theorem GotRows.kept {S : Nat → Prop} {w w' : World} {B H : Nat} {v : Value} {Ls : List (List Nat)} (h : GotRows w B H v Ls) (k : Kept S w w') (hS : ∀ j, B ≤ j → j < H → ¬ S j) : GotRows w' B H v Ls := by
  obtain ⟨ao, c, e, hc, hi⟩ := h
  refine ⟨ao, c, e, hc, fun i h => ?_⟩
  obtain ⟨g, ai, ci, h1, h2, h3, h4, h5, h6⟩ := hi i h
  exact ⟨g, ai, ci, h1, h2, h3, k.cell h4 (hS g h2 h3), row8_keptS h5 k (fun x hx => hS _ (h6 x hx).1 (h6 x hx).2), h6⟩
theorem GotRows.at_ {w : World} {B H : Nat} {v : Value} {Ls : List (List Nat)} (h : GotRows w B H v Ls) : RowsAt w v Ls := by
  obtain ⟨ao, c, e, _, hi⟩ := h
  refine ⟨ao, c, e, fun i h => ?_⟩
  obtain ⟨g, ai, ci, h1, _, _, h4, h5, _⟩ := hi i h
  exact ⟨_, ai, ci, h1, by rw [addr_add0]; exact h4, h5⟩
theorem GotRows.of {w : World} {B : Nat} {v : Value} {vs : List Value} {Ls : List (List Nat)} (hb : ∀ l ∈ Ls, ∀ x ∈ l, x < 256) (ho : w.ownsRow B 22 1 v vs.length vs) (hr : Rows8 w B vs Ls) : GotRows w B w.heap.size v Ls := by
  have hl := hr.length
  obtain ⟨ao, c, rfl⟩ := ownsRow_slice ho
  rw [hl]
  refine ⟨ao, c, rfl, ?_, fun i hi => ?_⟩
  · rcases ho.2 with ⟨e, h0⟩ | ⟨g, cap, cur, e, _, _, hc, _⟩
    · omega
    · injection e with _ e2 e3
      omega
  · obtain ⟨u, hu, h8⟩ := hr.at_ i hi
    obtain ⟨g, cap, hv, _, _⟩ := own_at ho (by omega)
    injection hv with h1 h2 h3
    subst h1
    have hc := ho.cells (g := g) rfl i u hu
    rw [addr_add0] at hc
    have h9 := ownsRow_lt ho (k := g) rfl
    obtain ⟨ai, ci, rfl⟩ := ownsRow_slice h8
    refine ⟨g, ai, ci, rfl, h9.2, h9.1, hc, row8_own (hb _ (by rw [List.getD_eq_getElem?_getD, List.getElem?_eq_getElem hi]; simp)) h8, fun a e => ?_⟩
    subst e
    have := ownsRow_lt h8 (k := a.block) rfl
    exact ⟨this.2, this.1⟩
theorem ScanR.lt {l : List Nat} {Ls : List (List Nat)} {u e : Nat} (h : ScanR l Ls u e) (hb : ∀ x ∈ l, x < 256) : (∀ k ∈ Ls, ∀ x ∈ k, x < 256) ∧ u ≤ l.length := by
  induction h with
  | done => exact ⟨fun k hk => (by cases hk), Nat.le_refl _⟩
  | bad l h he => exact ⟨fun k hk => (by cases hk), Nat.zero_le _⟩
  | more l Ls u e h hr ih =>
    obtain ⟨h1, h2⟩ := ih (fun x hx => hb x (List.mem_of_mem_drop hx))
    refine ⟨fun k hk => ?_, ?_⟩
    · rcases List.mem_cons.1 hk with e | e
      · rw [e]; exact fun x hx => hb x (List.mem_of_mem_drop (List.mem_of_mem_take hx))
      · exact h1 k e
    · rw [List.length_drop] at h2
      have := firstE_size l h
      omega
theorem own_capB {w : World} {B : Nat} {E : TypeId} {ao : Option Addr} {n m c z : Nat} {xs : List Value} (h : w.ownsRow B E z (.slice ao n c) m xs) : n ≤ c := by
  rcases h.2 with ⟨e, h0⟩ | ⟨g, cap, cur, e, _, _, hc, _⟩
  · injection e with _ h1 h2
    omega
  · injection e with _ e2 e3
    subst e2 e3
    exact hc
theorem Nibs.keptS {S : Nat → Prop} {w w' : World} (h : Nibs w) (hk : Kept S w w') (h0 : ¬ S 0) : Nibs w' := fun j hj => hk.cell (h j hj) h0
theorem DK.no0 {base : Nat} {w : World} {db mb : Nat} {L : List (ByteArray × Fi)} {D : DA} (h : DK base w db mb L D) (hb : 0 < base) : ¬ foot db mb L 0 := fun x => by have := (h.lt x).2; omega
/-- What Records answers. -/
def RecTo (w : World) (l : List Nat) (e : Ending) (w' : World) : Prop :=
  ∃ Ls u n, ScanR l Ls u n ∧ Kept (fun _ => False) w w' ∧
    (((n = 0 ∨ n = 2) ∧ ∃ v, e = .returned (.tuple #[v, .int .i64 ((u : Nat) : Int), .int .i64 0]) ∧ GotRows w' w.heap.size w'.heap.size v Ls) ∨
     ((n ≠ 0 ∧ n ≠ 2) ∧ e = .returned (.tuple #[.slice none 0 0, .int .i64 0, .int .i64 15])))
set_option maxRecDepth 100000 in
set_option maxHeartbeats 2000000 in
theorem wRecords_any (ao : Option Addr) (c : Nat) (l : List Nat) (hl : l.length ≤ 1000000000) (hcap : l.length ≤ c) (w : World) (HB : Row8 w (.slice ao l.length c) l) (HN : Nibs w) :
    Calls Tryd.prog 21 #[.slice ao l.length c] w (RecTo w l) := by
  have HS := Lib.hid (scan_any ao c l hl hcap w HB HN)
  have HL := Lib.hid HB.lt
  obtain ⟨m, hm⟩ : ∃ m, m = l.length := ⟨_, rfl⟩
  rw [← hm] at HS ⊢
  clear hm hl hcap HB HN
  go_enter Tryd.func21, Tryd.ntmps21
  go_wp2_with fail
  refine HS.out.mono ?_
  rintro e w1 ⟨v, vs, Ls, u, n, hsc, rfl, hown, hrows, hk⟩
  have HR := Lib.hid (And.intro hsc (And.intro hk (GotRows.of (hsc.lt HL.out).1 hown hrows)))
  obtain ⟨a, c1, hv⟩ := ownsRow_slice hown
  clear hsc hown hrows hk
  obtain ⟨k, hkk⟩ : ∃ k, k = vs.length := ⟨_, rfl⟩
  rw [← hkk] at hv
  have HK : Hid (GotRows w1 w.heap.size w1.heap.size (.slice a k c1) Ls) := Lib.hid (by rw [← hv]; exact HR.out.2.2)
  subst hv
  clear hkk
  obtain ⟨z, hz⟩ : ∃ z : Int, z = ((n : Nat) : Int) := ⟨_, rfl⟩
  rw [← hz]
  by_cases h0 : n = 0
  · have HX := Lib.hid (show RecTo w l (.returned (.tuple #[.slice a k c1, .int .i64 ((u : Nat) : Int), .int .i64 0])) w1 from ⟨Ls, u, n, HR.out.1, HR.out.2.1, .inl ⟨.inl h0, _, rfl, HK.out⟩⟩)
    obtain rfl : z = 0 := by omega
    clear h0 hz
    go_wp2
    go_ret3
    exact HX.out
  · have q0 : (z == 0) = false := beq_eq_false_iff_ne.2 (by omega)
    by_cases h2 : n = 2
    · have HX := Lib.hid (show RecTo w l (.returned (.tuple #[.slice a k c1, .int .i64 ((u : Nat) : Int), .int .i64 0])) w1 from ⟨Ls, u, n, HR.out.1, HR.out.2.1, .inl ⟨.inr h2, _, rfl, HK.out⟩⟩)
      obtain rfl : z = 2 := by omega
      clear h0 h2 hz q0
      go_wp2
      go_ret3
      exact HX.out
    · have q2 : (z == 2) = false := beq_eq_false_iff_ne.2 (by omega)
      have q1 : (z != 0) = true := by simp [bne, q0]
      have q3 : (z != 2) = true := by simp [bne, q2]
      clear q0 q2
      have HX := Lib.hid (show RecTo w l (.returned (.tuple #[.slice none 0 0, .int .i64 0, .int .i64 15])) w1 from ⟨Ls, u, n, HR.out.1, HR.out.2.1, .inr ⟨⟨h0, h2⟩, rfl⟩⟩)
      clear h0 h2 hz
      go_wp2
      go_ret3
      exact HX.out
/-- A log in memory. -/
def LogAt (w : World) (lb db : Nat) (s : ByteArray) (n size : Int) : Prop := BoxAt w lb 117 #[.pointer (some ⟨db, 0, none⟩), .string s, .int .i64 n, .int .i64 size]
theorem DTo.pre {base : Nat} {w w1 : World} {db mb : Nat} {L : List (ByteArray × Fi)} {r : DA × Int} {e : Ending} {w' : World} (k : Kept (fun _ => False) w w1) (h : DTo base w1 db mb L r e w') : DTo base w db mb L r e w' := by
  obtain ⟨L', h1, h2, h3, h4⟩ := h
  exact ⟨L', h1, h2, (k.mono (fun _ _ x => x.elim)).trans h3, fun j x => (h4 j x).imp id (Nat.le_trans k.size)⟩
set_option maxRecDepth 100000 in
set_option maxHeartbeats 2000000 in
theorem wSync_any (base db mb lb : Nat) (L : List (ByteArray × Fi)) (D : DA) (s : ByteArray) (hs : s.size ≤ maxLen) (n size : Int) (w : World) (h : DK base w db mb L D) (hl : LogAt w lb db s n size) :
    Calls Tryd.prog 32 #[.pointer (some ⟨lb, 0, none⟩)] w (DTo base w db mb L (syncD D s)) := by
  have kd : Kept (fun _ => False) w w.drew := (Kept.refl _ _).drew
  have c0 := (hl.kept kd (fun x => x)).cell (i := 0) (u := .pointer (some ⟨db, 0, none⟩)) rfl
  have c1 := (hl.kept kd (fun x => x)).cell (i := 1) (u := .string s) rfl
  have HS := Lib.hid ((dSync_any base db mb L D s hs w.drew (h.kept kd (fun _ _ x => x))).mono (fun e w' => DTo.pre kd))
  clear h hl kd
  go_enter Tryd.func32, Tryd.ntmps32
  go_wp2
  go_region_with (go_at_call 47; refine HS.out.mono ?_; rintro e w1 ⟨L', rfl, h1⟩; have H1 := Lib.hid h1; clear h1)
  all_goals (
    go_wp2
    go_ret
    exact ⟨L', rfl, H1.out⟩)
theorem wLen_any (db lb : Nat) (s : ByteArray) (n size : Int) (w : World) (hl : LogAt w lb db s n size) :
    Calls Tryd.prog 26 #[.pointer (some ⟨lb, 0, none⟩)] w fun e w' => e = .returned (.int .i64 n) ∧ w = w' := by
  have c0 := hl.cell (i := 2) (u := .int .i64 n) rfl
  clear hl
  go_enter Tryd.func26, Tryd.ntmps26
  go_wp2
  go_ret
  exact ⟨rfl, rfl⟩
theorem wSize_any (db lb : Nat) (s : ByteArray) (n size : Int) (w : World) (hl : LogAt w lb db s n size) :
    Calls Tryd.prog 27 #[.pointer (some ⟨lb, 0, none⟩)] w fun e w' => e = .returned (.int .i64 size) ∧ w = w' := by
  have c0 := hl.cell (i := 3) (u := .int .i64 size) rfl
  clear hl
  go_enter Tryd.func27, Tryd.ntmps27
  go_wp2
  go_ret
  exact ⟨rfl, rfl⟩
theorem wName_any (db lb : Nat) (s : ByteArray) (n size : Int) (w : World) (hl : LogAt w lb db s n size) :
    Calls Tryd.prog 28 #[.pointer (some ⟨lb, 0, none⟩)] w fun e w' => e = .returned (.string s) ∧ w = w' := by
  have c0 := hl.cell (i := 1) (u := .string s) rfl
  clear hl
  go_enter Tryd.func28, Tryd.ntmps28
  go_wp2
  go_ret
  exact ⟨rfl, rfl⟩
end Go.Proofs.YtficodklidaheaaDoor
/- Layer 20: Save (written by tools/gen_XWR.py). -/
namespace Go.Proofs.YtficodklidaheaaDoor
open Go.RowKit
attribute [local go_sem ↓] Go.wp_at_zero Go.wp_at_succ

/-- A disk behind some of Save's calls: r is what they left; v: the world in which they began. -/
def SoFar (base : Nat) (w v : World) (db mb : Nat) (L : List (ByteArray × Fi)) (r : DA × Int) (w' : World) : Prop :=
  ∃ L', DK base w' db mb L' r.1 ∧ Kept (foot db mb L) w w' ∧ Foot w db mb L L' ∧ (∀ j, foot db mb L' j → j < w.heap.size ∨ v.heap.size ≤ j) ∧ Kept (fun j => j < w.heap.size ∨ v.heap.size ≤ j) v w'
theorem SoFar.start {base : Nat} {w w' : World} {db mb : Nat} {L : List (ByteArray × Fi)} {D : DA} {z : Int} (h : DK base w db mb L D) (k : Kept (fun _ => False) w w') : SoFar base w w' db mb L (D, z) w' :=
  ⟨L, h.kept k (fun _ _ x => x), k.mono (fun _ _ x => x.elim), Foot.refl _ _ _ _, fun _ f => .inl (h.lt f).1, Kept.refl _ _⟩
theorem SoFar.step {base : Nat} {w v w1 w2 : World} {db mb : Nat} {L L1 : List (ByteArray × Fi)} {r2 : DA × Int} {e : Ending} (k1 : Kept (foot db mb L) w w1) (f1 : Foot w db mb L L1) (s1 : ∀ j, foot db mb L1 j → j < w.heap.size ∨ v.heap.size ≤ j) (v1 : Kept (fun j => j < w.heap.size ∨ v.heap.size ≤ j) v w1) (t : DTo base w1 db mb L1 r2 e w2) : e = .returned (.int .i64 r2.2) ∧ SoFar base w v db mb L r2 w2 := by
  obtain ⟨L2, he, h2, k2, f2⟩ := t
  refine ⟨he, L2, h2, ⟨k2.os.trans k1.os, k2.tape.trans k1.tape, k2.output.trans k1.output, Nat.le_trans k1.size k2.size, fun j hj hn => ?_⟩, fun j x => ?_, fun j x => ?_, v1.trans (k2.mono (fun j _ x => s1 j x))⟩
  · have h3 := k1.block j hj hn
    rw [← h3]
    refine k2.block j (Nat.lt_of_lt_of_le hj k1.size) (fun f => ?_)
    rcases f1 j f with x | x
    · exact hn x
    · omega
  · rcases f2 j x with y | y
    · exact f1 j y
    · exact .inr (Nat.le_trans k1.size y)
  · rcases f2 j x with y | y
    · exact s1 j y
    · exact .inr (Nat.le_trans v1.size y)
theorem thenD_ne {r : DA × Int} {f : DA → DA × Int} (h : r.2 ≠ 0) : thenD r f = r := if_neg h
theorem thenD_eq {r : DA × Int} {f : DA → DA × Int} (h : r.2 = 0) : thenD r f = f r.1 := if_pos h
theorem SoFar.to {base : Nat} {w v w' : World} {db mb : Nat} {L : List (ByteArray × Fi)} {r : DA × Int} (h : SoFar base w v db mb L r w') : DTo base w db mb L r (.returned (.int .i64 r.2)) w' := by
  obtain ⟨L', h1, h2, h3, _⟩ := h
  exact ⟨L', rfl, h1, h2, h3⟩
/-- What holds at Save's label. -/
def AtFail (base : Nat) (w v : World) (db mb : Nat) (L : List (ByteArray × Fi)) (nx : ByteArray) (r : DA × Int) (a' : Act) (w' : World) : Prop :=
  (∃ u1 u2 u3 u4 u5 u6 u7 u10 u11 u12 u13 u14 u15 u16 u17 u18 u19 u20 u21 u22 u23 u24 u25 u26 u27 u28 u29 u30 u31 u32 u33 u34 u35 u36 u37 u38 u39 u40 u41 u42 u43 u44 u45 u46 u47 u48 u49 u50 u51 u52 u53 u54 u55 : Value, a' = { tmps := List.toArray [.pointer (some ⟨db, 0, none⟩), u1, u2, u3, u4, u5, u6, u7, .int .i64 r.2, .string nx, u10, u11, u12, u13, u14, u15, u16, u17, u18, u19, u20, u21, u22, u23, u24, u25, u26, u27, u28, u29, u30, u31, u32, u33, u34, u35, u36, u37, u38, u39, u40, u41, u42, u43, u44, u45, u46, u47, u48, u49, u50, u51, u52, u53, u54, u55], defers := [] }) ∧ r.2 ≠ 0 ∧ SoFar base w v db mb L r w'

set_option maxRecDepth 100000 in
set_option maxHeartbeats 2000000 in
theorem sSave_any (base db mb : Nat) (hb0 : 0 < base) (L : List (ByteArray × Fi)) (D : DA) (s : ByteArray) (hs : s.size ≤ 1000) (ao : Option Addr) (pn c : Nat) (l : List Nat) (hpn : pn = l.length) (w : World) (h : DK base w db mb L D) (HB : Row8 w (.slice ao pn c) l) (HN : Nibs w) (hl9 : l.length ≤ 1000000000) :
    Calls Tryd.prog 39 #[.pointer (some ⟨db, 0, none⟩), .string s, .slice ao pn c] w (DTo base w db mb L (saveD D s l)) := by
  have HH := Lib.hid h
  have HNI := Lib.hid (And.intro HN hb0)
  have HSZ := Lib.hid (show s.size ≤ maxLen ∧ (s ++ nwN).size ≤ maxLen by
    have : (s ++ nwN).size = s.size + nwN.size := by simp
    have h4 : nwN.size = 4 := rfl
    unfold maxLen
    omega)
  by_cases h1 : 28 < s.size
  · have q1 : (28 : Int) < (s.size : Int) := by omega
    have HX : Hid (saveD D s l = (D, 3)) := Lib.hid (by unfold saveD; rw [if_pos h1])
    rw [HX.out]
    clear h HB HN h1 hpn
    go_enter Tryd.func39, Tryd.ntmps39
    go_wp2
    go_step3
    go_wp2
    go_ret
    exact (SoFar.start HH.out (Kept.refl _ _)).to
  have q1 : ¬ (28 : Int) < (s.size : Int) := by omega
  by_cases h2 : 65536 < l.length
  · have HX : Hid (saveD D s l = (D, 4)) := Lib.hid (by unfold saveD; rw [if_neg h1, if_pos h2])
    have HW := Lib.hid (wrap_large ao pn c (by omega) w)
    rw [HX.out]
    clear h HB HN h1 h2 hpn
    go_enter Tryd.func39, Tryd.ntmps39
    go_wp2
    go_step3
    go_wp2_with fail
    refine HW.out.mono ?_
    rintro e w1 ⟨rfl, rfl⟩
    go_wp2
    go_ret
    exact (SoFar.start HH.out (Kept.refl _ _)).to
  have HW := Lib.hid (wrap_any (.slice ao pn c) l (by omega) w HB HN)
  have HLT := Lib.hid (And.intro (frameL_lt l HB.lt) (show (frameL l).length ≤ 100000 by rw [frameL_len]; omega))
  obtain ⟨r, hr⟩ : ∃ r, r = triesD D (s ++ nwN) s (frameL l) := ⟨_, rfl⟩
  have HX : Hid (saveD D s l = undoD r (s ++ nwN)) := Lib.hid (by unfold saveD; rw [if_neg h1, if_neg h2, hr])
  obtain ⟨R, hRR⟩ : ∃ R, R = undoD r (s ++ nwN) := ⟨_, rfl⟩
  rw [HX.out, ← hRR]
  obtain ⟨nx, hnx⟩ : ∃ nx, nx = s ++ nwN := ⟨_, rfl⟩
  rw [← hnx] at hr HSZ hRR
  have HRU := Lib.hid hRR
  have HNX := Lib.hid hnx
  have HR := Lib.hid hr
  have qn : s ++ ({ data := #[46, 110, 101, 119] } : ByteArray) = nx := hnx.symm
  clear h HB HN h1 h2 hr hnx hpn hRR
  go_enter Tryd.func39, Tryd.ntmps39
  go_wp2
  refine wp_scope_jumps 0 (fun a' w' => ∃ v, AtFail base w v db mb L nx r a' w') (fun _ _ => 0) rfl ?_ ?_
  · go_wp2_with fail
    refine HW.out.mono ?_
    rintro e w1 ⟨fv, rfl, hown, hk1⟩
    obtain ⟨fa, fc, rfl⟩ := ownsRow_slice hown
    obtain ⟨fl, hfl⟩ : ∃ fl, fl = 9 + l.length := ⟨_, rfl⟩
    rw [← hfl] at hown ⊢
    obtain ⟨F, hF⟩ : ∃ F, F = frameL l := ⟨_, rfl⟩
    rw [← hF] at hown HLT HR
    have HFL : Hid (F.length = fl) := Lib.hid (by rw [hF, hfl, frameL_len])
    have HK1 := Lib.hid hk1
    have HFB := Lib.hid (show ∀ j, (Value.slice fa fl fc).ownBlock = some j → w.heap.size ≤ j ∧ j < w1.heap.size from fun j e => ⟨(ownsRow_lt hown e).2, (ownsRow_lt hown e).1⟩)
    have HAT : Hid (SlAt w1 (.slice fa fl fc) (byV F)) := Lib.hid (SlAt.ofOwn hown)
    obtain ⟨L1, hd1⟩ := SoFar.start (z := 0) HH.out hk1
    have HD1 := Lib.hid hd1
    have HAL := Lib.hid (show ∀ j, foot db mb L j → j < w.heap.size from fun j f => (HH.out.lt f).1)
    clear hown hk1 hfl hF hd1
    have HC1 := Lib.hid (sTidy_any base db mb L1 D nx HSZ.out.2 w1 HD1.out.1)
    obtain ⟨r1, hr1⟩ : ∃ r, r = tidyD D nx := ⟨_, rfl⟩
    rw [← hr1] at HC1
    have HR1 := Lib.hid hr1
    clear hr1
    go_wp2_with fail
    refine HC1.out.mono ?_
    intro e w2 ht
    obtain ⟨he, hsf⟩ := SoFar.step HD1.out.2.1 HD1.out.2.2.1 HD1.out.2.2.2.1 HD1.out.2.2.2.2 ht
    subst he
    have HSF1 := Lib.hid hsf
    clear ht hsf
    obtain ⟨z1, hz1⟩ : ∃ z : Int, z = r1.2 := ⟨_, rfl⟩
    rw [← hz1]
    by_cases h0 : z1 = 0
    · have HZ1 : Hid (r1.2 = 0) := Lib.hid (by rw [← hz1]; exact h0)
      subst h0
      clear hz1
      obtain ⟨L2, hd2⟩ := HSF1.out
      have HD2 := Lib.hid hd2
      clear hd2
      have HC2 := Lib.hid (dCreate_any base db mb L2 r1.1 nx HSZ.out.2 w2 HD2.out.1)
      obtain ⟨r2, hr2⟩ : ∃ r, r = createD r1.1 nx := ⟨_, rfl⟩
      rw [← hr2] at HC2
      have HR2 := Lib.hid hr2
      clear hr2
      go_wp2_with fail
      refine HC2.out.mono ?_
      intro e w3 ht
      obtain ⟨he, hsf⟩ := SoFar.step HD2.out.2.1 HD2.out.2.2.1 HD2.out.2.2.2.1 HD2.out.2.2.2.2 ht
      subst he
      have HSF2 := Lib.hid hsf
      clear ht hsf
      obtain ⟨z2, hz2⟩ : ∃ z : Int, z = r2.2 := ⟨_, rfl⟩
      rw [← hz2]
      by_cases h0 : z2 = 0
      · have HZ2 : Hid (r2.2 = 0) := Lib.hid (by rw [← hz2]; exact h0)
        subst h0
        clear hz2
        obtain ⟨L3, hd3⟩ := HSF2.out
        have HD3 := Lib.hid hd3
        clear hd3
        have HAT3 : Hid (SlAt w3 (.slice fa fl fc) (byV F)) := Lib.hid (HAT.out.kept HD3.out.2.2.2.2 (fun j e f => by have h1 := HFB.out j e; rcases f with x | x <;> omega))
        have HC3 := Lib.hid (dAppend_any base db mb L3 r2.1 nx HSZ.out.2 fa fl fc F HFL.out HLT.out.1 (by have := HLT.out.2; have := HFL.out; omega) w3 HD3.out.1 HAT3.out (fun _ j e x => by have h1 := (HFB.out j e).1; have h2 := HAL.out db (.inl rfl); omega))
        obtain ⟨r3, hr3⟩ : ∃ r, r = appendD r2.1 nx F := ⟨_, rfl⟩
        rw [← hr3] at HC3
        have HR3 := Lib.hid hr3
        clear hr3
        go_wp2_with fail
        refine HC3.out.mono ?_
        intro e w4 ht
        obtain ⟨he, hsf⟩ := SoFar.step HD3.out.2.1 HD3.out.2.2.1 HD3.out.2.2.2.1 HD3.out.2.2.2.2 ht
        subst he
        have HSF3 := Lib.hid hsf
        clear ht hsf
        obtain ⟨z3, hz3⟩ : ∃ z : Int, z = r3.2 := ⟨_, rfl⟩
        rw [← hz3]
        by_cases h0 : z3 = 0
        · have HZ3 : Hid (r3.2 = 0) := Lib.hid (by rw [← hz3]; exact h0)
          subst h0
          clear hz3
          obtain ⟨L4, hd4⟩ := HSF3.out
          have HD4 := Lib.hid hd4
          clear hd4
          have HC4 := Lib.hid (dSync_any base db mb L4 r3.1 nx HSZ.out.2 w4 HD4.out.1)
          obtain ⟨r4, hr4⟩ : ∃ r, r = syncD r3.1 nx := ⟨_, rfl⟩
          rw [← hr4] at HC4
          have HR4 := Lib.hid hr4
          clear hr4
          go_wp2_with fail
          refine HC4.out.mono ?_
          intro e w5 ht
          obtain ⟨he, hsf⟩ := SoFar.step HD4.out.2.1 HD4.out.2.2.1 HD4.out.2.2.2.1 HD4.out.2.2.2.2 ht
          subst he
          have HSF4 := Lib.hid hsf
          clear ht hsf
          obtain ⟨z4, hz4⟩ : ∃ z : Int, z = r4.2 := ⟨_, rfl⟩
          rw [← hz4]
          by_cases h0 : z4 = 0
          · have HZ4 : Hid (r4.2 = 0) := Lib.hid (by rw [← hz4]; exact h0)
            subst h0
            clear hz4
            obtain ⟨L5, hd5⟩ := HSF4.out
            have HD5 := Lib.hid hd5
            clear hd5
            have HC5 := Lib.hid (dRename_any base db mb L5 r4.1 nx s HSZ.out.2 HSZ.out.1 w5 HD5.out.1)
            obtain ⟨r5, hr5⟩ : ∃ r, r = renameD r4.1 nx s := ⟨_, rfl⟩
            rw [← hr5] at HC5
            have HR5 := Lib.hid hr5
            clear hr5
            go_wp2_with fail
            refine HC5.out.mono ?_
            intro e w6 ht
            obtain ⟨he, hsf⟩ := SoFar.step HD5.out.2.1 HD5.out.2.2.1 HD5.out.2.2.2.1 HD5.out.2.2.2.2 ht
            subst he
            have HSF5 := Lib.hid hsf
            clear ht hsf
            obtain ⟨z5, hz5⟩ : ∃ z : Int, z = r5.2 := ⟨_, rfl⟩
            rw [← hz5]
            by_cases h0 : z5 = 0
            · have HZ5 : Hid (r5.2 = 0) := Lib.hid (by rw [← hz5]; exact h0)
              subst h0
              clear hz5
              have HRR : Hid (r = r5) := Lib.hid (by rw [HR.out]; unfold triesD; rw [← HR1.out]; rw [thenD_eq HZ1.out]; rw [← HR2.out]; rw [thenD_eq HZ2.out]; rw [← HR3.out]; rw [thenD_eq HZ3.out]; rw [← HR4.out]; rw [thenD_eq HZ4.out]; rw [← HR5.out])
              have HU : Hid (R = r5) := Lib.hid (by rw [HRU.out, HRR.out]; unfold undoD; rw [if_pos (.inl HZ5.out)])
              have HF := Lib.hid HSF5.out.to
              rw [HZ5.out, ← HU.out] at HF
              go_wp2
              simp only [Exit.jump]
              go_ret
              exact HF.out
            · have q0 : (z5 != 0) = true := by simp [bne, beq_eq_false_iff_ne.2 h0]
              have HZ5 : Hid (r5.2 ≠ 0) := Lib.hid (by rw [← hz5]; exact h0)
              have HRR : Hid (r = r5) := Lib.hid (by rw [HR.out]; unfold triesD; rw [← HR1.out]; rw [thenD_eq HZ1.out]; rw [← HR2.out]; rw [thenD_eq HZ2.out]; rw [← HR3.out]; rw [thenD_eq HZ3.out]; rw [← HR4.out]; rw [thenD_eq HZ4.out]; rw [← HR5.out])
              have HAF := Lib.hid (show r.2 ≠ 0 ∧ SoFar base w w1 db mb L r w6 by rw [HRR.out]; exact ⟨HZ5.out, HSF5.out⟩)
              have HZR : Hid (z5 = r.2) := Lib.hid (by rw [HRR.out]; exact hz5)
              clear h0 hz5
              go_wp2
              go_step3
              rw [HZR.out]
              exact ⟨rfl, w1, ⟨_, _, _, _, _, _, _, _, _, _, _, _, _, _, _, _, _, _, _, _, _, _, _, _, _, _, _, _, _, _, _, _, _, _, _, _, _, _, _, _, _, _, _, _, _, _, _, _, _, _, _, _, _, rfl⟩, HAF.out⟩
          · have q0 : (z4 != 0) = true := by simp [bne, beq_eq_false_iff_ne.2 h0]
            have HZ4 : Hid (r4.2 ≠ 0) := Lib.hid (by rw [← hz4]; exact h0)
            have HRR : Hid (r = r4) := Lib.hid (by rw [HR.out]; unfold triesD; rw [← HR1.out]; rw [thenD_eq HZ1.out]; rw [← HR2.out]; rw [thenD_eq HZ2.out]; rw [← HR3.out]; rw [thenD_eq HZ3.out]; rw [← HR4.out]; rw [thenD_ne HZ4.out])
            have HAF := Lib.hid (show r.2 ≠ 0 ∧ SoFar base w w1 db mb L r w5 by rw [HRR.out]; exact ⟨HZ4.out, HSF4.out⟩)
            have HZR : Hid (z4 = r.2) := Lib.hid (by rw [HRR.out]; exact hz4)
            clear h0 hz4
            go_wp2
            go_step3
            rw [HZR.out]
            exact ⟨rfl, w1, ⟨_, _, _, _, _, _, _, _, _, _, _, _, _, _, _, _, _, _, _, _, _, _, _, _, _, _, _, _, _, _, _, _, _, _, _, _, _, _, _, _, _, _, _, _, _, _, _, _, _, _, _, _, _, rfl⟩, HAF.out⟩
        · have q0 : (z3 != 0) = true := by simp [bne, beq_eq_false_iff_ne.2 h0]
          have HZ3 : Hid (r3.2 ≠ 0) := Lib.hid (by rw [← hz3]; exact h0)
          have HRR : Hid (r = r3) := Lib.hid (by rw [HR.out]; unfold triesD; rw [← HR1.out]; rw [thenD_eq HZ1.out]; rw [← HR2.out]; rw [thenD_eq HZ2.out]; rw [← HR3.out]; rw [thenD_ne HZ3.out])
          have HAF := Lib.hid (show r.2 ≠ 0 ∧ SoFar base w w1 db mb L r w4 by rw [HRR.out]; exact ⟨HZ3.out, HSF3.out⟩)
          have HZR : Hid (z3 = r.2) := Lib.hid (by rw [HRR.out]; exact hz3)
          clear h0 hz3
          go_wp2
          go_step3
          rw [HZR.out]
          exact ⟨rfl, w1, ⟨_, _, _, _, _, _, _, _, _, _, _, _, _, _, _, _, _, _, _, _, _, _, _, _, _, _, _, _, _, _, _, _, _, _, _, _, _, _, _, _, _, _, _, _, _, _, _, _, _, _, _, _, _, rfl⟩, HAF.out⟩
      · have q0 : (z2 != 0) = true := by simp [bne, beq_eq_false_iff_ne.2 h0]
        have HZ2 : Hid (r2.2 ≠ 0) := Lib.hid (by rw [← hz2]; exact h0)
        have HRR : Hid (r = r2) := Lib.hid (by rw [HR.out]; unfold triesD; rw [← HR1.out]; rw [thenD_eq HZ1.out]; rw [← HR2.out]; rw [thenD_ne HZ2.out])
        have HAF := Lib.hid (show r.2 ≠ 0 ∧ SoFar base w w1 db mb L r w3 by rw [HRR.out]; exact ⟨HZ2.out, HSF2.out⟩)
        have HZR : Hid (z2 = r.2) := Lib.hid (by rw [HRR.out]; exact hz2)
        clear h0 hz2
        go_wp2
        go_step3
        rw [HZR.out]
        exact ⟨rfl, w1, ⟨_, _, _, _, _, _, _, _, _, _, _, _, _, _, _, _, _, _, _, _, _, _, _, _, _, _, _, _, _, _, _, _, _, _, _, _, _, _, _, _, _, _, _, _, _, _, _, _, _, _, _, _, _, rfl⟩, HAF.out⟩
    · have q0 : (z1 != 0) = true := by simp [bne, beq_eq_false_iff_ne.2 h0]
      have HZ1 : Hid (r1.2 ≠ 0) := Lib.hid (by rw [← hz1]; exact h0)
      have HRR : Hid (r = r1) := Lib.hid (by rw [HR.out]; unfold triesD; rw [← HR1.out]; rw [thenD_ne HZ1.out])
      have HAF := Lib.hid (show r.2 ≠ 0 ∧ SoFar base w w1 db mb L r w2 by rw [HRR.out]; exact ⟨HZ1.out, HSF1.out⟩)
      have HZR : Hid (z1 = r.2) := Lib.hid (by rw [HRR.out]; exact hz1)
      clear h0 hz1
      go_wp2
      go_step3
      rw [HZR.out]
      exact ⟨rfl, w1, ⟨_, _, _, _, _, _, _, _, _, _, _, _, _, _, _, _, _, _, _, _, _, _, _, _, _, _, _, _, _, _, _, _, _, _, _, _, _, _, _, _, _, _, _, _, _, _, _, _, _, _, _, _, _, rfl⟩, HAF.out⟩
  · rintro a' w' ⟨v, ⟨u1, u2, u3, u4, u5, u6, u7, u10, u11, u12, u13, u14, u15, u16, u17, u18, u19, u20, u21, u22, u23, u24, u25, u26, u27, u28, u29, u30, u31, u32, u33, u34, u35, u36, u37, u38, u39, u40, u41, u42, u43, u44, u45, u46, u47, u48, u49, u50, u51, u52, u53, u54, u55, rfl⟩, hz, hsf⟩
    have HZ := Lib.hid (And.intro hz hsf)
    clear hz hsf
    by_cases h13 : r.2 = 13
    · have HU : Hid (undoD r nx = r) := Lib.hid (by unfold undoD; rw [if_pos (.inr h13)])
      have hUR : R = r := HRU.out.trans HU.out
      have HF := Lib.hid HZ.out.2.to
      rw [h13, ← hUR] at HF
      rw [h13]
      clear h13 hUR
      go_wp2
      simp only [Exit.jump]
      go_ret
      exact HF.out
    · have q13 : (r.2 != 13) = true := by simp [bne, beq_eq_false_iff_ne.2 h13]
      have HU : Hid (undoD r nx = ((tidyD r.1 nx).1, r.2)) := Lib.hid (by unfold undoD; rw [if_neg (fun e => e.elim HZ.out.1 h13)])
      obtain ⟨L9, h9⟩ := HZ.out.2
      have HT := Lib.hid (sTidy_any base db mb L9 r.1 nx HSZ.out.2 w' h9.1)
      have H9 := Lib.hid h9
      obtain ⟨z, hz⟩ : ∃ z : Int, z = r.2 := ⟨_, rfl⟩
      rw [← hz] at q13 ⊢
      have HZE := Lib.hid hz
      clear h13 h9 hz
      go_wp2_with fail
      refine HT.out.mono ?_
      intro e w2 ht
      obtain ⟨he, hsf⟩ := SoFar.step H9.out.2.1 H9.out.2.2.1 H9.out.2.2.2.1 H9.out.2.2.2.2 ht
      subst he
      have HSF := Lib.hid hsf
      clear ht hsf
      go_wp2
      simp only [Exit.jump]
      go_ret
      obtain ⟨L8, h8, k8, f8, _⟩ := HSF.out
      rw [HRU.out, HU.out]
      exact ⟨L8, by rw [← HZE.out]; rfl, h8, k8, f8⟩
end Go.Proofs.YtficodklidaheaaDoor
/- Layer 20: Load. -/
namespace Go.Proofs.YtficodklidaheaaDoor
open Go.RowKit
attribute [local go_sem ↓] Go.wp_at_zero Go.wp_at_succ

theorem tidy_down {D : DA} {s : ByteArray} (hd : D.down = false) (h : (tidyD D s).2 = 0) : (tidyD D s).1.down = false := by
  unfold tidyD at h ⊢
  split
  · rename_i ht
    rw [if_pos ht] at h
    unfold removeD behindD at h ⊢
    by_cases hb : (beginD D).2 = 0
    · rw [if_pos hb] at h ⊢
      have := (beginD_up D).2 hb
      unfold withF at h ⊢
      cases hg : getM (beginD D).1.L s with
      | none => rw [hg] at h; cases h
      | some f => exact this
    · rw [if_neg hb] at h
      exact absurd h hb
  · exact hd
/-- What Load answers and leaves. -/
def LoadTo (base : Nat) (w : World) (db mb : Nat) (L : List (ByteArray × Fi)) (r : DA × List Nat × Bool × Int) (e : Ending) (w' : World) : Prop :=
  ∃ L' a c, e = .returned (.tuple #[.slice a r.2.1.length c, .bool r.2.2.1, .int .i64 r.2.2.2]) ∧ DK base w' db mb L' r.1 ∧ Kept (foot db mb L) w w' ∧ Foot w db mb L L' ∧ Row8 w' (.slice a r.2.1.length c) r.2.1 ∧ ∀ x, a = some x → w.heap.size ≤ x.block ∧ x.block < w'.heap.size ∧ ¬ foot db mb L' x.block
theorem LoadTo.none {base : Nat} {w w' : World} {db mb : Nat} {L L' : List (ByteArray × Fi)} {D' : DA} {b : Bool} {z : Int} (h : DK base w' db mb L' D') (k : Kept (foot db mb L) w w') (f : Foot w db mb L L') : LoadTo base w db mb L (D', [], b, z) (.returned (.tuple #[.slice none 0 0, .bool b, .int .i64 z])) w' :=
  ⟨L', Option.none, 0, rfl, h, k, f, row8_none w', fun x e => by cases e⟩
set_option maxRecDepth 100000 in
set_option maxHeartbeats 8000000 in
theorem sLoad_any (base db mb : Nat) (hb0 : 0 < base) (L : List (ByteArray × Fi)) (D : DA) (s : ByteArray) (hs : s.size ≤ 1000) (w : World) (h : DK base w db mb L D) (HN : Nibs w) :
    Calls Tryd.prog 41 #[.pointer (some ⟨db, 0, none⟩), .string s] w (LoadTo base w db mb L (loadD D s)) := by
  have HH := Lib.hid h
  have HNI := Lib.hid (And.intro HN hb0)
  have HSZ := Lib.hid (show s.size ≤ maxLen ∧ (s ++ nwN).size ≤ maxLen by
    have : (s ++ nwN).size = s.size + nwN.size := by simp
    have h4 : nwN.size = 4 := rfl
    unfold maxLen
    omega)
  have HDW := Lib.hid (dDown_any base db mb L D w h)
  obtain ⟨R, hR⟩ : ∃ R, R = loadD D s := ⟨_, rfl⟩
  rw [← hR]
  have HR := Lib.hid hR
  clear h HN hR
  cases hdn : D.down with
  | true =>
    have HX : Hid (R = (D, [], false, 13)) := Lib.hid (by rw [HR.out]; unfold loadD; rw [if_pos hdn])
    have HF : Hid (LoadTo base w db mb L R (.returned (.tuple #[.slice none 0 0, .bool false, .int .i64 13])) w) := Lib.hid (by rw [HX.out]; exact LoadTo.none HH.out (Kept.refl _ _) (Foot.refl _ _ _ _))
    rw [hdn] at HDW
    clear hdn
    go_enter Tryd.func41, Tryd.ntmps41
    go_wp2_with fail
    refine HDW.out.mono ?_
    rintro e w1 ⟨rfl, rfl⟩
    go_wp2
    go_ret3
    exact HF.out
  | false =>
    rw [hdn] at HDW
    have HDN := Lib.hid hdn
    obtain ⟨nx, hnx⟩ : ∃ nx, nx = s ++ nwN := ⟨_, rfl⟩
    have qn : s ++ ({ data := #[46, 110, 101, 119] } : ByteArray) = nx := hnx.symm
    rw [← hnx] at HSZ
    have HT := Lib.hid (sTidy_any base db mb L D nx HSZ.out.2 w HH.out)
    obtain ⟨r, hr⟩ : ∃ r, r = tidyD D nx := ⟨_, rfl⟩
    rw [← hr] at HT
    have HX : Hid (R = if r.2 = 0 then (r.1, loadF (getM r.1.L s)) else (r.1, [], false, r.2)) := Lib.hid (by rw [HR.out, hr, hnx]; unfold loadD; rw [if_neg (by rw [hdn]; exact Bool.false_ne_true)])
    have HD1 : Hid (r.2 = 0 → r.1.down = false) := Lib.hid (fun e => by rw [hr] at e ⊢; exact tidy_down hdn e)
    clear hdn hnx hr
    go_enter Tryd.func41, Tryd.ntmps41
    go_wp2_with fail
    refine HDW.out.mono ?_
    rintro e w1 ⟨rfl, rfl⟩
    go_wp2_with fail
    refine HT.out.mono ?_
    rintro e w2 ⟨L2, rfl, h2, k2, f2⟩
    have H2 := Lib.hid (And.intro h2 (And.intro k2 f2))
    obtain ⟨z, hz⟩ : ∃ z : Int, z = r.2 := ⟨_, rfl⟩
    rw [← hz] at HX HD1 ⊢
    clear h2 k2 f2 hz
    by_cases h0 : z = 0
    · subst h0
      have HX0 : Hid (R = (r.1, loadF (getM r.1.L s))) := Lib.hid (by rw [HX.out, if_pos rfl])
      have hd1 := HD1.out rfl
      have HRD := Lib.hid (dRead_any base db mb L2 r.1 s HSZ.out.1 w2 H2.out.1)
      cases hg : getM r.1.L s with
      | none =>
        rw [show readA r.1 s = ([], 7) by unfold readA; rw [hd1, hg]; rfl] at HRD
        have HF : Hid (∀ w', Kept (fun _ => False) w2 w' → LoadTo base w db mb L R (.returned (.tuple #[.slice none 0 0, .bool false, .int .i64 0])) w') := Lib.hid (fun w' k => by
          rw [HX0.out, hg]
          exact LoadTo.none (H2.out.1.kept k (fun _ _ x => x)) (H2.out.2.1.trans (k.mono (fun _ _ x => x.elim))) H2.out.2.2)
        clear hg hd1
        go_wp2_with fail
        refine HRD.out.mono ?_
        rintro e w3 ⟨a, c, rfl, hmi⟩
        have HK3 := Lib.hid hmi.kept
        clear hmi
        dsimp only [List.length_nil]
        go_wp2
        go_ret3
        exact HF.out _ HK3.out
      | some f =>
        rw [show readA r.1 s = (f.b, 0) by unfold readA; rw [hd1, hg]; rfl] at HRD
        have hfb : ∀ x ∈ f.b, x < 256 := H2.out.1.ok.byte (s, f) (getM_mem hg)
        have hfl : f.b.length ≤ 1000000000 := by
          have h1 := usedL_del H2.out.1.ok.asc.pair s
          rw [hg] at h1
          have h2 := H2.out.1.ok.used
          have h3 := H2.out.1.ok.capR
          have h4 : szM (some f) = f.b.length := rfl
          omega
        have HFB := Lib.hid (And.intro hfb hfl)
        have HX1 : Hid (R = (r.1, if firstE f.b = 0 ∧ 9 + sizeL f.b = f.b.length then (payL f.b, true, 0) else ([], false, 15))) := Lib.hid (by rw [HX0.out, hg]; rfl)
        have HAL := Lib.hid (fun j (x : foot db mb L2 j) => (H2.out.1.lt x).1)
        obtain ⟨m, hm⟩ : ∃ m, m = f.b.length := ⟨_, rfl⟩
        have HM := Lib.hid hm
        clear hg hd1 hfb hfl
        go_wp2_with fail
        refine HRD.out.mono ?_
        rintro e w3 ⟨a, c, rfl, hmi⟩
        have hcap := own_capB hmi.own
        have HFI := Lib.hid (first_any a c f.b HFB.out.2 hcap w3 (slAt_row8 hmi.at_ HFB.out.1) ((HNI.out.1.keptS H2.out.2.1 (HH.out.no0 HNI.out.2)).kept hmi.kept))
        have HK3 := Lib.hid hmi.kept
        dsimp only
        rw [← hm] at HFI ⊢
        clear hmi hcap hm
        go_wp2_with fail
        refine HFI.out.mono ?_
        rintro e w4 hfi
        have hk4 : Kept (fun _ => False) w3 w4 := by
          unfold Firsted at hfi
          split at hfi
          · obtain ⟨v, _, _, k⟩ := hfi; exact k
          · exact hfi.2
        have HK4 := Lib.hid (HK3.out.trans hk4)
        have HD4 := Lib.hid (And.intro (H2.out.1.kept HK4.out (fun _ _ x => x)) (H2.out.2.1.trans (HK4.out.mono (fun _ _ x => x.elim))))
        have HBAD : Hid (¬ (firstE f.b = 0 ∧ 9 + sizeL f.b = f.b.length) → LoadTo base w db mb L R (.returned (.tuple #[.slice none 0 0, .bool false, .int .i64 15])) w4) := Lib.hid (fun e => by
          rw [HX1.out, if_neg e]
          exact LoadTo.none HD4.out.1 HD4.out.2 H2.out.2.2)
        unfold Firsted at hfi
        by_cases he : firstE f.b = 0
        · rw [if_pos he] at hfi
          obtain ⟨v, rfl, hown, _⟩ := hfi
          obtain ⟨pa, pc, rfl⟩ := ownsRow_slice hown
          have hsz := firstE_size f.b he
          have hpl : (payL f.b).length = sizeL f.b := by unfold payL; rw [List.length_take, List.length_drop]; omega
          have HOW := Lib.hid hown
          have HHE := Lib.hid he
          have HPL := Lib.hid hpl
          obtain ⟨n, hn⟩ : ∃ n, n = 9 + sizeL f.b := ⟨_, rfl⟩
          have HNE := Lib.hid hn
          obtain ⟨q, hq⟩ : ∃ q, q = sizeL f.b := ⟨_, rfl⟩
          have HQE := Lib.hid hq
          rw [← hn, ← hq]
          have hnm : n ≤ m := by rw [hn, HM.out]; exact hsz
          clear hown hk4 hsz hpl he hn hq
          by_cases hlt : n < m
          · have q1 : (n : Int) < (m : Int) := by omega
            have HF := Lib.hid (HBAD.out (fun e => by have := e.2; have := HNE.out; have := HM.out; omega))
            clear hlt hnm
            go_wp2
            go_ret3
            exact HF.out
          · have q1 : ¬ (n : Int) < (m : Int) := by omega
            have HF : Hid (LoadTo base w db mb L R (.returned (.tuple #[.slice pa q pc, .bool true, .int .i64 0])) w4) := Lib.hid (by
              rw [HX1.out, if_pos ⟨HHE.out, by have := HNE.out; have := HM.out; omega⟩]
              have hb8 : ∀ x ∈ payL f.b, x < 256 := fun x hx => HFB.out.1 x (List.mem_of_mem_drop (List.mem_of_mem_take hx))
              have hrow : Row8 w4 (.slice pa (payL f.b).length pc) (payL f.b) := by
                have := HOW.out
                rw [← HPL.out] at this
                exact slAt_row8 (SlAt.ofOwn this) hb8
              rw [HQE.out, ← HPL.out]
              refine ⟨L2, pa, pc, rfl, HD4.out.1, HD4.out.2, H2.out.2.2, hrow, fun x e => ?_⟩
              subst e
              have h9 := ownsRow_lt HOW.out (k := x.block) rfl
              have h8 := H2.out.2.1.size
              have h7 := HK3.out.size
              exact ⟨by omega, h9.1, fun f => by have := HAL.out _ f; omega⟩)
            clear hlt hnm
            go_wp2
            go_ret3
            exact HF.out
        · rw [if_neg he] at hfi
          obtain ⟨rfl, _⟩ := hfi
          have HF := Lib.hid (HBAD.out (fun e => he e.1))
          obtain ⟨n, hn⟩ : ∃ n : Int, n = ((firstE f.b : Nat) : Int) := ⟨_, rfl⟩
          have q1 : (n != 0) = true := by
            have : n ≠ 0 := by rw [hn]; omega
            simp [bne, beq_eq_false_iff_ne.2 this]
          rw [← hn]
          clear hk4 he hn
          go_wp2
          go_ret3
          exact HF.out
    · have q0 : (z != 0) = true := by simp [bne, beq_eq_false_iff_ne.2 h0]
      have HF : Hid (LoadTo base w db mb L R (.returned (.tuple #[.slice none 0 0, .bool false, .int .i64 z])) w2) := Lib.hid (by rw [HX.out, if_neg h0]; exact LoadTo.none H2.out.1 H2.out.2.1 H2.out.2.2)
      clear h0
      go_wp2
      go_ret3
      exact HF.out
end Go.Proofs.YtficodklidaheaaDoor
