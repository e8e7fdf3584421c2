/- Layer 19: Records, Sync, Name, Len, Size. -/
import Derived.Test.YtficodklidaheaaDoorWA
import Derived.Test.YtficodklidaheaaDoorF18r
import Derived.Test.YtficodklidaheaaDoorS6
import Derived.Deep.RegionWith
namespace Go.Proofs.YtficodklidaheaaDoor
open Go.RowKit
attribute [local go_sem ↓] Go.wp_at_zero Go.wp_at_succ

theorem byV_b8 (l : List Nat) : byV l = b8 l := rfl
theorem slAt_row8 {w : World} {v : Value} {l : List Nat} (h : SlAt w v (byV l)) (hb : ∀ x ∈ l, x < 256) : Row8 w v l := by
  obtain ⟨ao, c, e, hn, hc⟩ := h.val
  rw [byV_length] at e
  refine ⟨ao, c, e, hb, fun j hj => ?_⟩
  cases ao with
  | none => have := congrArg List.length (hn rfl); rw [byV_length] at this; simp at this; rw [this] at hj; simp at hj
  | some a => exact ⟨a, rfl, hc a rfl j _ (byV_get hj)⟩
theorem row8_keptS {S : Nat → Prop} {w w' : World} {a : Option Addr} {n c : Nat} {l : List Nat} (h : Row8 w (.slice a n c) l) (k : Kept S w w') (hn : ∀ x, a = some x → ¬ S x.block) : Row8 w' (.slice a n c) l := by
  obtain ⟨ao, c', e, hb, hc⟩ := h
  injection e with e1 e2 e3
  subst e1 e2 e3
  refine ⟨a, c, rfl, hb, fun j hj => ?_⟩
  obtain ⟨x, hx, h1⟩ := hc j hj
  exact ⟨x, hx, k.cell h1 (by rw [add_block]; exact hn x hx)⟩
/-- Rows of bytes that were made between two worlds of so many blocks. -/
def GotRows (w : World) (B H : Nat) (v : Value) (Ls : List (List Nat)) : Prop :=
  ∃ ao c, v = .slice ao Ls.length c ∧ Ls.length ≤ c ∧ ∀ i, i < Ls.length → ∃ g ai ci, ao = some ⟨g, 0, none⟩ ∧ B ≤ g ∧ g < H ∧ w.cell? ⟨g, i, none⟩ = some (.slice ai (Ls.getD i []).length ci) ∧ Row8 w (.slice ai (Ls.getD i []).length ci) (Ls.getD i []) ∧ ∀ a, ai = some a → B ≤ a.block ∧ a.block < H
theorem GotRows.nil (w : World) (B H : Nat) : GotRows w B H (.slice none 0 0) [] := ⟨none, 0, rfl, Nat.le_refl _, fun i hi => absurd hi (by simp)⟩
theorem GotRows.kept {S : Nat → Prop} {w w' : World} {B H : Nat} {v : Value} {Ls : List (List Nat)} (h : GotRows w B H v Ls) (k : Kept S w w') (hS : ∀ j, B ≤ j → j < H → ¬ S j) : GotRows w' B H v Ls := by
  obtain ⟨ao, c, e, hc, hi⟩ := h
  refine ⟨ao, c, e, hc, fun i h => ?_⟩
  obtain ⟨g, ai, ci, h1, h2, h3, h4, h5, h6⟩ := hi i h
  exact ⟨g, ai, ci, h1, h2, h3, k.cell h4 (hS g h2 h3), row8_keptS h5 k (fun x hx => hS _ (h6 x hx).1 (h6 x hx).2), h6⟩
theorem GotRows.at_ {w : World} {B H : Nat} {v : Value} {Ls : List (List Nat)} (h : GotRows w B H v Ls) : RowsAt w v Ls := by
  obtain ⟨ao, c, e, _, hi⟩ := h
  refine ⟨ao, c, e, fun i h => ?_⟩
  obtain ⟨g, ai, ci, h1, _, _, h4, h5, _⟩ := hi i h
  exact ⟨_, ai, ci, h1, by rw [addr_add0]; exact h4, h5⟩
theorem GotRows.of {w : World} {B : Nat} {v : Value} {vs : List Value} {Ls : List (List Nat)} (hb : ∀ l ∈ Ls, ∀ x ∈ l, x < 256) (ho : w.ownsRow B 22 1 v vs.length vs) (hr : Rows8 w B vs Ls) : GotRows w B w.heap.size v Ls := by
  have hl := hr.length
  obtain ⟨ao, c, rfl⟩ := ownsRow_slice ho
  rw [hl]
  refine ⟨ao, c, rfl, ?_, fun i hi => ?_⟩
  · rcases ho.2 with ⟨e, h0⟩ | ⟨g, cap, cur, e, _, _, hc, _⟩
    · omega
    · injection e with _ e2 e3
      omega
  · obtain ⟨u, hu, h8⟩ := hr.at_ i hi
    obtain ⟨g, cap, hv, _, _⟩ := own_at ho (by omega)
    injection hv with h1 h2 h3
    subst h1
    have hc := ho.cells (g := g) rfl i u hu
    rw [addr_add0] at hc
    have h9 := ownsRow_lt ho (k := g) rfl
    obtain ⟨ai, ci, rfl⟩ := ownsRow_slice h8
    refine ⟨g, ai, ci, rfl, h9.2, h9.1, hc, row8_own (hb _ (by rw [List.getD_eq_getElem?_getD, List.getElem?_eq_getElem hi]; simp)) h8, fun a e => ?_⟩
    subst e
    have := ownsRow_lt h8 (k := a.block) rfl
    exact ⟨this.2, this.1⟩
theorem ScanR.lt {l : List Nat} {Ls : List (List Nat)} {u e : Nat} (h : ScanR l Ls u e) (hb : ∀ x ∈ l, x < 256) : (∀ k ∈ Ls, ∀ x ∈ k, x < 256) ∧ u ≤ l.length := by
  induction h with
  | done => exact ⟨fun k hk => (by cases hk), Nat.le_refl _⟩
  | bad l h he => exact ⟨fun k hk => (by cases hk), Nat.zero_le _⟩
  | more l Ls u e h hr ih =>
    obtain ⟨h1, h2⟩ := ih (fun x hx => hb x (List.mem_of_mem_drop hx))
    refine ⟨fun k hk => ?_, ?_⟩
    · rcases List.mem_cons.1 hk with e | e
      · rw [e]; exact fun x hx => hb x (List.mem_of_mem_drop (List.mem_of_mem_take hx))
      · exact h1 k e
    · rw [List.length_drop] at h2
      have := firstE_size l h
      omega
theorem own_capB {w : World} {B : Nat} {E : TypeId} {ao : Option Addr} {n m c z : Nat} {xs : List Value} (h : w.ownsRow B E z (.slice ao n c) m xs) : n ≤ c := by
  rcases h.2 with ⟨e, h0⟩ | ⟨g, cap, cur, e, _, _, hc, _⟩
  · injection e with _ h1 h2
    omega
  · injection e with _ e2 e3
    subst e2 e3
    exact hc
theorem Nibs.keptS {S : Nat → Prop} {w w' : World} (h : Nibs w) (hk : Kept S w w') (h0 : ¬ S 0) : Nibs w' := fun j hj => hk.cell (h j hj) h0
theorem DK.no0 {base : Nat} {w : World} {db mb : Nat} {L : List (ByteArray × Fi)} {D : DA} (h : DK base w db mb L D) (hb : 0 < base) : ¬ foot db mb L 0 := fun x => by have := (h.lt x).2; omega
/-- What Records answers. -/
def RecTo (w : World) (l : List Nat) (e : Ending) (w' : World) : Prop :=
  ∃ Ls u n, ScanR l Ls u n ∧ Kept (fun _ => False) w w' ∧
    (((n = 0 ∨ n = 2) ∧ ∃ v, e = .returned (.tuple #[v, .int .i64 ((u : Nat) : Int), .int .i64 0]) ∧ GotRows w' w.heap.size w'.heap.size v Ls) ∨
     ((n ≠ 0 ∧ n ≠ 2) ∧ e = .returned (.tuple #[.slice none 0 0, .int .i64 0, .int .i64 15])))
set_option maxRecDepth 100000 in
set_option maxHeartbeats 2000000 in
theorem wRecords_any (ao : Option Addr) (c : Nat) (l : List Nat) (hl : l.length ≤ 1000000000) (hcap : l.length ≤ c) (w : World) (HB : Row8 w (.slice ao l.length c) l) (HN : Nibs w) :
    Calls Tryd.prog 21 #[.slice ao l.length c] w (RecTo w l) := by
  have HS := Lib.hid (scan_any ao c l hl hcap w HB HN)
  have HL := Lib.hid HB.lt
  obtain ⟨m, hm⟩ : ∃ m, m = l.length := ⟨_, rfl⟩
  rw [← hm] at HS ⊢
  clear hm hl hcap HB HN
  go_enter Tryd.func21, Tryd.ntmps21
  go_wp2_with fail
  refine HS.out.mono ?_
  rintro e w1 ⟨v, vs, Ls, u, n, hsc, rfl, hown, hrows, hk⟩
  have HR := Lib.hid (And.intro hsc (And.intro hk (GotRows.of (hsc.lt HL.out).1 hown hrows)))
  obtain ⟨a, c1, hv⟩ := ownsRow_slice hown
  clear hsc hown hrows hk
  obtain ⟨k, hkk⟩ : ∃ k, k = vs.length := ⟨_, rfl⟩
  rw [← hkk] at hv
  have HK : Hid (GotRows w1 w.heap.size w1.heap.size (.slice a k c1) Ls) := Lib.hid (by rw [← hv]; exact HR.out.2.2)
  subst hv
  clear hkk
  obtain ⟨z, hz⟩ : ∃ z : Int, z = ((n : Nat) : Int) := ⟨_, rfl⟩
  rw [← hz]
  by_cases h0 : n = 0
  · have HX := Lib.hid (show RecTo w l (.returned (.tuple #[.slice a k c1, .int .i64 ((u : Nat) : Int), .int .i64 0])) w1 from ⟨Ls, u, n, HR.out.1, HR.out.2.1, .inl ⟨.inl h0, _, rfl, HK.out⟩⟩)
    obtain rfl : z = 0 := by omega
    clear h0 hz
    go_wp2
    go_ret3
    exact HX.out
  · have q0 : (z == 0) = false := beq_eq_false_iff_ne.2 (by omega)
    by_cases h2 : n = 2
    · have HX := Lib.hid (show RecTo w l (.returned (.tuple #[.slice a k c1, .int .i64 ((u : Nat) : Int), .int .i64 0])) w1 from ⟨Ls, u, n, HR.out.1, HR.out.2.1, .inl ⟨.inr h2, _, rfl, HK.out⟩⟩)
      obtain rfl : z = 2 := by omega
      clear h0 h2 hz q0
      go_wp2
      go_ret3
      exact HX.out
    · have q2 : (z == 2) = false := beq_eq_false_iff_ne.2 (by omega)
      have q1 : (z != 0) = true := by simp [bne, q0]
      have q3 : (z != 2) = true := by simp [bne, q2]
      clear q0 q2
      have HX := Lib.hid (show RecTo w l (.returned (.tuple #[.slice none 0 0, .int .i64 0, .int .i64 15])) w1 from ⟨Ls, u, n, HR.out.1, HR.out.2.1, .inr ⟨⟨h0, h2⟩, rfl⟩⟩)
      clear h0 h2 hz
      go_wp2
      go_ret3
      exact HX.out
/-- A log in memory. -/
def LogAt (w : World) (lb db : Nat) (s : ByteArray) (n size : Int) : Prop := BoxAt w lb 117 #[.pointer (some ⟨db, 0, none⟩), .string s, .int .i64 n, .int .i64 size]
theorem DTo.pre {base : Nat} {w w1 : World} {db mb : Nat} {L : List (ByteArray × Fi)} {r : DA × Int} {e : Ending} {w' : World} (k : Kept (fun _ => False) w w1) (h : DTo base w1 db mb L r e w') : DTo base w db mb L r e w' := by
  obtain ⟨L', h1, h2, h3, h4⟩ := h
  exact ⟨L', h1, h2, (k.mono (fun _ _ x => x.elim)).trans h3, fun j x => (h4 j x).imp id (Nat.le_trans k.size)⟩
set_option maxRecDepth 100000 in
set_option maxHeartbeats 2000000 in
theorem wSync_any (base db mb lb : Nat) (L : List (ByteArray × Fi)) (D : DA) (s : ByteArray) (hs : s.size ≤ maxLen) (n size : Int) (w : World) (h : DK base w db mb L D) (hl : LogAt w lb db s n size) :
    Calls Tryd.prog 32 #[.pointer (some ⟨lb, 0, none⟩)] w (DTo base w db mb L (syncD D s)) := by
  have kd : Kept (fun _ => False) w w.drew := (Kept.refl _ _).drew
  have c0 := (hl.kept kd (fun x => x)).cell (i := 0) (u := .pointer (some ⟨db, 0, none⟩)) rfl
  have c1 := (hl.kept kd (fun x => x)).cell (i := 1) (u := .string s) rfl
  have HS := Lib.hid ((dSync_any base db mb L D s hs w.drew (h.kept kd (fun _ _ x => x))).mono (fun e w' => DTo.pre kd))
  clear h hl kd
  go_enter Tryd.func32, Tryd.ntmps32
  go_wp2
  go_region_with (go_at_call 47; refine HS.out.mono ?_; rintro e w1 ⟨L', rfl, h1⟩; have H1 := Lib.hid h1; clear h1)
  all_goals (
    go_wp2
    go_ret
    exact ⟨L', rfl, H1.out⟩)
theorem wLen_any (db lb : Nat) (s : ByteArray) (n size : Int) (w : World) (hl : LogAt w lb db s n size) :
    Calls Tryd.prog 26 #[.pointer (some ⟨lb, 0, none⟩)] w fun e w' => e = .returned (.int .i64 n) ∧ w = w' := by
  have c0 := hl.cell (i := 2) (u := .int .i64 n) rfl
  clear hl
  go_enter Tryd.func26, Tryd.ntmps26
  go_wp2
  go_ret
  exact ⟨rfl, rfl⟩
theorem wSize_any (db lb : Nat) (s : ByteArray) (n size : Int) (w : World) (hl : LogAt w lb db s n size) :
    Calls Tryd.prog 27 #[.pointer (some ⟨lb, 0, none⟩)] w fun e w' => e = .returned (.int .i64 size) ∧ w = w' := by
  have c0 := hl.cell (i := 3) (u := .int .i64 size) rfl
  clear hl
  go_enter Tryd.func27, Tryd.ntmps27
  go_wp2
  go_ret
  exact ⟨rfl, rfl⟩
theorem wName_any (db lb : Nat) (s : ByteArray) (n size : Int) (w : World) (hl : LogAt w lb db s n size) :
    Calls Tryd.prog 28 #[.pointer (some ⟨lb, 0, none⟩)] w fun e w' => e = .returned (.string s) ∧ w = w' := by
  have c0 := hl.cell (i := 1) (u := .string s) rfl
  clear hl
  go_enter Tryd.func28, Tryd.ntmps28
  go_wp2
  go_ret
  exact ⟨rfl, rfl⟩
end Go.Proofs.YtficodklidaheaaDoor
