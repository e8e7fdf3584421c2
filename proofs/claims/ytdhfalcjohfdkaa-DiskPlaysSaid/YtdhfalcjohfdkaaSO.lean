/- Layer 18: both disks, side by side; what is done with them, plainly; Fail and Crash of both, and what is none of these (do). -/
import Derived.Test.YtdhfalcjohfdkaaSL
import Derived.Test.YtdhfalcjohfdkaaSA
import Derived.Test.YtdhfalcjohfdkaaS9
import Derived.Test.YtdhfalcjohfdkaaSH
import Derived.Test.YtdhfalcjohfdkaaSJ
namespace Go.Proofs.Ytdhfalcjohfdkaa
open Go.RowKit
attribute [local go_sem ↓] Go.wp_at_zero Go.wp_at_succ

/-- The program's disk and the document's, neither of which reaches the other. -/
structure Half (W w : World) (db mb : Nat) (L : List (ByteArray × Fi)) (rb : Nat) (ao : Option Addr) (cp : Nat) (LR : List RF) (D D' : DA) : Prop where
  d : DK W.heap.size w db mb L D
  r : RK w rb ao cp LR D'
  sep : ∀ k, foot db mb L k → ¬ rfoot rb ao LR k
  new : W.heap.size ≤ rb
  k : Kept (fun _ => False) W w
section
variable {W w w' : World} {db mb rb cp : Nat} {L : List (ByteArray × Fi)} {ao : Option Addr} {LR : List RF} {D D' : DA}
theorem Half.on (h : Half W w db mb L rb ao cp LR D D') (k : Kept (fun _ => False) w w') : Half W w' db mb L rb ao cp LR D D' :=
  ⟨h.d.kept k (fun _ _ x => x), h.r.kept k (fun _ _ x => x), h.sep, h.new, h.k.trans k⟩
theorem Half.prog {r : DA × Int} {e : Ending} (h : Half W w db mb L rb ao cp LR D D') (t : DTo W.heap.size w db mb L r e w') : ∃ L', e = .returned (.int .i64 r.2) ∧ Half W w' db mb L' rb ao cp LR r.1 D' ∧ Kept (foot db mb L) w w' := by
  obtain ⟨L', h1, h2, h3, h4⟩ := t
  refine ⟨L', h1, ⟨h2, h.r.kept h3 (fun j a b => h.sep j b a), fun k a b => ?_, h.new, h.k.newer h3 (fun j e => (h.d.lt e).2)⟩, h3⟩
  rcases h4 k a with x | x
  · exact h.sep k x b
  · have := h.r.lt b
    omega
theorem Half.doc {r : DA × Int} {e : Ending} (h : Half W w db mb L rb ao cp LR D D') (t : RTo w rb ao LR r e w') : ∃ ao' cp' LR', e = .returned (.int .i64 r.2) ∧ Half W w' db mb L rb ao' cp' LR' D r.1 ∧ Kept (fun k => k = rb) w w' := by
  obtain ⟨ao', cp', LR', h1, h2, h3, h4⟩ := t
  refine ⟨ao', cp', LR', h1, ⟨h.d.kept h3 (fun j a b => h.sep j a (.inl b)), h2, fun k a b => ?_, h.new, h.k.newer h3 (fun j e => by rw [e]; exact h.new)⟩, h3⟩
  rcases h4 k b with x | x
  · exact h.sep k a x
  · have := (h.d.lt a).1
    omega
theorem Half.noRb (h : Half W w db mb L rb ao cp LR D D') : ¬ foot db mb L rb := fun x => h.sep rb x (.inl rfl)
theorem Half.old (h : Half W w db mb L rb ao cp LR D D') {q : Nat} (hq : w.heap.size ≤ q) : ¬ foot db mb L q ∧ q ≠ rb :=
  ⟨fun x => by have := (h.d.lt x).1; omega, fun x => by have := h.r.lt (k := rb) (.inl rfl); omega⟩
end
/-- What is done, and with what. -/
structure Ac where
  kind : Int
  A : ByteArray
  B : ByteArray
  N : Int
  code : Int
  ka : Option Addr
  kc : Nat
  keep : List Int
def Ac.cells (x : Ac) : List Value := [.int .i64 x.kind, .string x.A, .string x.B, .int .i64 x.N, .int .i64 x.code, .slice x.ka x.keep.length x.kc]
def Ac.box (x : Ac) : Array Value := #[.int .i64 x.kind, .string x.A, .string x.B, .int .i64 x.N, .int .i64 x.code, .slice x.ka x.keep.length x.kc]
structure Ac.Ok (W : World) (x : Ac) : Prop where
  A : x.A.size ≤ 100
  B : x.B.size ≤ 100
  N : I64 x.N
  keep : ∀ k ∈ x.keep, I64 k
  at_ : SlAt W (.slice x.ka x.keep.length x.kc) (vals x.keep)
def actD (D : DA) (x : Ac) : DA × Int :=
  if x.kind = 0 then createD D x.A else if x.kind = 1 then appendD D x.A (bl x.B) else if x.kind = 2 then syncD D x.A
  else if x.kind = 3 then cutD D x.A x.N else if x.kind = 4 then renameD D x.A x.B else if x.kind = 5 then removeD D x.A
  else if x.kind = 6 then (failD D x.N x.code, 0) else if x.kind = 7 then (crashD D x.N, 0) else if x.kind = 8 then bootD D x.keep else (D, 0)
/-- What do answers and leaves. -/
def DoTo (W : World) (db mb rb : Nat) (r r' : DA × Int) (e : Ending) (w' : World) : Prop := e = .returned (.bool (r.2 == r'.2)) ∧ ∃ L ao cp LR, Half W w' db mb L rb ao cp LR r.1 r'.1

set_option maxRecDepth 100000 in
set_option maxHeartbeats 4000000 in
theorem do_none (W : World) (db mb : Nat) (L : List (ByteArray × Fi)) (rb : Nat) (ao : Option Addr) (cp : Nat) (LR : List RF) (D D' : DA) (x : Ac) (w : World) (h : Half W w db mb L rb ao cp LR D D')
    (hk : ¬ (0 ≤ x.kind ∧ x.kind ≤ 8)) :
    Calls Try.prog 12 #[.pointer (some ⟨db, 0, none⟩), .pointer (some ⟨rb, 0, none⟩), .agg x.box] w (DoTo W db mb rb (actD D x) (actD D' x)) := by
  have HX := Lib.hid (fun E : DA => show actD E x = (E, 0) by unfold actD; rw [if_neg (by omega), if_neg (by omega), if_neg (by omega), if_neg (by omega), if_neg (by omega), if_neg (by omega), if_neg (by omega), if_neg (by omega), if_neg (by omega)])
  obtain ⟨k, A, B, n, z, ka, kc, keep⟩ := x
  obtain ⟨kn, hkn⟩ : ∃ kn, kn = keep.length := ⟨_, rfl⟩
  unfold Ac.box
  dsimp only at hk ⊢
  rw [← hkn]
  have e0 : (k == (0 : Int)) = false := beqF (by omega)
  have e1 : (k == (1 : Int)) = false := beqF (by omega)
  have e2 : (k == (2 : Int)) = false := beqF (by omega)
  have e3 : (k == (3 : Int)) = false := beqF (by omega)
  have e4 : (k == (4 : Int)) = false := beqF (by omega)
  have e5 : (k == (5 : Int)) = false := beqF (by omega)
  have e6 : (k == (6 : Int)) = false := beqF (by omega)
  have e7 : (k == (7 : Int)) = false := beqF (by omega)
  have e8 : (k == (8 : Int)) = false := beqF (by omega)
  have HH := Lib.hid h
  clear hk hkn h
  go_enter Try.func12, Try.ntmps12
  go_wp2
  go_ret
  rw [HX.out D, HX.out D']
  exact ⟨rfl, L, ao, cp, LR, HH.out.on ((Kept.refl _ _).alloc _)⟩

set_option maxRecDepth 100000 in
set_option maxHeartbeats 4000000 in
theorem do_fail (W : World) (db mb : Nat) (L : List (ByteArray × Fi)) (rb : Nat) (ao : Option Addr) (cp : Nat) (LR : List RF) (D D' : DA) (x : Ac) (w : World) (h : Half W w db mb L rb ao cp LR D D')
    (hx : x.Ok W) (hk : x.kind = 6) :
    Calls Try.prog 12 #[.pointer (some ⟨db, 0, none⟩), .pointer (some ⟨rb, 0, none⟩), .agg x.box] w (DoTo W db mb rb (actD D x) (actD D' x)) := by
  have HX := Lib.hid (fun E : DA => show actD E x = (failD E x.N x.code, 0) by unfold actD; rw [hk]; rfl)
  obtain ⟨k, A, B, n, z, ka, kc, keep⟩ := x
  obtain ⟨kn, hkn⟩ : ∃ kn, kn = keep.length := ⟨_, rfl⟩
  unfold Ac.box
  dsimp only at hk hx ⊢ HX
  subst hk
  have HN := Lib.hid hx.N
  dsimp only at HN
  rw [← hkn]
  obtain ⟨q, hq⟩ : ∃ q, q = w.heap.size := ⟨_, rfl⟩
  obtain ⟨w0, hw0⟩ : ∃ w0, w0 = w.alloc (.cells #[.int .i64 6, .string A, .string B, .int .i64 n, .int .i64 z, .slice ka kn kc] 36) := ⟨_, rfl⟩
  have k0 : Kept (fun _ => False) w w0 := by rw [hw0]; exact (Kept.refl _ _).alloc _
  have b0 : BoxAt w0 q 36 #[.int .i64 6, .string A, .string B, .int .i64 n, .int .i64 z, .slice ka kn kc] := by rw [hw0, hq]; exact BoxAt.new w _ _
  have HQ := Lib.hid (h.old (q := q) (by omega))
  have HW := Lib.hid (And.intro hw0 hq)
  have h0 := h.on k0
  have HF := Lib.hid (dFail_any W.heap.size db mb L D n z HN.out w0 h0.d)
  have HB0 := Lib.hid b0
  have HH := Lib.hid h0
  have d0 : w0.cell? ⟨q, 0, none⟩ = some (.int .i64 6) := b0.cell rfl
  have d3 : w0.cell? ⟨q, 3, none⟩ = some (.int .i64 n) := b0.cell rfl
  have d4 : w0.cell? ⟨q, 4, none⟩ = some (.int .i64 z) := b0.cell rfl
  clear hx hkn h hw0 hq k0 b0 h0
  go_enter Try.func12, Try.ntmps12
  go_upto_region 1 with fail
  rw [← HW.out.1, ← HW.out.2]
  go_wp2_with fail
  refine HF.out.mono ?_
  rintro e w1 ⟨rfl, h1, k1⟩
  obtain ⟨L1, _, H1, K1⟩ := HH.out.prog (r := (failD D n z, 0)) (e := .returned (.int .i64 0)) ⟨L, rfl, h1, k1.mono (fun _ _ e => .inl e), Foot.refl _ _ _ _⟩
  have b1 := HB0.out.kept K1 HQ.out.1
  have HB1 := Lib.hid b1
  have HH1 := Lib.hid H1
  clear d0 d3 d4 h1 k1 K1 H1
  have d3 : w1.cell? ⟨q, 3, none⟩ = some (.int .i64 n) := b1.cell rfl
  have d4 : w1.cell? ⟨q, 4, none⟩ = some (.int .i64 z) := b1.cell rfl
  have HA := Lib.hid (refArm_any n z w1)
  obtain ⟨R, hR⟩ : ∃ R : Int, R = (if z = 0 then -1 else armN n) := ⟨_, rfl⟩
  rw [← hR] at HA
  have HR := Lib.hid hR
  have f4 := HH1.out.r.box.fz 4
  have g4 := HH1.out.r.c.2.2.2.2.1
  clear b1 hR
  go_wp2_with fail
  refine HA.out.mono ?_
  rintro e w1' ⟨rfl, rfl⟩
  obtain ⟨w2, hw2⟩ : ∃ w2, w2 = w1.setCell ⟨rb, 4, none⟩ (.int .i64 R) := ⟨_, rfl⟩
  have k2 : Kept (fun k => k = rb) w1 w2 := by rw [hw2]; exact kept_set w1 rb 4 _
  have b2 := HB1.out.kept k2 (fun e => HQ.out.2 e)
  have r2 := HH1.out.r.box.set 4 (.int .i64 R)
  rw [← hw2] at r2
  have HW2 := Lib.hid (And.intro hw2 (And.intro r2 k2))
  have d4' : w2.cell? ⟨q, 4, none⟩ = some (.int .i64 z) := b2.cell rfl
  have f6 := r2.fz 6
  have g6 : w2.cell? ⟨rb, 6, none⟩ = some (.int .i64 D'.failBy) := r2.cell rfl
  clear hw2 k2 b2 r2
  go_upto_region 17 with fail
  rw [← HW2.out.1]
  go_wp2
  go_ret
  have kk : Kept (fun k => k = rb) w1 (w2.setCell ⟨rb, 6, none⟩ (.int .i64 z)) := HW2.out.2.2.trans (kept_set w2 rb 6 _)
  have hb : BoxAt (w2.setCell ⟨rb, 6, none⟩ (.int .i64 z)) rb 64 (boxR ao LR.length cp (failD D' n z)) := by
    have := HW2.out.2.1.set 6 (.int .i64 z)
    rw [HR.out] at this
    exact this
  obtain ⟨ao', cp', LR', _, H2, _⟩ := HH1.out.doc (r := (failD D' n z, 0)) (e := .returned (.int .i64 0)) ⟨ao, cp, LR, rfl, HH1.out.r.turned hb kk rfl (failD_ok HH1.out.r.ok n z HN.out), kk, RFoot.refl _ _ _ _⟩
  rw [HX.out D, HX.out D']
  exact ⟨rfl, _, _, _, _, H2⟩

set_option maxRecDepth 100000 in
set_option maxHeartbeats 4000000 in
theorem do_crash (W : World) (db mb : Nat) (L : List (ByteArray × Fi)) (rb : Nat) (ao : Option Addr) (cp : Nat) (LR : List RF) (D D' : DA) (x : Ac) (w : World) (h : Half W w db mb L rb ao cp LR D D')
    (hx : x.Ok W) (hk : x.kind = 7) :
    Calls Try.prog 12 #[.pointer (some ⟨db, 0, none⟩), .pointer (some ⟨rb, 0, none⟩), .agg x.box] w (DoTo W db mb rb (actD D x) (actD D' x)) := by
  have HX := Lib.hid (fun E : DA => show actD E x = (crashD E x.N, 0) by unfold actD; rw [hk]; rfl)
  obtain ⟨k, A, B, n, z, ka, kc, keep⟩ := x
  obtain ⟨kn, hkn⟩ : ∃ kn, kn = keep.length := ⟨_, rfl⟩
  unfold Ac.box
  dsimp only at hk hx ⊢ HX
  subst hk
  have HN := Lib.hid hx.N
  dsimp only at HN
  rw [← hkn]
  obtain ⟨q, hq⟩ : ∃ q, q = w.heap.size := ⟨_, rfl⟩
  obtain ⟨w0, hw0⟩ : ∃ w0, w0 = w.alloc (.cells #[.int .i64 7, .string A, .string B, .int .i64 n, .int .i64 z, .slice ka kn kc] 36) := ⟨_, rfl⟩
  have k0 : Kept (fun _ => False) w w0 := by rw [hw0]; exact (Kept.refl _ _).alloc _
  have b0 : BoxAt w0 q 36 #[.int .i64 7, .string A, .string B, .int .i64 n, .int .i64 z, .slice ka kn kc] := by rw [hw0, hq]; exact BoxAt.new w _ _
  have HQ := Lib.hid (h.old (q := q) (by omega))
  have HW := Lib.hid (And.intro hw0 hq)
  have h0 := h.on k0
  have HF := Lib.hid (dCrash_any W.heap.size db mb L D n HN.out w0 h0.d)
  have HB0 := Lib.hid b0
  have HH := Lib.hid h0
  have d0 : w0.cell? ⟨q, 0, none⟩ = some (.int .i64 7) := b0.cell rfl
  have d3 : w0.cell? ⟨q, 3, none⟩ = some (.int .i64 n) := b0.cell rfl
  clear hx hkn h hw0 hq k0 b0 h0
  go_enter Try.func12, Try.ntmps12
  go_upto_region 1 with fail
  rw [← HW.out.1, ← HW.out.2]
  go_wp2_with fail
  refine HF.out.mono ?_
  rintro e w1 ⟨rfl, h1, k1⟩
  obtain ⟨L1, _, H1, K1⟩ := HH.out.prog (r := (crashD D n, 0)) (e := .returned (.int .i64 0)) ⟨L, rfl, h1, k1.mono (fun _ _ e => .inl e), Foot.refl _ _ _ _⟩
  have b1 := HB0.out.kept K1 HQ.out.1
  have HH1 := Lib.hid H1
  clear d0 d3 h1 k1 K1 H1
  have d3 : w1.cell? ⟨q, 3, none⟩ = some (.int .i64 n) := b1.cell rfl
  have HA := Lib.hid (refArm_any n 13 w1)
  rw [if_neg (by decide)] at HA
  obtain ⟨R, hR⟩ : ∃ R : Int, R = armN n := ⟨_, rfl⟩
  rw [← hR] at HA
  have HR := Lib.hid hR
  have f5 := HH1.out.r.box.fz 5
  have g5 := HH1.out.r.c.2.2.2.2.2.1
  clear b1 hR
  go_wp2_with fail
  refine HA.out.mono ?_
  rintro e w1' ⟨rfl, rfl⟩
  go_wp2
  go_ret
  have kk : Kept (fun k => k = rb) w1 (w1.setCell ⟨rb, 5, none⟩ (.int .i64 R)) := kept_set w1 rb 5 _
  have hb : BoxAt (w1.setCell ⟨rb, 5, none⟩ (.int .i64 R)) rb 64 (boxR ao LR.length cp (crashD D' n)) := by
    have := HH1.out.r.box.set 5 (.int .i64 R)
    rw [HR.out] at this
    rw [HR.out]
    exact this
  obtain ⟨ao', cp', LR', _, H2, _⟩ := HH1.out.doc (r := (crashD D' n, 0)) (e := .returned (.int .i64 0)) ⟨ao, cp, LR, rfl, HH1.out.r.turned hb kk rfl (crashD_ok HH1.out.r.ok n HN.out), kk, RFoot.refl _ _ _ _⟩
  rw [HX.out D, HX.out D']
  exact ⟨rfl, _, _, _, _, H2⟩
end Go.Proofs.Ytdhfalcjohfdkaa
