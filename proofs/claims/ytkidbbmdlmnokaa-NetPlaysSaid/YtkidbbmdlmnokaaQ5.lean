/- package pack's reader, whatever its error: look, Num, Int, Count, next, Raw. -/
import Derived.Test.YtkidbbmdlmnokaaQ2
import Derived.Deep.LoopGhost
namespace Go.Proofs.Ytkidbbmdlmnokaa
open Go.RowKit
attribute [local go_sem ↓] Go.wp_at_zero Go.wp_at_succ

/-- What a look answers, the error it had ahead of all. -/
def lookE (l : List Int) (t : Nat) (e : Int) : Int × Nat × Int := if e = 0 then lookF l t else (0, 0, e)
theorem lookE_taken (l : List Int) (t : Nat) (e : Int) (ht : t ≤ l.length) : t + (lookE l t e).2.1 ≤ l.length := by
  unfold lookE
  split
  · exact lookF_taken l t ht
  · simpa using ht
theorem lookE_fault {l : List Int} {t n : Nat} {e v e1 : Int} (h : lookE l t e = (v, n, e1)) (he : e1 ≠ 0) : v = 0 ∧ n = 0 := by
  unfold lookE at h
  split at h
  · exact look_fault l t n v e1 h he
  · simp only [Prod.mk.injEq] at h; omega
theorem lookE_num {l : List Int} {t n : Nat} {e v : Int} (hb : ∀ x ∈ l, 0 ≤ x ∧ x < 256) (h : lookE l t e = (v, n, 0)) : e = 0 ∧ 0 ≤ v ∧ v ≤ 18446744073709551615 ∧ t + n ≤ l.length := by
  unfold lookE at h
  split at h
  · rename_i he
    obtain ⟨_, h1, h2, _, _, h3⟩ := look_num l t n v hb h
    exact ⟨he, h1, h2, h3⟩
  · rename_i he
    simp only [Prod.mk.injEq] at h; omega

theorem look_all (B p : Nat) (v : Value) (l : List Int) (t : Nat) (e : Int) (w : World) (HR : RdAt 113 5 w B p v l t e) (hl : l.length ≤ 100000000000) :
    Calls Try.prog 90 #[.pointer (some ⟨p, 0, none⟩)] w (Looked 113 5 w B p v l t (lookE l t e)) := by
  by_cases he : e = 0
  · subst he
    have : lookE l t 0 = lookF l t := if_pos rfl
    rw [this]; exact look_any B p v l t w HR hl
  · have : lookE l t e = (0, 0, e) := if_neg he
    rw [this]; exact look_err B p v l t e w HR (by simp [he])
theorem rnum_all (B p : Nat) (v : Value) (l : List Int) (t : Nat) (e : Int) (w : World) (HR : RdAt 113 5 w B p v l t e) (hl : l.length ≤ 100000000000) :
    Calls Try.prog 62 #[.pointer (some ⟨p, 0, none⟩)] w (Read 113 5 w B p v l t (lookE l t e)) := by
  by_cases he : e = 0
  · subst he
    have : lookE l t 0 = lookF l t := if_pos rfl
    rw [this]; exact rnum_any B p v l t w HR hl
  · have : lookE l t e = (0, 0, e) := if_neg he
    rw [this]; exact rnum_err B p v l t e w HR hl (by simp [he])

theorem lookE_range (l : List Int) (t : Nat) (e : Int) (hb : ∀ x ∈ l, 0 ≤ x ∧ x < 256) : 0 ≤ (lookE l t e).1 ∧ (lookE l t e).1 ≤ 18446744073709551615 := by
  obtain ⟨r, hr⟩ : ∃ r, r = lookE l t e := ⟨_, rfl⟩
  obtain ⟨v, n, e1⟩ := r
  rw [← hr]
  by_cases he : e1 = 0
  · subst he
    obtain ⟨_, h1, h2, _⟩ := lookE_num hb hr.symm
    exact ⟨h1, h2⟩
  · have := (lookE_fault hr.symm he).1
    simp only; omega

set_option maxHeartbeats 400000 in
set_option maxRecDepth 100000 in
theorem rint_all (B p : Nat) (v : Value) (l : List Int) (t : Nat) (e : Int) (w : World) (HR : RdAt 113 5 w B p v l t e) (hl : l.length ≤ 100000000000) :
    Calls Try.prog 63 #[.pointer (some ⟨p, 0, none⟩)] w fun e' w' => e' = .returned (.int .i64 (zagI (lookE l t e).1)) ∧ RdAt 113 5 w' B p v l (t + (lookE l t e).2.1) (lookE l t e).2.2 ∧ Kept (fun k => k = p) w w' := by
  have hr := lookE_range l t e HR.byte
  have HN := Lib.hid (rnum_all B p v l t e w HR hl)
  obtain ⟨r, hrr⟩ : ∃ r, r = lookE l t e := ⟨_, rfl⟩
  rw [← hrr] at HN hr ⊢
  clear hrr HR
  go_enter Try.func63, Try.ntmps63
  go_wp2_with fail
  refine HN.out.mono ?_
  rintro e' w' ⟨rfl, HR1, hk⟩
  have HF := Lib.hid (And.intro HR1 hk)
  clear HR1 hk
  go_wp2_with (go_at_call 91; refine (zag_any _ hr.1 hr.2 _).mono ?_; rintro e w' ⟨rfl, rfl⟩)
  go_ret
  exact ⟨rfl, HF.out⟩

/-- What Count answers. -/
def countF (l : List Int) (t : Nat) (e most : Int) : Int × Nat × Int := if (lookE l t e).2.2 = 0 ∧ (most < 0 ∨ most < (lookE l t e).1) then (0, 0, 4) else lookE l t e

set_option maxHeartbeats 1000000 in
set_option maxRecDepth 100000 in
theorem rcount_all (B p : Nat) (v : Value) (l : List Int) (t : Nat) (e most : Int) (w : World) (HR : RdAt 113 5 w B p v l t e) (hl : l.length ≤ 100000000000) (hm0 : -9223372036854775808 ≤ most) (hm1 : most ≤ 9223372036854775807) :
    Calls Try.prog 68 #[.pointer (some ⟨p, 0, none⟩), .int .i64 most] w fun e' w' => e' = .returned (.int .i64 (countF l t e most).1) ∧ RdAt 113 5 w' B p v l (t + (countF l t e most).2.1) (countF l t e most).2.2 ∧ Kept (fun k => k = p) w w' := by
  have HN := Lib.hid (look_all B p v l t e w HR hl)
  have hcf : countF l t e most = if (lookE l t e).2.2 = 0 ∧ (most < 0 ∨ most < (lookE l t e).1) then (0, 0, 4) else lookE l t e := rfl
  have htk := lookE_taken l t e HR.taken
  have hrg := lookE_range l t e HR.byte
  have hft : ∀ v n e1, lookE l t e = (v, n, e1) → e1 ≠ 0 → v = 0 ∧ n = 0 := fun v n e1 h he => lookE_fault h he
  obtain ⟨r, hrr⟩ : ∃ r, r = lookE l t e := ⟨_, rfl⟩
  rw [← hrr] at HN hcf htk hrg hft
  obtain ⟨x, n, e1⟩ := r
  obtain ⟨c, hc⟩ : ∃ c, c = countF l t e most := ⟨_, rfl⟩
  rw [← hc] at hcf ⊢
  simp only at hcf htk hrg
  have hf := fun h => hft x n e1 rfl h
  have htl := HR.taken
  clear hrr HR hc hft
  have HCF := Lib.hid hcf
  have HFT := Lib.hid hf
  clear hcf hf
  go_enter Try.func68, Try.ntmps68
  go_wp2_with fail
  refine HN.out.mono ?_
  rintro e' w' ⟨rfl, HR1, hk⟩
  simp only at HR1
  have hc2 := HR1.c2
  have hf2 := HR1.free 2
  have H1 := Lib.hid HR1
  have HK := Lib.hid hk
  clear HR1 hk
  by_cases he : e1 = 0
  · subst he
    by_cases hm : most < 0
    · have fin : Hid (RdAt 113 5 (w'.setCell ⟨p, 2, none⟩ (.int .i64 4)) B p v l (t + c.2.1) c.2.2 ∧ c.1 = 0) := by
        show _ ∧ _
        rw [HCF.out, if_pos ⟨rfl, .inl hm⟩]; exact ⟨H1.out.setErr, rfl⟩
      go_wp2
      go_ret
      exact ⟨by rw [fin.out.2]; rfl, fin.out.1, HK.out.setCell (fun _ => rfl) _⟩
    · have hm2 : 0 ≤ most := by omega
      have m3 : IntKind.u64.wrap most = most := wrap_u64_of _ hm2 (by omega)
      by_cases hx : most < x
      · have fin : Hid (RdAt 113 5 (w'.setCell ⟨p, 2, none⟩ (.int .i64 4)) B p v l (t + c.2.1) c.2.2 ∧ c.1 = 0) := by
          show _ ∧ _
          rw [HCF.out, if_pos ⟨rfl, .inr hx⟩]; exact ⟨H1.out.setErr, rfl⟩
        go_wp2
        go_ret
        exact ⟨by rw [fin.out.2]; rfl, fin.out.1, HK.out.setCell (fun _ => rfl) _⟩
      · have hc1 := H1.out.c1
        have hf1 := H1.out.free 1
        have x1 : IntKind.i64.wrap x = x := IntWalk.i64_in _ ⟨by omega, by omega⟩
        obtain ⟨T2, hT2⟩ : ∃ T2, T2 = t + n := ⟨_, rfl⟩
        have e2 : (t : Int) + (n : Int) = (T2 : Int) := by omega
        have e3 : IntKind.i64.wrap (T2 : Int) = (T2 : Int) := IntWalk.i64_in _ ⟨by omega, by omega⟩
        have fin : Hid (RdAt 113 5 (w'.setCell ⟨p, 1, none⟩ (.int .i64 (T2 : Int))) B p v l (t + c.2.1) c.2.2 ∧ c.1 = x) := by
          show _ ∧ _
          rw [HCF.out, if_neg (by omega)]
          have := H1.out.setAt (t2 := T2) (by omega)
          rw [hT2] at this ⊢
          exact ⟨this, rfl⟩
        clear hT2
        go_wp2
        go_ret
        exact ⟨by rw [fin.out.2]; rfl, fin.out.1, HK.out.setCell (fun _ => rfl) _⟩
  · have q1 : (e1 == 0) = false := by simp [he]
    have q2 : (e1 != 0) = true := by simp [he]
    obtain ⟨hx0, hn0⟩ := HFT.out he
    have fin : Hid (RdAt 113 5 w' B p v l (t + c.2.1) c.2.2 ∧ c.1 = 0) := by
      show _ ∧ _
      rw [HCF.out, if_neg (fun h => he h.1)]
      simp only [hn0, hx0]; exact ⟨H1.out, trivial⟩
    clear hx0 hn0
    go_wp2
    go_ret
    exact ⟨by rw [fin.out.2]; rfl, fin.out.1, HK.out⟩

theorem wrun_cut {P : Program} {t E : TypeId} {i : TypeInfo} (ht : P.underlying t = some (.slice E)) (hi : P.info? E = some i) (hs : i.size = 1) (a : Option Addr) (len cap lo hi' : Nat) (hlo : lo ≤ hi') (hhi : hi' ≤ cap) (w : World) :
    (Instr.slice t (.slice a len cap) (some (.int .i64 (lo : Int))) (some (.int .i64 (hi' : Int))) none).run P w = .ok (.slice (if cap = lo then a else a.map (·.add lo)) (hi' - lo) (cap - lo)) w := by
  have he : P.elem t = E := by simp [Program.elem, ht]
  rw [run_slice_lh w t a len cap (by rw [he]; exact ht) .i64 .i64 lo hi' (by omega) (by omega) (by omega), he]
  simp [sizeOf, typeInfo, hi, hs, sliced]
theorem wrun_cutAt {P : Program} {t E : TypeId} {i : TypeInfo} (ht : P.underlying t = some (.slice E)) (hi : P.info? E = some i) (hs : i.size = 1) (a : Option Addr) (len cap lo hi' : Nat) (hlo : lo ≤ hi') (hhi : hi' ≤ cap) (w : World) :
    (Instr.sliceAt t (.slice a len cap) (some (.int .i64 (lo : Int))) (some (.int .i64 (hi' : Int))) none).run P w = .ok (.slice (if cap = lo then a else a.map (·.add lo)) (hi' - lo) (cap - lo)) w := by
  have he : P.elem t = E := by simp [Program.elem, ht]
  rw [run_sliceAt_slice w t _ _ _ _ (by rw [he]; exact ht)]
  exact wrun_cut ht hi hs a len cap lo hi' hlo hhi w
theorem wadd_add (a : Addr) (i j : Nat) : (a.add i).add j = a.add (i + j) := by
  unfold Addr.add
  by_cases hi : i = 0 <;> by_cases hj : j = 0 <;> simp [hi, hj, Nat.add_assoc]
theorem own_capW {w : World} {B : Nat} {E : TypeId} {ao : Option Addr} {s n m c : Nat} {xs : List Value} (h : w.ownsRow B E s (.slice ao n c) m xs) : m ≤ c := by
  rcases h.2 with ⟨e, h0⟩ | ⟨g, cap, cur, e, _, _, hm, _⟩
  · omega
  · injection e with e1 e2 e3; omega
theorem SliceAt.cut {w : World} {ao : Option Addr} {n c : Nat} {l : List Int} (h : SliceAt w (.slice ao n c) ao n c (u8s l)) {lo hi : Nat} (h1 : lo ≤ hi) (h2 : hi ≤ n) (h3 : n ≤ c) :
    SliceAt w (.slice (if c = lo then ao else ao.map (·.add lo)) (hi - lo) (c - lo)) (if c = lo then ao else ao.map (·.add lo)) (hi - lo) (c - lo) (u8s ((l.drop lo).take (hi - lo))) := by
  have hl := h.len
  have hll : l.length = n := by simpa [u8s] using hl
  have hlen : (u8s ((l.drop lo).take (hi - lo))).length = hi - lo := by simp [u8s]; omega
  refine ⟨rfl, hlen, fun h0 => ?_, fun a ha j u hu => ?_⟩
  · by_cases hcl : c = lo
    · omega
    · rw [if_neg hcl] at h0
      cases ao with
      | none => have := h.none rfl; omega
      | some a => cases h0
  · have hj : j < hi - lo := by have := (List.getElem?_eq_some_iff.1 hu).1; omega
    rw [if_neg (by omega)] at ha
    cases ao with
    | none => cases ha
    | some b =>
      cases ha
      rw [wadd_add]
      refine h.cells b rfl _ u ?_
      unfold u8s at hu ⊢
      rw [List.getElem?_map, List.getElem?_take, if_pos hj, List.getElem?_drop] at hu
      rw [List.getElem?_map]; exact hu

/-- What next answers: the bytes, how many are taken, the error. -/
def nextF (l : List Int) (t : Nat) (e n : Int) : List Int × Nat × Int :=
  if e ≠ 0 then ([], 0, e) else if n < 0 then ([], 0, 1) else if (l.length : Int) - t < n then ([], 0, 2) else ((l.drop t).take n.toNat, n.toNat, 0)

/-- What it leaves. -/
def Nexted (w : World) (B p : Nat) (v : Value) (l : List Int) (t : Nat) (r : List Int × Nat × Int) (e : Ending) (w' : World) : Prop :=
  ∃ vs ao c, e = .returned vs ∧ SliceAt w' vs ao r.1.length c (u8s r.1) ∧ RdAt 113 5 w' B p v l (t + r.2.1) r.2.2 ∧ Kept (fun k => k = p) w w' ∧ (∀ a, ao = some a → a.block < w'.heap.size)

theorem Nexted.drewN {w w' : World} {B p : Nat} {v : Value} {l : List Int} {t : Nat} {r : List Int × Nat × Int} {e : Ending} (h : Nexted w B p v l t r e w') (n : Nat) : Nexted w B p v l t r e (w'.drewN n) := by
  obtain ⟨vs, ao, c, h1, h2, h3, h4, h5⟩ := h
  exact ⟨vs, ao, c, h1, h2.kept ((Kept.refl (fun _ => False) w').drewN n) (fun _ _ x => x), h3.drewN n, h4.drewN n, h5⟩

theorem sliceAt_nil (w : World) : SliceAt w (.slice none 0 0) none 0 0 (u8s []) := ⟨rfl, rfl, fun _ => rfl, fun a h => by cases h⟩

set_option maxHeartbeats 1000000 in
set_option maxRecDepth 100000 in
theorem rnext_all (B p : Nat) (v : Value) (l : List Int) (t : Nat) (e n : Int) (w : World) (HR : RdAt 113 5 w B p v l t e) (hl : l.length ≤ 100000000000) :
    Calls Try.prog 92 #[.pointer (some ⟨p, 0, none⟩), .int .i64 n] w (Nexted w B p v l t (nextF l t e n)) := by
  obtain ⟨i0, hi, hz0, hz1, hz2⟩ := info_parts Try.info5
  have hc2 := HR.c2
  have htk := HR.taken
  by_cases he : e = 0
  · subst he
    by_cases hn : n < 0
    · have fin : Hid (Nexted w B p v l t (nextF l t 0 n) (.returned (.slice none 0 0)) (w.setCell ⟨p, 2, none⟩ (.int .i64 1))) := by
        show Nexted _ _ _ _ _ _ _ _ _
        have h : nextF l t 0 n = ([], 0, 1) := by unfold nextF; rw [if_neg (by simp), if_pos hn]
        rw [h]; exact ⟨_, _, _, rfl, sliceAt_nil _, HR.setErr, (Kept.refl (fun k => k = p) w).setCell (p := ⟨p, 2, none⟩) (fun _ => rfl) _, fun a h => by cases h⟩
      have hf2 := HR.free 2
      clear HR
      go_enter Try.func92, Try.ntmps92
      go_wp2
      go_ret
      exact fin.out
    · have hn0 : 0 ≤ n := by omega
      by_cases hs : (l.length : Int) - t < n
      · have fin : Hid (∀ q, Nexted w B p v l t (nextF l t 0 n) (.returned (.slice none 0 0)) ((w.drewN q).setCell ⟨p, 2, none⟩ (.int .i64 2))) := by
          show ∀ q, Nexted _ _ _ _ _ _ _ _ _
          have h : nextF l t 0 n = ([], 0, 2) := by unfold nextF; rw [if_neg (by simp), if_neg hn, if_pos hs]
          rw [h]; exact fun q => ⟨_, _, _, rfl, sliceAt_nil _, (HR.drewN q).setErr, ((Kept.refl (fun k => k = p) w).drewN q).setCell (p := ⟨p, 2, none⟩) (fun _ => rfl) _, fun a h => by cases h⟩
        have HLF := Lib.hid (left_any B p v l t 0 w HR hl)
        have hf2 : ∀ q, (w.drewN q).frozen? ⟨p, 2, none⟩ = false := fun q => (HR.drewN q).free 2
        have hc3 : ∀ q, (w.drewN q).cell? ⟨p, 2, none⟩ = some (.int .i64 0) := fun q => (HR.drewN q).c2
        clear HR
        go_enter Try.func92, Try.ntmps92
        go_wp2_with (go_at_call 71; refine HLF.out.mono ?_; rintro e w' ⟨rfl, q, rfl⟩)
        go_ret
        exact fin.out _
      · obtain ⟨m, rfl⟩ : ∃ m : Nat, n = m := ⟨n.toNat, by omega⟩
        obtain ⟨T2, hT2⟩ : ∃ T2, T2 = t + m := ⟨_, rfl⟩
        have e2 : (t : Int) + (m : Int) = (T2 : Int) := by omega
        have e3 : IntKind.i64.wrap (T2 : Int) = (T2 : Int) := IntWalk.i64_in _ ⟨by omega, by omega⟩
        have e4 : (T2 : Int) - (m : Int) = (t : Int) := by omega
        have e5 : IntKind.i64.wrap (t : Int) = (t : Int) := IntWalk.i64_in _ ⟨by omega, by omega⟩
        obtain ⟨aa, ca, rfl⟩ := ownsRow_slice HR.owns
        have hcap := own_capW HR.owns
        obtain ⟨A2, hA2⟩ : ∃ A2, A2 = (if ca = t then aa else aa.map (·.add t)) := ⟨_, rfl⟩
        obtain ⟨c2, hcc⟩ : ∃ c2, c2 = ca - t := ⟨_, rfl⟩
        have hm2 : T2 - t = m := by omega
        have s1 := fun w => wrun_cut (P := Try.prog) Try.underlying27 hi hz1 aa l.length ca t T2 (by omega) (by omega) w
        have s2 := fun w => wrun_cutAt (P := Try.prog) Try.underlying27 hi hz1 aa l.length ca t T2 (by omega) (by omega) w
        rw [← hA2, ← hcc, hm2] at s1 s2
        have hcell : ∀ q, ((w.drewN q).setCell ⟨p, 1, none⟩ (.int .i64 (T2 : Int))).cell? ⟨p, 0, none⟩ = some (.slice aa l.length ca) ∧ ((w.drewN q).setCell ⟨p, 1, none⟩ (.int .i64 (T2 : Int))).cell? ⟨p, 1, none⟩ = some (.int .i64 (T2 : Int)) := fun q => by
          have := (HR.drewN q).setAt (t2 := T2) (by omega)
          exact ⟨this.c0, this.c1⟩
        have fin : Hid (∀ q, Nexted w B p (.slice aa l.length ca) l t (nextF l t 0 m) (.returned (.slice A2 m c2)) ((w.drewN q).setCell ⟨p, 1, none⟩ (.int .i64 (T2 : Int)))) := by
          show ∀ q, Nexted _ _ _ _ _ _ _ _ _
          have h : nextF l t 0 m = ((l.drop t).take m, m, 0) := by unfold nextF; rw [if_neg (by simp), if_neg hn, if_neg hs]; rfl
          rw [h]
          intro q
          have H2 := (HR.drewN q).setAt (t2 := T2) (by omega)
          obtain ⟨ao', c', hv, hob⟩ := SliceAt.ofOwn H2.owns
          have hvv := hv.val
          injection hvv with h1 h2 h3
          subst h1; subst h3
          have h5 := hv.cut (lo := t) (hi := T2) (by omega) (by omega) hcap
          rw [← hA2, ← hcc, hm2] at h5
          have h6 : ((l.drop t).take m).length = m := by rw [List.length_take, List.length_drop]; omega
          refine ⟨_, A2, c2, rfl, by simp only [h6]; exact h5, by simp only; rw [← hT2]; exact H2, ((Kept.refl (fun k => k = p) w).drewN q).setCell (p := ⟨p, 1, none⟩) (fun _ => rfl) _, fun a ha => ?_⟩
          rw [hA2] at ha
          have hblk : ∃ b, aa = some b ∧ a.block = b.block := by
            split at ha
            · exact ⟨a, ha, rfl⟩
            · cases aa with
              | none => cases ha
              | some b => cases ha; exact ⟨b, rfl, by unfold Addr.add; split <;> rfl⟩
          obtain ⟨b, hb1, hb2⟩ := hblk
          rw [hb2]
          exact (ownsRow_lt H2.owns (k := b.block) (by rw [hob, hb1]; rfl)).1
        have HLF := Lib.hid (left_any B p (.slice aa l.length ca) l t 0 w HR hl)
        have hf1 : ∀ q, (w.drewN q).frozen? ⟨p, 1, none⟩ = false := fun q => (HR.drewN q).free 1
        have hc1 : ∀ q, (w.drewN q).cell? ⟨p, 1, none⟩ = some (.int .i64 (t : Int)) := fun q => (HR.drewN q).c1
        have hns : ¬ (l.length : Int) - (t : Int) < (m : Int) := hs
        clear HR hA2 hcc hm2 hT2 hcap hs
        go_enter Try.func92, Try.ntmps92
        go_wp2_with (go_at_call 71; refine HLF.out.mono ?_; rintro e w' ⟨rfl, q, rfl⟩)
        have hc5 := (hcell q).1
        have hc6 := (hcell q).2
        clear hcell
        go_quiet (fail)
        go_wp2
        go_ret
        exact (fin.out _).drewN _
  · have q2 : (e != 0) = true := by simp [he]
    have fin : Hid (Nexted w B p v l t (nextF l t e n) (.returned (.slice none 0 0)) w) := by
      show Nexted _ _ _ _ _ _ _ _ _
      have h : nextF l t e n = ([], 0, e) := by unfold nextF; rw [if_pos he]
      rw [h]; exact ⟨_, _, _, rfl, sliceAt_nil _, HR, Kept.refl _ _, fun a h => by cases h⟩
    clear HR
    go_enter Try.func92, Try.ntmps92
    go_wp2
    go_ret
    exact fin.out
end Go.Proofs.Ytkidbbmdlmnokaa
