/- The document's Number; a copy of a reader; package vary: Get, GetInt. -/
import Derived.Test.YtjpnfadmblmjbaaDoorV16
namespace Go.Proofs.YtjpnfadmblmjbaaDoor
open Go.RowKit
attribute [local go_sem ↓] Go.wp_at_zero Go.wp_at_succ

/-- Bytes as a text. -/
def strN (l : List Nat) : ByteArray := strOfNums (l.map fun (n : Nat) => (n : Int))
theorem run_strN {P : Program} {w : World} {v : Value} {l : List Nat} (h : SlAt w v (bys l)) (src e dst : TypeId) (hs : P.underlying src = some (.slice e)) (he : P.underlying e = some (.int .u8)) (hd : P.underlying dst = some .string) :
    (convert src dst v).run P w = .ok (.string (strN l)) w := by
  rcases Nat.eq_zero_or_pos l.length with h0 | h0
  · obtain rfl : l = [] := List.eq_nil_of_length_eq_zero h0
    obtain ⟨ao, c, rfl, hn, hc⟩ := h.val
    cases ao with
    | none => exact run_convert_bytes_nil w src e hs he 0 c dst hd
    | some a =>
      rw [run_convert_bytes_string w src dst e _ _ c hs he hd]
      simp [Conv.bytesToString, loadCells, loadCellsFrom]
      rfl
  · obtain ⟨g, off, c, rfl, hc⟩ := h.addr (by rw [bys_length]; exact h0)
    rw [bys_length]
    have := run_convert_bytes_arg (P := P) w src e hs he g off l.length c (l.map fun (n : Nat) => (n : Int)) (by simp) (fun i hi => by
      rw [hc i _ (bys_get (by simpa using hi))]
      simp [List.getD_eq_getElem?_getD, List.getElem?_eq_getElem hi]) dst hd
    exact this

set_option maxHeartbeats 1000000 in
theorem refNumber_any (v : Value) (bs : List Bool) (w : World) (hv : SlAt w v (ints bs)) (hl : bs.length ≤ 64) :
    Calls Tryd.prog 55 #[v] w fun e w' => e = .returned (.int .u64 ((numB bs : Nat) : Int)) ∧ w = w' := by
  have hlen := ints_length bs
  have hv0 := Lib.hid hv
  obtain ⟨ao, c, hval, _, _⟩ := hv.val
  rw [hlen] at hval
  subst hval
  clear hv hlen
  go_enter Tryd.func55, Tryd.ntmps55
  go_wp2
  go_loopg [3, 4] bs.length (fun g s3 s4 wr => ∃ i : Nat, i ≤ bs.length ∧ g = bs.length - i ∧ s4 = .int .i64 i ∧ s3 = .int .u64 ((numB (bs.take i) : Nat) : Int) ∧ w = wr)
  case atStart => exact ⟨0, Nat.zero_le _, rfl, rfl, rfl, rfl⟩
  case round =>
    obtain ⟨i, hil, rfl, rfl, rfl, rfl⟩ := hrel
    by_cases hd : i < bs.length
    · obtain ⟨g, off, c', e, hc⟩ := hv0.out.addr (by rw [ints_length]; omega)
      rw [ints_length] at e
      injection e with e1 e2 e3
      subst e1
      have hcell := hc i _ (ints_get hd)
      obtain ⟨y, hy⟩ : ∃ y : Nat, y = (bs.getD i false).toNat := ⟨_, rfl⟩
      rw [← hy] at hcell
      have hy1 : y ≤ 1 := by rw [hy]; exact Bool.toNat_le _
      obtain ⟨V, hV⟩ : ∃ V, V = numB (bs.take i) := ⟨_, rfl⟩
      have hVl : V < 2 ^ 63 := by
        have h1 := numB_lt (bs.take i)
        rw [← hV, List.length_take, Nat.min_eq_left hil] at h1
        exact Nat.lt_of_lt_of_le h1 (Nat.pow_le_pow_right (by omega) (by omega))
      have h63 : (2 : Nat) ^ 63 = 9223372036854775808 := by decide
      obtain ⟨X, hX⟩ : ∃ X, X = 2 * V + y := ⟨_, rfl⟩
      have hXn : X = numB (bs.take (i + 1)) := by rw [take_snocB bs i hd, numB_snoc, hX, hV, hy]
      have HX := Lib.hid hXn
      have x1 : IntKind.u64.wrap (2 * (V : Int)) = 2 * (V : Int) := by rw [IntKind.wrap_u64]; omega
      have x2 : 2 * (V : Int) + (y : Int) = (X : Int) := by omega
      have x3 : IntKind.u64.wrap (X : Int) = (X : Int) := by rw [IntKind.wrap_u64]; omega
      have x4 : IntKind.u64.wrap (y : Int) = (y : Int) := by rw [IntKind.wrap_u64]; omega
      have hdi : (i : Int) < (bs.length : Int) := by omega
      have HD := Lib.hid hd
      rw [← hV]
      clear hc e2 e3 hy hV hX hXn hd h63 hVl
      go_wp2
      go_roundg (bs.length - (i + 1))
      case measure => have := HD.out; omega
      case rel => exact ⟨i + 1, by have := HD.out; omega, rfl, by go_num, by rw [HX.out], rfl⟩
    · obtain rfl : i = bs.length := by omega
      go_wp2
      go_ret
      rw [List.take_length]
      exact ⟨rfl, rfl⟩


/-- What stands first among bits: a small form's number, its length, and an error. -/
def gotSmall (l : List Bool) : Nat × Nat × Nat :=
  if l.length < 2 then (0, 0, 2)
  else if l.length - 2 < sizeC.getD (numB (l.take 2)) 0 then (0, 0, 2)
  else if classN (numB ((l.drop 2).take (sizeC.getD (numB (l.take 2)) 0))) ≠ numB (l.take 2) then (0, 0, 3)
  else (numB ((l.drop 2).take (sizeC.getD (numB (l.take 2)) 0)), 2 + sizeC.getD (numB (l.take 2)) 0, 0)
theorem gotSmall_cases (l : List Bool) :
    (l.length < 2 ∧ gotSmall l = (0, 0, 2)) ∨ (2 ≤ l.length ∧ ∃ c S, c = numB (l.take 2) ∧ c < 4 ∧ S = sizeC.getD c 0 ∧ S ≤ 64 ∧
      ((l.length - 2 < S ∧ gotSmall l = (0, 0, 2)) ∨ (S ≤ l.length - 2 ∧ ∃ x, x = numB ((l.drop 2).take S) ∧ x < 18446744073709551616 ∧ ((classN x ≠ c ∧ gotSmall l = (0, 0, 3)) ∨ (classN x = c ∧ gotSmall l = (x, 2 + S, 0)))))) := by
  by_cases h : l.length < 2
  · exact .inl ⟨h, by unfold gotSmall; rw [if_pos h]⟩
  · refine .inr ⟨by omega, _, _, rfl, ?_, rfl, ?_, ?_⟩
    · have := numB_lt (l.take 2)
      rw [List.length_take, Nat.min_eq_left (by omega)] at this; exact this
    · have h1 : numB (l.take 2) < 4 := by
        have := numB_lt (l.take 2)
        rw [List.length_take, Nat.min_eq_left (by omega)] at this; exact this
      generalize numB (l.take 2) = c at h1
      have : c = 0 ∨ c = 1 ∨ c = 2 ∨ c = 3 := by omega
      rcases this with rfl | rfl | rfl | rfl <;> simp [sizeC]
    · have h1 : numB (l.take 2) < 4 := by
        have := numB_lt (l.take 2)
        rw [List.length_take, Nat.min_eq_left (by omega)] at this; exact this
      have h2 : sizeC.getD (numB (l.take 2)) 0 ≤ 64 := by
        generalize numB (l.take 2) = c at h1
        have : c = 0 ∨ c = 1 ∨ c = 2 ∨ c = 3 := by omega
        rcases this with rfl | rfl | rfl | rfl <;> simp [sizeC]
      by_cases h3 : l.length - 2 < sizeC.getD (numB (l.take 2)) 0
      · exact .inl ⟨h3, by unfold gotSmall; rw [if_neg h, if_pos h3]⟩
      · refine .inr ⟨by omega, _, rfl, ?_, ?_⟩
        · have := numB_lt ((l.drop 2).take (sizeC.getD (numB (l.take 2)) 0))
          refine Nat.lt_of_lt_of_le this ?_
          have e : (18446744073709551616 : Nat) = 2 ^ 64 := by decide
          rw [e]
          exact Nat.pow_le_pow_right (by omega) (by rw [List.length_take]; omega)
        · by_cases h4 : classN (numB ((l.drop 2).take (sizeC.getD (numB (l.take 2)) 0))) = numB (l.take 2)
          · exact .inr ⟨h4, by unfold gotSmall; rw [if_neg h, if_neg h3, if_neg (fun e => e h4)]⟩
          · exact .inl ⟨h4, by unfold gotSmall; rw [if_neg h, if_neg h3, if_pos h4]⟩
theorem gotSmall_le (l : List Bool) : (gotSmall l).2.1 ≤ l.length := by
  rcases gotSmall_cases l with ⟨_, e⟩ | ⟨_, c, S, _, _, _, _, ⟨_, e⟩ | ⟨_, x, _, _, ⟨_, e⟩ | ⟨_, e⟩⟩⟩ <;> rw [e] <;> simp <;> omega

/-- A copy of a reader in a new block, and a reader that is set to what the copy says. -/
theorem BrAt.copy {w : World} {B p : Nat} {v : Value} {bs : List Bool} {t : Nat} (h : BrAt w B p v bs t) (hB : B ≤ w.heap.size) : BrAt (w.alloc (.cells #[v, .int .i64 bs.length, .int .i64 t] 88)) B w.heap.size v bs t :=
  ⟨hB, heap_alloc_new w _, ((Kept.refl (fun _ => False) w).alloc _).owns h.owns (fun _ _ x => x), fun e => by have := (ownsRow_lt h.owns e).1; omega, h.taken⟩
theorem BrAt.put3 {w : World} {B p : Nat} {v : Value} {bs : List Bool} {t t' : Nat} (h : BrAt w B p v bs t) (ht : t' ≤ bs.length) :
    BrAt (((w.setCell ⟨p, 0, none⟩ v).setCell ⟨p, 1, none⟩ (.int .i64 bs.length)).setCell ⟨p, 2, none⟩ (.int .i64 t')) B p v bs t' ∧ Kept (fun k => k = p) w (((w.setCell ⟨p, 0, none⟩ v).setCell ⟨p, 1, none⟩ (.int .i64 bs.length)).setCell ⟨p, 2, none⟩ (.int .i64 t')) := by
  have K := (((Kept.refl (fun k => k = p) w).setCell (p := ⟨p, 0, none⟩) (fun _ => rfl) v).setCell (p := ⟨p, 1, none⟩) (fun _ => rfl) (.int .i64 bs.length)).setCell (p := ⟨p, 2, none⟩) (fun _ => rfl) (.int .i64 t')
  refine ⟨⟨h.base, ?_, K.owns h.owns (fun k e x => h.apart (by rw [e, x])), h.apart, ht⟩, K⟩
  have e := h.box
  simp [World.setCell, Array.getElem?_modify, e]

theorem ClassTab.keptS {S : Nat → Prop} {w w' : World} (h : ClassTab w) (hk : Kept S w w') (hn : ¬ S 0) : ClassTab w' := fun j hj => hk.cell (h j hj) hn
theorem WayTab.keptS {S : Nat → Prop} {w w' : World} (h : WayTab w) (hk : Kept S w w') (hn : ¬ S 1) : WayTab w' := fun j hj => hk.cell (h j hj) hn
/-- What taking something leaves: the number, how much was taken, the error. -/
def GotAt (k : IntKind) (w : World) (B p : Nat) (v : Value) (bs : List Bool) (t : Nat) (V : Int) (N E : Nat) (e : Ending) (w' : World) : Prop :=
  e = .returned (.tuple #[.int k V, .int .i64 (E : Int)]) ∧ BrAt w' B p v bs (t + N) ∧ Kept (fun k => k = p) w w'
theorem Kept.new {q : Nat} {S : Nat → Prop} {a b c : World} (h : Kept S a b) (k : Kept (fun k => k = q) b c) (hq : a.heap.size ≤ q) : Kept S a c := h.step k (fun i hi e => by omega)

set_option maxHeartbeats 2000000 in
set_option maxRecDepth 100000 in
theorem varyGet_any (B p : Nat) (v : Value) (bs : List Bool) (t : Nat) (w : World) (HR : BrAt w B p v bs t) (hB : B ≤ w.heap.size) (hl : bs.length ≤ 100000000) (HT : ClassTab w) :
    Calls Tryd.prog 24 #[.pointer (some ⟨p, 0, none⟩)] w (GotAt .u64 w B p v bs t (gotSmall (bs.drop t)).1 (gotSmall (bs.drop t)).2.1 (gotSmall (bs.drop t)).2.2) := by
  have hpl := HR.lt
  obtain ⟨ao, cp, rfl⟩ := ownsRow_slice HR.owns
  have hc0 := HR.c0
  have hc1 := HR.c1
  have hc2 := HR.c2
  have hft := HR.taken
  have K0 : Kept (fun _ => False) w (w.alloc (.cells #[.slice ao (packB bs).length cp, .int .i64 bs.length, .int .i64 t] 88)) := (Kept.refl _ w).alloc _
  have HQ := HR.copy hB
  have hdl : (bs.drop t).length = bs.length - t := List.length_drop
  have hbase := HR.base
  have HRR := Lib.hid HR
  have HK0 := Lib.hid K0
  have HTT := Lib.hid HT
  have fin0 : ∀ w2, Kept (fun k => k = w.heap.size) (w.alloc (.cells #[.slice ao (packB bs).length cp, .int .i64 bs.length, .int .i64 t] 88)) w2 → Kept (fun _ => False) w w2 := fun w2 h => K0.new h (by omega)
  have FIN0 := Lib.hid fin0
  have finE : ∀ w2 E, Kept (fun _ => False) w w2 → GotAt .u64 w B p (.slice ao (packB bs).length cp) bs t 0 0 E (.returned (.tuple #[.int .u64 0, .int .i64 (E : Int)])) w2 := fun w2 E h => ⟨rfl, HR.keptF h, h.mono (fun _ _ x => x.elim)⟩
  have FINE := Lib.hid finE
  clear HR HT K0 fin0 finE
  have hTQ := HTT.out.kept HK0.out
  rcases gotSmall_cases (bs.drop t) with ⟨h2, e⟩ | ⟨h2, c, S, hc, hc4, hS, hS64, hrest⟩
  · rw [e]
    have HT1 := Lib.hid (btake_no B w.heap.size _ bs t 2 _ HQ (by omega) (.inr (.inr (by omega))))
    clear HQ e hdl h2 hTQ
    go_enter Tryd.func24, Tryd.ntmps24
    go_wp2_with (go_at_call 57; refine HT1.out.mono ?_; rintro e w1 ⟨rfl, _, hk⟩; have H1 := Lib.hid (FIN0.out _ hk); clear hk)
    go_ret2
    exact FINE.out _ 2 H1.out
  · have HT1 := btake_yes B w.heap.size _ bs t 2 _ HQ (by omega) (by omega) (by omega)
    rw [← hc] at HT1
    have HT1 := Lib.hid HT1
    have c0 : (0 : Int) ≤ (c : Int) := by omega
    have c4 : (c : Int) < 4 := by omega
    have hcw : IntKind.i64.wrap (c : Int) = (c : Int) := IntWalk.i64_in _ ⟨by omega, by omega⟩
    have hcell : ∀ w1, Kept (fun k => k = w.heap.size) (w.alloc (.cells #[.slice ao (packB bs).length cp, .int .i64 bs.length, .int .i64 t] 88)) w1 → w1.cell? ⟨0, c, none⟩ = some (.int .i64 (S : Int)) := fun w1 h => by
      rw [hS]; exact (hTQ.keptS h (by omega)) c hc4
    have HCELL := Lib.hid hcell
    rcases hrest with ⟨h3, e⟩ | ⟨h3, x, hx, hx64, hrest⟩
    · rw [e]
      clear hS hc
      have HT2 := fun w1 (h : BrAt w1 B w.heap.size (.slice ao (packB bs).length cp) bs (t + 2)) => btake_no B w.heap.size _ bs (t + 2) S w1 h (by omega) (.inr (.inr (by omega)))
      have HT2 := Lib.hid HT2
      clear HQ e hdl h2 hTQ hcell h3
      go_enter Tryd.func24, Tryd.ntmps24
      go_wp2_with (first
        | (go_at_call 57; refine (HT2.out w1 HQ1.out).mono ?_; rintro e w2 ⟨rfl, _, hk⟩; have H2 := Lib.hid (FIN0.out _ (H1.out.trans hk)); clear hk)
        | (go_at_call 57; refine HT1.out.mono ?_; rintro e w1 ⟨rfl, hq1, hk⟩; have hcel := HCELL.out _ hk; have H1 := Lib.hid hk; have HQ1 := Lib.hid hq1; clear hk hq1))
      go_ret2
      exact FINE.out _ 2 H2.out
    · obtain ⟨t2, ht2⟩ : ∃ t2, t2 = t + 2 + S := ⟨_, rfl⟩
      have HTE := Lib.hid (show t + (2 + S) = t2 by omega)
      have HT2 : ∀ w1, BrAt w1 B w.heap.size (.slice ao (packB bs).length cp) bs (t + 2) → Calls Tryd.prog 57 #[.pointer (some ⟨w.heap.size, 0, none⟩), .int .i64 S] w1 (Taken w1 B w.heap.size (.slice ao (packB bs).length cp) bs t2 x true) := fun w1 h => by
        have := btake_yes B w.heap.size _ bs (t + 2) S w1 h (by omega) hS64 (by omega)
        rw [List.drop_drop] at hx
        rw [← hx] at this; rw [ht2]; exact this
      have HT2 := Lib.hid HT2
      have HCLS := Lib.hid (class_any x hx64)
      rcases hrest with ⟨h4, e⟩ | ⟨h4, e⟩
      · rw [e]
        obtain ⟨C, hC⟩ : ∃ C, C = classN x := ⟨_, rfl⟩
        have hne : (((C : Nat) : Int) != (c : Int)) = true := by simp; omega
        rw [← hC] at HCLS
        clear HQ e hdl h2 hTQ hcell h3 h4 hS hc hx hC ht2
        go_enter Tryd.func24, Tryd.ntmps24
        go_wp2_with (first
          | (go_at_call 57; refine (HT2.out w1 HQ1.out).mono ?_; rintro e w2 ⟨rfl, _, hk⟩; have H2 := Lib.hid (H1.out.trans hk); clear hk)
          | (go_at_call 57; refine HT1.out.mono ?_; rintro e w1 ⟨rfl, hq1, hk⟩; have hcel := HCELL.out _ hk; have H1 := Lib.hid hk; have HQ1 := Lib.hid hq1; clear hk hq1)
          | (go_at_call 47; refine (HCLS.out _ (HTT.out.kept (FIN0.out _ H2.out))).mono ?_; rintro e w' ⟨rfl, rfl⟩))
        go_ret2
        exact FINE.out _ 3 (FIN0.out _ H2.out)
      · rw [e]
        obtain ⟨C, hC⟩ : ∃ C, C = classN x := ⟨_, rfl⟩
        have hne : (((C : Nat) : Int) != (c : Int)) = false := by simp; omega
        rw [← hC] at HCLS
        clear HQ e hdl h2 hTQ hcell h3 h4 hS hc hx hC ht2
        go_enter Tryd.func24, Tryd.ntmps24
        go_wp2_with (first
          | (go_at_call 57; refine (HT2.out w1 HQ1.out).mono ?_; rintro e w2 ⟨rfl, hq2, hk⟩; have r0 := hq2.c0; have r1 := hq2.c1; have r2 := hq2.c2; have H2 := Lib.hid (H1.out.trans hk); have hp2 := HRR.out.keptF (FIN0.out _ H2.out); have s0 := hp2.c0; have s1 := hp2.c1; have s2 := hp2.c2; have f0 := hp2.free 0; have f1 := hp2.free 1; have f2 := hp2.free 2; have HP3 := Lib.hid (hp2.put3 hq2.taken); clear hk hq2 hp2)
          | (go_at_call 57; refine HT1.out.mono ?_; rintro e w1 ⟨rfl, hq1, hk⟩; have hcel := HCELL.out _ hk; have H1 := Lib.hid hk; have HQ1 := Lib.hid hq1; clear hk hq1)
          | (go_at_call 47; refine (HCLS.out _ (HTT.out.kept (FIN0.out _ H2.out))).mono ?_; rintro e w' ⟨rfl, rfl⟩))
        go_ret2
        exact ⟨rfl, by rw [HTE.out]; exact HP3.out.1, ((FIN0.out _ H2.out).mono (fun _ _ x => x.elim)).trans HP3.out.2⟩
end Go.Proofs.YtjpnfadmblmjbaaDoor
