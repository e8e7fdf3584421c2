/- Layer 6: the walk of 'VaryReads'. -/
import Derived.Test.YtaagjedkojlbpaaDoorV25
import Derived.Test.YtaagjedkojlbpaaDoorL6
namespace Go.Proofs.YtaagjedkojlbpaaDoor
open Go.RowKit
attribute [local go_sem ↓] Go.wp_at_zero Go.wp_at_succ

theorem run_cutL {P : Program} {t E : TypeId} {i : TypeInfo} (ht : P.underlying t = some (.slice E)) (hi : P.info? E = some i) (hs : i.size = 1) (a : Option Addr) (len cap lo : Nat) (hlo : lo ≤ len) (w : World) :
    (Instr.slice t (.slice a len cap) (some (.int .i64 (lo : Int))) none none).run P w = .ok (.slice (if cap = lo then a else a.map (·.add lo)) (len - lo) (cap - lo)) w := by
  have he : P.elem t = E := by simp [Program.elem, ht]
  rw [run_slice_l w t a len cap (by rw [he]; exact ht) .i64 lo (by omega) (by omega), he]
  simp [sizeOf, typeInfo, hi, hs, sliced]
theorem run_cutLAt {P : Program} {t E : TypeId} {i : TypeInfo} (ht : P.underlying t = some (.slice E)) (hi : P.info? E = some i) (hs : i.size = 1) (a : Option Addr) (len cap lo : Nat) (hlo : lo ≤ len) (w : World) :
    (Instr.sliceAt t (.slice a len cap) (some (.int .i64 (lo : Int))) none none).run P w = .ok (.slice (if cap = lo then a else a.map (·.add lo)) (len - lo) (cap - lo)) w := by
  have he : P.elem t = E := by simp [Program.elem, ht]
  rw [run_sliceAt_slice w t _ _ _ _ (by rw [he]; exact ht)]
  exact run_cutL ht hi hs a len cap lo hlo w
theorem SlAt.cutL {w : World} {ao : Option Addr} {n c : Nat} {xs : List Value} (h : SlAt w (.slice ao n c) xs) {lo : Nat} (h1 : lo ≤ n) (h3 : n ≤ c) :
    SlAt w (.slice (if c = lo then ao else ao.map (·.add lo)) (n - lo) (c - lo)) (xs.drop lo) := by
  have := h.cut (lo := lo) (hi := n) h1 (Nat.le_refl _) h3
  rwa [List.take_of_length_le (by rw [List.length_drop, h.len]; exact Nat.le_refl _)] at this

theorem BrAt.down {w : World} {B B' p : Nat} {v : Value} {bs : List Bool} {t : Nat} (h : BrAt w B p v bs t) (hB : B' ≤ B) : BrAt w B' p v bs t := by
  refine ⟨Nat.le_trans hB h.base, h.box, ⟨h.owns.1, ?_⟩, h.apart, h.taken⟩
  rcases h.owns.2 with h0 | ⟨g, cap, cur, e, hg, rest⟩
  · exact .inl h0
  · exact .inr ⟨g, cap, cur, e, Nat.le_trans hB hg, rest⟩
theorem BrAt.apartO {w : World} {B B' p s n t : Nat} {v v' : Value} {bs : List Bool} {E : TypeId} {xs : List Value} (h : BrAt w B p v bs t) (ho : w.ownsRow B' E s v' n xs) (h1 : E ≠ 82) : ∀ k, v'.ownBlock = some k → k ≠ p := by
  rintro k e rfl
  obtain ⟨cur, hc⟩ := ownsRow_block ho e
  rw [h.box] at hc
  injection hc with this; injection this with _ e _
  exact h1 e.symm
theorem openE_all (l : List Nat) : openE l ((8 * l.length : Nat) : Int) = 0 := by have := openE_full l; rw [show ((8 * l.length : Nat) : Int) = 8 * (l.length : Int) by omega]; exact this

set_option maxHeartbeats 4000000 in
set_option maxRecDepth 100000 in
theorem varyReads_walk0 (ao : Option Addr) (ca : Nat) (so : Option Addr) (cs : Nat) (l : List Nat) (ss : List Bool) (W : World) (hv : SlAt W (.slice ao l.length ca) (bys l)) (hs : SlAt W (.slice so ss.length cs) (bools ss)) (hl : l.length ≤ 60) (hls : ss.length ≤ 60) (hb : ∀ x ∈ l, x < 256) (HT : Tabs W) :
    Calls Tryd.prog 4 #[.slice ao l.length ca, .slice so ss.length cs] W fun e w' => e = .returned (.bool true) ∧ Kept (fun _ => False) W w' := by
  obtain ⟨iI, hiI, hzI0, hzI1, hzI2⟩ := info_parts Tryd.infoInt
  have HAW := Lib.hid (awake6_any W HT)
  have HTT := Lib.hid HT
  have hs0 := Lib.hid hs
  have hlt := HT.lt
  have q60 : ¬ (60 : Int) < (l.length : Int) := by omega
  have q60b : decide (60 < l.length) = false := decide_eq_false (by omega)
  have q61 : ¬ (60 : Int) < (ss.length : Int) := by omega
  have q61b : decide (60 < ss.length) = false := decide_eq_false (by omega)
  have HOP := Lib.hid fun w' (h : Kept (fun _ => False) W w') => bopen_yes _ l (8 * l.length) w' (hv.kept h (fun _ _ x => x)) (by omega) hb (openE_all l)
  have HBT := Lib.hid fun w' (h : Kept (fun _ => False) W w') => refBits_any _ l w' (hv.kept h (fun _ _ x => x)) (by omega) hb
  rw [show (bitsOf l).take (8 * l.length) = bitsOf l from List.take_of_length_le (by rw [bitsOf_length]; exact Nat.le_refl _)] at HOP
  have hbl := bitsOf_length l
  obtain ⟨bs, hbs⟩ : ∃ bs, bs = bitsOf l := ⟨_, rfl⟩
  rw [← hbs] at HOP HBT hbl
  obtain ⟨N, hN⟩ : ∃ N, N = 8 * l.length := ⟨_, rfl⟩
  have n1 : 8 * (l.length : Int) = (N : Int) := by omega
  have n2 : IntKind.i64.wrap (8 * (l.length : Int)) = (N : Int) := by rw [n1]; exact IntWalk.i64_in _ ⟨by omega, by omega⟩
  rw [← hN] at HOP hbl
  have HBL := Lib.hid hbl
  have HNN := Lib.hid hN
  clear HT hv hs hb hbs hN hbl
  go_enter Tryd.func4, Tryd.ntmps4
  go_wp2_with fail
  refine HAW.out.mono ?_
  rintro e w0 ⟨rfl, k0⟩
  have K0 := Lib.hid k0
  clear k0
  go_wp2_with fail
  refine (HOP.out _ K0.out).mono ?_
  rintro e w1 ⟨p, rv, rfl, hr, k1⟩
  have K1 := Lib.hid (K0.out.trans k1)
  have HR := Lib.hid (hr.down (Kept.size K0.out))
  clear hr k1
  go_wp2_with fail
  refine (HBT.out _ K1.out).mono ?_
  rintro e w2 ⟨lv, rfl, ho, k2⟩
  obtain ⟨lo, lc, rfl⟩ := ownsRow_slice ho
  have hcap := own_cap ho
  have hm : Mine W w2 3 (.slice lo (ints bs).length lc) (ints bs) := (Mine.ofFresh ho k2).down K1.out
  rw [ints_length] at hm hcap
  rw [ints_length]
  have HM := Lib.hid (show Mine W w2 3 (.slice lo bs.length lc) (ints bs) from hm)
  have HR2 := Lib.hid (HR.out.keptF k2)
  rw [HBL.out] at HM hcap ⊢
  clear ho k2 hm
  go_wp2
  go_loopg [8, 9] ss.length (fun g s8 s9 wr => ∃ i t : Nat, i ≤ ss.length ∧ t ≤ N ∧ g = ss.length - i ∧ s9 = .int .i64 i ∧ s8 = .int .i64 t ∧ BrAt wr W.heap.size p rv bs t ∧ Mine W wr 3 (.slice lo N lc) (ints bs))
  case atStart => exact ⟨0, 0, Nat.zero_le _, Nat.zero_le _, rfl, rfl, rfl, HR2.out, HM.out⟩
  case round =>
    obtain ⟨i, t, hil, htN, rfl, rfl, rfl, hr, hm⟩ := hrel
    have HRR := Lib.hid hr
    have HMM := Lib.hid hm
    clear hr hm HR2 HM
    by_cases hd : i < ss.length
    · have hdi : (i : Int) < (ss.length : Int) := by omega
      have i0 : (0 : Int) ≤ (i : Int) := by omega
      have HD := Lib.hid hd
      obtain ⟨T, hT⟩ : ∃ T, T = N - t := ⟨_, rfl⟩
      have hct := HMM.out.at_.cutL (lo := t) htN hcap
      obtain ⟨ao2, hao2⟩ : ∃ a : Option Addr, a = if lc = t then lo else lo.map (·.add t) := ⟨_, rfl⟩
      rw [← hao2, ← hT] at hct
      have s1 : ∀ w, (Instr.slice 26 (.slice lo N lc) (some (.int .i64 (t : Int))) none none).run Tryd.prog w = .ok (.slice ao2 T (lc - t)) w := fun w => by
        have := run_cutL (P := Tryd.prog) Tryd.underlying26 hiI hzI1 lo N lc t htN w
        rw [← hao2, ← hT] at this; exact this
      have s2 : ∀ w, (Instr.sliceAt 26 (.slice lo N lc) (some (.int .i64 (t : Int))) none none).run Tryd.prog w = .ok (.slice ao2 T (lc - t)) w := fun w => by
        have := run_cutLAt (P := Tryd.prog) Tryd.underlying26 hiI hzI1 lo N lc t htN w
        rw [← hao2, ← hT] at this; exact this
      have hbx : (ints bs).drop t = ints (bs.drop t) := by unfold ints; rw [List.map_drop]
      rw [hbx] at hct
      have HGS := Lib.hid (refGetSmall_any _ (bs.drop t) wr hct (by rintro a n c e; injection e with e1 e2 e3; omega) (by rw [List.length_drop, HBL.out]; have := HNN.out; omega))
      have HG1 := Lib.hid fun w' (h : Kept (fun _ => False) wr w') => varyGet_any W.heap.size p rv bs t w' (HRR.out.keptF h) (Nat.le_trans HMM.out.kept.size h.size) (by have := HNN.out; have := HBL.out; omega) (HTT.out.kept (HMM.out.kept.trans h)).c
      have HG2 := Lib.hid fun w' (h : Kept (fun _ => False) wr w') => varyGetInt_any W.heap.size p rv bs t w' (HRR.out.keptF h) (Nat.le_trans HMM.out.kept.size h.size) (by have := HNN.out; have := HBL.out; omega) (HTT.out.kept (HMM.out.kept.trans h)).c
      have hvl := gotSmall_u64 (bs.drop t)
      have hle := gotSmall_le (bs.drop t)
      rw [List.length_drop, HBL.out] at hle
      have hcb := (hs0.out.kept HMM.out.kept (fun _ _ x => x)).elem (bools_get hd)
      have HCB := Lib.hid fun w' (h : Kept (fun _ => False) wr w') => (hs0.out.kept (HMM.out.kept.trans h) (fun _ _ x => x)).elem (bools_get hd)
      obtain ⟨g, off, rfl, _⟩ := hcb
      obtain ⟨b, hb⟩ : ∃ b, b = ss.getD i false := ⟨_, rfl⟩
      rw [← hb] at HCB
      have HC2 := Lib.hid fun w' (h : Kept (fun _ => False) wr w') => show w'.cell? ⟨g, off + i, none⟩ = some (.bool b) from by
        obtain ⟨_, _, e', b⟩ := HCB.out w' h
        injection e' with e'; injection e' with e1 e2; subst e1; subst e2
        exact b
      obtain ⟨V, hV⟩ : ∃ V, V = (gotSmall (bs.drop t)).1 := ⟨_, rfl⟩
      obtain ⟨M, hM⟩ : ∃ V, V = (gotSmall (bs.drop t)).2.1 := ⟨_, rfl⟩
      obtain ⟨E, hE⟩ : ∃ V, V = (gotSmall (bs.drop t)).2.2 := ⟨_, rfl⟩
      rw [← hV, ← hM, ← hE] at HGS HG1 HG2
      rw [← hV] at hvl
      rw [← hM] at hle
      have HZ := Lib.hid (refZag_any (V : Int) (by omega) (by omega))
      obtain ⟨Z, hZ⟩ : ∃ Z, Z = zagI (V : Int) := ⟨_, rfl⟩
      rw [← hZ] at HZ HG2
      obtain ⟨t2, ht2⟩ : ∃ t2, t2 = t + M := ⟨_, rfl⟩
      have a1 : (t : Int) + (M : Int) = (t2 : Int) := by omega
      have a2 : IntKind.i64.wrap (t2 : Int) = (t2 : Int) := IntWalk.i64_in _ ⟨by omega, by have := HNN.out; omega⟩
      have HT2E := Lib.hid ht2
      have ht2N : t2 ≤ N := by omega
      have HT2N := Lib.hid ht2N
      have e0 : ((E : Int) != (E : Int)) = false := by simp
      have e1 : ((V : Int) != (V : Int)) = false := by simp
      have e2 : (Z != Z) = false := by simp
      clear hT hct hao2 hbx hV hM hE hZ ht2 hb hd hvl hle htN ht2N
      cases b
      all_goals
        go_wp2_with fail
        refine HGS.out.mono ?_
        rintro e w3 ⟨rfl, k3⟩
        have k4 := k3.alloc (.cells #[.int .u64 (V : Int), .int .i64 (M : Int), .int .i64 (E : Int)] 44)
        have c4 := HC2.out _ k4
        obtain ⟨w4, hw4⟩ : ∃ w4, w4 = w3.alloc (.cells #[.int .u64 (V : Int), .int .i64 (M : Int), .int .i64 (E : Int)] 44) := ⟨_, rfl⟩
        have g4 : Got3 w4 w3.heap.size V M E := by rw [hw4]; exact heap_alloc_new w3 _
        rw [← hw4] at k4
        have K4 := Lib.hid k4
        have G4 := Lib.hid g4
        have HW4 := Lib.hid hw4
        have hqp : w3.heap.size ≠ p := by have := HRR.out.lt; have := k3.size; omega
        clear hw4 k3 k4 g4
        go_wp2_with fail
        rw [← HW4.out]
        first
          | refine (HG1.out _ K4.out).mono ?_
          | refine (HG2.out _ K4.out).mono ?_
        rintro e w5 ⟨rfl, hr5, k5⟩
        rw [← HT2E.out] at hr5
        have g5 : Got3 w5 w3.heap.size V M E := k5.same G4.out hqp
        have HK5 := Lib.hid (HMM.out.kept.trans K4.out)
        have hm5 : Mine W w5 3 (.slice lo N lc) (ints bs) := (HMM.out.on K4.out).keptS k5 (fun k e x => HRR.out.apartO HMM.out.own (by decide) k e x) (fun k e => by rw [e]; exact HRR.out.base)
        have HM5 := Lib.hid hm5
        have HR5 := Lib.hid hr5
        obtain ⟨⟨d0, d1, d2⟩, _⟩ := g5.c
        clear k5 g5 hm5 hr5 c4
        go_wp2_with (first
          | (go_at_call 23; refine (HZ.out _).mono ?_; rintro e w' ⟨rfl, rfl⟩)
          | (go_at_call 25; refine (bat_any _ _ _ _ _ _ HR5.out).mono ?_; rintro e w' ⟨rfl, rfl⟩))
        go_roundg (ss.length - (i + 1))
        case measure => have := HD.out; omega
        case rel => exact ⟨i + 1, t2, HD.out, HT2N.out, rfl, by go_num, rfl, HR5.out, HM5.out⟩
    · obtain rfl : i = ss.length := by omega
      clear hd
      go_wp2
      go_ret
      exact ⟨rfl, HMM.out.kept⟩

set_option maxHeartbeats 1000000 in
theorem varyReads_walk (ao : Option Addr) (la ca : Nat) (z0 : List Int) (so : Option Addr) (ls cs : Nat) (W : World) (h0 : IsRow .u8 W ao la ca z0) (h1 : IsBools W so ls cs) (HT : Tabs W) :
    Calls Tryd.prog 4 #[.slice ao la ca, .slice so ls cs] W fun e w' => e = .returned (.bool true) ∧ Kept (fun _ => False) W w' := by
  obtain ⟨l, rfl, hx, hv⟩ := h0.slAtN 256 (fun x h => by have := bd_u8 h; omega)
  obtain ⟨ss, rfl, hs⟩ := h1.slAt
  by_cases hl : l.length ≤ 60 ∧ ss.length ≤ 60
  · exact varyReads_walk0 ao ca so cs l ss W hv hs hl.1 hl.2 hx HT
  · have HA := Lib.hid (awake6_any W HT)
    have hq : (60 : Int) < (l.length : Int) ∨ ((¬ (60 : Int) < (l.length : Int)) ∧ (60 : Int) < (ss.length : Int)) := by omega
    clear h0 h1 hx hv hs HT hl
    rcases hq with q1 | ⟨q1, q2⟩
    all_goals
      go_enter Tryd.func4, Tryd.ntmps4
      go_wp2_with fail
      refine HA.out.mono ?_
      rintro e w1 ⟨rfl, K1⟩
      go_wp2
      go_ret
      exact ⟨rfl, K1⟩
end Go.Proofs.YtaagjedkojlbpaaDoor
