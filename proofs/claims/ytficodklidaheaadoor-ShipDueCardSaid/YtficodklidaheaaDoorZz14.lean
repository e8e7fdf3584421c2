/- Texts put together: X2, G2, G3, X4, R1. -/
import Derived.Test.YtficodklidaheaaDoorZz8
import Derived.Test.YtficodklidaheaaDoorZz13
import Derived.OrdersHeld
import Derived.StillTail
import Derived.Deep.RegionHeld3
import Derived.Test.YtficodklidaheaaDoorZz1
import Derived.Deep.Slices
import Derived.Deep.Fields
import Derived.ChangeSame
/- Layer 25: a sender in memory; Open. -/
namespace Go.Proofs.YtficodklidaheaaDoor
open Go.RowKit
attribute [local go_sem ↓] Go.wp_at_zero Go.wp_at_succ

def nmAck : ByteArray := { data := #[97, 99, 107] }
def liN (l : List Nat) : List Int := l.map fun (n : Nat) => (n : Int)
theorem liN_length (l : List Nat) : (liN l).length = l.length := by unfold liN; rw [List.length_map]
theorem liN_byte {l : List Nat} (h : ∀ x ∈ l, x < 256) : ∀ x ∈ liN l, 0 ≤ x ∧ x < 256 := by
  intro x hx
  unfold liN at hx
  obtain ⟨y, hy, rfl⟩ := List.mem_map.1 hx
  have := h y hy
  omega
theorem row8_sliceAt {w : World} {v : Value} {l : List Nat} (h : Row8 w v l) : (∃ ao c, SliceAt w v ao l.length c (u8s (liN l))) ∧ ∀ x ∈ l, x < 256 := by
  obtain ⟨ao, c, hv, hb, hc⟩ := h
  refine ⟨⟨ao, c, hv, by simp [liN], fun hn => ?_, fun a ha j u hu => ?_⟩, hb⟩
  · rcases Nat.eq_zero_or_pos l.length with h0 | h0
    · exact h0
    · obtain ⟨a, ha, _⟩ := hc 0 h0
      rw [hn] at ha
      cases ha
  · have hj : j < l.length := by
      have := (List.getElem?_eq_some_iff.1 hu).1
      simpa [liN] using this
    obtain ⟨a', ha', h1⟩ := hc j hj
    rw [ha] at ha'
    cases ha'
    have h2 : (u8s (liN l))[j]? = some (.int .u8 ((l.getD j 0 : Nat) : Int)) := by
      simp [liN, List.getElem?_map, List.getD_eq_getElem?_getD, List.getElem?_eq_getElem hj]
    rw [h2] at hu
    rw [h1, hu]
/-- The checkpoint that some bytes are. -/
def ackF (l : List Nat) : Option Int := if l.length = 8 ∧ leV (liN l) 8 ≤ 4503599627370497 then some (leV (liN l) 8) else none
def openF (r : DA × List Nat × Bool × Int) : DA × Option Int × Int :=
  if r.2.2.2 ≠ 0 then (r.1, none, r.2.2.2) else if r.2.2.1 = true then (if (ackF r.2.1).isSome then (r.1, ackF r.2.1, 0) else (r.1, none, 15)) else (r.1, some 0, 0)
def openSh (D : DA) : DA × Option Int × Int := openF (loadD D nmAck)
/-- What Open answers and leaves. -/
def OpenShTo (base : Nat) (w : World) (db mb : Nat) (L : List (ByteArray × Fi)) (r : DA × Option Int × Int) (e : Ending) (w' : World) : Prop :=
  ∃ L' v, e = .returned (.tuple #[.pointer v, .int .i64 r.2.2]) ∧ DK base w' db mb L' r.1 ∧ Kept (foot db mb L) w w' ∧ Foot w db mb L L' ∧ (r.2.1 = none → v = none) ∧
    ∀ a, r.2.1 = some a → ∃ p, v = some ⟨p, 0, none⟩ ∧ BoxAt w' p 129 #[.pointer (some ⟨db, 0, none⟩), .int .i64 a] ∧ w.heap.size ≤ p ∧ ¬ foot db mb L' p
theorem OpenShTo.no {base : Nat} {w w1 w' : World} {db mb : Nat} {L L' : List (ByteArray × Fi)} {D' : DA} {z : Int} (h : DK base w1 db mb L' D') (k : Kept (foot db mb L) w w1) (f : Foot w db mb L L') (k' : Kept (fun _ => False) w1 w') :
    OpenShTo base w db mb L (D', none, z) (.returned (.tuple #[.pointer none, .int .i64 z])) w' :=
  ⟨L', none, rfl, h.kept k' (fun _ _ x => x), k.trans (k'.mono (fun _ _ x => x.elim)), f, fun _ => rfl, fun a e => by cases e⟩
theorem OpenShTo.yes {base : Nat} {w w1 w2 : World} {db mb : Nat} {L L' : List (ByteArray × Fi)} {D' : DA} {a : Int} (h : DK base w1 db mb L' D') (k : Kept (foot db mb L) w w1) (f : Foot w db mb L L') (k' : Kept (fun _ => False) w1 w2) :
    OpenShTo base w db mb L (D', some a, 0) (.returned (.tuple #[.pointer (some ⟨w2.heap.size, 0, none⟩), .int .i64 0])) (w2.alloc (.cells #[.pointer (some ⟨db, 0, none⟩), .int .i64 a] 129)) := by
  have k2 : Kept (fun _ => False) w1 (w2.alloc (.cells #[.pointer (some ⟨db, 0, none⟩), .int .i64 a] 129)) := k'.alloc _
  refine ⟨L', _, rfl, h.kept k2 (fun _ _ x => x), k.trans (k2.mono (fun _ _ x => x.elim)), f, (fun e => by cases e), fun b e => ?_⟩
  injection e with e
  subst e
  exact ⟨_, rfl, BoxAt.new w2 _ _, Nat.le_trans k.size k'.size, fun x => by have h1 := (h.lt x).1; have h2 := k'.size; omega⟩

set_option maxRecDepth 100000 in
set_option maxHeartbeats 8000000 in
theorem shOpen_any (base db mb : Nat) (hb0 : 0 < base) (L : List (ByteArray × Fi)) (D : DA) (w : World) (h : DK base w db mb L D) (HN : Nibs w) (hbig : ∀ b, (loadD D nmAck).2.1 = b → b.length ≤ 100000000) :
    Calls Tryd.prog 49 #[.pointer (some ⟨db, 0, none⟩)] w (OpenShTo base w db mb L (openSh D)) := by
  have HC := Lib.hid (sLoad_any base db mb hb0 L D nmAck (by decide) w h HN)
  rw [show nmAck = { data := #[97, 99, 107] } from rfl] at HC
  obtain ⟨r, hr⟩ : ∃ r, r = loadD D { data := #[97, 99, 107] } := ⟨_, rfl⟩
  have hbig2 : r.2.1.length ≤ 100000000 := hbig _ (by rw [hr]; rfl)
  rw [show openSh D = openF r from by rw [hr]; rfl]
  rw [← hr] at HC
  clear hr h HN hbig
  obtain ⟨D', rl, ri, rz⟩ := r
  obtain ⟨rn, hrn⟩ : ∃ rn, rn = rl.length := ⟨_, rfl⟩
  unfold LoadTo at HC
  dsimp only at HC hbig2
  rw [← hrn] at HC
  have HRN := Lib.hid (And.intro hrn hbig2)
  obtain ⟨Q, hQ⟩ : ∃ Q, Q = openF (D', rl, ri, rz) := ⟨_, rfl⟩
  rw [← hQ]
  have HQ := Lib.hid hQ
  clear hrn hbig2 hQ
  go_enter Tryd.func49, Tryd.ntmps49
  go_wp2_with fail
  refine HC.out.mono ?_
  rintro e w1 ⟨L1, la, lc, rfl, h1, k1, f1, hlr, _⟩
  have H1 := Lib.hid (And.intro h1 (And.intro k1 f1))
  have HLR := Lib.hid hlr
  clear h1 k1 f1 hlr HC
  by_cases hz : rz = 0
  · subst hz
    cases ri with
    | false =>
      have HF : Hid (OpenShTo base w db mb L Q (.returned (.tuple #[.pointer (some ⟨w1.heap.size, 0, none⟩), .int .i64 0])) (w1.alloc (.cells #[.pointer (some ⟨db, 0, none⟩), .int .i64 0] 129))) := Lib.hid (by
        rw [HQ.out]
        exact OpenShTo.yes H1.out.1 H1.out.2.1 H1.out.2.2 (Kept.refl _ _))
      go_wp2
      go_ret2
      exact HF.out
    | true =>
      obtain ⟨⟨ao, cc, hsl⟩, hb⟩ := row8_sliceAt (show Row8 w1 (.slice la rn lc) rl from HLR.out)
      have hv := hsl.val
      rw [← HRN.out.1] at hsl
      have HNR := Lib.hid (newReader_any (.slice la rn lc) ao cc (liN rl) w1 (by rw [liN_length, ← HRN.out.1]; exact hsl) (by rw [liN_length]; have := HRN.out.2; omega) (liN_byte hb))
      have hb0' := hb
      clear hsl hb hv
      go_wp2_with fail
      refine HNR.out.mono ?_
      rintro e w2 ⟨p, v, rfl, hrd, k2⟩
      have HK2 := Lib.hid k2
      have HP := Lib.hid hrd.base
      have HFX := Lib.hid (rfix_all _ p v (liN rl) 0 0 w2 hrd (by rw [liN_length]; have := HRN.out.2; omega))
      by_cases h8 : rn < 8
      · have hn : nextF (liN rl) 0 0 8 = ([], 0, 2) := by
          unfold nextF
          rw [if_neg (by simp), if_neg (by omega), if_pos (by rw [liN_length, ← HRN.out.1]; omega)]
        have hfx : fixF (liN rl) 0 0 = (0, 0, 2) := by
          unfold fixF
          rw [hn]
          rfl
        rw [hfx] at HFX
        have HX : Hid (Q = (D', none, 15)) := Lib.hid (by
          rw [HQ.out]
          show (if (ackF rl).isSome = true then _ else _) = _
          rw [show ackF rl = none from if_neg (fun x => by have := x.1; have := HRN.out.1; omega)]
          rfl)
        clear hrd k2 h8 hn hfx
        go_wp2_with fail
        refine HFX.out.mono ?_
        rintro e w3 ⟨rfl, h3, k3⟩
        have HK3 := Lib.hid (HK2.out.newer k3 (fun j e => by rw [e]; exact HP.out))
        have HDN := Lib.hid (done_err _ p v (liN rl) _ 2 w3 h3 rfl)
        clear h3 k3
        go_wp2_with fail
        refine HDN.out.mono ?_
        rintro e w4 ⟨rfl, n4, rfl⟩
        go_wp2
        go_ret2
        rw [HX.out]
        exact OpenShTo.no H1.out.1 H1.out.2.1 H1.out.2.2 (HK3.out.drewN n4)
      · have hn : nextF (liN rl) 0 0 8 = (((liN rl).drop 0).take 8, 8, 0) := by
          unfold nextF
          rw [if_neg (by simp), if_neg (by omega), if_neg (by rw [liN_length, ← HRN.out.1]; omega)]
          rfl
        have hfx : fixF (liN rl) 0 0 = (leV (liN rl) 8, 8, 0) := by
          unfold fixF
          rw [hn]
          rfl
        rw [hfx] at HFX
        obtain ⟨V, hV⟩ : ∃ V, V = leV (liN rl) 8 := ⟨_, rfl⟩
        have hVr := leV_range (liN rl) (liN_byte hb0') 8
        rw [← hV] at HFX hVr
        have HV := Lib.hid hV
        clear hrd k2 hn hfx hV
        go_wp2_with fail
        refine HFX.out.mono ?_
        rintro e w3 ⟨rfl, h3, k3⟩
        have HK3 := Lib.hid (HK2.out.newer k3 (fun j e => by rw [e]; exact HP.out))
        have HDN := Lib.hid (done_ok _ p v (liN rl) _ w3 h3 (by rw [liN_length]; have := HRN.out.2; omega))
        rw [liN_length, ← HRN.out.1] at HDN
        clear h3 k3
        by_cases h9 : rn = 8
        · rw [if_pos (by omega)] at HDN
          by_cases hle : V ≤ 4503599627370497
          · have HX : Hid (Q = (D', some V, 0)) := Lib.hid (by
              rw [HQ.out]
              show (if (ackF rl).isSome = true then _ else _) = _
              rw [show ackF rl = some V from by rw [HV.out]; exact if_pos ⟨by have := HRN.out.1; omega, by rw [← HV.out]; exact hle⟩]
              rfl)
            have hle' : decide (4503599627370497 < V) = false := decide_eq_false (by omega)
            have wv : IntKind.i64.wrap V = V := IntWalk.i64_in _ ⟨by omega, by omega⟩
            clear h8 h9 hle hVr
            go_wp2_with fail
            refine HDN.out.mono ?_
            rintro e w4 ⟨rfl, n4, rfl⟩
            go_wp2
            go_ret2
            rw [HX.out]
            exact OpenShTo.yes H1.out.1 H1.out.2.1 H1.out.2.2 (HK3.out.drewN n4)
          · have HX : Hid (Q = (D', none, 15)) := Lib.hid (by
              rw [HQ.out]
              show (if (ackF rl).isSome = true then _ else _) = _
              rw [show ackF rl = none from if_neg (fun x => hle (by rw [HV.out]; exact x.2))]
              rfl)
            have hle' : decide (4503599627370497 < V) = true := decide_eq_true (by omega)
            clear h8 h9 hle hVr
            go_wp2_with fail
            refine HDN.out.mono ?_
            rintro e w4 ⟨rfl, n4, rfl⟩
            go_wp2
            go_ret2
            rw [HX.out]
            exact OpenShTo.no H1.out.1 H1.out.2.1 H1.out.2.2 (HK3.out.drewN n4)
        · rw [if_neg (by omega)] at HDN
          have HX : Hid (Q = (D', none, 15)) := Lib.hid (by
            rw [HQ.out]
            show (if (ackF rl).isSome = true then _ else _) = _
            rw [show ackF rl = none from if_neg (fun x => by have := x.1; have := HRN.out.1; omega)]
            rfl)
          clear h8 h9 hVr
          go_wp2_with fail
          refine HDN.out.mono ?_
          rintro e w4 ⟨rfl, n4, rfl⟩
          go_wp2
          go_ret2
          rw [HX.out]
          exact OpenShTo.no H1.out.1 H1.out.2.1 H1.out.2.2 (HK3.out.drewN n4)
  · have q : (rz != 0) = true := by simp [hz]
    have HF : Hid (OpenShTo base w db mb L Q (.returned (.tuple #[.pointer none, .int .i64 rz])) w1) := Lib.hid (by
      rw [HQ.out, show openF (D', rl, ri, rz) = (D', none, rz) from if_pos hz]
      exact OpenShTo.no H1.out.1 H1.out.2.1 H1.out.2.2 (Kept.refl _ _))
    clear hz
    go_wp2
    go_ret2
    exact HF.out
end Go.Proofs.YtficodklidaheaaDoor
/- A region that draws its order, whose last operation changes what the others read: what the others read holds behind each of them, but not behind that one. -/
namespace Go.Proofs.YtficodklidaheaaDoor
open Go

section
variable {P : Program} {ops : Array Oper} {Q : Exit → Act → World → Prop} {md : Region.Mode} {S : World → Prop} {k : Nat}

/-- In whatever order the rest comes; S holds behind each but number k. -/
def AnyBut (P : Program) (md : Region.Mode) (ops : Array Oper) (Q : Exit → Act → World → Prop) (S : World → Prop) (k : Nat) : Nat → Array Bool → Act → World → Prop
  | 0, listed, a, w => Region.ready md ops listed = [] ∧ Q .normal a w
  | n + 1, listed, a, w =>
    (Region.ready md ops listed = [] → Q .normal a w) ∧
    ∀ i ∈ Region.ready md ops listed, wpOp P ops Q i (fun a' w' => (i ≠ k → S w') ∧ AnyBut P md ops Q S k n (listed.setIfInBounds i true) a' w') a w

theorem AnyBut.any : ∀ (n : Nat) (listed : Array Bool) (a : Act) (w : World), AnyBut P md ops Q S k n listed a w → wpAny P md ops Q n listed a w
  | 0, _, _, _, h => h
  | n + 1, _, _, _, h => ⟨h.1, fun i hi => wpOp_mono (fun _ _ x => AnyBut.any n _ _ _ x.2) (h.2 i hi)⟩

theorem listed_of_wait {i : Nat} {listed : Array Bool} (hk : Region.waitsFor md ops k i = true) (hr : k ∈ Region.ready md ops listed) : i ∉ Region.ready md ops listed := by
  intro hi
  obtain ⟨ok, hok, e, he, hb, rfl⟩ := Region.waitsFor_spec hk
  obtain ⟨_, ok', hok', hall⟩ := mem_ready.1 hr
  rw [hok] at hok'
  injection hok' with hok'
  subst hok'
  have h1 := hall e he hb
  have h0 := (mem_ready.1 hi).1
  by_cases hs : e.on < listed.size
  · simp [hs] at h0 h1
    rw [h0] at h1; cases h1
  · simp [Array.getElem?_eq_none (Nat.le_of_not_lt hs)] at h1

theorem AnyBut.first {i : Nat} {oi : Oper} {v : Value} (hi : ops[i]? = some oi) (hs : Region.noSelect ops = true) (hk : Region.waitsFor md ops k i = true)
    (hQ : ∀ c a w, Q (.panic c) (a.put oi.dst v) w → Q (.panic c) a w) :
    ∀ (n : Nat) (listed : Array Bool) (a : Act) (w : World), Region.free md ops listed i = true →
      i ∈ Region.ready md ops listed → YieldsIf P ops S oi v a → S w →
      AnyBut P md ops Q S k n (listed.setIfInBounds i true) (a.put oi.dst v) w → AnyBut P md ops Q S k (n + 1) listed a w := by
  intro n listed a w hf
  have hfree := Region.free_spec hi hf
  clear hf
  induction n generalizing listed a w with
  | zero =>
    intro hr hy hS H
    refine ⟨fun h => (by rw [h] at hr; cases hr), fun j hj => ?_⟩
    by_cases hji : j = i
    · subst hji; exact hy.wpOp hi hS ⟨fun _ => hS, H⟩
    · have := ready_mono hj hji
      rw [H.1] at this
      cases this
  | succ n ih =>
    intro hr hy hS H
    refine ⟨fun h => (by rw [h] at hr; cases hr), fun j hj => ?_⟩
    by_cases hji : j = i
    · subst hji; exact hy.wpOp hi hS ⟨fun _ => hS, H⟩
    have hjk : j ≠ k := fun e => by subst e; exact listed_of_wait hk hj hr
    obtain ⟨hjun, oj, hoj, _⟩ := mem_ready.1 hj
    have hnot : ∀ e ∈ oj.after, Region.binds md e = true → e.on ≠ i := fun e he hb heq => by
      have : Region.waitsFor md ops j i = true := by
        unfold Region.waitsFor
        rw [hoj]
        exact Array.any_eq_true'.2 ⟨e, he, by simp [hb, heq]⟩
      exact listed_of_wait this hj hr
    have hstep := wpOp_putIf hoj (hfree j oj hoj hji hjun hnot) (Region.noSelect_spec hs i oi · · hi) (Region.noSelect_spec hs j oj · · hoj) hQ hy (H.2 j (ready_mono hj hji))
    refine wpOp_mono (fun a' w' h3 => ⟨fun _ => h3.2.1 hjk, ih _ a' w' (fun m om hm hmi hun hno => ?_) (ready_mono hr (Ne.symm hji)) h3.1 (h3.2.1 hjk) ?_⟩) hstep
    · refine hfree m om hm hmi ?_ hno
      by_cases hjm : j = m
      · subst hjm; exact hjun
      · rw [getD_set_ne true hjm] at hun; exact hun
    · rw [Array.setIfInBounds_comm _ _ hji]
      exact h3.2.2

theorem AnyBut.take {i : Nat} {oi : Oper} {v : Value} {n : Nat} {listed : Array Bool} {a : Act} {w : World} (hi : ops[i]? = some oi)
    (hs : Region.noSelect ops = true) (hk : Region.waitsFor md ops k i = true) (hf : Region.free md ops listed i = true) (hr : (Region.ready md ops listed).contains i = true)
    (hQ : ∀ c a w, Q (.panic c) (a.put oi.dst v) w → Q (.panic c) a w) (hS : S w) (hy : YieldsIf P ops S oi v a)
    (h : AnyBut P md ops Q S k n (listed.setIfInBounds i true) (a.put oi.dst v) w) : AnyBut P md ops Q S k (n + 1) listed a w :=
  AnyBut.first hi hs hk hQ n listed a w hf (by simpa using hr) hy hS h

/-- The one operation that may come up now, that is not the last one. -/
theorem AnyBut.one {i : Nat} {o : Oper} {n : Nat} {listed : Array Bool} {a : Act} {w : World} (hr : Region.ready md ops listed = [i]) (ho : ops[i]? = some o)
    (h : ∀ K' : Act → World → Prop, Shut (∀ a w, S w → AnyBut P md ops Q S k n (listed.setIfInBounds i true) a w → K' a w) → if Region.wanted o (yielded ops a.tmps) = true then Oper.wp P o a w K' Q else K' (a.put o.dst undef) w) :
    AnyBut P md ops Q S k (n + 1) listed a w :=
  ⟨fun h0 => (by rw [hr] at h0; cases h0), fun j hj => by
    rw [hr] at hj
    obtain rfl := List.mem_singleton.1 hj
    exact wpOp_step ho (fun K' hK => h K' (fun a w hS hW => hK a w ⟨fun _ => hS, hW⟩))⟩

/-- The last one: behind it there is nothing left. -/
theorem AnyBut.last {o : Oper} {n : Nat} {listed : Array Bool} {a : Act} {w : World} (hr : Region.ready md ops listed = [k]) (ho : ops[k]? = some o) (hend : Region.ready md ops (listed.setIfInBounds k true) = [])
    (h : ∀ K' : Act → World → Prop, Shut (∀ a w, Q .normal a w → K' a w) → if Region.wanted o (yielded ops a.tmps) = true then Oper.wp P o a w K' Q else K' (a.put o.dst undef) w) :
    AnyBut P md ops Q S k (n + 1) listed a w :=
  ⟨fun h0 => (by rw [hr] at h0; cases h0), fun j hj => by
    rw [hr] at hj
    obtain rfl := List.mem_singleton.1 hj
    refine wpOp_step ho (fun K' hK => h K' (fun a w hQ => hK a w ⟨fun e => absurd rfl e, ?_⟩))
    cases n with
    | zero => exact ⟨hend, hQ⟩
    | succ n => exact ⟨fun _ => hQ, by rw [hend]; intro i hi; cases hi⟩⟩

/-- The beginning. -/
theorem AnyBut.start {id : Nat} {a : Act} {w : World} (hm : P.follows .mixedOrders = true)
    (h : AnyBut P .any ops Q S k ops.size (Array.replicate ops.size false) a w.drew) : (Code.region id ops true).wp P Q a w :=
  wp_region_any hm (AnyBut.any _ _ _ _ h)
end
end Go.Proofs.YtficodklidaheaaDoor
/- A region that draws its order: two operations that may come up now. -/
namespace Go.Proofs.YtficodklidaheaaDoor
open Go
section
variable {P : Program} {ops : Array Oper} {Q : Exit → Act → World → Prop} {md : Region.Mode} {S : World → Prop} {k : Nat}
theorem AnyBut.two {i j : Nat} {oi oj : Oper} {n : Nat} {listed : Array Bool} {a : Act} {w : World} (hr : Region.ready md ops listed = [i, j]) (hoi : ops[i]? = some oi) (hoj : ops[j]? = some oj)
    (h1 : ∀ K' : Act → World → Prop, Shut (∀ a w, S w → AnyBut P md ops Q S k n (listed.setIfInBounds i true) a w → K' a w) → if Region.wanted oi (yielded ops a.tmps) = true then Oper.wp P oi a w K' Q else K' (a.put oi.dst undef) w)
    (h2 : ∀ K' : Act → World → Prop, Shut (∀ a w, S w → AnyBut P md ops Q S k n (listed.setIfInBounds j true) a w → K' a w) → if Region.wanted oj (yielded ops a.tmps) = true then Oper.wp P oj a w K' Q else K' (a.put oj.dst undef) w) :
    AnyBut P md ops Q S k (n + 1) listed a w :=
  ⟨fun h0 => (by rw [hr] at h0; cases h0), fun m hm => by
    rw [hr] at hm
    rcases List.mem_cons.1 hm with rfl | hm
    · exact wpOp_step hoi (fun K' hK => h1 K' (fun a w hS hW => hK a w ⟨fun _ => hS, hW⟩))
    · obtain rfl := List.mem_singleton.1 hm
      exact wpOp_step hoj (fun K' hK => h2 K' (fun a w hS hW => hK a w ⟨fun _ => hS, hW⟩))⟩
theorem AnyBut.three {i j m : Nat} {oi oj om : Oper} {n : Nat} {listed : Array Bool} {a : Act} {w : World} (hr : Region.ready md ops listed = [i, j, m]) (hoi : ops[i]? = some oi) (hoj : ops[j]? = some oj) (hom : ops[m]? = some om)
    (h1 : ∀ K' : Act → World → Prop, Shut (∀ a w, S w → AnyBut P md ops Q S k n (listed.setIfInBounds i true) a w → K' a w) → if Region.wanted oi (yielded ops a.tmps) = true then Oper.wp P oi a w K' Q else K' (a.put oi.dst undef) w)
    (h2 : ∀ K' : Act → World → Prop, Shut (∀ a w, S w → AnyBut P md ops Q S k n (listed.setIfInBounds j true) a w → K' a w) → if Region.wanted oj (yielded ops a.tmps) = true then Oper.wp P oj a w K' Q else K' (a.put oj.dst undef) w)
    (h3 : ∀ K' : Act → World → Prop, Shut (∀ a w, S w → AnyBut P md ops Q S k n (listed.setIfInBounds m true) a w → K' a w) → if Region.wanted om (yielded ops a.tmps) = true then Oper.wp P om a w K' Q else K' (a.put om.dst undef) w) :
    AnyBut P md ops Q S k (n + 1) listed a w :=
  ⟨fun h0 => (by rw [hr] at h0; cases h0), fun x hx => by
    rw [hr] at hx
    rcases List.mem_cons.1 hx with rfl | hx
    · exact wpOp_step hoi (fun K' hK => h1 K' (fun a w hS hW => hK a w ⟨fun _ => hS, hW⟩))
    · rcases List.mem_cons.1 hx with rfl | hx
      · exact wpOp_step hoj (fun K' hK => h2 K' (fun a w hS hW => hK a w ⟨fun _ => hS, hW⟩))
      · obtain rfl := List.mem_singleton.1 hx
        exact wpOp_step hom (fun K' hK => h3 K' (fun a w hS hW => hK a w ⟨fun _ => hS, hW⟩))⟩
/-- S holds behind every one (k is none of them). -/
theorem AnyBut.firstS {i : Nat} {oi : Oper} {v : Value} (hi : ops[i]? = some oi) (hs : Region.noSelect ops = true) (hk : ops.size ≤ k)
    (hQ : ∀ c a w, Q (.panic c) (a.put oi.dst v) w → Q (.panic c) a w) :
    ∀ (n : Nat) (listed : Array Bool) (a : Act) (w : World), Region.free md ops listed i = true →
      i ∈ Region.ready md ops listed → YieldsIf P ops S oi v a → S w →
      AnyBut P md ops Q S k n (listed.setIfInBounds i true) (a.put oi.dst v) w → AnyBut P md ops Q S k (n + 1) listed a w := by
  intro n listed a w hf
  have hfree := Region.free_spec hi hf
  clear hf
  induction n generalizing listed a w with
  | zero =>
    intro hr hy hS H
    refine ⟨fun h => (by rw [h] at hr; cases hr), fun j hj => ?_⟩
    by_cases hji : j = i
    · subst hji; exact hy.wpOp hi hS ⟨fun _ => hS, H⟩
    · have := ready_mono hj hji
      rw [H.1] at this
      cases this
  | succ n ih =>
    intro hr hy hS H
    refine ⟨fun h => (by rw [h] at hr; cases hr), fun j hj => ?_⟩
    by_cases hji : j = i
    · subst hji; exact hy.wpOp hi hS ⟨fun _ => hS, H⟩
    obtain ⟨hjun, oj, hoj, _⟩ := mem_ready.1 hj
    have hjk : j ≠ k := fun e => by have := (Array.getElem?_eq_some_iff.1 hoj).1; omega
    have hnot : ∀ e ∈ oj.after, Region.binds md e = true → e.on ≠ i := fun e he hb heq => by
      have : Region.waitsFor md ops j i = true := by
        unfold Region.waitsFor
        rw [hoj]
        exact Array.any_eq_true'.2 ⟨e, he, by simp [hb, heq]⟩
      exact listed_of_wait this hj hr
    have hstep := wpOp_putIf hoj (hfree j oj hoj hji hjun hnot) (Region.noSelect_spec hs i oi · · hi) (Region.noSelect_spec hs j oj · · hoj) hQ hy (H.2 j (ready_mono hj hji))
    refine wpOp_mono (fun a' w' h3 => ⟨fun _ => h3.2.1 hjk, ih _ a' w' (fun m om hm hmi hun hno => ?_) (ready_mono hr (Ne.symm hji)) h3.1 (h3.2.1 hjk) ?_⟩) hstep
    · refine hfree m om hm hmi ?_ hno
      by_cases hjm : j = m
      · subst hjm; exact hjun
      · rw [getD_set_ne true hjm] at hun; exact hun
    · rw [Array.setIfInBounds_comm _ _ hji]
      exact h3.2.2
theorem AnyBut.takeS {i : Nat} {oi : Oper} {v : Value} {n : Nat} {listed : Array Bool} {a : Act} {w : World} (hi : ops[i]? = some oi)
    (hs : Region.noSelect ops = true) (hk : ops.size ≤ k) (hf : Region.free md ops listed i = true) (hr : (Region.ready md ops listed).contains i = true)
    (hQ : ∀ c a w, Q (.panic c) (a.put oi.dst v) w → Q (.panic c) a w) (hS : S w) (hy : YieldsIf P ops S oi v a)
    (h : AnyBut P md ops Q S k n (listed.setIfInBounds i true) (a.put oi.dst v) w) : AnyBut P md ops Q S k (n + 1) listed a w :=
  AnyBut.firstS hi hs hk hQ n listed a w hf (by simpa using hr) hy hS h
/-- Nothing is left. -/
theorem AnyBut.done {n : Nat} {listed : Array Bool} {a : Act} {w : World} (hr : Region.ready md ops listed = []) (h : Q .normal a w) : AnyBut P md ops Q S k n listed a w := by
  cases n with
  | zero => exact ⟨hr, h⟩
  | succ n => exact ⟨fun _ => h, by rw [hr]; intro i hi; cases hi⟩
end
end Go.Proofs.YtficodklidaheaaDoor
/- Layer 25: a sender's Ack, Take (written by tools/gen_XX4.py). -/
namespace Go.Proofs.YtficodklidaheaaDoor
open Go.RowKit
attribute [local go_sem ↓] Go.wp_at_zero Go.wp_at_succ

def natL (l : List Int) : List Nat := l.map Int.toNat
theorem sliceAt_row8 {w : World} {v : Value} {ao : Option Addr} {n c : Nat} {l : List Int} (h : SliceAt w v ao n c (u8s l)) (hb : ∀ x ∈ l, 0 ≤ x ∧ x < 256) : Row8 w v (natL l) := by
  have hn : n = (natL l).length := by
    have := h.len
    unfold natL
    simp at this ⊢
    exact this.symm
  have hv := h.val
  rw [hn] at hv
  refine ⟨ao, c, hv, fun x hx => ?_, fun j hj => ?_⟩
  · unfold natL at hx
    obtain ⟨y, hy, rfl⟩ := List.mem_map.1 hx
    have := hb y hy
    omega
  · have hj' : j < l.length := by simpa [natL] using hj
    have h1 : (u8s l)[j]? = some (.int .u8 l[j]) := by simp [hj']
    have h3 : (((natL l).getD j 0 : Nat) : Int) = l[j] := by
      have h4 := hb l[j] (List.getElem_mem hj')
      simp [natL, List.getD_eq_getElem?_getD, hj']
      omega
    cases ao with
    | none => have := h.none rfl; omega
    | some a => exact ⟨a, rfl, by rw [h3]; exact h.cells a rfl j _ h1⟩
theorem fixB_byte (x : Int) : ∀ y ∈ fixB x, 0 ≤ y ∧ y < 256 := by
  intro y hy
  unfold fixB fixK at hy
  obtain ⟨j, _, rfl⟩ := List.mem_map.1 hy
  unfold byteI
  omega
def takeF (r : DA × Int) (ack have_ : Int) : DA × Int × Bool × Int := if r.2 ≠ 0 then (r.1, ack, false, r.2) else (r.1, have_, true, 0)
def takeSh (D : DA) (ack have_ next : Int) : DA × Int × Bool × Int :=
  if have_ ≤ ack ∨ next < have_ then (D, ack, false, 0) else takeF (saveD D nmAck (natL (fixB (IntKind.u64.wrap have_)))) ack have_
/-- What Take answers and leaves. -/
def TakeTo (base : Nat) (w : World) (db mb : Nat) (L : List (ByteArray × Fi)) (p : Nat) (r : DA × Int × Bool × Int) (e : Ending) (w' : World) : Prop :=
  ∃ L', e = .returned (.tuple #[.bool r.2.2.1, .int .i64 r.2.2.2]) ∧ DK base w' db mb L' r.1 ∧ Kept (fun k => k = p ∨ foot db mb L k) w w' ∧ Foot w db mb L L' ∧ BoxAt w' p 129 #[.pointer (some ⟨db, 0, none⟩), .int .i64 r.2.1] ∧ ¬ foot db mb L' p
theorem shAck_any (p : Nat) (v : Value) (ack : Int) (w : World) (h : BoxAt w p 129 #[v, .int .i64 ack]) :
    Calls Tryd.prog 51 #[.pointer (some ⟨p, 0, none⟩)] w fun e w' => e = .returned (.int .i64 ack) ∧ w = w' := by
  have c1 : w.cell? ⟨p, 1, none⟩ = some (.int .i64 ack) := h.cell rfl
  clear h
  go_enter Tryd.func51, Tryd.ntmps51
  go_wp2
  go_ret
  exact ⟨rfl, rfl⟩
set_option maxRecDepth 100000 in
set_option maxHeartbeats 8000000 in
theorem shTake_any (base db mb : Nat) (hb0 : 0 < base) (L : List (ByteArray × Fi)) (D : DA) (p : Nat) (ack have_ next : Int) (w : World) (h : DK base w db mb L D) (hb : BoxAt w p 129 #[.pointer (some ⟨db, 0, none⟩), .int .i64 ack]) (hp : ¬ foot db mb L p) (HN : Nibs w) :
    Calls Tryd.prog 52 #[.pointer (some ⟨p, 0, none⟩), .int .i64 have_, .int .i64 next] w (TakeTo base w db mb L p (takeSh D ack have_ next)) := by
  have HD := Lib.hid (And.intro h (And.intro hb (And.intro hp (And.intro HN hb0))))
  obtain ⟨Q, hQ⟩ : ∃ Q, Q = takeSh D ack have_ next := ⟨_, rfl⟩
  rw [← hQ]
  have HQ := Lib.hid hQ
  have c1 : w.cell? ⟨p, 1, none⟩ = some (.int .i64 ack) := hb.cell rfl
  clear h hb hp HN hQ
  by_cases h1 : have_ ≤ ack
  · have q1 : decide (have_ ≤ ack) = true := decide_eq_true h1
    have HX : Hid (Q = (D, ack, false, 0)) := Lib.hid (by rw [HQ.out]; exact if_pos (.inl h1))
    clear h1
    go_enter Tryd.func52, Tryd.ntmps52
    go_wp2
    go_ret2
    rw [HX.out]
    exact ⟨L, rfl, HD.out.1, Kept.refl _ _, Foot.refl _ _ _ _, HD.out.2.1, HD.out.2.2.1⟩
  have q1 : decide (have_ ≤ ack) = false := decide_eq_false h1
  by_cases h2 : next < have_
  · have q2 : decide (next < have_) = true := decide_eq_true h2
    have HX : Hid (Q = (D, ack, false, 0)) := Lib.hid (by rw [HQ.out]; exact if_pos (.inr h2))
    clear h1 h2
    go_enter Tryd.func52, Tryd.ntmps52
    go_wp2
    go_ret2
    rw [HX.out]
    exact ⟨L, rfl, HD.out.1, Kept.refl _ _, Foot.refl _ _ _ _, HD.out.2.1, HD.out.2.2.1⟩
  have q2 : decide (next < have_) = false := decide_eq_false h2
  obtain ⟨x, hx⟩ : ∃ x, x = IntKind.u64.wrap have_ := ⟨_, rfl⟩
  obtain ⟨R, hR⟩ : ∃ R, R = saveD D { data := #[97, 99, 107] } (natL (fixB x)) := ⟨_, rfl⟩
  have HX : Hid (Q = takeF R ack have_) := Lib.hid (by rw [HQ.out, hR, hx]; exact if_neg (fun e => e.elim h1 h2))
  have HR := Lib.hid hR
  have wx : IntKind.u64.wrap have_ = x := hx.symm
  have HNW := Lib.hid (newWriter_any w)
  clear h1 h2 hx hR
  go_enter Tryd.func52, Tryd.ntmps52
  go_wp2_with fail
  refine HNW.out.mono ?_
  rintro e w1 ⟨rfl, hw1⟩
  have hat : WrAt 155 5 w1 w.heap.size w.heap.size (.slice none 0 0) [] := by rw [hw1]; exact newWriter_at w.heap.size w (Nat.le_refl _)
  have k1 : Kept (fun _ => False) w w1 := by rw [hw1]; exact (Kept.refl _ _).alloc _
  have HFW := Lib.hid (wfix_any w.heap.size w.heap.size (.slice none 0 0) [] x w1 hat k1.size (by simp))
  have HK1 := Lib.hid k1
  clear hw1 hat k1
  go_wp2_with fail
  refine HFW.out.mono ?_
  rintro e w3 ⟨rfl, v3, hw3, _, k3⟩
  rw [List.nil_append] at hw3
  have HK3 := Lib.hid (HK1.out.newer k3 (fun j e => by
    rcases e with e | e
    · rw [e]; exact Nat.le_refl _
    · simp [Value.ownBlock] at e))
  have kd : Kept (fun _ => False) w3 w3.drew := (Kept.refl _ _).drew
  have HBY := Lib.hid (wbytes_any w.heap.size w.heap.size v3 (fixB x) w3.drew (hw3.kept kd (fun x => x) (fun _ _ x => x)) (by rw [fixB, fixK_length]; omega))
  have HS3 : Hid ((fun w' => w'.cell? ⟨p, 0, none⟩ = some (.pointer (some ⟨db, 0, none⟩))) w3.drew) := Lib.hid ((HD.out.2.1.kept (HK3.out.trans kd) (fun x => x)).cell rfl)
  clear hw3 k3 kd c1
  go_upto_region 5 with fail
  refine AnyBut.start (S := fun w' => w'.cell? ⟨p, 0, none⟩ = some (.pointer (some ⟨db, 0, none⟩))) (k := 8) (by kernel_rfl) ?_
  refine AnyBut.takeS (i := 0) (v := ?v1) rfl (by kernel_rfl) (Nat.le_of_eq (by kernel_rfl)) (by kernel_rfl) (by kernel_rfl) (fun _ _ _ h => h) (HS3.out) (Or.inl ⟨by kernel_rfl, ?hy1⟩) ?r1
  case hy1 =>
    intro w hSw
    try dsimp only at hSw
    go_simp
    first | (have y0 := hSw; go_simp) | skip
    try with_reducible rfl
  try simp only [Act.put, List.getElem_toArray, List.getElem_cons_zero, List.setIfInBounds_toArray, List.set_cons_zero, List.set_cons_succ]
  refine AnyBut.takeS (i := 1) (v := ?v2) rfl (by kernel_rfl) (Nat.le_of_eq (by kernel_rfl)) (by kernel_rfl) (by kernel_rfl) (fun _ _ _ h => h) (HS3.out) (Or.inl ⟨by kernel_rfl, ?hy2⟩) ?r2
  case hy2 =>
    intro w hSw
    try dsimp only at hSw
    go_simp
    first | (have y0 := hSw; go_simp) | skip
    try with_reducible rfl
  try simp only [Act.put, List.getElem_toArray, List.getElem_cons_succ, List.getElem_cons_zero, List.setIfInBounds_toArray, List.set_cons_zero, List.set_cons_succ]
  refine AnyBut.takeS (i := 2) (v := ?v3) rfl (by kernel_rfl) (Nat.le_of_eq (by kernel_rfl)) (by kernel_rfl) (by kernel_rfl) (fun _ _ _ h => h) (HS3.out) (Or.inl ⟨by kernel_rfl, ?hy3⟩) ?r3
  case hy3 =>
    intro w hSw
    try dsimp only at hSw
    go_simp
    first | (have y0 := hSw; go_simp) | skip
    try with_reducible rfl
  try simp only [Act.put, List.getElem_toArray, List.getElem_cons_succ, List.getElem_cons_zero, List.setIfInBounds_toArray, List.set_cons_zero, List.set_cons_succ]
  refine AnyBut.takeS (i := 3) (v := ?v4) rfl (by kernel_rfl) (Nat.le_of_eq (by kernel_rfl)) (by kernel_rfl) (by kernel_rfl) (fun _ _ _ h => h) (HS3.out) (Or.inl ⟨by kernel_rfl, ?hy4⟩) ?r4
  case hy4 =>
    intro w hSw
    try dsimp only at hSw
    go_simp
    first | (have y0 := hSw; go_simp) | skip
    try with_reducible rfl
  try simp only [Act.put, List.getElem_toArray, List.getElem_cons_succ, List.getElem_cons_zero, List.setIfInBounds_toArray, List.set_cons_zero, List.set_cons_succ]
  refine AnyBut.takeS (i := 4) (v := ?v5) rfl (by kernel_rfl) (Nat.le_of_eq (by kernel_rfl)) (by kernel_rfl) (by kernel_rfl) (fun _ _ _ h => h) (HS3.out) (Or.inl ⟨by kernel_rfl, ?hy5⟩) ?r5
  case hy5 =>
    intro w hSw
    try dsimp only at hSw
    go_simp
    first | (have y0 := hSw; go_simp) | skip
    try with_reducible rfl
  try simp only [Act.put, List.getElem_toArray, List.getElem_cons_succ, List.getElem_cons_zero, List.setIfInBounds_toArray, List.set_cons_zero, List.set_cons_succ]
  refine AnyBut.one (i := 5) (by kernel_rfl) rfl (fun K hK => ?_)
  go_simp
  go_wp2_with fail
  refine HBY.out.mono ?_
  rintro e w4 ⟨bv, rfl, hfr, k4⟩
  obtain ⟨bo, bc, hsl, _⟩ := SliceAt.ofOwn hfr
  obtain rfl := hsl.val
  have HK4 := Lib.hid (HK3.out.trans (((Kept.refl (fun _ => False) w3).drew).trans k4))
  have HR8 := sliceAt_row8 hsl (fixB_byte x)
  have HD4 := Lib.hid (HD.out.1.kept HK4.out (fun _ _ x => x))
  have HB4 := Lib.hid (HD.out.2.1.kept HK4.out (fun x => x))
  have HS4 : Hid ((fun w' => w'.cell? ⟨p, 0, none⟩ = some (.pointer (some ⟨db, 0, none⟩))) w4) := Lib.hid (HB4.out.cell rfl)
  have HSV := Lib.hid (sSave_any base db mb HD.out.2.2.2.2 L D nmAck (by decide) bo (fixB x).length bc (natL (fixB x)) (by unfold natL; rw [List.length_map]) w4 HD4.out HR8 (HD.out.2.2.2.1.kept HK4.out) (by unfold natL; rw [List.length_map, fixB, fixK_length]; omega))
  rw [show nmAck = { data := #[97, 99, 107] } from rfl, ← HR.out] at HSV
  obtain ⟨fb, hfb⟩ : ∃ n, n = (fixB x).length := ⟨_, rfl⟩
  rw [← hfb] at HSV ⊢
  clear hfr k4 hsl HR8 hfb
  go_wp2
  refine hK.out _ _ (HS4.out) ?_
  clear hK K
  try simp only [Act.put, List.getElem_toArray, List.getElem_cons_succ, List.getElem_cons_zero, List.setIfInBounds_toArray, List.set_cons_zero, List.set_cons_succ]
  refine AnyBut.one (i := 6) (by kernel_rfl) rfl (fun K hK => ?_)
  go_simp
  go_wp2_with fail
  refine HSV.out.mono ?_
  rintro e w5 ⟨L5, rfl, h5, k5, f5⟩
  have HD5 := Lib.hid (And.intro h5 (And.intro k5 f5))
  have hb5 := HB4.out.kept k5 HD.out.2.2.1
  have HB5 := Lib.hid hb5
  have HS5 : Hid ((fun w' => w'.cell? ⟨p, 0, none⟩ = some (.pointer (some ⟨db, 0, none⟩))) w5) := Lib.hid (hb5.cell rfl)
  clear h5 k5 f5 hb5
  go_wp2
  refine hK.out _ _ (HS5.out) ?_
  clear hK K
  try simp only [Act.put, List.getElem_toArray, List.getElem_cons_succ, List.getElem_cons_zero, List.setIfInBounds_toArray, List.set_cons_zero, List.set_cons_succ]
  refine AnyBut.takeS (i := 7) (v := ?v6) rfl (by kernel_rfl) (Nat.le_of_eq (by kernel_rfl)) (by kernel_rfl) (by kernel_rfl) (fun _ _ _ h => h) (HS5.out) (Or.inl ⟨by kernel_rfl, ?hy6⟩) ?r6
  case hy6 =>
    intro w hSw
    try dsimp only at hSw
    go_simp
    first | (have y0 := hSw; go_simp) | skip
    try with_reducible rfl
  try simp only [Act.put, List.getElem_toArray, List.getElem_cons_succ, List.getElem_cons_zero, List.setIfInBounds_toArray, List.set_cons_zero, List.set_cons_succ]
  refine AnyBut.done (by kernel_rfl) ?_
  by_cases hz : R.2 = 0
  · have HX2 : Hid (Q = (R.1, have_, true, 0)) := Lib.hid (by rw [HX.out]; exact if_neg (fun e => e hz))
    have q0 : (R.2 != 0) = false := by rw [hz]; rfl
    have b1 := HB5.out.cell (i := 1) (u := .int .i64 ack) rfl
    have fz := HB5.out.fz 1
    clear hz
    go_wp2
    go_ret2
    rw [HX2.out]
    have kk : Kept (fun k => k = p) w5 (w5.setCell ⟨p, 1, none⟩ (.int .i64 have_)) := kept_set _ _ _ _
    have hp5 : ¬ foot db mb L5 p := fun f => by
      rcases HD5.out.2.2 p f with y | y
      · exact HD.out.2.2.1 y
      · have h1 := HD.out.2.1.lt; have h2 := HK4.out.size; omega
    exact ⟨L5, rfl, HD5.out.1.kept kk (fun j f e => hp5 (e ▸ f)), ((HK4.out.mono (fun _ _ x => x.elim)).trans (HD5.out.2.1.mono (fun _ _ e => .inr e))).trans (kk.mono (fun _ _ e => .inl e)), fun k f => (HD5.out.2.2 k f).imp id (fun y => Nat.le_trans HK4.out.size y), HB5.out.set 1 (.int .i64 have_), hp5⟩
  · have HX2 : Hid (Q = (R.1, ack, false, R.2)) := Lib.hid (by rw [HX.out]; exact if_pos hz)
    have q0 : (R.2 != 0) = true := by simp [bne, beq_eq_false_iff_ne.2 hz]
    clear hz
    go_wp2
    go_ret2
    rw [HX2.out]
    have hp5 : ¬ foot db mb L5 p := fun f => by
      rcases HD5.out.2.2 p f with y | y
      · exact HD.out.2.2.1 y
      · have h1 := HD.out.2.1.lt; have h2 := HK4.out.size; omega
    exact ⟨L5, rfl, HD5.out.1, (HK4.out.mono (fun _ _ x => x.elim)).trans (HD5.out.2.1.mono (fun _ _ e => .inr e)), fun k f => (HD5.out.2.2 k f).imp id (fun y => Nat.le_trans HK4.out.size y), HB5.out, hp5⟩
end Go.Proofs.YtficodklidaheaaDoor
/- A slice of structs that came in, field by field. -/
namespace Go.Proofs.YtficodklidaheaaDoor
open Go.ChangeShapes Go.WideShapes Go.Deep Go.RowKit

/-- Each element of a slice of structs (of fields of one cell each) lies in its cells, and each field reads by its own type. -/
theorem recs_of {H : Type} {enc : TypeId × Value → H} {P : Program} {W : World} {sp : Nat} {T E : TypeId} {fs : Array Field} {a : Option Addr} {len cap : Nat} {d : DataW H} {p : List MemPlace}
    (hT : P.underlying T = some (.slice E)) (hE : P.underlying E = some (.struct fs)) (hone : oneCellFields P fs = true) (hC : P.cellsOf E = fs.size) (h : DataW.Trod enc P W sp (fun _ => true) true T (.slice a len cap) d p) :
    (a = none ∧ len = 0 ∧ cap = 0) ∨
    ∃ x, a = some x ∧ len ≤ cap ∧ cap ≤ maxLen ∧ ∀ i, i < len → ∀ (j : Nat) (f : Field), fs[j]? = some f → ∃ (v : Value) (n : Nat) (y : DataW H × List MemPlace), W.cell? (x.add (i * fs.size + j)) = some v ∧ DataW.trod enc P W sp (fun _ => true) true n f.type [v] = some y := by
  obtain ⟨fuel, hf⟩ := h
  rcases open_slice hT hf with ⟨hcs, _⟩ | ⟨x, l, c, m, n, D, Pl, hcs, _, hl, hm, hmm, _, hi⟩
  · simp [Value.cells] at hcs
    obtain ⟨rfl, rfl, rfl⟩ := hcs
    exact .inl ⟨rfl, rfl, rfl⟩
  · simp [Value.cells] at hcs
    obtain ⟨rfl, rfl, rfl⟩ := hcs
    refine .inr ⟨x, rfl, hl, hm, fun i hil j f hj => ?_⟩
    obtain ⟨cs', hc, ht'⟩ := hi i (by simp at hmm; omega)
    rw [hC] at hc
    obtain ⟨ys, n', _, _, _, hyl, hg⟩ := DataW.trod_struct hE ht'
    obtain ⟨_, hcl, hat⟩ := World.cells?_some hc
    obtain ⟨ho, hk⟩ := hone_of hone j f hj
    have hjl : j < fs.size := (Array.getElem?_eq_some_iff.1 hj).1
    have h1 := hg j f hj
    rw [ho, hk, List.drop_eq_getElem_cons (by omega), List.take_succ_cons, List.take_zero, List.getElem?_eq_getElem (by omega)] at h1
    refine ⟨cs'[j]'(by omega), n', _, ?_, h1⟩
    rw [← Go.Deep.add_add, hat j hjl, List.getElem?_eq_getElem (by omega)]
end Go.Proofs.YtficodklidaheaaDoor
