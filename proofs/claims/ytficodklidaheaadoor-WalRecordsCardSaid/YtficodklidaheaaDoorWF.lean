/- Layer 19: Open. -/
import Derived.Test.YtficodklidaheaaDoorWE
import Derived.Test.YtficodklidaheaaDoorS9
namespace Go.Proofs.YtficodklidaheaaDoor
open Go.RowKit
attribute [local go_sem ↓] Go.wp_at_zero Go.wp_at_succ

/-- What Open answers when it is well. -/
def OpenTo (base : Nat) (w : World) (db mb : Nat) (L : List (ByteArray × Fi)) (s : ByteArray) (D' : DA) (Ls : List (List Nat)) (u : Nat) (e : Ending) (w' : World) : Prop :=
  ∃ L' lb v B H, e = .returned (.tuple #[.pointer (some ⟨lb, 0, none⟩), v, .int .i64 0]) ∧ DK base w' db mb L' D' ∧ Kept (foot db mb L) w w' ∧ Foot w db mb L L' ∧ LogAt w' lb db s (Ls.length : Int) (u : Int) ∧
    w.heap.size ≤ B ∧ w.heap.size ≤ lb ∧ H ≤ lb ∧ GotRows w' B H v Ls ∧ ∀ k, foot db mb L' k → k < B ∨ H ≤ k
theorem OpenTo.mk {base : Nat} {w w3 : World} {db mb : Nat} {L L' : List (ByteArray × Fi)} {D' : DA} (s : ByteArray) {Ls : List (List Nat)} {u : Nat} {v : Value} {B H : Nat} (h : DK base w3 db mb L' D') (k : Kept (foot db mb L) w w3) (f : Foot w db mb L L') (hB : w.heap.size ≤ B) (hH : H ≤ w3.heap.size) (hg : GotRows w3 B H v Ls) (hf : ∀ k, foot db mb L' k → k < B ∨ H ≤ k) :
    OpenTo base w db mb L s D' Ls u (.returned (.tuple #[.pointer (some ⟨w3.heap.size, 0, none⟩), v, .int .i64 0])) (w3.alloc (.cells #[.pointer (some ⟨db, 0, none⟩), .string s, .int .i64 (Ls.length : Int), .int .i64 (u : Int)] 117)) := by
  have ka : Kept (fun _ => False) w3 (w3.alloc (.cells #[.pointer (some ⟨db, 0, none⟩), .string s, .int .i64 (Ls.length : Int), .int .i64 (u : Int)] 117)) := (Kept.refl _ _).alloc _
  exact ⟨L', _, v, B, H, rfl, h.kept ka (fun _ _ x => x), k.trans (ka.mono (fun _ _ x => x.elim)), f, BoxAt.new _ _ _, hB, k.size, hH, hg.kept ka (fun _ _ _ x => x), hf⟩
theorem own_capB {w : World} {B : Nat} {E : TypeId} {ao : Option Addr} {n m c z : Nat} {xs : List Value} (h : w.ownsRow B E z (.slice ao n c) m xs) : n ≤ c := by
  rcases h.2 with ⟨e, h0⟩ | ⟨g, cap, cur, e, _, _, hc, _⟩
  · injection e with _ h1 h2
    omega
  · injection e with _ e2 e3
    subst e2 e3
    exact hc
set_option maxRecDepth 100000 in
set_option maxHeartbeats 4000000 in
theorem wOpen_there (base db mb : Nat) (L : List (ByteArray × Fi)) (D : DA) (s : ByteArray) (hs : s.size ≤ maxLen) (f : PF) (Ls : List (List Nat)) (u n : Nat) (w : World) (h : DK base w db mb L D) (hd : D.down = false) (hf : getM D.L s = some f) (hfl : f.b.length ≤ 1000000000) (hsc : ScanR f.b Ls u n) (hn : n = 0 ∨ n = 2) (hc : u < f.b.length → (cutD D s u).2 = 0) (HN : Nibs w) :
    Calls Tryd.prog 24 #[.pointer (some ⟨db, 0, none⟩), .string s] w (OpenTo base w db mb L s (if u < f.b.length then (cutD D s u).1 else D) Ls u) := by
  have hre : readA D s = (f.b, 0) := by unfold readA; rw [hd, hf]; rfl
  have HRD := Lib.hid (dRead_any base db mb L D s hs w h)
  have hfb : ∀ x ∈ f.b, x < 256 := h.ok.byte (s, f) (getM_mem hf)
  have HSC := Lib.hid (And.intro hsc (And.intro hn (And.intro hfb (And.intro hc hs))))
  have hub := (hsc.lt hfb).2
  have HU := Lib.hid hub
  rw [hre] at HRD
  have HH := Lib.hid (And.intro h HN)
  obtain ⟨D', hD'⟩ : ∃ D', D' = (if u < f.b.length then (cutD D s u).1 else D) := ⟨_, rfl⟩
  rw [← hD']
  obtain ⟨m, hm⟩ : ∃ m, m = f.b.length := ⟨_, rfl⟩
  have HM := Lib.hid (And.intro hm hfl)
  rw [← hm] at hD'
  have HDD := Lib.hid hD'
  have hlen := hsc
  clear h hd hf hfl hsc hn hc HN hfb hre hlen hD'
  go_enter Tryd.func24, Tryd.ntmps24
  go_wp2_with fail
  refine HRD.out.mono ?_
  rintro e w1 ⟨a, c, rfl, hmi⟩
  have hcap := own_capB hmi.own
  have hrow := slAt_row8 hmi.at_ HSC.out.2.2.1
  have HREC := Lib.hid (wRecords_any a c f.b HM.out.2 hcap w1 hrow (HH.out.2.kept hmi.kept))
  have HK1 := Lib.hid hmi.kept
  dsimp only
  rw [← HM.out.1] at HREC ⊢
  clear hmi hcap hrow hm
  go_wp2_with fail
  refine HREC.out.mono ?_
  rintro e w2 ⟨Ls2, u2, n2, hsc2, k2, ⟨hn2, v, rfl, hg⟩ | ⟨hn2, rfl⟩⟩
  · obtain ⟨rfl, rfl, rfl⟩ := hsc2.fn HSC.out.1
    have HG := Lib.hid hg
    have HK2 := Lib.hid (HK1.out.trans k2)
    have HSZ := Lib.hid k2.size
    obtain ⟨va, vc, hv, _⟩ := hg
    subst hv
    obtain ⟨q, hq⟩ : ∃ q, q = Ls2.length := ⟨_, rfl⟩
    rw [← hq] at HG ⊢
    have HQ := Lib.hid hq
    have HDK := Lib.hid (HH.out.1.kept HK2.out (fun _ _ x => x))
    have HLT := Lib.hid (fun k (x : foot db mb L k) => (HH.out.1.lt x).1)
    clear hsc2 k2 hn2 hq
    by_cases hu : u2 < m
    · have q1 : (u2 : Int) < (m : Int) := by omega
      have HC := Lib.hid (dCut_any base db mb L D s HSC.out.2.2.2.2 (u2 : Int) w2 HDK.out)
      have hz := HSC.out.2.2.2.1 (by rw [← HM.out.1]; exact hu)
      obtain ⟨r, hr⟩ : ∃ r, r = cutD D s (u2 : Int) := ⟨_, rfl⟩
      have HDR : Hid (D' = r.1) := Lib.hid (by rw [HDD.out, if_pos hu, hr])
      rw [← hr] at HC hz
      have HZ := Lib.hid hz
      clear hr hz hu hub
      go_wp2_with fail
      refine HC.out.mono ?_
      rintro e w3 ⟨L', rfl, h3, k3, f3⟩
      rw [HZ.out]
      have HX := Lib.hid (OpenTo.mk (w := w) (v := .slice va q vc) (u := u2) (B := w1.heap.size) (H := w2.heap.size) (Ls := Ls2) s h3 ((HK2.out.mono (fun _ _ x => x.elim)).trans k3) (fun k x => (f3 k x).imp id (Nat.le_trans HK2.out.size)) HK1.out.size k3.size (HG.out.kept k3 (fun j h1 h2 x => by have := HLT.out j x; have := HK1.out.size; omega)) (fun k x => (f3 k x).imp (fun y => by have := HLT.out k y; have := HK1.out.size; omega) id))
      rw [← HQ.out, ← HDR.out] at HX
      clear h3 k3 f3
      go_wp2
      go_ret3
      exact HX.out
    · have q1 : ¬ (u2 : Int) < (m : Int) := by omega
      have HDR : Hid (D' = D) := Lib.hid (by rw [HDD.out, if_neg hu])
      have HX := Lib.hid (OpenTo.mk (w := w) (v := .slice va q vc) (u := u2) (B := w1.heap.size) (H := w2.heap.size) (Ls := Ls2) s HDK.out (HK2.out.mono (fun _ _ x => x.elim)) (Foot.refl _ _ _ _) HK1.out.size (Nat.le_refl _) HG.out (fun k x => .inl (by have := HLT.out k x; have := HK1.out.size; omega)))
      rw [← HQ.out] at HX
      have HX2 : Hid (OpenTo base w db mb L s D' Ls2 u2 _ _) := Lib.hid (by rw [HDR.out]; exact HX.out)
      clear HX hu hub
      go_wp2
      go_ret3
      exact HX2.out
  · obtain ⟨rfl, rfl, rfl⟩ := hsc2.fn HSC.out.1
    exact absurd HSC.out.2.1 (fun e => e.elim hn2.1 hn2.2)
theorem Nibs.keptS {S : Nat → Prop} {w w' : World} (h : Nibs w) (hk : Kept S w w') (h0 : ¬ S 0) : Nibs w' := fun j hj => hk.cell (h j hj) h0
theorem DK.no0 {base : Nat} {w : World} {db mb : Nat} {L : List (ByteArray × Fi)} {D : DA} (h : DK base w db mb L D) (hb : 0 < base) : ¬ foot db mb L 0 := fun x => by have := (h.lt x).2; omega
/-- What Open answers of a file that isn't there; r: what making it leaves. -/
def OpenNew (base : Nat) (w : World) (db mb : Nat) (L : List (ByteArray × Fi)) (s : ByteArray) (r : DA × Int) (e : Ending) (w' : World) : Prop :=
  (r.2 = 0 ∧ OpenTo base w db mb L s r.1 [] 0 e w') ∨
  (r.2 ≠ 0 ∧ ∃ L', e = .returned (.tuple #[.pointer none, .slice none 0 0, .int .i64 r.2]) ∧ DK base w' db mb L' r.1 ∧ Kept (foot db mb L) w w' ∧ Foot w db mb L L')
set_option maxRecDepth 100000 in
set_option maxHeartbeats 4000000 in
theorem wOpen_new (base db mb : Nat) (hb0 : 0 < base) (L : List (ByteArray × Fi)) (D : DA) (s : ByteArray) (hs : s.size ≤ maxLen) (w : World) (h : DK base w db mb L D) (hd : D.down = false) (hf : getM D.L s = none) (HN : Nibs w) :
    Calls Tryd.prog 24 #[.pointer (some ⟨db, 0, none⟩), .string s] w (OpenNew base w db mb L s (createD D s)) := by
  have hre : readA D s = ([], 7) := by unfold readA; rw [hd, hf]; rfl
  have HRD := Lib.hid (dRead_any base db mb L D s hs w h)
  rw [hre] at HRD
  have HH := Lib.hid (And.intro h (And.intro HN hs))
  obtain ⟨r, hr⟩ : ∃ r, r = createD D s := ⟨_, rfl⟩
  rw [← hr]
  have HR := Lib.hid hr
  clear h hd hf hre hr HN
  go_enter Tryd.func24, Tryd.ntmps24
  go_wp2_with fail
  refine HRD.out.mono ?_
  rintro e w1 ⟨a, c, rfl, hmi⟩
  have HK1 := Lib.hid hmi.kept
  have hcap := own_capB hmi.own
  have HCAP := Lib.hid hcap
  dsimp only
  simp only [List.length_nil] at hcap ⊢
  have HC := Lib.hid ((dCreate_any base db mb L D s HH.out.2.2 w1 (HH.out.1.kept hmi.kept (fun _ _ x => x))).mono (fun e w' => DTo.pre hmi.kept))
  rw [← HR.out] at HC
  clear hmi hcap
  go_wp2_with fail
  refine HC.out.mono ?_
  rintro e w2 ⟨L', rfl, h2, k2, f2⟩
  obtain ⟨z, hz⟩ : ∃ z : Int, z = r.2 := ⟨_, rfl⟩
  rw [← hz]
  have HZ := Lib.hid hz
  have H2 := Lib.hid (And.intro h2 (And.intro k2 f2))
  have HLT := Lib.hid (fun k (x : foot db mb L' k) => (h2.lt x).1)
  have HN2 : Hid (Nibs w2) := Lib.hid (HH.out.2.1.keptS k2 (HH.out.1.no0 hb0))
  clear h2 k2 f2 hz
  by_cases h0 : z = 0
  · have HREC := Lib.hid (wRecords_any a c [] (by simp) (Nat.zero_le _) w2 (⟨a, c, rfl, by simp, fun j hj => absurd hj (by simp)⟩) HN2.out)
    simp only [List.length_nil] at HREC
    have hz0 : r.2 = 0 := by rw [← HZ.out]; exact h0
    have HR0 := Lib.hid hz0
    subst h0
    clear hz0
    go_wp2_with fail
    refine HREC.out.mono ?_
    rintro e w3 ⟨Ls2, u2, n2, hsc2, k3, ⟨hn2, v, rfl, hg⟩ | ⟨hn2, rfl⟩⟩
    · obtain ⟨rfl, rfl, rfl⟩ := hsc2.fn .done
      have HG := Lib.hid hg
      have HK3 := Lib.hid k3
      obtain ⟨va, vc, hv, _⟩ := hg
      subst hv
      have HX := Lib.hid (OpenTo.mk (w := w) (v := .slice va ([] : List (List Nat)).length vc) (u := 0) (B := w2.heap.size) (H := w3.heap.size) (Ls := []) s (H2.out.1.kept k3 (fun _ _ x => x)) (H2.out.2.1.trans (k3.mono (fun _ _ x => x.elim))) H2.out.2.2 H2.out.2.1.size (Nat.le_refl _) HG.out (fun k x => .inl (HLT.out k x)))
      have HX2 := Lib.hid (show OpenNew base w db mb L s r _ _ from .inl ⟨HR0.out, HX.out⟩)
      simp only [List.length_nil, Int.natCast_zero] at HX2 ⊢
      clear hsc2 k3 hn2 HX
      go_wp2
      go_ret3
      exact HX2.out
    · obtain ⟨rfl, rfl, rfl⟩ := hsc2.fn .done
      exact absurd rfl hn2.1
  · have q0 : (z != 0) = true := by simp [bne, beq_eq_false_iff_ne.2 h0]
    have hz0 : r.2 ≠ 0 := by rw [← HZ.out]; exact h0
    have HR0 := Lib.hid hz0
    clear hz0 h0
    go_wp2
    go_ret3
    exact .inr ⟨HR0.out, L', by rw [← HZ.out]; rfl, H2.out.1, H2.out.2.1, H2.out.2.2⟩
end Go.Proofs.YtficodklidaheaaDoor
