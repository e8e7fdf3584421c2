/- Layer 16: the walk of TocumMirror (written by tools/gen_XOH.py). -/
import Derived.Test.YtiiibhdohlpodaaOB
import Derived.Test.YtiiibhdohlpodaaOE
import Derived.Test.YtiiibhdohlpodaaOF
import Derived.Test.YtiiibhdohlpodaaOG
namespace Go.Proofs.Ytiiibhdohlpodaa
open Go.RowKit
attribute [local go_sem ↓] Go.wp_at_zero Go.wp_at_succ

/-- A point that was taken, by a state that is sane. -/
theorem playC_sane {m : Bool} {xs : List Pnt} (hx : ∀ x ∈ xs, x.kind = 1 ∧ x.mono = m ∧ x.ok) (i : Nat) : ∀ p, (playC zeroSt xs)[i]? = some p →
    p.1 ∈ xs ∧ ∃ s', Sane m s' ∧ stepC s' p.1 = 0 ∧ p.2 = outC s' p.1 ∧ (i = 0 → s' = zeroSt) ∧ (∀ j, i = j + 1 → ∃ q, (playC zeroSt xs)[j]? = some q ∧ s' = stOf q.2) := by
  induction i with
  | zero =>
    intro p hp
    obtain ⟨h1, s', h2, h3, h4, h5⟩ := playC_at xs zeroSt 0 p hp
    exact ⟨h1, s', by rw [h4 rfl]; exact sane_zero m, h2, h3, h4, h5⟩
  | succ i ih =>
    intro p hp
    obtain ⟨h1, s', h2, h3, h4, h5⟩ := playC_at xs zeroSt (i + 1) p hp
    obtain ⟨q, hq, rfl⟩ := h5 i rfl
    obtain ⟨g1, s0, g2, g3, g4, _⟩ := ih q hq
    have hq1 := hx _ g1
    have := (mirror g2 g3 hq1.1 hq1.2.1 hq1.2.2.whole).2.2.2.2
    rw [← g4] at this
    exact ⟨h1, _, this, h2, h3, h4, h5⟩
theorem moreW_plain (s : StV) (x : Pnt) : (moreW s x).name = x.name ∧ (moreW s x).kind = x.kind ∧ (moreW s x).temp = x.temp ∧ (moreW s x).mono = x.mono ∧ (moreW s x).time = x.time ∧ (moreW s x).re = x.re ∧ (moreW s x).im = x.im ∧ (I64 x.whole → I64 (moreW s x).whole) := by
  unfold moreW
  split
  · exact ⟨rfl, rfl, rfl, rfl, rfl, rfl, rfl, fun h => h⟩
  · refine ⟨rfl, rfl, rfl, rfl, rfl, rfl, rfl, fun _ => ?_⟩
    show -9223372036854775808 ≤ IntKind.i64.wrap (s.whole + x.whole) ∧ IntKind.i64.wrap (s.whole + x.whole) ≤ 9223372036854775807
    rw [IntKind.wrap_i64]; omega
theorem outC_plain (s : StV) (x : Pnt) : (outC s x).name = x.name ∧ (outC s x).kind = x.kind ∧ (outC s x).temp = 1 ∧ (outC s x).mono = x.mono ∧ (outC s x).time = x.time ∧ (outC s x).re = x.re ∧ (outC s x).im = x.im ∧ (I64 x.whole → I64 (outC s x).whole) := by
  unfold outC
  split
  · exact ⟨rfl, rfl, rfl, rfl, rfl, rfl, rfl, fun h => h⟩
  · split
    · exact ⟨rfl, rfl, rfl, rfl, rfl, rfl, rfl, fun h => h⟩
    · have := moreW_plain s { x with temp := 1 }
      exact ⟨this.1, this.2.1, this.2.2.1, this.2.2.2.1, this.2.2.2.2.1, this.2.2.2.2.2.1, this.2.2.2.2.2.2.1, this.2.2.2.2.2.2.2⟩
/-- The answer without its flags. -/
def noFl (x : Pnt) : Pnt := { x with flags := 0 }
/-- What is told of the i-th answer. -/
theorem mirror_at {m : Bool} {xs : List Pnt} (hx : ∀ x ∈ xs, x.kind = 1 ∧ x.mono = m ∧ x.ok ∧ x.light) {i : Nat} {p : Pnt × Pnt} (h : (playC zeroSt xs)[i]? = some p) :
    ∃ s', (i = 0 → s' = zeroSt) ∧ (∀ j, i = j + 1 → ∃ q, (playC zeroSt xs)[j]? = some q ∧ s' = stOf q.2) ∧ stepE s' (noFl p.2) = 0 ∧ (outW s' (noFl p.2)).time = p.1.time ∧ (outW s' (noFl p.2)).whole = p.1.whole ∧ (outW s' (noFl p.2)).start = p.1.start ∧
      (noFl p.2).ok ∧ (noFl p.2).light ∧ p.2.kind = 1 := by
  obtain ⟨h1, s', h2, h3, h4, h5, h6⟩ := playC_sane (m := m) (fun x hx' => ⟨(hx x hx').1, (hx x hx').2.1, (hx x hx').2.2.1⟩) i p h
  obtain ⟨k1, k2, k3, k4⟩ := hx _ h1
  obtain ⟨m1, m2, m3, m4, _⟩ := mirror h2 h3 k1 k2 k3.whole
  obtain ⟨o1, o2⟩ := outC_parts s' p.1
  obtain ⟨n1, n2, n3, n4, n5, n6, n7, n8⟩ := outC_plain s' p.1
  rw [← h4] at m1 m2 m3 m4 o1 o2 n1 n2 n3 n4 n5 n6 n7 n8
  have ht : takenE (noFl p.2) 1 = 0 := by
    have : stepE s' (noFl p.2) = 0 := m1
    unfold stepE at this
    by_cases hz : takenE (noFl p.2) 1 ≠ 0
    · rw [if_pos hz] at this; omega
    · exact Decidable.not_not.1 hz
  have htm := times_of (takenE_zero ht).1 (show (noFl p.2).kind = 1 by show p.2.kind = 1; rw [n2]; exact k1)
  have hti := k3.time
  have hs1 : (noFl p.2).start = p.2.start := rfl
  have hs2 : (noFl p.2).time = p.1.time := n5
  refine ⟨s', h5, h6, m1, m2, m3, m4, ⟨?_, ?_, ?_, ?_, ?_, ?_, ?_, ?_, ?_⟩, ⟨?_, ?_, ?_, ?_, ?_⟩, by rw [n2]; exact k1⟩
  · show I64 p.2.kind; rw [n2]; exact k3.kind
  · show I64 p.2.temp; rw [n3]; unfold I64; omega
  · show I64 p.2.start; unfold I64 at *; omega
  · show I64 p.2.time; rw [n5]; exact hti
  · exact n8 k3.whole
  · show 0 ≤ p.2.re ∧ p.2.re ≤ _; rw [n6]; exact k3.re
  · show 0 ≤ p.2.im ∧ p.2.im ≤ _; rw [n7]; exact k3.im
  · show p.2.h.ok; rw [o2]; exact k3.h
  · show I64 (0 : Int); unfold I64; omega
  · show p.2.name.size ≤ 1000; rw [n1]; exact k4.name
  · show p.2.L.length ≤ 20; rw [o1]; exact k4.len
  · show Sh 1000 p.2.L; rw [o1]; exact k4.sh
  · show p.2.h.pl.length ≤ 1000; rw [o2]; exact k4.pl
  · show p.2.h.nl.length ≤ 1000; rw [o2]; exact k4.nl
theorem MineG.pts {W w : World} {v : Value} {L : List PtV} (h : MineT W w v L) : ∃ a c, v = .slice a L.length c ∧ GAt cellsPt 17 w a L := by
  obtain ⟨a, c, rfl⟩ := h.slice
  exact ⟨a, c, rfl, h.at_ cfPt⟩
/-- The state ahead of the i-th answer. -/
def stI (PW : List (Pnt × Pnt)) (i : Nat) : StV := if i = 0 then zeroSt else match PW[i - 1]? with
  | some q => stOf q.2
  | none => zeroSt
theorem stI_succ {PW : List (Pnt × Pnt)} {i : Nat} {p : Pnt × Pnt} (h : PW[i]? = some p) : stI PW (i + 1) = stOf (noFl p.2) := by
  unfold stI
  rw [if_neg (by omega), Nat.add_sub_cancel, h]
  rfl
theorem stI_is {PW : List (Pnt × Pnt)} {i : Nat} {s' : StV} (h0 : i = 0 → s' = zeroSt) (h1 : ∀ j, i = j + 1 → ∃ q, PW[j]? = some q ∧ s' = stOf q.2) : stI PW i = s' := by
  unfold stI
  by_cases h : i = 0
  · rw [if_pos h, h0 h]
  · rw [if_neg h]
    obtain ⟨q, hq, e⟩ := h1 (i - 1) (by omega)
    rw [hq, e]
set_option maxHeartbeats 16000000 in
set_option maxRecDepth 100000 in
theorem tocumMirror_walk (aa : Option Addr) (c : Nat) (L : List PtV) (most : Int) (W : World) (hl : PtsIn W aa L) (hll : L.length ≤ 9223372036854775807) (_ : -9223372036854775808 ≤ most ∧ most ≤ 9223372036854775807) :
    Calls Try.prog 10 #[.slice aa L.length c, .int .i64 most] W fun e w' => e = .returned (.bool true) ∧ Kept (fun _ => False) W w' := by
  have HAW := Lib.hid (awake16_any W)
  have HON := Lib.hid (fun w (k : Kept (fun _ => False) W w) => oneC_any aa c L w (hl.on k))
  obtain ⟨n, hn⟩ : ∃ n, n = L.length := ⟨_, rfl⟩
  obtain ⟨ob, hob⟩ : ∃ b, b = oneB L := ⟨_, rfl⟩
  rw [← hob] at HON
  rw [← hn] at HON ⊢
  cases ob with
  | false =>
    clear hob hn hl hll
    go_enter Try.func10, Try.ntmps10
    go_wp2_with fail
    refine HAW.out.mono ?_
    rintro e w1 ⟨rfl, k1⟩
    have HK1 := Lib.hid k1
    clear k1
    go_wp2_with fail
    refine (HON.out w1 HK1.out).mono ?_
    rintro e w2 ⟨rfl, k2⟩
    have HK2 := Lib.hid (HK1.out.trans k2)
    clear k2
    go_wp2
    go_ret
    exact ⟨rfl, HK2.out⟩
  | true =>
    rcases Nat.eq_zero_or_pos n with h0 | h0
    · have qn : ((n : Int) == 0) = true := by rw [beq_iff_eq]; omega
      clear hob hn hl hll h0
      go_enter Try.func10, Try.ntmps10
      go_wp2_with fail
      refine HAW.out.mono ?_
      rintro e w1 ⟨rfl, k1⟩
      have HK1 := Lib.hid k1
      clear k1
      go_wp2_with fail
      refine (HON.out w1 HK1.out).mono ?_
      rintro e w2 ⟨rfl, k2⟩
      have HK2 := Lib.hid (HK1.out.trans k2)
      clear k2
      go_wp2
      go_ret
      exact ⟨rfl, HK2.out⟩
    have qn : ((n : Int) == 0) = false := by rw [beq_eq_false_iff_ne]; omega
    have hn0 : 0 < n := h0
    have hL0 : 0 < L.length := by omega
    obtain ⟨gb, ofs, rfl, hrec⟩ := hl.at_ hL0
    have hz := List.getElem?_eq_getElem hL0
    obtain ⟨z, hzz⟩ : ∃ p, p = L[0] := ⟨_, rfl⟩
    rw [← hzz] at hz
    have c2 := hrec 0 z hz 2 (.int .i64 z.x.kind) rfl
    rw [Nat.zero_mul, Nat.add_zero] at c2
    have HC2 : Hid (∀ w, Kept (fun _ => False) W w → w.cell? ⟨gb, ofs + 2, none⟩ = some (.int .i64 z.x.kind)) := Lib.hid (fun w k => k.cell c2 (fun x => x))
    by_cases hk1 : z.x.kind = 1
    case neg =>
      have qk : (z.x.kind != 1) = true := by rw [bne_iff_ne]; exact hk1
      clear hob hn hl hll h0 hL0 hrec hz hzz c2 hk1
      go_enter Try.func10, Try.ntmps10
      go_wp2_with fail
      refine HAW.out.mono ?_
      rintro e w1 ⟨rfl, k1⟩
      have HK1 := Lib.hid k1
      clear k1
      go_wp2_with fail
      refine (HON.out w1 HK1.out).mono ?_
      rintro e w2 ⟨rfl, k2⟩
      have HK2 := Lib.hid (HK1.out.trans k2)
      clear k2
      have x2 := HC2.out w2 HK2.out
      go_wp2
      go_ret
      exact ⟨rfl, HK2.out⟩
    have qk : (z.x.kind != 1) = false := by rw [hk1]; rfl
    have hone := hob.symm
    unfold oneB someB at hone
    simp only [Bool.and_eq_true, decide_eq_true_eq, List.all_eq_true] at hone
    have hal : ∀ p ∈ L, p.x.kind = 1 ∧ p.x.mono = z.x.mono := fun p hp => by have := hone.2 p hp; unfold alikeB at this; rw [hz] at this; simp only [Bool.and_eq_true, beq_iff_eq] at this; exact ⟨by rw [this.1]; exact hk1, this.2⟩
    have hli : ∀ p ∈ L, p.x.light ∧ p.x.kind = 1 := fun p hp => ⟨lightP_of (hone.1.2 p hp), (hal p hp).1⟩
    have HPL := Lib.hid (fun w (k : Kept (fun _ => False) W w) => playC_any (some ⟨gb, ofs, none⟩) c L most w (hl.on k) hli hone.1.1)
    rw [← hn] at HPL
    have hxs : ∀ x ∈ L.map PtV.x, x.kind = 1 ∧ x.mono = z.x.mono ∧ x.ok ∧ x.light := fun x hx => by obtain ⟨p, hp, rfl⟩ := List.mem_map.1 hx; exact ⟨(hal p hp).1, (hal p hp).2, (hl.each p hp).2.1, (hli p hp).1⟩
    have HSA := Lib.hid (fun i p (h : (playC zeroSt (L.map PtV.x))[i]? = some p) => mirror_at hxs h)
    have hpl := playC_len (L.map PtV.x) zeroSt
    rw [List.length_map] at hpl
    obtain ⟨PW, hPW⟩ : ∃ l, l = playC zeroSt (L.map PtV.x) := ⟨_, rfl⟩
    rw [← hPW] at HSA hpl
    have HPW := Lib.hid hPW
    have HM : Hid (PW.length ≤ 20) := Lib.hid (by have := hone.1.1; omega)
    clear hob hn hl hll h0 hL0 hrec hz hzz c2 hk1 hone hli hal hxs hPW hpl
    go_enter Try.func10, Try.ntmps10
    go_wp2_with fail
    refine HAW.out.mono ?_
    rintro e w1 ⟨rfl, k1⟩
    have HK1 := Lib.hid k1
    clear k1
    go_wp2_with fail
    refine (HON.out w1 HK1.out).mono ?_
    rintro e w2 ⟨rfl, k2⟩
    have HK2 := Lib.hid (HK1.out.trans k2)
    clear k2
    have x2 := HC2.out w2 HK2.out
    go_upto_region 5 with fail
    clear x2
    go_wp2_with fail
    refine (HPL.out w2 HK2.out).mono ?_
    rintro e w3 ⟨vi, vo, I, O, rfl, hI, hO, hIx, hOx, hNO⟩
    rw [← HPW.out] at hIx hOx
    obtain ⟨ai, ci, rfl, hIa⟩ := MineG.pts hI
    obtain ⟨ao, co, rfl, hOa⟩ := MineG.pts hO
    have hil : I.length = PW.length := by have := congrArg List.length hIx; simpa using this
    have hol : O.length = PW.length := by have := congrArg List.length hOx; simpa using this
    have HK3 := Lib.hid (HK2.out.trans hI.kept)
    have HIC : Hid (0 < PW.length → ∃ g o, ai = some ⟨g, o, none⟩) := Lib.hid (fun h => by obtain ⟨g, o, e, _⟩ := hIa (by omega); exact ⟨g, o, e⟩)
    have HOC : Hid (0 < PW.length → ∃ g o, ao = some ⟨g, o, none⟩) := Lib.hid (fun h => by obtain ⟨g, o, e, _⟩ := hOa (by omega); exact ⟨g, o, e⟩)
    have HIR : Hid (∀ w, Kept (fun _ => False) w3 w → ∀ g o i p, ai = some ⟨g, o, none⟩ → PW[i]? = some p → w.cell? ⟨g, o + i * 17 + 5, none⟩ = some (.int .i64 p.1.start) ∧ w.cell? ⟨g, o + i * 17 + 6, none⟩ = some (.int .i64 p.1.time) ∧ w.cell? ⟨g, o + i * 17 + 7, none⟩ = some (.int .i64 p.1.whole)) := Lib.hid (fun w k g o i p e hp => by
      have hi : i < I.length := by rw [hil]; exact (List.getElem?_eq_some_iff.1 hp).1
      obtain ⟨g', o', e', hr⟩ := hIa (by omega)
      rw [e] at e'
      injection e' with e'
      injection e' with e1 e2 _
      subst e1 e2
      have hp' := List.getElem?_eq_getElem hi
      have hx : (I[i]).x = p.1 := by have := congrArg (fun l => l[i]?) hIx; simp only [List.getElem?_map, hp', hp, Option.map_some, Option.some.injEq] at this; exact this
      rw [← hx]
      exact ⟨k.cell (hr i _ hp' 5 _ rfl) (fun x => x), k.cell (hr i _ hp' 6 _ rfl) (fun x => x), k.cell (hr i _ hp' 7 _ rfl) (fun x => x)⟩)
    have HOR : Hid (∀ g o i p, ao = some ⟨g, o, none⟩ → PW[i]? = some p → ∃ r : PtV, r.x = p.2 ∧ (∀ w, Kept (fun _ => False) w3 w → w.rangeAt g (o + i * 17) r.cs.toList ∧ PntAt w r.x r.aa r.ac (.slice r.pa r.x.h.pl.length r.pc) (.slice r.na r.x.h.nl.length r.nc))) := Lib.hid (fun g o i p e hp => by
      have hi : i < O.length := by rw [hol]; exact (List.getElem?_eq_some_iff.1 hp).1
      obtain ⟨g', o', e', hr⟩ := hOa (by omega)
      rw [e] at e'
      injection e' with e'
      injection e' with e1 e2 _
      subst e1 e2
      have hp' := List.getElem?_eq_getElem hi
      have hx : (O[i]).x = p.2 := by have := congrArg (fun l => l[i]?) hOx; simp only [List.getElem?_map, hp', hp, Option.map_some, Option.some.injEq] at this; exact this
      refine ⟨O[i], hx, fun w k => ⟨fun j v hv => k.cell (hr i _ hp' j v hv) (fun x => x), ?_⟩⟩
      exact (NewP.pnt (hNO _ (List.getElem_mem _))).on k)
    rw [hil, hol]
    obtain ⟨m, hm⟩ : ∃ m, m = PW.length := ⟨_, rfl⟩
    rw [← hm] at HM HIC HOC
    rw [← hm]
    have HME := Lib.hid hm
    clear hI hO hIx hOx hNO hIa hOa hil hol hm HON HPL HAW
    obtain ⟨g7, hg7⟩ : ∃ g, g = w3.heap.size := ⟨_, rfl⟩
    obtain ⟨w4, hw4⟩ : ∃ w', w' = w3.alloc (.cells #[.bool false, .int .i64 0, .int .i64 0, .int .i64 0, .int .u64 0, .int .u64 0, .int .i64 0, .int .u64 0, .int .i64 0, .slice none 0 0, .int .i64 0, .slice none 0 0] 32) := ⟨_, rfl⟩
    have HK4 : Hid (Kept (fun _ => False) w3 w4) := Lib.hid (by rw [hw4]; exact (Kept.refl _ _).alloc _)
    have HB4 : Hid (w4.heap[g7]? = some (.cells (stC zeroSt (.slice none 0 0) (.slice none 0 0)) 32 (0, 0))) := Lib.hid (by rw [hw4, hg7]; exact heap_alloc_new w3 _)
    have HW4 := Lib.hid (And.intro hw4 hg7)
    have HG7 : Hid (w3.heap.size ≤ g7) := Lib.hid (by omega)
    clear hw4 hg7
    go_upto_region 7 with fail
    rw [← HW4.out.1, ← HW4.out.2]
    go_wp2
    go_loopg [8] m (fun g s8 wr => ∃ i : Nat, i ≤ m ∧ g = m - i ∧ s8 = .int .i64 i ∧ Kept (fun _ => False) w3 wr ∧ ∃ tp tn, (tp.oneCell' = true ∧ tn.oneCell' = true) ∧ wr.heap[g7]? = some (.cells (stC (stI PW i) tp tn) 32 (0, 0)))
    case atStart => exact ⟨0, Nat.zero_le _, rfl, rfl, HK4.out, _, _, ⟨rfl, rfl⟩, HB4.out⟩
    case round =>
      obtain ⟨i, hin, rfl, rfl, k3r, tp, tn, ho, hb⟩ := hrel
      have HKR := Lib.hid k3r
      clear k3r
      by_cases hd : i < m
      · have hdi : (i : Int) < (m : Int) := by omega
        have hi0' : (0 : Int) ≤ (i : Int) := by omega
        have HD := Lib.hid hd
        have wi : IntKind.i64.wrap ((i : Int) + 1) = ((i + 1 : Nat) : Int) := by rw [IntWalk.i64_in _ ⟨by omega, by have := HM.out; omega⟩]; omega
        have hiP : i < PW.length := by have := HME.out; omega
        have hp := List.getElem?_eq_getElem hiP
        obtain ⟨p, hpp⟩ : ∃ p, p = PW[i] := ⟨_, rfl⟩
        rw [← hpp] at hp
        obtain ⟨gi, oi, rfl⟩ := HIC.out (by omega)
        obtain ⟨go, oo, rfl⟩ := HOC.out (by omega)
        obtain ⟨s', a1, a2, a3, a4, a5, a6, a7, a8, a9⟩ := HSA.out i p hp
        rw [stI_is a1 a2] at hb
        obtain ⟨r, hrx, hrr⟩ := HOR.out go oo i p rfl hp
        have HRR := Lib.hid hrr
        have HIW := Lib.hid (fun w (k : Kept (fun _ => False) w3 w) => HIR.out w k gi oi i p rfl hp)
        have HSX : Hid (stI PW (i + 1) = stOf (noFl p.2)) := Lib.hid (stI_succ hp)
        obtain ⟨CR, hCR⟩ : ∃ c, c = r.cs := ⟨_, rfl⟩
        have HIR2 : Hid ((Try.prog.info? 37).map (·.size) = some CR.size ∧ CR.size = 17 ∧ CR.all (·.oneCell') = true) := Lib.hid (by rw [hCR]; exact ⟨pt_size r, rfl, cs_one r⟩)
        obtain ⟨CQ, hCQ⟩ : ∃ c, c = CR.setIfInBounds 16 (.int .i64 0) := ⟨_, rfl⟩
        have hcq : CQ = pntC (noFl p.2) (.slice r.aa r.x.L.length r.ac) (.slice r.pa r.x.h.pl.length r.pc) (.slice r.na r.x.h.nl.length r.nc) := by rw [hCQ, hCR, ← hrx]; rfl
        have HIQ : Hid ((Try.prog.info? 37).map (·.size) = some CQ.size) := Lib.hid (by rw [hcq]; exact point_info)
        have HCQ := Lib.hid hCQ
        have HC16 : Hid (CR[16]? = some (.int .i64 r.x.flags)) := Lib.hid (by rw [hCR]; rfl)
        obtain ⟨NS, hNS⟩ : ∃ a, a = stC s' tp tn := ⟨_, rfl⟩
        have HIS : Hid ((Try.prog.info? 32).map (·.size) = some NS.size ∧ NS.size = 12) := Lib.hid (by rw [hNS]; exact ⟨state_info, rfl⟩)
        have HNX : Hid (∀ w', Kept (fun _ => False) w3 w' → Calls Try.prog 33 #[.agg NS, .agg CQ, .int .i64 most] w' fun e w'' => ∃ NT CY tp tn a b c m n k l o u, e = .returned (.tuple #[.agg NT, .agg CY, .int .i64 0]) ∧ NT = stC (stOf (noFl p.2)) tp tn ∧ (tp.oneCell' = true ∧ tn.oneCell' = true) ∧ CY = pntC (outW s' (noFl p.2)) (.slice a m n) (.slice b k l) (.slice c o u) ∧ Kept (fun _ => False) w' w'') := Lib.hid (fun w' k => by
          rw [hNS, hcq]
          have ha := (hrr w' k).2
          rw [hrx] at ha
          have hnx := next_any s' tp tn (noFl p.2) r.aa r.pa r.na r.ac r.pc r.nc most w' ⟨ha.ps, ha.cap, ha.hist⟩ a7 a8 a9
          rw [show nextS s' (noFl p.2) = stOf (noFl p.2) by unfold nextS; rw [if_pos a3], show nextP s' (noFl p.2) = outW s' (noFl p.2) by unfold nextP; rw [if_pos a3], a3] at hnx
          rw [hrx]
          refine hnx.mono ?_
          rintro e w'' ⟨t1, t2, v, rfl, h1, h2⟩
          have hk := h2.kept
          obtain ⟨x1, x2, x3, y1, y2, y3, rfl, _⟩ := h2
          exact ⟨_, _, t1, t2, x1, x2, x3, _, _, _, _, _, _, rfl, rfl, h1, rfl, hk⟩)
        rw [← hNS] at hb
        have HBN := Lib.hid hb
        obtain ⟨tm, htm⟩ : ∃ t, t = p.1.time := ⟨_, rfl⟩
        obtain ⟨vw, hvw⟩ : ∃ t, t = p.1.whole := ⟨_, rfl⟩
        obtain ⟨sv, hsv⟩ : ∃ t, t = p.1.start := ⟨_, rfl⟩
        rw [← htm, ← hvw, ← hsv] at HIW
        have HOV : Hid ((outW s' (noFl p.2)).time = tm ∧ (outW s' (noFl p.2)).whole = vw ∧ (outW s' (noFl p.2)).start = sv) := Lib.hid ⟨by rw [htm]; exact a4, by rw [hvw]; exact a5, by rw [hsv]; exact a6⟩
        rw [← hCR] at HRR
        clear hd hin hiP hpp hp a1 a2 a3 a4 a5 a6 a7 a8 a9 hrx hrr hCR hCQ hcq hNS hb ho htm hvw hsv
        obtain ⟨g9, hg9⟩ : ∃ g, g = wr.heap.size := ⟨_, rfl⟩
        have HG9 := Lib.hid hg9
        clear hg9
        go_upto_region 11 with (first | (refine wpList_load_part rfl 37 (.tmp 45) rfl go (oo + i * 17) rfl CR _ (HRR.out wr HKR.out).1 Try.underlying37 rfl HIR2.out.1 ?_) | (refine wpList_store_box rfl 37 (.tmp 9) _ rfl wr _ CR 37 rfl rfl rfl HIR2.out.1 (by rw [HIR2.out.2.1]; rfl) HIR2.out.2.2 ?_; intro w5 hb5 k5; have HB5 : Hid (w5.heap[g9]? = some (.cells CR 37 (0, 0))) := Lib.hid (by rw [HG9.out]; exact hb5); have HK5 := Lib.hid k5; clear hb5 k5))
        rw [← HG9.out]
        have c16 : w5.cell? ⟨g9, 16, none⟩ = some (.int .i64 r.x.flags) := cell_rowZ 16 _ HB5.out HC16.out
        have f16 := free_of_rowZ 16 HB5.out
        go_upto_region 12 with fail
        clear c16 f16
        obtain ⟨w6, hw6⟩ : ∃ w', w' = w5.setCell ⟨g9, 16, none⟩ (.int .i64 0) := ⟨_, rfl⟩
        have kk : Kept (fun i => i = g9) w5 w6 := by rw [hw6]; exact (Kept.refl (fun k => k = g9) w5).setCell (p := ⟨g9, 16, none⟩) (fun _ => rfl) _
        have HB6 : Hid (w6.heap[g9]? = some (.cells CQ 37 (0, 0))) := Lib.hid (by rw [hw6, HCQ.out]; exact heap_setCell_same _ _ 16 _ _ _ HB5.out)
        have HK6 : Hid (Kept (fun _ => False) wr w6) := Lib.hid (HK5.out.newer kk (fun i e => by rw [e, HG9.out]; exact Nat.le_refl _))
        rw [← hw6]
        clear hw6 kk
        go_wp2_with (first
          | (refine wpList_load_row rfl 32 (.tmp 7) rfl g7 rfl 32 _ (0, 0) _ (HK6.out.same HBN.out (fun x => x)) Try.underlying32 rfl HIS.out.1 ?_)
          | (refine wpList_load_row rfl 37 (.tmp 9) rfl g9 rfl 37 _ (0, 0) _ HB6.out Try.underlying37 rfl HIQ.out ?_)
          | fail)
        refine (HNX.out w6 (HKR.out.trans HK6.out)).mono ?_
        rintro e w7 ⟨NT, CY, t1, t2, x1, x2, x3, y1, y2, y3, y4, y5, y6, rfl, hNT, hon, hCY, k7⟩
        have HIT : Hid ((Try.prog.info? 32).map (·.size) = some NT.size ∧ NT.size = 12 ∧ NT.all (·.oneCell') = true) := Lib.hid (by rw [hNT]; exact ⟨state_info, rfl, stC_one hon⟩)
        have HIY : Hid ((Try.prog.info? 37).map (·.size) = some CY.size ∧ CY.size = 17 ∧ CY.all (·.oneCell') = true) := Lib.hid (by rw [hCY]; exact ⟨point_info, rfl, pntC_one' (ones_slices _ _ _ _ _ _ _ _ _)⟩)
        have HNT := Lib.hid (And.intro hNT hon)
        have HYC : Hid (CY[5]? = some (.int .i64 sv) ∧ CY[6]? = some (.int .i64 tm) ∧ CY[7]? = some (.int .i64 vw)) := Lib.hid (by rw [hCY, ← HOV.out.1, ← HOV.out.2.1, ← HOV.out.2.2]; exact ⟨rfl, rfl, rfl⟩)
        have HK7 := Lib.hid (HK6.out.trans k7)
        clear hNT hon hCY k7
        obtain ⟨g10, hg10⟩ : ∃ g, g = w7.heap.size := ⟨_, rfl⟩
        have HG10 := Lib.hid hg10
        clear hg10
        have HA : Hid (((w7.alloc (.cells #[.bool false, .int .i64 0, .int .i64 0, .int .i64 0, .int .u64 0, .int .u64 0, .int .i64 0, .int .u64 0, .int .i64 0, .slice none 0 0, .int .i64 0, .slice none 0 0] 32)).alloc (.cells #[.string { data := #[] }, .slice none 0 0, .int .i64 0, .int .i64 0, .bool false, .int .i64 0, .int .i64 0, .int .i64 0, .int .u64 0, .int .u64 0, .int .i64 0, .int .u64 0, .int .i64 0, .slice none 0 0, .int .i64 0, .slice none 0 0, .int .i64 0] 37)).heap[w7.heap.size]? = some (.cells #[.bool false, .int .i64 0, .int .i64 0, .int .i64 0, .int .u64 0, .int .u64 0, .int .i64 0, .int .u64 0, .int .i64 0, .slice none 0 0, .int .i64 0, .slice none 0 0] 32 (0, 0)) ∧ ((w7.alloc (.cells #[.bool false, .int .i64 0, .int .i64 0, .int .i64 0, .int .u64 0, .int .u64 0, .int .i64 0, .int .u64 0, .int .i64 0, .slice none 0 0, .int .i64 0, .slice none 0 0] 32)).alloc (.cells #[.string { data := #[] }, .slice none 0 0, .int .i64 0, .int .i64 0, .bool false, .int .i64 0, .int .i64 0, .int .i64 0, .int .u64 0, .int .u64 0, .int .i64 0, .int .u64 0, .int .i64 0, .slice none 0 0, .int .i64 0, .slice none 0 0, .int .i64 0] 37)).heap[w7.heap.size + 1]? = some (.cells #[.string { data := #[] }, .slice none 0 0, .int .i64 0, .int .i64 0, .bool false, .int .i64 0, .int .i64 0, .int .i64 0, .int .u64 0, .int .u64 0, .int .i64 0, .int .u64 0, .int .i64 0, .slice none 0 0, .int .i64 0, .slice none 0 0, .int .i64 0] 37 (0, 0)) ∧ Kept (fun _ => False) w7 ((w7.alloc (.cells #[.bool false, .int .i64 0, .int .i64 0, .int .i64 0, .int .u64 0, .int .u64 0, .int .i64 0, .int .u64 0, .int .i64 0, .slice none 0 0, .int .i64 0, .slice none 0 0] 32)).alloc (.cells #[.string { data := #[] }, .slice none 0 0, .int .i64 0, .int .i64 0, .bool false, .int .i64 0, .int .i64 0, .int .i64 0, .int .u64 0, .int .u64 0, .int .i64 0, .int .u64 0, .int .i64 0, .slice none 0 0, .int .i64 0, .slice none 0 0, .int .i64 0] 37))) := Lib.hid ⟨((Kept.refl (fun _ => False) _).alloc _).same (heap_alloc_new w7 _) (fun x => x), box_second2 w7 _ _, ((Kept.refl _ _).alloc _).alloc _⟩
        go_upto_region 13 with (first | (refine wpList_store_to rfl 32 (.tmp 10) _ rfl w7.heap.size NT rfl rfl 32 #[.bool false, .int .i64 0, .int .i64 0, .int .i64 0, .int .u64 0, .int .u64 0, .int .i64 0, .int .u64 0, .int .i64 0, .slice none 0 0, .int .i64 0, .slice none 0 0] HA.out.1 HIT.out.1 (by rw [HIT.out.2.1]; rfl) HIT.out.2.2 ?_; intro w8 hb8 k8; have HB8 := Lib.hid hb8; have HK8 := Lib.hid k8; clear hb8 k8) | (refine wpList_store_to rfl 37 (.tmp 11) _ rfl (w7.heap.size + 1) CY rfl rfl 37 #[.string { data := #[] }, .slice none 0 0, .int .i64 0, .int .i64 0, .bool false, .int .i64 0, .int .i64 0, .int .i64 0, .int .u64 0, .int .u64 0, .int .i64 0, .int .u64 0, .int .i64 0, .slice none 0 0, .int .i64 0, .slice none 0 0, .int .i64 0] (HK8.out.same HA.out.2.1 (by omega)) HIY.out.1 (by rw [HIY.out.2.1]; rfl) HIY.out.2.2 ?_; intro w9 hb9 k9; have HB9 := Lib.hid hb9; have HK9 := Lib.hid k9; clear hb9 k9))
        rw [← HG10.out]
        have HKZ : Hid (Kept (fun _ => False) w7 w9) := Lib.hid ((HA.out.2.2.newer HK8.out (fun i e => by omega)).newer HK9.out (fun i e => by omega))
        have HBT : Hid (w9.heap[g10]? = some (.cells NT 32 (0, 0))) := Lib.hid (by rw [HG10.out]; exact HK9.out.same HB8.out (by omega))
        have HBY : Hid (w9.heap[g10 + 1]? = some (.cells CY 37 (0, 0))) := Lib.hid (by rw [HG10.out]; exact HB9.out)
        have HK9w := Lib.hid (HKR.out.trans (HK7.out.trans HKZ.out))
        have HBN9 := Lib.hid ((HK7.out.trans HKZ.out).same HBN.out (fun x => x))
        clear HA HB8 HB9 HK8 HK9
        have HD9 : Hid (Kept (fun _ => False) w9 w9.drew) := Lib.hid (Kept.refl _ _).drew
        have HS13 : Hid ((fun w' => w'.cell? ⟨g10 + 1, 6, none⟩ = some (.int .i64 tm) ∧ w'.cell? ⟨gi, oi + i * 17 + 6, none⟩ = some (.int .i64 tm)) w9.drew) := Lib.hid ⟨cell_rowZ 6 _ (HD9.out.same HBY.out (fun x => x)) HYC.out.2.1, (HIW.out w9.drew (HK9w.out.trans HD9.out)).2.1⟩
        have qt : (tm != tm) = false := by simp
        go_upto_region 13 with fail
        refine AnyBut.start (S := fun w' => w'.cell? ⟨g10 + 1, 6, none⟩ = some (.int .i64 tm) ∧ w'.cell? ⟨gi, oi + i * 17 + 6, none⟩ = some (.int .i64 tm)) (k := 12) (by kernel_rfl) ?_
        refine AnyBut.takeS (i := 0) (v := ?v1) rfl (by kernel_rfl) (Nat.le_of_eq (by kernel_rfl)) (by kernel_rfl) (by kernel_rfl) (fun _ _ _ h => h) (HS13.out) (Or.inl ⟨by kernel_rfl, ?hy1⟩) ?r1
        case hy1 =>
          intro w hSw
          try dsimp only at hSw
          go_simp
          first | (obtain ⟨z0, z1⟩ := hSw; go_simp) | skip
          try with_reducible rfl
        try simp only [Act.put, List.getElem_toArray, List.getElem_cons_zero, List.setIfInBounds_toArray, List.set_cons_zero, List.set_cons_succ]
        refine AnyBut.takeS (i := 1) (v := ?v2) rfl (by kernel_rfl) (Nat.le_of_eq (by kernel_rfl)) (by kernel_rfl) (by kernel_rfl) (fun _ _ _ h => h) (HS13.out) (Or.inl ⟨by kernel_rfl, ?hy2⟩) ?r2
        case hy2 =>
          intro w hSw
          try dsimp only at hSw
          go_simp
          first | (obtain ⟨z0, z1⟩ := hSw; go_simp) | skip
          try with_reducible rfl
        try simp only [Act.put, List.getElem_toArray, List.getElem_cons_succ, List.getElem_cons_zero, List.setIfInBounds_toArray, List.set_cons_zero, List.set_cons_succ]
        refine AnyBut.takeS (i := 2) (v := ?v3) rfl (by kernel_rfl) (Nat.le_of_eq (by kernel_rfl)) (by kernel_rfl) (by kernel_rfl) (fun _ _ _ h => h) (HS13.out) (Or.inl ⟨by kernel_rfl, ?hy3⟩) ?r3
        case hy3 =>
          intro w hSw
          try dsimp only at hSw
          go_simp
          first | (obtain ⟨z0, z1⟩ := hSw; go_simp) | skip
          try with_reducible rfl
        try simp only [Act.put, List.getElem_toArray, List.getElem_cons_succ, List.getElem_cons_zero, List.setIfInBounds_toArray, List.set_cons_zero, List.set_cons_succ]
        refine AnyBut.takeS (i := 3) (v := ?v4) rfl (by kernel_rfl) (Nat.le_of_eq (by kernel_rfl)) (by kernel_rfl) (by kernel_rfl) (fun _ _ _ h => h) (HS13.out) (Or.inl ⟨by kernel_rfl, ?hy4⟩) ?r4
        case hy4 =>
          intro w hSw
          try dsimp only at hSw
          go_simp
          first | (obtain ⟨z0, z1⟩ := hSw; go_simp) | skip
          try with_reducible rfl
        try simp only [Act.put, List.getElem_toArray, List.getElem_cons_succ, List.getElem_cons_zero, List.setIfInBounds_toArray, List.set_cons_zero, List.set_cons_succ]
        refine AnyBut.takeS (i := 4) (v := ?v5) rfl (by kernel_rfl) (Nat.le_of_eq (by kernel_rfl)) (by kernel_rfl) (by kernel_rfl) (fun _ _ _ h => h) (HS13.out) (Or.inl ⟨by kernel_rfl, ?hy5⟩) ?r5
        case hy5 =>
          intro w hSw
          try dsimp only at hSw
          go_simp
          first | (obtain ⟨z0, z1⟩ := hSw; go_simp) | skip
          try with_reducible rfl
        try simp only [Act.put, List.getElem_toArray, List.getElem_cons_succ, List.getElem_cons_zero, List.setIfInBounds_toArray, List.set_cons_zero, List.set_cons_succ]
        refine AnyBut.takeS (i := 5) (v := ?v6) rfl (by kernel_rfl) (Nat.le_of_eq (by kernel_rfl)) (by kernel_rfl) (by kernel_rfl) (fun _ _ _ h => h) (HS13.out) (Or.inl ⟨by kernel_rfl, ?hy6⟩) ?r6
        case hy6 =>
          intro w hSw
          try dsimp only at hSw
          go_simp
          first | (obtain ⟨z0, z1⟩ := hSw; go_simp) | skip
          try with_reducible rfl
        try simp only [Act.put, List.getElem_toArray, List.getElem_cons_succ, List.getElem_cons_zero, List.setIfInBounds_toArray, List.set_cons_zero, List.set_cons_succ]
        refine AnyBut.takeS (i := 6) (v := ?v7) rfl (by kernel_rfl) (Nat.le_of_eq (by kernel_rfl)) (by kernel_rfl) (by kernel_rfl) (fun _ _ _ h => h) (HS13.out) (Or.inl ⟨by kernel_rfl, ?hy7⟩) ?r7
        case hy7 =>
          intro w hSw
          try dsimp only at hSw
          go_simp
          first | (obtain ⟨z0, z1⟩ := hSw; go_simp) | skip
          try with_reducible rfl
        try simp only [Act.put, List.getElem_toArray, List.getElem_cons_succ, List.getElem_cons_zero, List.setIfInBounds_toArray, List.set_cons_zero, List.set_cons_succ]
        refine AnyBut.takeS (i := 7) (v := ?v8) rfl (by kernel_rfl) (Nat.le_of_eq (by kernel_rfl)) (by kernel_rfl) (by kernel_rfl) (fun _ _ _ h => h) (HS13.out) (Or.inl ⟨by kernel_rfl, ?hy8⟩) ?r8
        case hy8 =>
          intro w hSw
          try dsimp only at hSw
          go_simp
          first | (obtain ⟨z0, z1⟩ := hSw; go_simp) | skip
          try with_reducible rfl
        try simp only [Act.put, List.getElem_toArray, List.getElem_cons_succ, List.getElem_cons_zero, List.setIfInBounds_toArray, List.set_cons_zero, List.set_cons_succ]
        refine AnyBut.takeS (i := 8) (v := ?v9) rfl (by kernel_rfl) (Nat.le_of_eq (by kernel_rfl)) (by kernel_rfl) (by kernel_rfl) (fun _ _ _ h => h) (HS13.out) (Or.inl ⟨by kernel_rfl, ?hy9⟩) ?r9
        case hy9 =>
          intro w hSw
          try dsimp only at hSw
          go_simp
          first | (obtain ⟨z0, z1⟩ := hSw; go_simp) | skip
          try with_reducible rfl
        try simp only [Act.put, List.getElem_toArray, List.getElem_cons_succ, List.getElem_cons_zero, List.setIfInBounds_toArray, List.set_cons_zero, List.set_cons_succ]
        refine AnyBut.takeS (i := 9) (v := ?v10) rfl (by kernel_rfl) (Nat.le_of_eq (by kernel_rfl)) (by kernel_rfl) (by kernel_rfl) (fun _ _ _ h => h) (HS13.out) (Or.inl ⟨by kernel_rfl, ?hy10⟩) ?r10
        case hy10 =>
          intro w hSw
          try dsimp only at hSw
          go_simp
          first | (obtain ⟨z0, z1⟩ := hSw; go_simp) | skip
          try with_reducible rfl
        try simp only [Act.put, List.getElem_toArray, List.getElem_cons_succ, List.getElem_cons_zero, List.setIfInBounds_toArray, List.set_cons_zero, List.set_cons_succ]
        refine AnyBut.takeS (i := 10) (v := ?v11) rfl (by kernel_rfl) (Nat.le_of_eq (by kernel_rfl)) (by kernel_rfl) (by kernel_rfl) (fun _ _ _ h => h) (HS13.out) (Or.inl ⟨by kernel_rfl, ?hy11⟩) ?r11
        case hy11 =>
          intro w hSw
          try dsimp only at hSw
          go_simp
          first | (obtain ⟨z0, z1⟩ := hSw; go_simp) | skip
          try with_reducible rfl
        try simp only [Act.put, List.getElem_toArray, List.getElem_cons_succ, List.getElem_cons_zero, List.setIfInBounds_toArray, List.set_cons_zero, List.set_cons_succ]
        refine AnyBut.takeS (i := 11) (v := ?v12) rfl (by kernel_rfl) (Nat.le_of_eq (by kernel_rfl)) (by kernel_rfl) (by kernel_rfl) (fun _ _ _ h => h) (HS13.out) (Or.inl ⟨by kernel_rfl, ?hy12⟩) ?r12
        case hy12 =>
          intro w hSw
          try dsimp only at hSw
          go_simp
          first | (obtain ⟨z0, z1⟩ := hSw; go_simp) | skip
          try with_reducible rfl
        try simp only [Act.put, List.getElem_toArray, List.getElem_cons_succ, List.getElem_cons_zero, List.setIfInBounds_toArray, List.set_cons_zero, List.set_cons_succ]
        refine AnyBut.done (by kernel_rfl) ?_
        clear qt
        go_upto_region 16 with (first | (refine wpList_load_row rfl 32 (.tmp 10) rfl g10 rfl 32 _ (0, 0) _ (HD9.out.same HBT.out (fun x => x)) Try.underlying32 rfl HIT.out.1 ?_) | (refine wpList_store_to rfl 32 (.tmp 7) _ rfl g7 NT rfl rfl 32 NS (HD9.out.same HBN9.out (fun x => x)) HIT.out.1 (by rw [HIT.out.2.1]; exact HIS.out.2) HIT.out.2.2 ?_; intro w10 hb10 k10; have HB10 := Lib.hid hb10; have HK10 := Lib.hid k10; clear hb10 k10))
        have HK10w : Hid (Kept (fun _ => False) w3 w10) := Lib.hid ((HK9w.out.trans HD9.out).newer HK10.out (fun i e => by rw [e]; exact HG7.out))
        have HBY10 := Lib.hid (HK10.out.same (HD9.out.same HBY.out (fun x => x)) (fun e => box_ne HBN9.out HBY.out (by decide) e.symm))
        have HDA : Hid (Kept (fun _ => False) w10 w10.drew) := Lib.hid (Kept.refl _ _).drew
        have HS16 : Hid ((fun w' => (w'.cell? ⟨g10 + 1, 7, none⟩ = some (.int .i64 vw) ∧ w'.cell? ⟨g10 + 1, 5, none⟩ = some (.int .i64 sv)) ∧ w'.cell? ⟨gi, oi + i * 17 + 7, none⟩ = some (.int .i64 vw) ∧ w'.cell? ⟨gi, oi + i * 17 + 5, none⟩ = some (.int .i64 sv)) w10.drew) := Lib.hid ⟨⟨cell_rowZ 7 _ (HDA.out.same HBY10.out (fun x => x)) HYC.out.2.2, cell_rowZ 5 _ (HDA.out.same HBY10.out (fun x => x)) HYC.out.1⟩, (HIW.out w10.drew (HK10w.out.trans HDA.out)).2.2, (HIW.out w10.drew (HK10w.out.trans HDA.out)).1⟩
        have qv : (vw != vw) = false := by simp
        have qs : (sv != sv) = false := by simp
        refine AnyBut.start (S := fun w' => (w'.cell? ⟨g10 + 1, 7, none⟩ = some (.int .i64 vw) ∧ w'.cell? ⟨g10 + 1, 5, none⟩ = some (.int .i64 sv)) ∧ w'.cell? ⟨gi, oi + i * 17 + 7, none⟩ = some (.int .i64 vw) ∧ w'.cell? ⟨gi, oi + i * 17 + 5, none⟩ = some (.int .i64 sv)) (k := 18) (by kernel_rfl) ?_
        refine AnyBut.takeS (i := 0) (v := ?v13) rfl (by kernel_rfl) (Nat.le_of_eq (by kernel_rfl)) (by kernel_rfl) (by kernel_rfl) (fun _ _ _ h => h) (HS16.out) (Or.inl ⟨by kernel_rfl, ?hy13⟩) ?r13
        case hy13 =>
          intro w hSw
          try dsimp only at hSw
          go_simp
          first | (obtain ⟨⟨z0, z1⟩, z2, z3⟩ := hSw; go_simp) | skip
          try with_reducible rfl
        try simp only [Act.put, List.getElem_toArray, List.getElem_cons_zero, List.setIfInBounds_toArray, List.set_cons_zero, List.set_cons_succ]
        refine AnyBut.takeS (i := 1) (v := ?v14) rfl (by kernel_rfl) (Nat.le_of_eq (by kernel_rfl)) (by kernel_rfl) (by kernel_rfl) (fun _ _ _ h => h) (HS16.out) (Or.inl ⟨by kernel_rfl, ?hy14⟩) ?r14
        case hy14 =>
          intro w hSw
          try dsimp only at hSw
          go_simp
          first | (obtain ⟨⟨z0, z1⟩, z2, z3⟩ := hSw; go_simp) | skip
          try with_reducible rfl
        try simp only [Act.put, List.getElem_toArray, List.getElem_cons_succ, List.getElem_cons_zero, List.setIfInBounds_toArray, List.set_cons_zero, List.set_cons_succ]
        refine AnyBut.takeS (i := 2) (v := ?v15) rfl (by kernel_rfl) (Nat.le_of_eq (by kernel_rfl)) (by kernel_rfl) (by kernel_rfl) (fun _ _ _ h => h) (HS16.out) (Or.inl ⟨by kernel_rfl, ?hy15⟩) ?r15
        case hy15 =>
          intro w hSw
          try dsimp only at hSw
          go_simp
          first | (obtain ⟨⟨z0, z1⟩, z2, z3⟩ := hSw; go_simp) | skip
          try with_reducible rfl
        try simp only [Act.put, List.getElem_toArray, List.getElem_cons_succ, List.getElem_cons_zero, List.setIfInBounds_toArray, List.set_cons_zero, List.set_cons_succ]
        refine AnyBut.takeS (i := 3) (v := ?v16) rfl (by kernel_rfl) (Nat.le_of_eq (by kernel_rfl)) (by kernel_rfl) (by kernel_rfl) (fun _ _ _ h => h) (HS16.out) (Or.inl ⟨by kernel_rfl, ?hy16⟩) ?r16
        case hy16 =>
          intro w hSw
          try dsimp only at hSw
          go_simp
          first | (obtain ⟨⟨z0, z1⟩, z2, z3⟩ := hSw; go_simp) | skip
          try with_reducible rfl
        try simp only [Act.put, List.getElem_toArray, List.getElem_cons_succ, List.getElem_cons_zero, List.setIfInBounds_toArray, List.set_cons_zero, List.set_cons_succ]
        refine AnyBut.takeS (i := 4) (v := ?v17) rfl (by kernel_rfl) (Nat.le_of_eq (by kernel_rfl)) (by kernel_rfl) (by kernel_rfl) (fun _ _ _ h => h) (HS16.out) (Or.inl ⟨by kernel_rfl, ?hy17⟩) ?r17
        case hy17 =>
          intro w hSw
          try dsimp only at hSw
          go_simp
          first | (obtain ⟨⟨z0, z1⟩, z2, z3⟩ := hSw; go_simp) | skip
          try with_reducible rfl
        try simp only [Act.put, List.getElem_toArray, List.getElem_cons_succ, List.getElem_cons_zero, List.setIfInBounds_toArray, List.set_cons_zero, List.set_cons_succ]
        refine AnyBut.takeS (i := 5) (v := ?v18) rfl (by kernel_rfl) (Nat.le_of_eq (by kernel_rfl)) (by kernel_rfl) (by kernel_rfl) (fun _ _ _ h => h) (HS16.out) (Or.inl ⟨by kernel_rfl, ?hy18⟩) ?r18
        case hy18 =>
          intro w hSw
          try dsimp only at hSw
          go_simp
          first | (obtain ⟨⟨z0, z1⟩, z2, z3⟩ := hSw; go_simp) | skip
          try with_reducible rfl
        try simp only [Act.put, List.getElem_toArray, List.getElem_cons_succ, List.getElem_cons_zero, List.setIfInBounds_toArray, List.set_cons_zero, List.set_cons_succ]
        refine AnyBut.takeS (i := 6) (v := ?v19) rfl (by kernel_rfl) (Nat.le_of_eq (by kernel_rfl)) (by kernel_rfl) (by kernel_rfl) (fun _ _ _ h => h) (HS16.out) (Or.inl ⟨by kernel_rfl, ?hy19⟩) ?r19
        case hy19 =>
          intro w hSw
          try dsimp only at hSw
          go_simp
          first | (obtain ⟨⟨z0, z1⟩, z2, z3⟩ := hSw; go_simp) | skip
          try with_reducible rfl
        try simp only [Act.put, List.getElem_toArray, List.getElem_cons_succ, List.getElem_cons_zero, List.setIfInBounds_toArray, List.set_cons_zero, List.set_cons_succ]
        refine AnyBut.takeS (i := 7) (v := ?v20) rfl (by kernel_rfl) (Nat.le_of_eq (by kernel_rfl)) (by kernel_rfl) (by kernel_rfl) (fun _ _ _ h => h) (HS16.out) (Or.inl ⟨by kernel_rfl, ?hy20⟩) ?r20
        case hy20 =>
          intro w hSw
          try dsimp only at hSw
          go_simp
          first | (obtain ⟨⟨z0, z1⟩, z2, z3⟩ := hSw; go_simp) | skip
          try with_reducible rfl
        try simp only [Act.put, List.getElem_toArray, List.getElem_cons_succ, List.getElem_cons_zero, List.setIfInBounds_toArray, List.set_cons_zero, List.set_cons_succ]
        refine AnyBut.takeS (i := 8) (v := ?v21) rfl (by kernel_rfl) (Nat.le_of_eq (by kernel_rfl)) (by kernel_rfl) (by kernel_rfl) (fun _ _ _ h => h) (HS16.out) (Or.inl ⟨by kernel_rfl, ?hy21⟩) ?r21
        case hy21 =>
          intro w hSw
          try dsimp only at hSw
          go_simp
          first | (obtain ⟨⟨z0, z1⟩, z2, z3⟩ := hSw; go_simp) | skip
          try with_reducible rfl
        try simp only [Act.put, List.getElem_toArray, List.getElem_cons_succ, List.getElem_cons_zero, List.setIfInBounds_toArray, List.set_cons_zero, List.set_cons_succ]
        refine AnyBut.takeS (i := 9) (v := ?v22) rfl (by kernel_rfl) (Nat.le_of_eq (by kernel_rfl)) (by kernel_rfl) (by kernel_rfl) (fun _ _ _ h => h) (HS16.out) (Or.inl ⟨by kernel_rfl, ?hy22⟩) ?r22
        case hy22 =>
          intro w hSw
          try dsimp only at hSw
          go_simp
          first | (obtain ⟨⟨z0, z1⟩, z2, z3⟩ := hSw; go_simp) | skip
          try with_reducible rfl
        try simp only [Act.put, List.getElem_toArray, List.getElem_cons_succ, List.getElem_cons_zero, List.setIfInBounds_toArray, List.set_cons_zero, List.set_cons_succ]
        refine AnyBut.takeS (i := 10) (v := ?v23) rfl (by kernel_rfl) (Nat.le_of_eq (by kernel_rfl)) (by kernel_rfl) (by kernel_rfl) (fun _ _ _ h => h) (HS16.out) (Or.inl ⟨by kernel_rfl, ?hy23⟩) ?r23
        case hy23 =>
          intro w hSw
          try dsimp only at hSw
          go_simp
          first | (obtain ⟨⟨z0, z1⟩, z2, z3⟩ := hSw; go_simp) | skip
          try with_reducible rfl
        try simp only [Act.put, List.getElem_toArray, List.getElem_cons_succ, List.getElem_cons_zero, List.setIfInBounds_toArray, List.set_cons_zero, List.set_cons_succ]
        refine AnyBut.takeS (i := 11) (v := ?v24) rfl (by kernel_rfl) (Nat.le_of_eq (by kernel_rfl)) (by kernel_rfl) (by kernel_rfl) (fun _ _ _ h => h) (HS16.out) (Or.inl ⟨by kernel_rfl, ?hy24⟩) ?r24
        case hy24 =>
          intro w hSw
          try dsimp only at hSw
          go_simp
          first | (obtain ⟨⟨z0, z1⟩, z2, z3⟩ := hSw; go_simp) | skip
          try with_reducible rfl
        try simp only [Act.put, List.getElem_toArray, List.getElem_cons_succ, List.getElem_cons_zero, List.setIfInBounds_toArray, List.set_cons_zero, List.set_cons_succ]
        refine AnyBut.takeS (i := 12) (v := ?v25) rfl (by kernel_rfl) (Nat.le_of_eq (by kernel_rfl)) (by kernel_rfl) (by kernel_rfl) (fun _ _ _ h => h) (HS16.out) (Or.inl ⟨by kernel_rfl, ?hy25⟩) ?r25
        case hy25 =>
          intro w hSw
          try dsimp only at hSw
          go_simp
          first | (obtain ⟨⟨z0, z1⟩, z2, z3⟩ := hSw; go_simp) | skip
          try with_reducible rfl
        try simp only [Act.put, List.getElem_toArray, List.getElem_cons_succ, List.getElem_cons_zero, List.setIfInBounds_toArray, List.set_cons_zero, List.set_cons_succ]
        refine AnyBut.takeS (i := 13) (v := ?v26) rfl (by kernel_rfl) (Nat.le_of_eq (by kernel_rfl)) (by kernel_rfl) (by kernel_rfl) (fun _ _ _ h => h) (HS16.out) (Or.inl ⟨by kernel_rfl, ?hy26⟩) ?r26
        case hy26 =>
          intro w hSw
          try dsimp only at hSw
          go_simp
          first | (obtain ⟨⟨z0, z1⟩, z2, z3⟩ := hSw; go_simp) | skip
          try with_reducible rfl
        try simp only [Act.put, List.getElem_toArray, List.getElem_cons_succ, List.getElem_cons_zero, List.setIfInBounds_toArray, List.set_cons_zero, List.set_cons_succ]
        refine AnyBut.takeS (i := 14) (v := ?v27) rfl (by kernel_rfl) (Nat.le_of_eq (by kernel_rfl)) (by kernel_rfl) (by kernel_rfl) (fun _ _ _ h => h) (HS16.out) (Or.inl ⟨by kernel_rfl, ?hy27⟩) ?r27
        case hy27 =>
          intro w hSw
          try dsimp only at hSw
          go_simp
          first | (obtain ⟨⟨z0, z1⟩, z2, z3⟩ := hSw; go_simp) | skip
          try with_reducible rfl
        try simp only [Act.put, List.getElem_toArray, List.getElem_cons_succ, List.getElem_cons_zero, List.setIfInBounds_toArray, List.set_cons_zero, List.set_cons_succ]
        refine AnyBut.takeS (i := 15) (v := ?v28) rfl (by kernel_rfl) (Nat.le_of_eq (by kernel_rfl)) (by kernel_rfl) (by kernel_rfl) (fun _ _ _ h => h) (HS16.out) (Or.inl ⟨by kernel_rfl, ?hy28⟩) ?r28
        case hy28 =>
          intro w hSw
          try dsimp only at hSw
          go_simp
          first | (obtain ⟨⟨z0, z1⟩, z2, z3⟩ := hSw; go_simp) | skip
          try with_reducible rfl
        try simp only [Act.put, List.getElem_toArray, List.getElem_cons_succ, List.getElem_cons_zero, List.setIfInBounds_toArray, List.set_cons_zero, List.set_cons_succ]
        refine AnyBut.takeS (i := 16) (v := ?v29) rfl (by kernel_rfl) (Nat.le_of_eq (by kernel_rfl)) (by kernel_rfl) (by kernel_rfl) (fun _ _ _ h => h) (HS16.out) (Or.inl ⟨by kernel_rfl, ?hy29⟩) ?r29
        case hy29 =>
          intro w hSw
          try dsimp only at hSw
          go_simp
          first | (obtain ⟨⟨z0, z1⟩, z2, z3⟩ := hSw; go_simp) | skip
          try with_reducible rfl
        try simp only [Act.put, List.getElem_toArray, List.getElem_cons_succ, List.getElem_cons_zero, List.setIfInBounds_toArray, List.set_cons_zero, List.set_cons_succ]
        refine AnyBut.takeS (i := 17) (v := ?v30) rfl (by kernel_rfl) (Nat.le_of_eq (by kernel_rfl)) (by kernel_rfl) (by kernel_rfl) (fun _ _ _ h => h) (HS16.out) (Or.inl ⟨by kernel_rfl, ?hy30⟩) ?r30
        case hy30 =>
          intro w hSw
          try dsimp only at hSw
          go_simp
          first | (obtain ⟨⟨z0, z1⟩, z2, z3⟩ := hSw; go_simp) | skip
          try with_reducible rfl
        try simp only [Act.put, List.getElem_toArray, List.getElem_cons_succ, List.getElem_cons_zero, List.setIfInBounds_toArray, List.set_cons_zero, List.set_cons_succ]
        refine AnyBut.done (by kernel_rfl) ?_
        clear qv qs
        go_wp2
        go_roundg (m - (i + 1))
        case measure => have := HD.out; omega
        case rel => exact ⟨i + 1, HD.out, rfl, rfl, HK10w.out.trans HDA.out, t1, t2, HNT.out.2, by rw [HSX.out, ← HNT.out.1]; exact HDA.out.same HB10.out (fun x => x)⟩
      · obtain rfl : m = i := by omega
        clear hd hb ho
        go_wp2
        go_ret
        exact ⟨rfl, HK3.out.trans HKR.out⟩
end Go.Proofs.Ytiiibhdohlpodaa
