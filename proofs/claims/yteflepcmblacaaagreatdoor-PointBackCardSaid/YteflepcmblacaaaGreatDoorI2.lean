/- Layer 12: a point's value put down (written by tools/gen_XI2.py). -/
import Derived.Test.YteflepcmblacaaaGreatDoorI5
namespace Go.Proofs.YteflepcmblacaaaGreatDoor
open Go.RowKit
attribute [local go_sem ↓] Go.wp_at_zero Go.wp_at_succ

/-- Blocks that are none of a writer's stay. -/
def Keeps (w w' : World) : Prop := ∀ (k : Nat) (cs : Array Value) (T : TypeId) (fr : Nat × Nat), w.heap[k]? = some (.cells cs T fr) → T ≠ 82 → T ≠ 5 → w'.heap[k]? = some (.cells cs T fr)
theorem Keeps.trans {a b c : World} (h : Keeps a b) (k : Keeps b c) : Keeps a c := fun i cs T fr hb h1 h2 => k i cs T fr (h i cs T fr hb h1 h2) h1 h2
theorem Keeps.of {w w' : World} (h : Kept (fun _ => False) w w') : Keeps w w' := fun _ _ _ _ hb _ _ => h.same hb (fun x => x)
theorem keeps_of {W w w' : World} {p : Nat} {v : Value} {l l' : List Int} (h : WrAt 82 5 w W.heap.size p v l) (t : WrTo 82 5 w w' W.heap.size p v l') : Keeps w w' := by
  obtain ⟨v', _, _, k⟩ := t
  intro i cs T fr hb h1 h2
  refine k.same hb (fun e => ?_)
  rcases e with e | e
  · subst e
    rw [h.box] at hb
    injection hb with hb
    injection hb with _ hb
    exact h1 hb.symm
  · exact own_box h.owns hb (Ne.symm h2) e
theorem wNum_any {W w : World} {p : Nat} {l : List Int} (x : Int) (h : WK W w p l) (h0 : 0 ≤ x) (h1 : x ≤ 18446744073709551615) (hl : l.length ≤ 1000000000) :
    Calls Tryz.prog 22 #[.pointer (some ⟨p, 0, none⟩), .int .u64 x] w fun e w' => e = .returned (.tuple #[]) ∧ WK W w' p (l ++ numB x) ∧ Keeps w w' := by
  obtain ⟨v, hw, hk⟩ := h
  refine (num_any W.heap.size p v l x w hw hk.size h0 h1 hl).mono ?_
  rintro e w' ⟨rfl, ht⟩
  exact ⟨rfl, WK.to hw hk ht, keeps_of hw ht⟩
theorem wText_any {W w : World} {p : Nat} {l : List Int} (s : ByteArray) (h : WK W w p l) (hs : s.size ≤ 1000000000) (hl : l.length ≤ 1000000000) :
    Calls Tryz.prog 20 #[.pointer (some ⟨p, 0, none⟩), .string s] w fun e w' => e = .returned (.tuple #[]) ∧ WK W w' p (l ++ numB s.size ++ strB s) ∧ Keeps w w' := by
  obtain ⟨v, hw, hk⟩ := h
  refine (text_any W.heap.size p v l s w hw hk.size hs hl).mono ?_
  rintro e w' ⟨rfl, ht⟩
  exact ⟨rfl, WK.to hw hk ht, keeps_of hw ht⟩
theorem wInt_any {W w : World} {p : Nat} {l : List Int} (x : Int) (h : WK W w p l) (h0 : -9223372036854775808 ≤ x) (h1 : x ≤ 9223372036854775807) (hl : l.length ≤ 1000000000) :
    Calls Tryz.prog 48 #[.pointer (some ⟨p, 0, none⟩), .int .i64 x] w fun e w' => e = .returned (.tuple #[]) ∧ WK W w' p (l ++ numB (zigI x)) ∧ Keeps w w' := by
  obtain ⟨v, hw, hk⟩ := h
  refine (int_any W.heap.size p v l x w hw hk.size h0 h1 hl).mono ?_
  rintro e w' ⟨rfl, ht⟩
  exact ⟨rfl, WK.to hw hk ht, keeps_of hw ht⟩
theorem wFix_any {W w : World} {p : Nat} {l : List Int} (x : Int) (h : WK W w p l) (hl : l.length ≤ 1000000000) :
    Calls Tryz.prog 49 #[.pointer (some ⟨p, 0, none⟩), .int .u64 x] w fun e w' => e = .returned (.tuple #[]) ∧ WK W w' p (l ++ fixB x) ∧ Keeps w w' := by
  obtain ⟨v, hw, hk⟩ := h
  refine (wfix_any W.heap.size p v l x w hw hk.size hl).mono ?_
  rintro e w' ⟨rfl, ht⟩
  exact ⟨rfl, WK.to hw hk ht, keeps_of hw ht⟩
def numsB (l : List Nat) : List Int := l.flatMap fun (n : Nat) => numB (n : Int)
theorem numsB_succ {l : List Nat} {i : Nat} (h : i < l.length) : numsB (l.take (i + 1)) = numsB (l.take i) ++ numB ((l.getD i 0 : Nat) : Int) := by
  unfold numsB
  rw [List.take_add_one, List.flatMap_append, List.getElem?_eq_getElem h, List.getD_eq_getElem?_getD, List.getElem?_eq_getElem h]
  simp
theorem numsB_len (l : List Nat) : (numsB l).length ≤ 9 * l.length := by
  unfold numsB
  induction l with
  | nil => simp
  | cons a r ih =>
    rw [List.flatMap_cons, List.length_append, List.length_cons]
    have := numB_len (a : Int)
    omega
/-- A side's bytes. -/
def sideB (o : Int) (l : List Nat) : List Int := numB (l.length : Nat) ++ ((if l.length = 0 then [] else numB (zigI o)) ++ numsB l)
theorem sideB_len (o : Int) (l : List Nat) : (sideB o l).length ≤ 18 + 9 * l.length := by
  unfold sideB
  have h1 := numB_len (l.length : Nat)
  have h2 := numB_len (zigI o)
  have h3 := numsB_len l
  rw [List.length_append, List.length_append]
  split
  · simp; omega
  · omega
/-- What a point's value is written as. -/
def bytesV (x : Pnt) : List Int :=
  if x.kind = 1 then numB (zigI x.whole) else if x.kind = 2 ∨ x.kind = 3 then fixB x.re else if x.kind = 5 then fixB x.re ++ fixB x.im
  else if x.kind = 4 then numB (zigI x.h.sc) ++ (numB (x.h.ze : Int) ++ (sideB x.h.po x.h.pl ++ sideB x.h.no x.h.nl)) else []
set_option maxRecDepth 100000 in
set_option maxHeartbeats 4000000 in
theorem putSide_any {W w : World} {p : Nat} {l : List Int} (o : Int) (L : List Nat) (ao : Option Addr) (c : Nat) (h : WK W w p l) (hl : l.length ≤ 100000) (hv : SlAt W (.slice ao L.length c) (uvals L)) (ho : I64 o) (hL : L.length ≤ 1000) (hb : ∀ x ∈ L, x < 18446744073709551616) :
    Calls Tryz.prog 50 #[.pointer (some ⟨p, 0, none⟩), .agg #[.int .i64 o, .slice ao L.length c]] w fun e w' => e = .returned (.tuple #[]) ∧ WK W w' p (l ++ sideB o L) ∧ Keeps w w' := by
  have HV := Lib.hid (And.intro hv hb)
  have HO := Lib.hid (show -9223372036854775808 ≤ o ∧ o ≤ 9223372036854775807 from ho)
  have HLL := Lib.hid hl
  have HWR := Lib.hid h
  obtain ⟨n, hn⟩ : ∃ n, n = L.length := ⟨_, rfl⟩
  rw [← hn] at hL ⊢
  have HN := Lib.hid (And.intro hn hL)
  have hsb : sideB o L = numB (n : Int) ++ ((if n = 0 then [] else numB (zigI o)) ++ numsB L) := by unfold sideB; rw [hn]
  obtain ⟨T, hT⟩ : ∃ T, T = l ++ sideB o L := ⟨_, rfl⟩
  rw [← hT]
  rw [hsb] at hT
  have HT := Lib.hid hT
  have wn : IntKind.u64.wrap (n : Int) = (n : Int) := wrap_u64_of _ (by omega) (by omega)
  obtain ⟨q, hq⟩ : ∃ q, q = w.heap.size := ⟨_, rfl⟩
  obtain ⟨w1, hw1⟩ : ∃ w1, w1 = w.alloc (.cells #[.int .i64 o, .slice ao n c] 26) := ⟨_, rfl⟩
  have hb1 : SideBox w1 q o (.slice ao n c) := by rw [hw1, hq]; exact heap_alloc_new w _
  have HB1 := Lib.hid hb1
  have HW1 := Lib.hid (And.intro hw1 hq)
  have HKW : Hid (Keeps w w1) := Lib.hid (by rw [hw1]; exact Keeps.of ((Kept.refl _ _).alloc _))
  have HK1 : Hid (WK W w1 p l) := Lib.hid (by rw [hw1]; exact h.kept ((Kept.refl _ _).alloc _))
  clear h hv hb ho hl hn hL hsb hb1 hw1 hq hT
  have HNUM := Lib.hid (fun (w' : World) (l' : List Int) (x : Int) => wNum_any (W := W) (w := w') (p := p) (l := l') x)
  have HINT := Lib.hid (fun (w' : World) (l' : List Int) => wInt_any (W := W) (w := w') (p := p) (l := l') o)
  have HSX : Hid (∀ w', Keeps w1 w' → SideBox w' q o (.slice ao n c)) := Lib.hid (fun w' k => k q _ _ _ HB1.out (by decide) (by decide))
  go_enter Tryz.func50, Tryz.ntmps50
  go_wp2_with fail
  rw [← HW1.out.1, ← HW1.out.2]
  refine (HNUM.out w1 l (n : Int) HK1.out (by omega) (by have := HN.out; omega) (by have := HLL.out; omega)).mono ?_
  rintro e w2 ⟨rfl, h2, k2⟩
  have HK2 := Lib.hid (And.intro h2 k2)
  obtain ⟨⟨c0, c1⟩, _⟩ := (HSX.out w2 k2).c
  clear h2 k2
  by_cases h0 : n = 0
  · have q0 : decide (0 < n) = false := decide_eq_false (by omega)
    have q0' : ¬ (0 : Int) < (n : Int) := by omega
    obtain ⟨B, hB⟩ : ∃ B, B = l ++ numB (n : Int) := ⟨_, rfl⟩
    have HKB : Hid (WK W w2 p B ∧ Keeps w1 w2) := Lib.hid (by rw [hB]; exact HK2.out)
    have HBE : Hid (T = B ++ numsB L) := Lib.hid (by rw [HT.out, if_pos h0, hB, List.nil_append, List.append_assoc])
    have HBL : Hid (B.length ≤ 200000) := Lib.hid (by rw [hB, List.length_append]; have := numB_len (n : Int); have := HLL.out; omega)
    clear h0 hB
    go_wp2
    go_loopg [23] n (fun g s23 wr => ∃ i : Nat, i ≤ n ∧ g = n - i ∧ s23 = .int .i64 (i : Int) ∧ WK W wr p (B ++ numsB (L.take i)) ∧ Keeps w1 wr)
    case atStart => exact ⟨0, Nat.zero_le _, rfl, rfl, by rw [List.take_zero]; unfold numsB; rw [List.flatMap_nil, List.append_nil]; exact HKB.out.1, HKB.out.2⟩
    case round =>
      obtain ⟨i, hin, rfl, rfl, hm, hmk⟩ := hrel
      have HMK := Lib.hid hmk
      clear hmk
      by_cases hd : i < n
      · have hdi : (i : Int) < (n : Int) := by omega
        have hdi0 : (0 : Int) ≤ (i : Int) := by omega
        have HD := Lib.hid hd
        have hil : i < L.length := by rw [← HN.out.1]; exact hd
        have wi : IntKind.i64.wrap ((i : Int) + 1) = ((i + 1 : Nat) : Int) := by have := HN.out; rw [IntWalk.i64_in _ ⟨by omega, by omega⟩]; omega
        obtain ⟨g, off, rfl, e0⟩ := (HV.out.1.kept hm.old (fun _ _ x => x)).elem (uvals_get hil)
        have hx9 : L.getD i 0 < 18446744073709551616 := getD_u64 HV.out.2 i
        have hsu := numsB_succ hil
        obtain ⟨x, hx⟩ : ∃ x, x = L.getD i 0 := ⟨_, rfl⟩
        rw [← hx] at e0 hx9 hsu
        have hlen : (B ++ numsB (L.take i)).length ≤ 1000000000 := by
          rw [List.length_append]
          have h1 := numsB_len (L.take i)
          rw [List.length_take] at h1
          have := HBL.out
          have := HN.out
          omega
        have HC := Lib.hid (HNUM.out wr (B ++ numsB (L.take i)) (x : Int) hm (by omega) (by omega) hlen)
        have HSU := Lib.hid hsu
        clear hm hd hin hil hx hx9 hsu hlen
        go_wp2_with fail
        refine HC.out.mono ?_
        rintro e w5 ⟨rfl, h5, k5⟩
        rw [List.append_assoc, ← HSU.out] at h5
        have HM5 := Lib.hid (And.intro h5 (HMK.out.trans k5))
        clear h5 k5
        go_wp2
        go_roundg (n - (i + 1))
        case measure => have := HD.out; omega
        case rel => exact ⟨i + 1, HD.out, rfl, rfl, HM5.out⟩
      · have hdi : ¬ (i : Int) < (n : Int) := by omega
        have hdi' : decide (i < n) = false := decide_eq_false hd
        obtain rfl : i = n := by omega
        have hE : L.take i = L := by rw [HN.out.1, List.take_length]
        rw [hE] at hm
        have HM9 := Lib.hid hm
        clear hm hd hin hE
        go_wp2
        go_end0
        exact ⟨rfl, by rw [HBE.out]; exact HM9.out, HKW.out.trans HMK.out⟩
  · have q0 : decide (0 < n) = true := decide_eq_true (by omega)
    have q0' : (0 : Int) < (n : Int) := by omega
    obtain ⟨B, hB⟩ : ∃ B, B = l ++ numB (n : Int) ++ numB (zigI o) := ⟨_, rfl⟩
    have HBE : Hid (T = B ++ numsB L) := Lib.hid (by rw [HT.out, if_neg h0, hB]; simp only [List.append_assoc])
    have HBL : Hid (B.length ≤ 200000) := Lib.hid (by rw [hB, List.length_append, List.length_append]; have := numB_len (n : Int); have := numB_len (zigI o); have := HLL.out; omega)
    have HCI := Lib.hid (HINT.out w2 (l ++ numB (n : Int)) HK2.out.1 HO.out.1 HO.out.2 (by rw [List.length_append]; have := numB_len (n : Int); have := HLL.out; omega))
    rw [← hB] at HCI
    clear h0 hB
    go_wp2_with fail
    refine HCI.out.mono ?_
    rintro e w3 ⟨rfl, h3, k3⟩
    have HKB := Lib.hid (And.intro h3 (HK2.out.2.trans k3))
    clear c0 c1
    obtain ⟨⟨c0, c1⟩, _⟩ := (HSX.out w3 (HK2.out.2.trans k3)).c
    clear h3 k3
    go_wp2
    go_loopg [23] n (fun g s23 wr => ∃ i : Nat, i ≤ n ∧ g = n - i ∧ s23 = .int .i64 (i : Int) ∧ WK W wr p (B ++ numsB (L.take i)) ∧ Keeps w1 wr)
    case atStart => exact ⟨0, Nat.zero_le _, rfl, rfl, by rw [List.take_zero]; unfold numsB; rw [List.flatMap_nil, List.append_nil]; exact HKB.out.1, HKB.out.2⟩
    case round =>
      obtain ⟨i, hin, rfl, rfl, hm, hmk⟩ := hrel
      have HMK := Lib.hid hmk
      clear hmk
      by_cases hd : i < n
      · have hdi : (i : Int) < (n : Int) := by omega
        have hdi0 : (0 : Int) ≤ (i : Int) := by omega
        have HD := Lib.hid hd
        have hil : i < L.length := by rw [← HN.out.1]; exact hd
        have wi : IntKind.i64.wrap ((i : Int) + 1) = ((i + 1 : Nat) : Int) := by have := HN.out; rw [IntWalk.i64_in _ ⟨by omega, by omega⟩]; omega
        obtain ⟨g, off, rfl, e0⟩ := (HV.out.1.kept hm.old (fun _ _ x => x)).elem (uvals_get hil)
        have hx9 : L.getD i 0 < 18446744073709551616 := getD_u64 HV.out.2 i
        have hsu := numsB_succ hil
        obtain ⟨x, hx⟩ : ∃ x, x = L.getD i 0 := ⟨_, rfl⟩
        rw [← hx] at e0 hx9 hsu
        have hlen : (B ++ numsB (L.take i)).length ≤ 1000000000 := by
          rw [List.length_append]
          have h1 := numsB_len (L.take i)
          rw [List.length_take] at h1
          have := HBL.out
          have := HN.out
          omega
        have HC := Lib.hid (HNUM.out wr (B ++ numsB (L.take i)) (x : Int) hm (by omega) (by omega) hlen)
        have HSU := Lib.hid hsu
        clear hm hd hin hil hx hx9 hsu hlen
        go_wp2_with fail
        refine HC.out.mono ?_
        rintro e w5 ⟨rfl, h5, k5⟩
        rw [List.append_assoc, ← HSU.out] at h5
        have HM5 := Lib.hid (And.intro h5 (HMK.out.trans k5))
        clear h5 k5
        go_wp2
        go_roundg (n - (i + 1))
        case measure => have := HD.out; omega
        case rel => exact ⟨i + 1, HD.out, rfl, rfl, HM5.out⟩
      · have hdi : ¬ (i : Int) < (n : Int) := by omega
        have hdi' : decide (i < n) = false := decide_eq_false hd
        obtain rfl : i = n := by omega
        have hE : L.take i = L := by rw [HN.out.1, List.take_length]
        rw [hE] at hm
        have HM9 := Lib.hid hm
        clear hm hd hin hE
        go_wp2
        go_end0
        exact ⟨rfl, by rw [HBE.out]; exact HM9.out, HKW.out.trans HMK.out⟩
theorem bytesV_len (x : Pnt) (hp : x.h.pl.length ≤ 1000) (hn : x.h.nl.length ≤ 1000) : (bytesV x).length ≤ 20000 := by
  unfold bytesV
  have h1 := numB_len (zigI x.whole)
  have h2 : ∀ v, (fixB v).length = 8 := fun v => by unfold fixB; simp [fixK]
  have h3 := numB_len (zigI x.h.sc)
  have h4 := numB_len (x.h.ze : Int)
  have h5 := sideB_len x.h.po x.h.pl
  have h6 := sideB_len x.h.no x.h.nl
  split
  · omega
  split
  · rw [h2]; omega
  split
  · rw [List.length_append, h2, h2]; omega
  split
  · rw [List.length_append, List.length_append, List.length_append]; omega
  · simp
set_option maxRecDepth 100000 in
set_option maxHeartbeats 8000000 in
theorem putValue_any {W w : World} {p : Nat} {l : List Int} (x : Pnt) (av : Value) (pa na : Option Addr) (pc nc : Nat) (h : WK W w p l) (hl : l.length ≤ 70000) (hh : HistAt W x.h (.slice pa x.h.pl.length pc) (.slice na x.h.nl.length nc)) (hok : x.ok) (hp : x.h.pl.length ≤ 1000) (hn : x.h.nl.length ≤ 1000) :
    Calls Tryz.prog 23 #[.pointer (some ⟨p, 0, none⟩), pntV x av (.slice pa x.h.pl.length pc) (.slice na x.h.nl.length nc)] w fun e w' => e = .returned (.tuple #[]) ∧ WK W w' p (l ++ bytesV x) ∧ Keeps w w' := by
  obtain ⟨BV, hBV⟩ : ∃ B, B = bytesV x := ⟨_, rfl⟩
  rw [← hBV]
  unfold bytesV at hBV
  have HLL := Lib.hid hl
  have HOK := Lib.hid hok
  have HINT := Lib.hid (fun (w' : World) (l' : List Int) (z : Int) => wInt_any (W := W) (w := w') (p := p) (l := l') z)
  have HNUM := Lib.hid (fun (w' : World) (l' : List Int) (z : Int) => wNum_any (W := W) (w := w') (p := p) (l := l') z)
  have HFIX := Lib.hid (fun (w' : World) (l' : List Int) (z : Int) => wFix_any (W := W) (w := w') (p := p) (l := l') z)
  have HPP := Lib.hid (fun (w' : World) (l' : List Int) (h' : WK W w' p l') (hl' : l'.length ≤ 100000) => putSide_any x.h.po x.h.pl pa pc h' hl' hh.p hok.h.po hp hok.h.pl)
  have HPN := Lib.hid (fun (w' : World) (l' : List Int) (h' : WK W w' p l') (hl' : l'.length ≤ 100000) => putSide_any x.h.no x.h.nl na nc h' hl' hh.n hok.h.no hn hok.h.nl)
  have HSL := Lib.hid (And.intro (sideB_len x.h.po x.h.pl) (And.intro hp hn))
  obtain ⟨SP, hSP⟩ : ∃ S, S = sideB x.h.po x.h.pl := ⟨_, rfl⟩
  obtain ⟨SN, hSN⟩ : ∃ S, S = sideB x.h.no x.h.nl := ⟨_, rfl⟩
  rw [← hSP, ← hSN] at hBV
  rw [← hSP] at HPP HSL
  rw [← hSN] at HPN
  unfold pntV pntC
  obtain ⟨name, L, kind, temp, mono, start, time, whole, re, im, ⟨sc, ze, po, pl, no, nl⟩, flags⟩ := x
  dsimp only at hBV HPP HPN HSL ⊢
  obtain ⟨m, hm⟩ : ∃ m, m = pl.length := ⟨_, rfl⟩
  obtain ⟨n, hn⟩ : ∃ n, n = nl.length := ⟨_, rfl⟩
  rw [← hm] at HPP HSL ⊢
  rw [← hn] at HPN HSL ⊢
  obtain ⟨q, hq⟩ : ∃ q, q = w.heap.size := ⟨_, rfl⟩
  obtain ⟨w1, hw1⟩ : ∃ w1, w1 = w.alloc (.cells #[.string name, av, .int .i64 kind, .int .i64 temp, .bool mono, .int .i64 start, .int .i64 time, .int .i64 whole, .int .u64 re, .int .u64 im, .int .i64 sc, .int .u64 (ze : Int), .int .i64 po, .slice pa m pc, .int .i64 no, .slice na n nc, .int .i64 flags] 30) := ⟨_, rfl⟩
  have hb1 : w1.heap[q]? = some (.cells #[.string name, av, .int .i64 kind, .int .i64 temp, .bool mono, .int .i64 start, .int .i64 time, .int .i64 whole, .int .u64 re, .int .u64 im, .int .i64 sc, .int .u64 (ze : Int), .int .i64 po, .slice pa m pc, .int .i64 no, .slice na n nc, .int .i64 flags] 30 (0, 0)) := by rw [hw1, hq]; exact heap_alloc_new w _
  have HBX : Hid (∀ w', Keeps w1 w' → w'.heap[q]? = some (.cells #[.string name, av, .int .i64 kind, .int .i64 temp, .bool mono, .int .i64 start, .int .i64 time, .int .i64 whole, .int .u64 re, .int .u64 im, .int .i64 sc, .int .u64 (ze : Int), .int .i64 po, .slice pa m pc, .int .i64 no, .slice na n nc, .int .i64 flags] 30 (0, 0))) := Lib.hid (fun w' k => k q _ _ _ hb1 (by decide) (by decide))
  have HW1 := Lib.hid (And.intro hw1 hq)
  have HKW : Hid (Keeps w w1) := Lib.hid (by rw [hw1]; exact Keeps.of ((Kept.refl _ _).alloc _))
  have HK1 : Hid (WK W w1 p l) := Lib.hid (by rw [hw1]; exact h.kept ((Kept.refl _ _).alloc _))
  have hRE := HOK.out.re
  have hIM := HOK.out.im
  have hWH := HOK.out.whole
  have hSC := HOK.out.h.sc
  have hZE := HOK.out.h.ze
  unfold I64 at hWH hSC
  dsimp only at hRE hIM hWH hSC hZE
  have HRG := Lib.hid (And.intro hRE (And.intro hIM (And.intro hWH (And.intro hSC hZE))))
  clear h hl hh hok hp hn hSP hSN hm hw1 hq hb1 hRE hIM hWH hSC hZE
  rcases kind_cases kind with e | e | e | e | e | ⟨n1, n2, n3, n4, n5⟩
  · subst e
    rw [if_neg (by decide), if_pos (by decide)] at hBV
    have HBV := Lib.hid hBV
    clear hBV
    go_enter Tryz.func23, Tryz.ntmps23
    go_wp2_with fail
    rw [← HW1.out.1, ← HW1.out.2]
    refine (HFIX.out w1 l re HK1.out (by have := HLL.out; omega)).mono ?_
    rintro e w2 ⟨rfl, h2, k2⟩
    have HR := Lib.hid (And.intro h2 (HKW.out.trans k2))
    clear h2 k2
    go_wp2
    go_end0
    exact ⟨rfl, by rw [HBV.out]; exact HR.out.1, HR.out.2⟩
  · subst e
    rw [if_pos (by decide)] at hBV
    have HBV := Lib.hid hBV
    clear hBV
    go_enter Tryz.func23, Tryz.ntmps23
    go_wp2_with fail
    rw [← HW1.out.1, ← HW1.out.2]
    refine (HINT.out w1 l whole HK1.out HRG.out.2.2.1.1 HRG.out.2.2.1.2 (by have := HLL.out; omega)).mono ?_
    rintro e w2 ⟨rfl, h2, k2⟩
    have HR := Lib.hid (And.intro h2 (HKW.out.trans k2))
    clear h2 k2
    go_wp2
    go_end0
    exact ⟨rfl, by rw [HBV.out]; exact HR.out.1, HR.out.2⟩
  · subst e
    rw [if_neg (by decide), if_pos (by decide)] at hBV
    have HBV := Lib.hid hBV
    clear hBV
    go_enter Tryz.func23, Tryz.ntmps23
    go_wp2_with fail
    rw [← HW1.out.1, ← HW1.out.2]
    refine (HFIX.out w1 l re HK1.out (by have := HLL.out; omega)).mono ?_
    rintro e w2 ⟨rfl, h2, k2⟩
    have HR := Lib.hid (And.intro h2 (HKW.out.trans k2))
    clear h2 k2
    go_wp2
    go_end0
    exact ⟨rfl, by rw [HBV.out]; exact HR.out.1, HR.out.2⟩
  · subst e
    rw [if_neg (by decide), if_neg (by decide), if_neg (by decide), if_pos (by decide)] at hBV
    have HBV := Lib.hid hBV
    clear hBV
    go_enter Tryz.func23, Tryz.ntmps23
    go_wp2_with fail
    rw [← HW1.out.1, ← HW1.out.2]
    refine (HINT.out w1 l sc HK1.out HRG.out.2.2.2.1.1 HRG.out.2.2.2.1.2 (by have := HLL.out; omega)).mono ?_
    rintro e w2 ⟨rfl, h2, k2⟩
    have c11 := cell_rowZ 11 _ (HBX.out w2 k2) rfl
    have HR2 := Lib.hid (And.intro h2 k2)
    obtain ⟨l2, hl2⟩ : ∃ l2, l2 = l ++ numB (zigI sc) := ⟨_, rfl⟩
    have HL2 : Hid (l2.length ≤ 70009) := Lib.hid (by rw [hl2, List.length_append]; have := numB_len (zigI sc); have := HLL.out; omega)
    rw [← hl2] at HR2
    have HE2 := Lib.hid hl2
    clear h2 k2 hl2
    go_wp2_with fail
    refine (HNUM.out w2 l2 (ze : Int) HR2.out.1 (by omega) (by have := HRG.out.2.2.2.2; omega) (by have := HL2.out; omega)).mono ?_
    rintro e w3 ⟨rfl, h3, k3⟩
    have k13 := HR2.out.2.trans k3
    have c12 := cell_rowZ 12 _ (HBX.out w3 k13) rfl
    have c13 := cell_rowZ 13 _ (HBX.out w3 k13) rfl
    obtain ⟨l3, hl3⟩ : ∃ l3, l3 = l2 ++ numB (ze : Int) := ⟨_, rfl⟩
    rw [← hl3] at h3
    have HR3 := Lib.hid (And.intro h3 k13)
    have HL3 : Hid (l3.length ≤ 70018) := Lib.hid (by rw [hl3, List.length_append]; have := numB_len (ze : Int); have := HL2.out; omega)
    have HE3 := Lib.hid hl3
    clear h3 k3 k13 hl3 c11
    go_wp2_with fail
    refine (HPP.out w3 l3 HR3.out.1 (by have := HL3.out; omega)).mono ?_
    rintro e w4 ⟨rfl, h4, k4⟩
    have k14 := HR3.out.2.trans k4
    have c14 := cell_rowZ 14 _ (HBX.out w4 k14) rfl
    have c15 := cell_rowZ 15 _ (HBX.out w4 k14) rfl
    obtain ⟨l4, hl4⟩ : ∃ l4, l4 = l3 ++ SP := ⟨_, rfl⟩
    rw [← hl4] at h4
    have HR4 := Lib.hid (And.intro h4 k14)
    have HL4 : Hid (l4.length ≤ 90000) := Lib.hid (by rw [hl4, List.length_append]; have := HSL.out; have := HL3.out; omega)
    have HE4 := Lib.hid hl4
    clear h4 k4 k14 hl4 c12 c13
    go_wp2_with fail
    refine (HPN.out w4 l4 HR4.out.1 (by have := HL4.out; omega)).mono ?_
    rintro e w5 ⟨rfl, h5, k5⟩
    have HR5 := Lib.hid (And.intro h5 (HKW.out.trans (HR4.out.2.trans k5)))
    clear h5 k5
    go_wp2
    go_end0
    exact ⟨rfl, by have h := HR5.out.1; rw [HE4.out, HE3.out, HE2.out] at h; rw [HBV.out]; simpa only [List.append_assoc] using h, HR5.out.2⟩
  · subst e
    rw [if_neg (by decide), if_neg (by decide), if_pos (by decide)] at hBV
    have HBV := Lib.hid hBV
    clear hBV
    go_enter Tryz.func23, Tryz.ntmps23
    go_wp2_with fail
    rw [← HW1.out.1, ← HW1.out.2]
    refine (HFIX.out w1 l re HK1.out (by have := HLL.out; omega)).mono ?_
    rintro e w2 ⟨rfl, h2, k2⟩
    have c9 := cell_rowZ 9 _ (HBX.out w2 k2) rfl
    have HR := Lib.hid (And.intro h2 k2)
    clear h2 k2
    go_wp2_with fail
    refine (HFIX.out w2 (l ++ fixB re) im HR.out.1 (by rw [List.length_append]; have : (fixB re).length = 8 := by { unfold fixB; simp [fixK] }; have := HLL.out; omega)).mono ?_
    rintro e w3 ⟨rfl, h3, k3⟩
    have HR3 := Lib.hid (And.intro h3 (HKW.out.trans (HR.out.2.trans k3)))
    clear h3 k3
    go_wp2
    go_end0
    exact ⟨rfl, by rw [HBV.out, ← List.append_assoc]; exact HR3.out.1, HR3.out.2⟩
  · have q1 : (kind == 1) = false := beqF n1
    have q2 : (kind == 2) = false := beqF n2
    have q3 : (kind == 3) = false := beqF n3
    have q4 : (kind == 4) = false := beqF n4
    have q5 : (kind == 5) = false := beqF n5
    rw [if_neg n1, if_neg (by omega), if_neg n5, if_neg n4] at hBV
    subst hBV
    clear n1 n2 n3 n4 n5
    go_enter Tryz.func23, Tryz.ntmps23
    go_wp2
    rw [← HW1.out.1]
    go_end0
    exact ⟨rfl, HK1.out, HKW.out⟩
end Go.Proofs.YteflepcmblacaaaGreatDoor
