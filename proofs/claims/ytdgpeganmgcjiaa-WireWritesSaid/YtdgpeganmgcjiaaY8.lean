/- package limnographref30: All; package wire: All, Last. -/
import Derived.Test.YtdgpeganmgcjiaaY7
namespace Go.Proofs.Ytdgpeganmgcjiaa
open Go.RowKit
attribute [local go_sem ↓] Go.wp_at_zero Go.wp_at_succ

def isNum (num : Int) (p : PR) : Bool := p.r.num == num
theorem filter_snoc (num : Int) (L : List PR) (i : Nat) (p : PR) (h : L[i]? = some p) : (L.take (i + 1)).filter (isNum num) = (L.take i).filter (isNum num) ++ (if isNum num p then [p] else []) := by
  rw [List.take_add_one, List.filter_append, h]
  by_cases hp : isNum num p <;> simp [hp]
theorem FldsAt.get {W : World} {ao : Option Addr} {L : List PR} (h : FldsAt W ao L) {i : Nat} (hi : i < L.length) : ∃ g o p, ao = some ⟨g, o, none⟩ ∧ L[i]? = some p ∧ FldAt W g (o + i * 4) p ∧ FldOk W p := by
  obtain ⟨g, o, e, hr⟩ := h.at_ (by omega)
  exact ⟨g, o, L[i], e, List.getElem?_eq_getElem hi, hr i _ (List.getElem?_eq_getElem hi), h.ok _ (List.getElem_mem hi)⟩

set_option maxHeartbeats 2000000 in
set_option maxRecDepth 100000 in
theorem all30_any (ao : Option Addr) (c : Nat) (L : List PR) (num : Int) (w : World) (hr : FldsAt w ao L) (hl : L.length ≤ 100000) :
    Calls Try.prog 13 #[.slice ao L.length c, .int .i64 num] w fun e w' => ∃ a c', e = .returned (.slice a (L.filter (isNum num)).length c') ∧ MineF 0 w w' (.slice a (L.filter (isNum num)).length c') (L.filter (isNum num)) := by
  have HR := Lib.hid hr
  have HL := Lib.hid hl
  obtain ⟨n, hn⟩ : ∃ n, n = L.length := ⟨_, rfl⟩
  rw [← hn] at HL ⊢
  have HN := Lib.hid hn
  have HBL := Lib.hid hr.blt
  have hl9 : (n : Int) ≤ 100000 := by omega
  clear hr hl hn
  go_enter Try.func13, Try.ntmps13
  go_wp2
  go_loopg [5, 6] n (fun x s5 s6 wr => ∃ i : Nat, i ≤ n ∧ x = n - i ∧ s6 = .int .i64 i ∧ MineF 0 w wr s5 ((L.take i).filter (isNum num)))
  case atStart => exact ⟨0, Nat.zero_le _, rfl, rfl, MineF.nil _ _⟩
  case round =>
    obtain ⟨i, hin, rfl, rfl, hm⟩ := hrel
    obtain ⟨a5, c5, e5⟩ := hm.slice
    obtain ⟨m, hmm⟩ : ∃ m, m = ((L.take i).filter (isNum num)).length := ⟨_, rfl⟩
    rw [← hmm] at e5
    subst e5
    have HM := Lib.hid hm
    have HMM := Lib.hid (show m ≤ 100000 by
      have h1 := List.length_filter_le (isNum num) (L.take i)
      have h2 := List.length_take_le i L
      have := HL.out
      omega)
    by_cases hd : i < n
    · obtain ⟨g, o, p, rfl, hi, hat, hok⟩ := (HR.out.kept hm.kept).get (i := i) (by have := HN.out; omega)
      have hc0 := hat.c0
      have hc1 := hat.c1
      have hc2 := hat.c2
      have hc3 := hat.c3
      have hfs := filter_snoc num L i p hi
      have hpm : p ∈ L := List.mem_of_getElem? hi
      have HSEP := Lib.hid (show p.r.b ≠ [] → ∀ a, p.a = some a → (Value.slice a5 m c5).ownBlock ≠ some a.block ∧ 0 ≤ a.block from fun h0 a ha => ⟨fun e => by
        have h1 := (ownsRow_lt HM.out.own e).2
        have h2 := HBL.out.2 p hpm h0 a ha
        omega, Nat.zero_le _⟩)
      have HOK := Lib.hid hok
      have HC : Hid (cellsP p = [.int .i64 p.r.num, .int .i64 p.r.ty, .int .u64 (p.r.v : Int), .slice p.a p.r.b.length p.c]) := Lib.hid rfl
      have HSRC := Lib.hid (src_oneF wr p)
      unfold cellsP at HSRC
      have HD := Lib.hid hd
      have hdi : (i : Int) < (n : Int) := by omega
      have hdi0 : (0 : Int) ≤ (i : Int) := by omega
      obtain ⟨pn, hpn⟩ : ∃ x, x = p.r.num := ⟨_, rfl⟩
      obtain ⟨pt, hpt⟩ : ∃ x, x = p.r.ty := ⟨_, rfl⟩
      obtain ⟨pv, hpv⟩ : ∃ x, x = p.r.v := ⟨_, rfl⟩
      obtain ⟨pa, hpa⟩ : ∃ x, x = p.a := ⟨_, rfl⟩
      obtain ⟨pc, hpc⟩ : ∃ x, x = p.c := ⟨_, rfl⟩
      obtain ⟨pl, hpl⟩ : ∃ x, x = p.r.b.length := ⟨_, rfl⟩
      rw [← hpn] at hc0
      rw [← hpt] at hc1
      rw [← hpv] at hc2
      rw [← hpa, ← hpc, ← hpl] at hc3
      rw [← hpn, ← hpt, ← hpv, ← hpa, ← hpc, ← hpl] at HSRC HC
      have HI := Lib.hid (show isNum num p = (pn == num) by rw [hpn]; rfl)
      clear hm hmm hin hat hok hfs hpm hd hpn hpt hpv hpa hpc hpl
      by_cases hq : (pn == num) = true
      · have HFS := Lib.hid (show (L.take (i + 1)).filter (isNum num) = (L.take i).filter (isNum num) ++ [p] by rw [filter_snoc num L i p hi, HI.out, hq]; rfl)
        clear hi
        go_wp2_with (at_builtin; refine wpList_mineF rfl (.tmp 20) (.tmp 25) rfl 0 w _ _ rfl (HM.out.on ((Kept.refl _ _).alloc _)) _ p rfl (by rw [HC.out]; exact HSRC.out) (HOK.out.kept ((Kept.refl _ _).alloc _)) HSEP.out (by have := HMM.out; have h1 := List.length_filter_le (isNum num) (L.take i); have h2 := List.length_take_le i L; have := HL.out; have := HN.out; omega) ?_; intro v6 w6 hm6 _; have HM6 := Lib.hid hm6; clear hm6)
        go_roundg (n - (i + 1))
        case measure => have := HD.out; omega
        case rel => exact ⟨i + 1, by have := HD.out; omega, rfl, by go_num, by rw [HFS.out]; exact HM6.out⟩
      · have hq : (pn == num) = false := by simpa using hq
        have HFS := Lib.hid (show (L.take (i + 1)).filter (isNum num) = (L.take i).filter (isNum num) by rw [filter_snoc num L i p hi, HI.out, hq]; simp)
        clear hi
        go_wp2
        go_roundg (n - (i + 1))
        case measure => have := HD.out; omega
        case rel => exact ⟨i + 1, by have := HD.out; omega, rfl, by go_num, by rw [HFS.out]; exact HM.out⟩
    · have hin : i = n := by omega
      have HE := Lib.hid (show L.take i = L from List.take_of_length_le (by have := HN.out; omega))
      subst hin
      have HMM2 := Lib.hid hmm
      clear hm hmm hd
      go_wp2
      go_ret
      have hm := HM.out
      have h2 := HMM2.out
      rw [HE.out] at hm h2
      rw [h2] at hm ⊢
      exact ⟨a5, c5, rfl, hm⟩

/-- Fields with those numbers, wherever their bytes lie. -/
def sameR (M L : List PR) : Prop := M.map (·.r) = L.map (·.r)
set_option maxHeartbeats 2000000 in
set_option maxRecDepth 100000 in
theorem wAll_any (ao : Option Addr) (c : Nat) (L : List PR) (num : Int) (w : World) (hr : FldsAt w ao L) (hl : L.length ≤ 100000) (hbl : ∀ p ∈ L, p.r.b.length ≤ 100000000000) :
    Calls Try.prog 15 #[.slice ao L.length c, .int .i64 num] w fun e w' => ∃ M a c', sameR M (L.filter (isNum num)) ∧ e = .returned (.slice a M.length c') ∧ MineF 0 w w' (.slice a M.length c') M := by
  have HR := Lib.hid hr
  have HL := Lib.hid hl
  have HB := Lib.hid hbl
  obtain ⟨n, hn⟩ : ∃ n, n = L.length := ⟨_, rfl⟩
  rw [← hn] at HL ⊢
  have HN := Lib.hid hn
  have HBL := Lib.hid hr.blt
  have hl9 : (n : Int) ≤ 100000 := by omega
  clear hr hl hn hbl
  go_enter Try.func15, Try.ntmps15
  go_wp2
  go_loopg [5, 10] n (fun x s5 s10 wr => ∃ (i : Nat) (M : List PR), i ≤ n ∧ x = n - i ∧ s10 = .int .i64 i ∧ sameR M ((L.take i).filter (isNum num)) ∧ MineF 0 w wr s5 M)
  case atStart => exact ⟨0, [], Nat.zero_le _, rfl, rfl, rfl, MineF.nil _ _⟩
  case round =>
    obtain ⟨i, M, hin, rfl, rfl, hsr, hm⟩ := hrel
    obtain ⟨a5, c5, e5⟩ := hm.slice
    subst e5
    have HM := Lib.hid hm
    have HSR := Lib.hid hsr
    have HMM := Lib.hid (show M.length ≤ 100000 by
      have h0 := congrArg List.length hsr
      rw [List.length_map, List.length_map] at h0
      have h1 := List.length_filter_le (isNum num) (L.take i)
      have h2 := List.length_take_le i L
      have := HL.out
      omega)
    obtain ⟨m, hmm⟩ : ∃ m, m = M.length := ⟨_, rfl⟩
    rw [← hmm] at HM HMM ⊢
    have HMN := Lib.hid hmm
    clear hmm hm hsr
    by_cases hd : i < n
    · obtain ⟨g, o, p, rfl, hi, hat, hok⟩ := (HR.out.kept HM.out.kept).get (i := i) (by have := HN.out; omega)
      have hc0 := hat.c0
      have hc1 := hat.c1
      have hc2 := hat.c2
      have hc3 := hat.c3
      have hpm : p ∈ L := List.mem_of_getElem? hi
      have HPL := Lib.hid (HB.out p hpm)
      have HOK := Lib.hid hok
      have HD := Lib.hid hd
      have hdi : (i : Int) < (n : Int) := by omega
      have hdi0 : (0 : Int) ≤ (i : Int) := by omega
      obtain ⟨pn, hpn⟩ : ∃ x, x = p.r.num := ⟨_, rfl⟩
      obtain ⟨pt, hpt⟩ : ∃ x, x = p.r.ty := ⟨_, rfl⟩
      obtain ⟨pv, hpv⟩ : ∃ x, x = p.r.v := ⟨_, rfl⟩
      obtain ⟨pa, hpa⟩ : ∃ x, x = p.a := ⟨_, rfl⟩
      obtain ⟨pc, hpc⟩ : ∃ x, x = p.c := ⟨_, rfl⟩
      obtain ⟨pl, hpl⟩ : ∃ x, x = p.r.b.length := ⟨_, rfl⟩
      rw [← hpn] at hc0
      rw [← hpt] at hc1
      rw [← hpv] at hc2
      rw [← hpa, ← hpc, ← hpl] at hc3
      have HI := Lib.hid (show isNum num p = (pn == num) by rw [hpn]; rfl)
      have HCL := Lib.hid fun w' h => wcloneF_any p w' h HPL.out
      rw [← hpn, ← hpt, ← hpv, ← hpa, ← hpc, ← hpl] at HCL
      have HC : Hid (∀ a1 c1, cellsP ⟨p.r, a1, c1⟩ = [.int .i64 p.r.num, .int .i64 p.r.ty, .int .u64 (p.r.v : Int), .slice a1 p.r.b.length c1]) := Lib.hid fun _ _ => rfl
      have HSRC : Hid (∀ (w : World) (a1 : Option Addr) (c1 : Nat), Src Try.prog 4 22 (.slice (some ⟨w.heap.size, 0, none⟩) 1 1) 1 [.int .i64 p.r.num, .int .i64 p.r.ty, .int .u64 (p.r.v : Int), .slice a1 p.r.b.length c1] (w.alloc (.cells #[.int .i64 p.r.num, .int .i64 p.r.ty, .int .u64 (p.r.v : Int), .slice a1 p.r.b.length c1] 40))) := Lib.hid fun w a1 c1 => src_oneF w ⟨p.r, a1, c1⟩
      rw [← hpn, ← hpt, ← hpv, ← hpl] at HC HSRC
      have HOKW := Lib.hid (hok.kept ((Kept.refl (fun _ => False) wr).alloc (.cells #[.int .i64 pn, .int .i64 pt, .int .u64 (pv : Int), .slice pa pl pc] 40)))
      have HMW := Lib.hid (HM.out.on ((Kept.refl (fun _ => False) wr).alloc (.cells #[.int .i64 pn, .int .i64 pt, .int .u64 (pv : Int), .slice pa pl pc] 40)))
      have HWB := Lib.hid (heap_alloc_new wr (.cells #[.int .i64 pn, .int .i64 pt, .int .u64 (pv : Int), .slice pa pl pc] 40))
      obtain ⟨wb, hwb⟩ : ∃ wb, wb = wr.alloc (.cells #[.int .i64 pn, .int .i64 pt, .int .u64 (pv : Int), .slice pa pl pc] 40) := ⟨_, rfl⟩
      rw [← hwb] at HOKW HMW HWB
      have HWE := Lib.hid hwb
      clear hin hat hok hpm hd hpn hpt hpv hpa hpc hpl hwb
      by_cases hq : (pn == num) = true
      · have HFS := Lib.hid (show (L.take (i + 1)).filter (isNum num) = (L.take i).filter (isNum num) ++ [p] by rw [filter_snoc num L i p hi, HI.out, hq]; rfl)
        clear hi
        go_upto_region 5 with fail
        rw [← HWE.out]
        have hbx := box4 HWB.out
        go_wp2_with (first
          | (go_at_call 25; refine (HCL.out _ HOKW.out).mono ?_; rintro e w1 ⟨a1, c1, rfl, hok1, hsep1, hk1⟩; have HO1 := Lib.hid hok1; have HS1 := Lib.hid hsep1; have HK1 := Lib.hid hk1; clear hok1 hsep1 hk1)
          | (at_builtin; refine wpList_mineF rfl (.tmp 18) (.tmp 21) rfl 0 w _ _ rfl (HMW.out.on (HK1.out.alloc _)) _ ⟨p.r, a1, c1⟩ rfl (by rw [HC.out]; exact HSRC.out _ _ _) (HO1.out.kept ((Kept.refl _ _).alloc _)) (fun _ a ha => ⟨fun e => by
              have h1 := (ownsRow_lt HMW.out.own e).1
              have h2 := HS1.out a ha
              omega, Nat.zero_le _⟩) (by have := HMM.out; have := HMN.out; omega) ?_; intro v6 w6 hm6 _; have HM6 := Lib.hid hm6; clear hm6))
        go_roundg (n - (i + 1))
        case measure => have := HD.out; omega
        case rel => exact ⟨i + 1, M ++ [⟨p.r, a1, c1⟩], by have := HD.out; omega, rfl, by go_num, by rw [HFS.out]; unfold sameR; rw [List.map_append, List.map_append]; have := HSR.out; unfold sameR at this; rw [this]; rfl, HM6.out⟩
      · have hq : (pn == num) = false := by simpa using hq
        have HFS := Lib.hid (show (L.take (i + 1)).filter (isNum num) = (L.take i).filter (isNum num) by rw [filter_snoc num L i p hi, HI.out, hq]; simp)
        clear hi
        go_upto_region 5 with fail
        rw [← HWE.out]
        have hbx := box4 HWB.out
        go_wp2
        go_roundg (n - (i + 1))
        case measure => have := HD.out; omega
        case rel => exact ⟨i + 1, M, by have := HD.out; omega, rfl, by go_num, by rw [HFS.out]; exact HSR.out, HMW.out⟩
    · have hin : i = n := by omega
      have HE := Lib.hid (show L.take i = L from List.take_of_length_le (by have := HN.out; omega))
      subst hin
      clear hd
      go_wp2
      go_ret
      have hm := HM.out
      have h2 := HSR.out
      rw [HE.out] at h2
      have h3 := HMN.out
      subst h3
      exact ⟨M, a5, c5, h2, rfl, hm⟩
end Go.Proofs.Ytdgpeganmgcjiaa
