/- package wire: Last, Packed, Unpacked. -/
import Derived.Test.YtdgpeganmgcjiaaY8
namespace Go.Proofs.Ytdgpeganmgcjiaa
open Go.RowKit
attribute [local go_sem ↓] Go.wp_at_zero Go.wp_at_succ

theorem results_ct {P : Program} {fn : Func} {p t : Tmp} {ty : TypeId} (h : fn.results = #[.cell p ty, .tmp t]) (tmps : Array Value) (w : World) (g : Nat) (t' : TypeId) (cs : Array Value) (fr : Nat × Nat) (d : TypeDesc)
    (hp : tmps.getD p undef = .pointer (some ⟨g, 0, none⟩)) (hg : w.heap[g]? = some (.cells cs t' fr))
    (hu : P.underlying ty = some d) (hd : (match d with | .struct _ | .array _ _ => true | _ => false) = true) (hi : (P.info? ty).map (·.size) = some cs.size) :
    (results fn tmps).run P w = .ok (.tuple #[.agg cs, tmps.getD t undef]) w := by
  have hp' : tmps[p]?.getD undef = .pointer (some ⟨g, 0, none⟩) := by simpa using hp
  simp [results, h, hp', asAddr, run_loadVar_row w g t' ty cs fr d hg hu hd hi]
theorem results_ctt {P : Program} {fn : Func} {p t u : Tmp} {ty : TypeId} (h : fn.results = #[.cell p ty, .tmp t, .tmp u]) (tmps : Array Value) (w : World) (g : Nat) (t' : TypeId) (cs : Array Value) (fr : Nat × Nat) (d : TypeDesc)
    (hp : tmps.getD p undef = .pointer (some ⟨g, 0, none⟩)) (hg : w.heap[g]? = some (.cells cs t' fr))
    (hu : P.underlying ty = some d) (hd : (match d with | .struct _ | .array _ _ => true | _ => false) = true) (hi : (P.info? ty).map (·.size) = some cs.size) :
    (results fn tmps).run P w = .ok (.tuple #[.agg cs, tmps.getD t undef, tmps.getD u undef]) w := by
  have hp' : tmps[p]?.getD undef = .pointer (some ⟨g, 0, none⟩) := by simpa using hp
  simp [results, h, hp', asAddr, run_loadVar_row w g t' ty cs fr d hg hu hd hi]

/-- What Last answers. -/
def LastGot (L : List PR) (num : Int) (w : World) (e : Ending) (w' : World) : Prop :=
  (L.filter (isNum num) = [] ∧ e = .returned (.tuple #[.agg #[.int .i64 0, .int .i64 0, .int .u64 0, .slice none 0 0], .bool false]) ∧ Kept (fun _ => False) w w') ∨
  ∃ M p a c, L.filter (isNum num) = M ++ [p] ∧ e = .returned (.tuple #[.agg #[.int .i64 p.r.num, .int .i64 p.r.ty, .int .u64 (p.r.v : Int), .slice a p.r.b.length c], .bool true]) ∧ FldOk w' ⟨p.r, a, c⟩ ∧ Kept (fun _ => False) w w'
theorem filter_drop (num : Int) (L : List PR) (j : Nat) (p : PR) (h : L[j]? = some p) (h0 : (L.drop (j + 1)).filter (isNum num) = []) : (isNum num p = false → (L.drop j).filter (isNum num) = []) ∧ (isNum num p = true → L.filter (isNum num) = (L.take j).filter (isNum num) ++ [p]) := by
  have hj := (List.getElem?_eq_some_iff.1 h).1
  have hd : L.drop j = p :: L.drop (j + 1) := by
    rw [List.drop_eq_getElem_cons hj]
    rw [List.getElem?_eq_getElem hj] at h
    injection h with h; rw [h]
  refine ⟨fun e => by rw [hd, List.filter_cons, e, h0]; rfl, fun e => ?_⟩
  conv => lhs; rw [← List.take_append_drop j L, List.filter_append, hd, List.filter_cons, e, h0]
  rfl

set_option maxHeartbeats 2000000 in
set_option maxRecDepth 100000 in
theorem wLast_any (ao : Option Addr) (c : Nat) (L : List PR) (num : Int) (w : World) (hr : FldsAt w ao L) (hl : L.length ≤ 100000) (hbl : ∀ p ∈ L, p.r.b.length ≤ 100000000000) :
    Calls Try.prog 14 #[.slice ao L.length c, .int .i64 num] w (LastGot L num w) := by
  have HR := Lib.hid hr
  have HB := Lib.hid hbl
  obtain ⟨n, hn⟩ : ∃ n, n = L.length := ⟨_, rfl⟩
  have HN := Lib.hid hn
  have hl9 : (n : Int) ≤ 100000 := by omega
  have HK0 := Lib.hid ((Kept.refl (fun _ => False) w).alloc (.cells #[.int .i64 0, .int .i64 0, .int .u64 0, .slice none 0 0] 40))
  have HB0 := Lib.hid (heap_alloc_new w (.cells #[.int .i64 0, .int .i64 0, .int .u64 0, .slice none 0 0] 40))
  obtain ⟨w0, hw0⟩ : ∃ w0, w0 = w.alloc (.cells #[.int .i64 0, .int .i64 0, .int .u64 0, .slice none 0 0] 40) := ⟨_, rfl⟩
  rw [← hw0] at HK0 HB0
  rw [← hn]
  have HW0 := Lib.hid hw0
  clear hr hl hbl hn hw0
  go_enter Try.func14, Try.ntmps14
  go_upto_region 1 with fail
  rw [← HW0.out]
  go_wp2
  go_loopg [6] n (fun x s6 wr => ∃ (j : Nat) (u : Int), j ≤ n ∧ x = 0 + j ∧ u + 1 = (j : Int) ∧ s6 = .int .i64 u ∧ (L.drop j).filter (isNum num) = [] ∧ w0 = wr)
  case atStart => exact ⟨n, (n : Int) - 1, Nat.le_refl _, by omega, by omega, rfl, by rw [HN.out, List.drop_length]; rfl, rfl⟩
  case round =>
    obtain ⟨j, u, hj, rfl, hu, rfl, hdr, rfl⟩ := hrel
    have HD := Lib.hid hdr
    have HJ := Lib.hid hj
    clear hdr
    by_cases h0 : j = 0
    · subst h0
      have hu1 : u = -1 := by omega
      subst hu1
      clear hu hj
      have hbx := box4 HB0.out
      go_wp2
      refine bodyPost_ret (v := .tuple #[.agg #[.int .i64 0, .int .i64 0, .int .u64 0, .slice none 0 0], .bool false]) ?_ rfl ?_
      · exact results_ct Try.results14 _ _ w.heap.size 40 _ (0, 0) _ rfl (four_set HB0.out) Try.underlying40 rfl fld_info
      · exact .inl ⟨by simpa using HD.out, rfl, four_kept HK0.out (.inl (Nat.le_refl _))⟩
    · obtain ⟨i, rfl⟩ : ∃ i, j = i + 1 := ⟨j - 1, by omega⟩
      have hu1 : u = (i : Int) := by omega
      subst hu1
      obtain ⟨g, o, p, rfl, hi, hat, hok⟩ := (HR.out.kept HK0.out).get (i := i) (by have := HN.out; omega)
      have hc0 := hat.c0
      have hc1 := hat.c1
      have hc2 := hat.c2
      have hc3 := hat.c3
      have hpm : p ∈ L := List.mem_of_getElem? hi
      have HOK := Lib.hid hok
      have hfd := filter_drop num L i p hi HD.out
      have hdi : (i : Int) < (n : Int) := by omega
      have hdi0 : (0 : Int) ≤ (i : Int) := by omega
      have HP := Lib.hid (And.intro hok.num (And.intro hok.ty hok.v))
      have HPL := Lib.hid (HB.out p hpm)
      obtain ⟨pn, hpn⟩ : ∃ x, x = p.r.num := ⟨_, rfl⟩
      obtain ⟨pt, hpt⟩ : ∃ x, x = p.r.ty := ⟨_, rfl⟩
      obtain ⟨pv, hpv⟩ : ∃ x, x = p.r.v := ⟨_, rfl⟩
      obtain ⟨pa, hpa⟩ : ∃ x, x = p.a := ⟨_, rfl⟩
      obtain ⟨pc, hpc⟩ : ∃ x, x = p.c := ⟨_, rfl⟩
      obtain ⟨pl, hpl⟩ : ∃ x, x = p.r.b.length := ⟨_, rfl⟩
      rw [← hpn] at hc0
      rw [← hpt] at hc1
      rw [← hpv] at hc2
      rw [← hpa, ← hpc, ← hpl] at hc3
      have hI : isNum num p = (pn == num) := by rw [hpn]; rfl
      rw [hI] at hfd
      have HCL := Lib.hid fun w' h => wcloneF_any p w' h HPL.out
      rw [← hpn, ← hpt, ← hpv, ← hpa, ← hpc, ← hpl] at HCL
      have HE := Lib.hid (show ∀ (a : Option Addr) (c : Nat), (Value.agg #[.int .i64 pn, .int .i64 pt, .int .u64 (pv : Int), .slice a pl c] = .agg #[.int .i64 p.r.num, .int .i64 p.r.ty, .int .u64 (p.r.v : Int), .slice a p.r.b.length c]) by
        intro a c; rw [hpn, hpt, hpv, hpl])
      clear hat hok hpm hpn hpt hpv hpa hpc hpl hu h0 hj
      by_cases hq : (pn == num) = true
      · have HF := Lib.hid (hfd.2 hq)
        clear hfd hI hi
        go_wp2_with fail
        refine (HCL.out _ HOK.out).mono ?_
        rintro e w1 ⟨a1, c1, rfl, hok1, hsep1, hk1⟩
        have HO1 := Lib.hid hok1
        have HK1 := Lib.hid hk1
        have HS1 := Lib.hid hsep1
        have HB1 := Lib.hid (hk1.same HB0.out (fun x => x))
        clear hok1 hsep1 hk1
        have hbx := box4 HB1.out
        go_wp2
        refine bodyPost_ret (v := .tuple #[.agg #[.int .i64 pn, .int .i64 pt, .int .u64 (pv : Int), .slice a1 pl c1], .bool true]) ?_ rfl ?_
        · exact results_ct Try.results14 _ _ w.heap.size 40 _ (0, 0) _ rfl (four_set HB1.out) Try.underlying40 rfl fld_info
        · refine .inr ⟨_, p, a1, c1, HF.out, by rw [← HE.out], ?_, four_kept (HK0.out.trans HK1.out) (.inl (Nat.le_refl _))⟩
          refine HO1.out.keptS (four_kept (S := fun k => k = w.heap.size) (Kept.refl _ _) (.inr rfl)) (fun _ x hx => ?_)
          have h1 := (HS1.out x hx).1
          have h2 := (Array.getElem?_eq_some_iff.1 HB0.out).1
          omega
      · have hq : (pn == num) = false := by simpa using hq
        have HF := Lib.hid (hfd.1 hq)
        clear hfd hI hi
        go_wp2
        go_roundg i
        case measure => omega
        case rel => exact ⟨i, (i : Int) - 1, by have := HJ.out; omega, by omega, by omega, by go_num, HF.out, rfl⟩

/-- Variable numbers, one behind the other. -/
def packW (l : List Nat) : List Nat := l.flatMap varW
theorem packW_length (l : List Nat) : (packW l).length ≤ l.length * 10 := by
  induction l with
  | nil => simp [packW]
  | cons v l ih =>
    have := varW_le v
    unfold packW at ih ⊢
    rw [List.flatMap_cons, List.length_append, List.length_cons]; omega
theorem take_snocN (l : List Nat) (i : Nat) (h : i < l.length) : l.take (i + 1) = l.take i ++ [l.getD i 0] := by
  rw [List.take_succ_eq_append_getElem h, List.getD_eq_getElem?_getD, List.getElem?_eq_getElem h]; rfl
theorem packW_take_le (l : List Nat) (i : Nat) : (packW (l.take i)).length ≤ l.length * 10 := by
  have h1 := packW_length (l.take i)
  have h2 := List.length_take_le' i l
  omega
set_option maxHeartbeats 2000000 in
set_option maxRecDepth 100000 in
theorem wPacked_any (v : Value) (l : List Nat) (w : World) (hv : SlAt w v (uvals l)) (hb : ∀ x ∈ l, x < 18446744073709551616) (hl : l.length ≤ 100000) :
    Calls Try.prog 16 #[v] w fun e w' => ∃ a c, e = .returned (.slice a (packW l).length c) ∧ Mine w w' 5 (.slice a (packW l).length c) (bys (packW l)) := by
  have HV := Lib.hid hv
  have HB := Lib.hid hb
  obtain ⟨ao, c, hval, _, _⟩ := hv.val
  rw [uvals_length] at hval
  subst hval
  obtain ⟨n, hn⟩ : ∃ n, n = l.length := ⟨_, rfl⟩
  have HN := Lib.hid hn
  have hl9 : (n : Int) ≤ 100000 := by omega
  rw [← hn] at HV ⊢
  clear hv hb hl hn
  go_enter Try.func16, Try.ntmps16
  go_wp2
  go_loopg [3, 8] n (fun x s3 s8 wr => ∃ i : Nat, i ≤ n ∧ x = n - i ∧ s8 = .int .i64 i ∧ Mine w wr 5 s3 (bys (packW (l.take i))))
  case atStart => exact ⟨0, Nat.zero_le _, rfl, rfl, Mine.nil _ _⟩
  case round =>
    obtain ⟨i, hin, rfl, rfl, hm⟩ := hrel
    obtain ⟨a3, c3, e3⟩ := hm.slice
    rw [bys_length] at e3
    subst e3
    have HM := Lib.hid hm
    have HPL := Lib.hid (packW_take_le l i)
    obtain ⟨m, hmm⟩ : ∃ m, m = (packW (l.take i)).length := ⟨_, rfl⟩
    have HMM := Lib.hid hmm
    rw [← hmm] at HM ⊢
    clear hmm
    by_cases hd : i < n
    · obtain ⟨g, o, rfl, hc⟩ := (HV.out.kept hm.kept (fun _ _ x => x)).elem (uvals_get (l := l) (j := i) (by have := HN.out; omega))
      have hlt := HB.out (l.getD i 0) (by
        rw [List.getD_eq_getElem?_getD, List.getElem?_eq_getElem (by have := HN.out; omega)]; exact List.getElem_mem _)
      have HT := Lib.hid (take_snocN l i (by have := HN.out; omega))
      obtain ⟨X, hX⟩ : ∃ X, X = l.getD i 0 := ⟨_, rfl⟩
      rw [← hX] at hc hlt HT
      have HLT := Lib.hid hlt
      have HX1 : Hid (packW (l.take (i + 1)) = packW (l.take i) ++ varW X) := by
        show _ = _
        rw [HT.out]; unfold packW; simp
      have hdi : (i : Int) < (n : Int) := by omega
      have hdi0 : (0 : Int) ≤ (i : Int) := by omega
      have HD := Lib.hid hd
      have HVL := Lib.hid (varW_le X).2
      clear hm hX hlt hd hin
      go_wp2_with (first
        | (go_at_call 19; refine (wvar_any X HLT.out _).mono ?_; rintro e w1 ⟨a1, c1, rfl, hm1⟩; have HM1 := Lib.hid hm1; clear hm1)
        | (at_builtin; refine wpList_mine8 rfl (.tmp 12) (.tmp 14) rfl w _ (bys (packW (l.take i))) rfl (HM.out.on HM1.out.kept) _ (bys (varW X)) rfl (by have := HM1.out.src (P := Try.prog) (Kept.refl _ _) Try.underlying25 (bys_one _); exact this) (by rw [bys_length, bys_length]; have := HPL.out; have := HVL.out; have := HN.out; omega) ?_; intro v6 w6 hm6; have HM6 := Lib.hid hm6; clear hm6))
      go_roundg (n - (i + 1))
      case measure => have := HD.out; omega
      case rel => exact ⟨i + 1, by have := HD.out; omega, rfl, by go_num, by rw [HX1.out, bys_append]; exact HM6.out⟩
    · have hin : i = n := by omega
      have HE := Lib.hid (show l.take i = l from List.take_of_length_le (by have := HN.out; omega))
      subst hin
      clear hm hd
      go_wp2
      go_ret
      have h1 := HM.out
      have h2 := HMM.out
      rw [HE.out] at h1 h2
      rw [h2] at h1 ⊢
      exact ⟨a3, c3, rfl, h1⟩
end Go.Proofs.Ytdgpeganmgcjiaa
