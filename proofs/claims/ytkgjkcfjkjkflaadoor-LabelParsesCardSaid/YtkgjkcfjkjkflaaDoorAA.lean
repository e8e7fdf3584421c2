/- Layer 11: the document's Sorted (written by tools/gen_XAA.py). -/
import Derived.Test.YtkgjkcfjkjkflaaDoorA9
namespace Go.Proofs.YtkgjkcfjkjkflaaDoor
open Go.RowKit
attribute [local go_sem ↓] Go.wp_at_zero Go.wp_at_succ

theorem run_cutLn {P : Program} {t E : TypeId} {i : TypeInfo} {s : Nat} (ht : P.underlying t = some (.slice E)) (hi : P.info? E = some i) (hs : i.size = s) (a : Option Addr) (len cap lo : Nat) (hlo : lo ≤ len) (w : World) :
    (Instr.slice t (.slice a len cap) (some (.int .i64 (lo : Int))) none none).run P w = .ok (.slice (if cap = lo then a else a.map (·.add (lo * s))) (len - lo) (cap - lo)) w := by
  have he : P.elem t = E := by simp [Program.elem, ht]
  rw [run_slice_l w t a len cap (by rw [he]; exact ht) .i64 lo (by omega) (by omega), he]
  simp [sizeOf, typeInfo, hi, hs, sliced]
theorem run_cutLnAt {P : Program} {t E : TypeId} {i : TypeInfo} {s : Nat} (ht : P.underlying t = some (.slice E)) (hi : P.info? E = some i) (hs : i.size = s) (a : Option Addr) (len cap lo : Nat) (hlo : lo ≤ len) (w : World) :
    (Instr.sliceAt t (.slice a len cap) (some (.int .i64 (lo : Int))) none none).run P w = .ok (.slice (if cap = lo then a else a.map (·.add (lo * s))) (len - lo) (cap - lo)) w := by
  have he : P.elem t = E := by simp [Program.elem, ht]
  rw [run_sliceAt_slice w t _ _ _ _ (by rw [he]; exact ht)]
  exact run_cutLn ht hi hs a len cap lo hlo w
theorem PsAt.drop {W : World} {ao : Option Addr} {L : List Pr} {cap : Nat} (h : PsAt W ao L) (lo : Nat) (hc : L.length ≤ cap) : PsAt W (if cap = lo then ao else ao.map (·.add (lo * 2))) (L.drop lo) := by
  intro h0
  rw [List.length_drop] at h0
  obtain ⟨g, o, e, hr⟩ := h (by omega)
  rw [if_neg (by omega), e]
  refine ⟨g, o + lo * 2, ?_, fun i p hi => ?_⟩
  · show some ((⟨g, o, none⟩ : Addr).add (lo * 2)) = _
    have e : (⟨g, o, none⟩ : Addr).add (lo * 2) = ⟨g, o + lo * 2, none⟩ := by unfold Addr.add; split <;> simp_all
    rw [e]
  · rw [List.getElem?_drop] at hi
    have := hr (lo + i) p hi
    rw [show o + (lo + i) * 2 = o + lo * 2 + i * 2 by omega] at this
    exact this
theorem src_oneP (w : World) (p : Pr) : Src Tryd.prog 2 22 (.slice (some ⟨w.heap.size, 0, none⟩) 1 1) 1 (flatP [p]) (w.alloc (.cells #[.string p.k, .string p.v] 40)) :=
  Src.ofSlice _ Tryd.underlying22 _ 1 1 (flatP [p]) rfl (World.news_of_block (cs := #[.string p.k, .string p.v]) (t := 40) (fr := (0, 0)) (heap_alloc_new w _)) (flatP_one [p])

set_option maxHeartbeats 8000000 in
set_option maxRecDepth 100000 in
theorem refSorted11_any (ao : Option Addr) (c : Nat) (L : List Pr) (w : World) (hv : PsAt w ao L) (hl : L.length ≤ 1000000) :
    Calls Tryd.prog 14 #[.slice ao L.length c] w fun e w' => ∃ v, e = .returned v ∧ MineP w w' v (sortP L) := by
  have HR := Lib.hid hv
  have HL := Lib.hid hl
  obtain ⟨n, hn⟩ : ∃ n, n = L.length := ⟨_, rfl⟩
  have HN := Lib.hid hn
  rw [← hn]
  obtain ⟨iP, hiP, hzP0, hzP1, hzP2⟩ := info_parts Tryd.infoPair
  have HT := Lib.hid (show sortP (L.take n) = sortP L by rw [hn, List.take_length])
  clear hv hl hn hzP0 hzP2
  go_enter Tryd.func14, Tryd.ntmps14
  go_wp2
  go_loopg [3, 4] n (fun g s3 s4 wr => ∃ i : Nat, i ≤ n ∧ g = n - i ∧ s4 = .int .i64 i ∧ MineP w wr s3 (sortP (L.take i)))
  case atStart => exact ⟨0, Nat.zero_le _, rfl, rfl, MineP.nil (Kept.refl _ _)⟩
  case round =>
    obtain ⟨i, hin, rfl, rfl, hx⟩ := hrel
    by_cases hd : i < n
    · have hdi : (i : Int) < (n : Int) := by omega
      have hi0 : (0 : Int) ≤ (i : Int) := by omega
      have HD := Lib.hid hd
      have wi : IntKind.i64.wrap ((i : Int) + 1) = ((i + 1 : Nat) : Int) := by rw [IntWalk.i64_in _ ⟨by omega, by have := HL.out; have := HN.out; omega⟩]; omega
      have hiL : i < L.length := by have := HN.out; omega
      have hLi := List.getElem?_eq_getElem hiL
      have hsc := sortP_take_succ hLi
      obtain ⟨ga, oa, rfl, hrec⟩ := HR.out (by omega)
      have hel := hrec i L[i] hLi
      obtain ⟨x, hxx⟩ : ∃ x, x = L[i] := ⟨_, rfl⟩
      rw [← hxx] at hsc hel
      obtain ⟨A, hA⟩ : ∃ A, A = sortP (L.take i) := ⟨_, rfl⟩
      have hAl : A.length = i := by rw [hA, sortP_length, List.length_take]; omega
      rw [← hA] at hx hsc
      obtain ⟨xo, co, ev⟩ := hx.slice
      rw [hAl] at ev
      subst ev
      have HX := Lib.hid hx
      have HSC := Lib.hid hsc
      have HAL := Lib.hid hAl
      have HEL := Lib.hid (hel.keptS hx.kept (fun x => x))
      have HCO := Lib.hid (show i ≤ co by have h := own_cap hx.own; omega)
      clear hd hin hiL hLi hsc hrec hel hxx hA hAl hx
      obtain ⟨wo, hwo⟩ : ∃ w', w' = wr := ⟨_, rfl⟩
      subst hwo
      go_wp2
      go_loopg [5] (2 * i) (fun g2 s5 ws => ∃ k : Nat, k ≤ i ∧ g2 = 2 * k ∧ s5 = .int .i64 k ∧ plc A x i = plc A x k ∧ Kept (fun _ => False) wo ws)
      case atStart => exact ⟨i, Nat.le_refl _, rfl, rfl, rfl, Kept.refl _ _⟩
      case round =>
        obtain ⟨K, hKi, rfl, rfl, hp, kw⟩ := hrel
        have HP := Lib.hid hp
        have HKI := Lib.hid hKi
        have HK := Lib.hid kw
        clear hp hKi kw
        rcases Nat.eq_zero_or_pos K with hK0 | hK0
        · have HK2 := Lib.hid (HK.out.drew)
          have HPE := Lib.hid (show plc A x A.length = K by rw [HAL.out, HP.out, hK0]; rfl)
          have hgt : ¬ (0 : Int) < (K : Int) := by omega
          have hgd : decide ((0 : Int) < (K : Int)) = false := decide_eq_false hgt
          have hgn : decide (0 < K) = false := decide_eq_false (by omega)
          have hgN : ¬ 0 < K := by omega
          clear hK0
          go_upto_region 6 with fail
          refine AnyBut.start (S := fun _ => True) (k := 16) (by kernel_rfl) ?_
          refine AnyBut.takeS (i := 0) (v := ?v1) rfl (by kernel_rfl) (Nat.le_of_eq (by kernel_rfl)) (by kernel_rfl) (by kernel_rfl) (fun _ _ _ h => h) (trivial) (Or.inl ⟨by kernel_rfl, ?hy1⟩) ?r1
          case hy1 =>
            intro w hSw
            try dsimp only at hSw
            go_simp
            try with_reducible rfl
          try simp only [Act.put, List.getElem_toArray, List.getElem_cons_zero, List.setIfInBounds_toArray, List.set_cons_zero, List.set_cons_succ]
          refine AnyBut.takeS (i := 1) (v := ?v2) rfl (by kernel_rfl) (Nat.le_of_eq (by kernel_rfl)) (by kernel_rfl) (by kernel_rfl) (fun _ _ _ h => h) (trivial) (Or.inl ⟨by kernel_rfl, ?hy2⟩) ?r2
          case hy2 =>
            intro w hSw
            try dsimp only at hSw
            go_simp
            try with_reducible rfl
          try simp only [Act.put, List.getElem_toArray, List.getElem_cons_succ, List.getElem_cons_zero, List.setIfInBounds_toArray, List.set_cons_zero, List.set_cons_succ]
          refine AnyBut.takeS (i := 2) (v := ?v3) rfl (by kernel_rfl) (Nat.le_of_eq (by kernel_rfl)) (by kernel_rfl) (by kernel_rfl) (fun _ _ _ h => h) (trivial) (Or.inl ⟨by kernel_rfl, ?hy3⟩) ?r3
          case hy3 =>
            intro w hSw
            try dsimp only at hSw
            go_simp
            try with_reducible rfl
          try simp only [Act.put, List.getElem_toArray, List.getElem_cons_succ, List.getElem_cons_zero, List.setIfInBounds_toArray, List.set_cons_zero, List.set_cons_succ]
          refine AnyBut.takeS (i := 3) (v := undef) rfl (by kernel_rfl) (Nat.le_of_eq (by kernel_rfl)) (by kernel_rfl) (by kernel_rfl) (fun _ _ _ h => h) (trivial) (Or.inr ⟨by kernel_rfl, rfl⟩) ?r4
          try simp only [Act.put, List.getElem_toArray, List.getElem_cons_succ, List.getElem_cons_zero, List.setIfInBounds_toArray, List.set_cons_zero, List.set_cons_succ]
          refine AnyBut.takeS (i := 4) (v := undef) rfl (by kernel_rfl) (Nat.le_of_eq (by kernel_rfl)) (by kernel_rfl) (by kernel_rfl) (fun _ _ _ h => h) (trivial) (Or.inr ⟨by kernel_rfl, rfl⟩) ?r5
          try simp only [Act.put, List.getElem_toArray, List.getElem_cons_succ, List.getElem_cons_zero, List.setIfInBounds_toArray, List.set_cons_zero, List.set_cons_succ]
          refine AnyBut.takeS (i := 5) (v := undef) rfl (by kernel_rfl) (Nat.le_of_eq (by kernel_rfl)) (by kernel_rfl) (by kernel_rfl) (fun _ _ _ h => h) (trivial) (Or.inr ⟨by kernel_rfl, rfl⟩) ?r6
          try simp only [Act.put, List.getElem_toArray, List.getElem_cons_succ, List.getElem_cons_zero, List.setIfInBounds_toArray, List.set_cons_zero, List.set_cons_succ]
          refine AnyBut.takeS (i := 6) (v := undef) rfl (by kernel_rfl) (Nat.le_of_eq (by kernel_rfl)) (by kernel_rfl) (by kernel_rfl) (fun _ _ _ h => h) (trivial) (Or.inr ⟨by kernel_rfl, rfl⟩) ?r7
          try simp only [Act.put, List.getElem_toArray, List.getElem_cons_succ, List.getElem_cons_zero, List.setIfInBounds_toArray, List.set_cons_zero, List.set_cons_succ]
          refine AnyBut.takeS (i := 7) (v := undef) rfl (by kernel_rfl) (Nat.le_of_eq (by kernel_rfl)) (by kernel_rfl) (by kernel_rfl) (fun _ _ _ h => h) (trivial) (Or.inr ⟨by kernel_rfl, rfl⟩) ?r8
          try simp only [Act.put, List.getElem_toArray, List.getElem_cons_succ, List.getElem_cons_zero, List.setIfInBounds_toArray, List.set_cons_zero, List.set_cons_succ]
          refine AnyBut.takeS (i := 8) (v := undef) rfl (by kernel_rfl) (Nat.le_of_eq (by kernel_rfl)) (by kernel_rfl) (by kernel_rfl) (fun _ _ _ h => h) (trivial) (Or.inr ⟨by kernel_rfl, rfl⟩) ?r9
          try simp only [Act.put, List.getElem_toArray, List.getElem_cons_succ, List.getElem_cons_zero, List.setIfInBounds_toArray, List.set_cons_zero, List.set_cons_succ]
          refine AnyBut.takeS (i := 9) (v := undef) rfl (by kernel_rfl) (Nat.le_of_eq (by kernel_rfl)) (by kernel_rfl) (by kernel_rfl) (fun _ _ _ h => h) (trivial) (Or.inr ⟨by kernel_rfl, rfl⟩) ?r10
          try simp only [Act.put, List.getElem_toArray, List.getElem_cons_succ, List.getElem_cons_zero, List.setIfInBounds_toArray, List.set_cons_zero, List.set_cons_succ]
          refine AnyBut.takeS (i := 10) (v := undef) rfl (by kernel_rfl) (Nat.le_of_eq (by kernel_rfl)) (by kernel_rfl) (by kernel_rfl) (fun _ _ _ h => h) (trivial) (Or.inr ⟨by kernel_rfl, rfl⟩) ?r11
          try simp only [Act.put, List.getElem_toArray, List.getElem_cons_succ, List.getElem_cons_zero, List.setIfInBounds_toArray, List.set_cons_zero, List.set_cons_succ]
          refine AnyBut.takeS (i := 11) (v := undef) rfl (by kernel_rfl) (Nat.le_of_eq (by kernel_rfl)) (by kernel_rfl) (by kernel_rfl) (fun _ _ _ h => h) (trivial) (Or.inr ⟨by kernel_rfl, rfl⟩) ?r12
          try simp only [Act.put, List.getElem_toArray, List.getElem_cons_succ, List.getElem_cons_zero, List.setIfInBounds_toArray, List.set_cons_zero, List.set_cons_succ]
          refine AnyBut.takeS (i := 12) (v := undef) rfl (by kernel_rfl) (Nat.le_of_eq (by kernel_rfl)) (by kernel_rfl) (by kernel_rfl) (fun _ _ _ h => h) (trivial) (Or.inr ⟨by kernel_rfl, rfl⟩) ?r13
          try simp only [Act.put, List.getElem_toArray, List.getElem_cons_succ, List.getElem_cons_zero, List.setIfInBounds_toArray, List.set_cons_zero, List.set_cons_succ]
          refine AnyBut.takeS (i := 13) (v := undef) rfl (by kernel_rfl) (Nat.le_of_eq (by kernel_rfl)) (by kernel_rfl) (by kernel_rfl) (fun _ _ _ h => h) (trivial) (Or.inr ⟨by kernel_rfl, rfl⟩) ?r14
          try simp only [Act.put, List.getElem_toArray, List.getElem_cons_succ, List.getElem_cons_zero, List.setIfInBounds_toArray, List.set_cons_zero, List.set_cons_succ]
          refine AnyBut.takeS (i := 14) (v := undef) rfl (by kernel_rfl) (Nat.le_of_eq (by kernel_rfl)) (by kernel_rfl) (by kernel_rfl) (fun _ _ _ h => h) (trivial) (Or.inr ⟨by kernel_rfl, rfl⟩) ?r15
          try simp only [Act.put, List.getElem_toArray, List.getElem_cons_succ, List.getElem_cons_zero, List.setIfInBounds_toArray, List.set_cons_zero, List.set_cons_succ]
          refine AnyBut.takeS (i := 15) (v := ?v16) rfl (by kernel_rfl) (Nat.le_of_eq (by kernel_rfl)) (by kernel_rfl) (by kernel_rfl) (fun _ _ _ h => h) (trivial) (Or.inl ⟨by kernel_rfl, ?hy16⟩) ?r16
          case hy16 =>
            intro w hSw
            try dsimp only at hSw
            go_simp
            try with_reducible rfl
          try simp only [Act.put, List.getElem_toArray, List.getElem_cons_succ, List.getElem_cons_zero, List.setIfInBounds_toArray, List.set_cons_zero, List.set_cons_succ]
          refine AnyBut.done (by kernel_rfl) ?_
          obtain ⟨wd, hwd⟩ : ∃ w', w' = wr.drew := ⟨_, rfl⟩
          rw [← hwd] at HK2 ⊢
          clear hwd
          obtain ⟨xk, xv⟩ := x
          have htl : (A.take K).length = K := by rw [List.length_take]; have := HAL.out; have := HKI.out; omega
          have hdl : (A.drop K).length = i - K := by rw [List.length_drop]; have := HAL.out; omega
          have HX2 := Lib.hid (HX.out.on HK2.out)
          have hpt : PsAt wd xo (A.take K) := HX2.out.at_.take K
          have hs1 := PsAt.src (c := co) hpt (fun _ => trivial)
          rw [htl] at hs1
          have HS1 := Lib.hid hs1
          have HTL := Lib.hid (And.intro htl hdl)
          have hK2 : K ≤ co := by have := HKI.out; have := HCO.out; omega
          have hKi2 : K ≤ i := HKI.out
          have hcut : ∀ w, _ := fun w => run_cutHn (P := Tryd.prog) Tryd.underlying22 hiP xo i co K hK2 w
          have hcutA : ∀ w, _ := fun w => run_cutHnAt (P := Tryd.prog) Tryd.underlying22 hiP xo i co K hK2 w
          have hcutB : ∀ w, _ := fun w => run_cutLn (P := Tryd.prog) Tryd.underlying22 hiP hzP1 xo i co K hKi2 w
          have hcutC : ∀ w, _ := fun w => run_cutLnAt (P := Tryd.prog) Tryd.underlying22 hiP hzP1 xo i co K hKi2 w
          obtain ⟨AD, hAD⟩ : ∃ a : Option Addr, a = (if co = K then xo else Option.map (fun x => Addr.add x (K * 2)) xo) := ⟨_, rfl⟩
          rw [← hAD] at hcutB hcutC
          have HAD := Lib.hid hAD
          obtain ⟨dl, hdl2⟩ : ∃ k, k = i - K := ⟨_, rfl⟩
          rw [← hdl2] at hcutB hcutC
          have HDL := Lib.hid hdl2
          obtain ⟨dc, hdc⟩ : ∃ k, k = co - K := ⟨_, rfl⟩
          rw [← hdc] at hcutB hcutC
          have HM0 := Lib.hid (MineP.nil (Kept.refl (fun _ => False) wd))
          have HOB := Lib.hid (show ∀ k, (Value.slice xo i co).ownBlock = some k → k < wd.heap.size from fun k e => (ownsRow_lt HX2.out.own e).1)
          have HSZ := Lib.hid (show i ≤ 1000000 ∧ K ≤ 1000000 from ⟨by have := HL.out; have := HN.out; have := HD.out; omega, by have := HKI.out; have := HL.out; have := HN.out; have := HD.out; omega⟩)
          have HEL2 := Lib.hid (PElt.keptS HEL.out HK2.out (fun x => x))
          clear hpt hs1 htl hdl hK2 hKi2 hAD hdl2 hdc
          go_upto_region 10 with (at_builtin; refine wpList_mineP rfl (.tmp 33) (.tmp 36) rfl wd _ [] rfl HM0.out _ (A.take K) K HTL.out.1 rfl HS1.out (by have := HSZ.out; simp; omega) ?_; intro v1 w1 hm1 hk1; have HM1 := Lib.hid (show MineP wd w1 v1 (A.take K) by simpa using hm1); clear hm1 hk1)
          clear hcut hcutA
          have hx3 := HEL2.out.keptS HM1.out.kept (fun x => x)
          obtain ⟨x0, x1⟩ := hx3
          dsimp only at x0 x1
          have ke : Kept (fun _ => False) w1 (w1.alloc (.cells #[.string xk, .string xv] 40)) := (Kept.refl _ _).alloc _
          have HM1e := Lib.hid (HM1.out.on ke)
          have HSe := Lib.hid (src_oneP w1 ⟨xk, xv⟩)
          dsimp only at HSe
          clear ke
          go_upto_region 11 with (at_builtin; refine wpList_mineP rfl (.tmp 38) (.tmp 43) rfl wd _ (A.take K) rfl HM1e.out _ [⟨xk, xv⟩] 1 rfl rfl HSe.out (by have := HTL.out.1; have := HSZ.out; omega) ?_; intro v2 w2 hm2 hk2; have HM2 := Lib.hid hm2; clear hm2 hk2)
          clear x0 x1
          have HX3 := Lib.hid (HX2.out.on HM2.out.kept)
          have hdr := PsAt.drop HX3.out.at_ K (by rw [HAL.out]; exact HCO.out)
          rw [← HAD.out] at hdr
          have hs3 := PsAt.src (c := dc) hdr (fun _ => trivial)
          rw [HTL.out.2, ← HDL.out] at hs3
          have HS3 := Lib.hid hs3
          clear hdr hs3
          go_upto_region 4 with (at_builtin; refine wpList_mineP rfl (.tmp 45) (.tmp 48) rfl wd _ (A.take K ++ [(⟨xk, xv⟩ : Pr)]) rfl HM2.out _ (A.drop K) dl (by rw [HTL.out.2, HDL.out]) rfl HS3.out (by have h1 := HTL.out.1; have := HSZ.out; have := HDL.out; rw [List.length_append, h1]; simp; omega) ?_; intro v3 w3 hm3 hk3; have HM3 := Lib.hid hm3; clear hm3 hk3)
          have hfin : MineP w w3 v3 (sortP (L.take (i + 1))) := by
            have h := HM3.out.down (HX.out.kept.trans HK2.out)
            rw [HSC.out]
            unfold insP
            rw [HPE.out]
            rw [List.append_assoc] at h
            exact h
          have HFIN := Lib.hid hfin
          clear hfin
          go_wp2
          go_roundg (n - (i + 1))
          case measure => have := HD.out; omega
          case rel => exact ⟨i + 1, HD.out, rfl, rfl, HFIN.out⟩
        · obtain ⟨j, hj⟩ : ∃ j, K = j + 1 := ⟨K - 1, by omega⟩
          have hgt : (0 : Int) < (K : Int) := by omega
          have hgd : decide ((0 : Int) < (K : Int)) = true := decide_eq_true hgt
          have hgn : decide (0 < K) = true := decide_eq_true hK0
          have wj : IntKind.i64.wrap ((K : Int) - 1) = (j : Int) := by rw [IntWalk.i64_in _ ⟨by omega, by have := HKI.out; have := HD.out; have := HL.out; have := HN.out; omega⟩]; omega
          have hji : (j : Int) < (i : Int) := by have := HKI.out; omega
          have hj00 : (0 : Int) ≤ (j : Int) := by omega
          have hjA : j < A.length := by have := HAL.out; have := HKI.out; omega
          have hy := List.getElem?_eq_getElem hjA
          obtain ⟨go, oo, rfl, hrec⟩ := HX.out.at_ (by omega)
          have hel2 := (hrec j A[j] hy).keptS HK.out.drew (fun x => x)
          obtain ⟨y, hyy⟩ : ∃ y, y = A[j] := ⟨_, rfl⟩
          rw [← hyy] at hy hel2
          have hplc : plc A x K = if ltS x.k y.k = true then plc A x j else K := by rw [hj]; show (if ltS x.k (A.getD j pr0).k = true then _ else _) = _; rw [getD_pr hy]
          obtain ⟨lt, hlt⟩ : ∃ b, b = ltS x.k y.k := ⟨_, rfl⟩
          have hgS : (!(Op.bytesLess y.k.toList x.k.toList || y.k.toList == x.k.toList)) = lt := by rw [gtS, hlt]
          rw [← hlt] at hplc
          have HPL := Lib.hid hplc
          have HJ := Lib.hid hj
          have hx2 := HEL.out.keptS HK.out.drew (fun x => x)
          obtain ⟨xk, xv⟩ := x
          obtain ⟨yk, yv⟩ := y
          obtain ⟨x0, x1⟩ := hx2
          obtain ⟨y0, y1⟩ := hel2
          dsimp only at x0 y0 hgS
          have HSS : Hid ((fun w' => w'.cell? ⟨go, oo + j * 2, none⟩ = some (.string yk) ∧ w'.cell? ⟨ga, oa + i * 2, none⟩ = some (.string xk)) wr.drew) := Lib.hid ⟨y0, x0⟩
          have HK2 := Lib.hid (HK.out.drew)
          clear hK0 hj hjA hy hrec hyy hplc hlt x0 x1 y0 y1
          go_upto_region 6 with fail
          refine AnyBut.start (S := fun w' => w'.cell? ⟨go, oo + j * 2, none⟩ = some (.string yk) ∧ w'.cell? ⟨ga, oa + i * 2, none⟩ = some (.string xk)) (k := 16) (by kernel_rfl) ?_
          refine AnyBut.takeS (i := 0) (v := ?v17) rfl (by kernel_rfl) (Nat.le_of_eq (by kernel_rfl)) (by kernel_rfl) (by kernel_rfl) (fun _ _ _ h => h) (HSS.out) (Or.inl ⟨by kernel_rfl, ?hy17⟩) ?r17
          case hy17 =>
            intro w hSw
            try dsimp only at hSw
            go_simp
            try with_reducible rfl
          try simp only [Act.put, List.getElem_toArray, List.getElem_cons_zero, List.setIfInBounds_toArray, List.set_cons_zero, List.set_cons_succ]
          refine AnyBut.takeS (i := 1) (v := ?v18) rfl (by kernel_rfl) (Nat.le_of_eq (by kernel_rfl)) (by kernel_rfl) (by kernel_rfl) (fun _ _ _ h => h) (HSS.out) (Or.inl ⟨by kernel_rfl, ?hy18⟩) ?r18
          case hy18 =>
            intro w hSw
            try dsimp only at hSw
            go_simp
            try with_reducible rfl
          try simp only [Act.put, List.getElem_toArray, List.getElem_cons_succ, List.getElem_cons_zero, List.setIfInBounds_toArray, List.set_cons_zero, List.set_cons_succ]
          refine AnyBut.takeS (i := 2) (v := ?v19) rfl (by kernel_rfl) (Nat.le_of_eq (by kernel_rfl)) (by kernel_rfl) (by kernel_rfl) (fun _ _ _ h => h) (HSS.out) (Or.inl ⟨by kernel_rfl, ?hy19⟩) ?r19
          case hy19 =>
            intro w hSw
            try dsimp only at hSw
            go_simp
            try with_reducible rfl
          try simp only [Act.put, List.getElem_toArray, List.getElem_cons_succ, List.getElem_cons_zero, List.setIfInBounds_toArray, List.set_cons_zero, List.set_cons_succ]
          refine AnyBut.takeS (i := 3) (v := ?v20) rfl (by kernel_rfl) (Nat.le_of_eq (by kernel_rfl)) (by kernel_rfl) (by kernel_rfl) (fun _ _ _ h => h) (HSS.out) (Or.inl ⟨by kernel_rfl, ?hy20⟩) ?r20
          case hy20 =>
            intro w hSw
            try dsimp only at hSw
            go_simp
            try with_reducible rfl
          try simp only [Act.put, List.getElem_toArray, List.getElem_cons_succ, List.getElem_cons_zero, List.setIfInBounds_toArray, List.set_cons_zero, List.set_cons_succ]
          refine AnyBut.takeS (i := 4) (v := ?v21) rfl (by kernel_rfl) (Nat.le_of_eq (by kernel_rfl)) (by kernel_rfl) (by kernel_rfl) (fun _ _ _ h => h) (HSS.out) (Or.inl ⟨by kernel_rfl, ?hy21⟩) ?r21
          case hy21 =>
            intro w hSw
            try dsimp only at hSw
            go_simp
            try with_reducible rfl
          try simp only [Act.put, List.getElem_toArray, List.getElem_cons_succ, List.getElem_cons_zero, List.setIfInBounds_toArray, List.set_cons_zero, List.set_cons_succ]
          refine AnyBut.takeS (i := 5) (v := ?v22) rfl (by kernel_rfl) (Nat.le_of_eq (by kernel_rfl)) (by kernel_rfl) (by kernel_rfl) (fun _ _ _ h => h) (HSS.out) (Or.inl ⟨by kernel_rfl, ?hy22⟩) ?r22
          case hy22 =>
            intro w hSw
            try dsimp only at hSw
            go_simp
            try with_reducible rfl
          try simp only [Act.put, List.getElem_toArray, List.getElem_cons_succ, List.getElem_cons_zero, List.setIfInBounds_toArray, List.set_cons_zero, List.set_cons_succ]
          refine AnyBut.takeS (i := 6) (v := ?v23) rfl (by kernel_rfl) (Nat.le_of_eq (by kernel_rfl)) (by kernel_rfl) (by kernel_rfl) (fun _ _ _ h => h) (HSS.out) (Or.inl ⟨by kernel_rfl, ?hy23⟩) ?r23
          case hy23 =>
            intro w hSw
            try dsimp only at hSw
            go_simp
            try with_reducible rfl
          try simp only [Act.put, List.getElem_toArray, List.getElem_cons_succ, List.getElem_cons_zero, List.setIfInBounds_toArray, List.set_cons_zero, List.set_cons_succ]
          refine AnyBut.takeS (i := 7) (v := ?v24) rfl (by kernel_rfl) (Nat.le_of_eq (by kernel_rfl)) (by kernel_rfl) (by kernel_rfl) (fun _ _ _ h => h) (HSS.out) (Or.inl ⟨by kernel_rfl, ?hy24⟩) ?r24
          case hy24 =>
            intro w hSw
            try dsimp only at hSw
            go_simp
            try with_reducible rfl
          try simp only [Act.put, List.getElem_toArray, List.getElem_cons_succ, List.getElem_cons_zero, List.setIfInBounds_toArray, List.set_cons_zero, List.set_cons_succ]
          refine AnyBut.takeS (i := 8) (v := ?v25) rfl (by kernel_rfl) (Nat.le_of_eq (by kernel_rfl)) (by kernel_rfl) (by kernel_rfl) (fun _ _ _ h => h) (HSS.out) (Or.inl ⟨by kernel_rfl, ?hy25⟩) ?r25
          case hy25 =>
            intro w hSw
            try dsimp only at hSw
            go_simp
            try with_reducible rfl
          try simp only [Act.put, List.getElem_toArray, List.getElem_cons_succ, List.getElem_cons_zero, List.setIfInBounds_toArray, List.set_cons_zero, List.set_cons_succ]
          refine AnyBut.takeS (i := 9) (v := ?v26) rfl (by kernel_rfl) (Nat.le_of_eq (by kernel_rfl)) (by kernel_rfl) (by kernel_rfl) (fun _ _ _ h => h) (HSS.out) (Or.inl ⟨by kernel_rfl, ?hy26⟩) ?r26
          case hy26 =>
            intro w hSw
            try dsimp only at hSw
            go_simp
            try with_reducible rfl
          try simp only [Act.put, List.getElem_toArray, List.getElem_cons_succ, List.getElem_cons_zero, List.setIfInBounds_toArray, List.set_cons_zero, List.set_cons_succ]
          refine AnyBut.takeS (i := 10) (v := ?v27) rfl (by kernel_rfl) (Nat.le_of_eq (by kernel_rfl)) (by kernel_rfl) (by kernel_rfl) (fun _ _ _ h => h) (HSS.out) (Or.inl ⟨by kernel_rfl, ?hy27⟩) ?r27
          case hy27 =>
            intro w hSw
            try dsimp only at hSw
            go_simp
            try with_reducible rfl
          try simp only [Act.put, List.getElem_toArray, List.getElem_cons_succ, List.getElem_cons_zero, List.setIfInBounds_toArray, List.set_cons_zero, List.set_cons_succ]
          refine AnyBut.takeS (i := 11) (v := ?v28) rfl (by kernel_rfl) (Nat.le_of_eq (by kernel_rfl)) (by kernel_rfl) (by kernel_rfl) (fun _ _ _ h => h) (HSS.out) (Or.inl ⟨by kernel_rfl, ?hy28⟩) ?r28
          case hy28 =>
            intro w hSw
            try dsimp only at hSw
            go_simp
            try with_reducible rfl
          try simp only [Act.put, List.getElem_toArray, List.getElem_cons_succ, List.getElem_cons_zero, List.setIfInBounds_toArray, List.set_cons_zero, List.set_cons_succ]
          refine AnyBut.takeS (i := 12) (v := ?v29) rfl (by kernel_rfl) (Nat.le_of_eq (by kernel_rfl)) (by kernel_rfl) (by kernel_rfl) (fun _ _ _ h => h) (HSS.out) (Or.inl ⟨by kernel_rfl, ?hy29⟩) ?r29
          case hy29 =>
            intro w hSw
            try dsimp only at hSw
            go_simp
            try with_reducible rfl
          try simp only [Act.put, List.getElem_toArray, List.getElem_cons_succ, List.getElem_cons_zero, List.setIfInBounds_toArray, List.set_cons_zero, List.set_cons_succ]
          refine AnyBut.takeS (i := 13) (v := ?v30) rfl (by kernel_rfl) (Nat.le_of_eq (by kernel_rfl)) (by kernel_rfl) (by kernel_rfl) (fun _ _ _ h => h) (HSS.out) (Or.inl ⟨by kernel_rfl, ?hy30⟩) ?r30
          case hy30 =>
            intro w hSw
            try dsimp only at hSw
            go_simp
            try with_reducible rfl
          try simp only [Act.put, List.getElem_toArray, List.getElem_cons_succ, List.getElem_cons_zero, List.setIfInBounds_toArray, List.set_cons_zero, List.set_cons_succ]
          refine AnyBut.takeS (i := 14) (v := ?v31) rfl (by kernel_rfl) (Nat.le_of_eq (by kernel_rfl)) (by kernel_rfl) (by kernel_rfl) (fun _ _ _ h => h) (HSS.out) (Or.inl ⟨by kernel_rfl, ?hy31⟩) ?r31
          case hy31 =>
            intro w hSw
            try dsimp only at hSw
            go_simp
            try with_reducible rfl
          try simp only [Act.put, List.getElem_toArray, List.getElem_cons_succ, List.getElem_cons_zero, List.setIfInBounds_toArray, List.set_cons_zero, List.set_cons_succ]
          refine AnyBut.takeS (i := 15) (v := ?v32) rfl (by kernel_rfl) (Nat.le_of_eq (by kernel_rfl)) (by kernel_rfl) (by kernel_rfl) (fun _ _ _ h => h) (HSS.out) (Or.inl ⟨by kernel_rfl, ?hy32⟩) ?r32
          case hy32 =>
            intro w hSw
            try dsimp only at hSw
            go_simp
            try with_reducible rfl
          try simp only [Act.put, List.getElem_toArray, List.getElem_cons_succ, List.getElem_cons_zero, List.setIfInBounds_toArray, List.set_cons_zero, List.set_cons_succ]
          refine AnyBut.done (by kernel_rfl) ?_
          obtain ⟨wd, hwd⟩ : ∃ w', w' = wr.drew := ⟨_, rfl⟩
          rw [← hwd] at HK2 ⊢
          clear hwd HSS
          cases lt with
          | true =>
            have HPE := Lib.hid (show plc A ⟨xk, xv⟩ K = plc A ⟨xk, xv⟩ j from HPL.out.trans (if_pos rfl))
            go_wp2
            go_roundg (2 * j)
            case measure => have := HJ.out; omega
            case rel => exact ⟨j, by have := HJ.out; have := HKI.out; omega, rfl, rfl, HP.out.trans HPE.out, HK2.out⟩
          | false =>
            have HPE := Lib.hid (show plc A ⟨xk, xv⟩ A.length = K by rw [HAL.out, HP.out]; exact HPL.out.trans (if_neg (by decide)))
            have htl : (A.take K).length = K := by rw [List.length_take]; have := HAL.out; have := HKI.out; omega
            have hdl : (A.drop K).length = i - K := by rw [List.length_drop]; have := HAL.out; omega
            have HX2 := Lib.hid (HX.out.on HK2.out)
            have hpt : PsAt wd (some ⟨go, oo, none⟩) (A.take K) := HX2.out.at_.take K
            have hs1 := PsAt.src (c := co) hpt (fun _ => trivial)
            rw [htl] at hs1
            have HS1 := Lib.hid hs1
            have HTL := Lib.hid (And.intro htl hdl)
            have hK2 : K ≤ co := by have := HKI.out; have := HCO.out; omega
            have hKi2 : K ≤ i := HKI.out
            have hcut : ∀ w, _ := fun w => run_cutHn (P := Tryd.prog) Tryd.underlying22 hiP (some ⟨go, oo, none⟩) i co K hK2 w
            have hcutA : ∀ w, _ := fun w => run_cutHnAt (P := Tryd.prog) Tryd.underlying22 hiP (some ⟨go, oo, none⟩) i co K hK2 w
            have hcutB : ∀ w, _ := fun w => run_cutLn (P := Tryd.prog) Tryd.underlying22 hiP hzP1 (some ⟨go, oo, none⟩) i co K hKi2 w
            have hcutC : ∀ w, _ := fun w => run_cutLnAt (P := Tryd.prog) Tryd.underlying22 hiP hzP1 (some ⟨go, oo, none⟩) i co K hKi2 w
            obtain ⟨AD, hAD⟩ : ∃ a : Option Addr, a = (if co = K then some ⟨go, oo, none⟩ else Option.map (fun x => Addr.add x (K * 2)) (some ⟨go, oo, none⟩)) := ⟨_, rfl⟩
            rw [← hAD] at hcutB hcutC
            have HAD := Lib.hid hAD
            obtain ⟨dl, hdl2⟩ : ∃ k, k = i - K := ⟨_, rfl⟩
            rw [← hdl2] at hcutB hcutC
            have HDL := Lib.hid hdl2
            obtain ⟨dc, hdc⟩ : ∃ k, k = co - K := ⟨_, rfl⟩
            rw [← hdc] at hcutB hcutC
            have HM0 := Lib.hid (MineP.nil (Kept.refl (fun _ => False) wd))
            have HOB := Lib.hid (show ∀ k, (Value.slice (some ⟨go, oo, none⟩) i co).ownBlock = some k → k < wd.heap.size from fun k e => (ownsRow_lt HX2.out.own e).1)
            have HSZ := Lib.hid (show i ≤ 1000000 ∧ K ≤ 1000000 from ⟨by have := HL.out; have := HN.out; have := HD.out; omega, by have := HKI.out; have := HL.out; have := HN.out; have := HD.out; omega⟩)
            have HEL2 := Lib.hid (PElt.keptS HEL.out HK2.out (fun x => x))
            clear hpt hs1 htl hdl hK2 hKi2 hAD hdl2 hdc
            go_upto_region 10 with (at_builtin; refine wpList_mineP rfl (.tmp 33) (.tmp 36) rfl wd _ [] rfl HM0.out _ (A.take K) K HTL.out.1 rfl HS1.out (by have := HSZ.out; simp; omega) ?_; intro v1 w1 hm1 hk1; have HM1 := Lib.hid (show MineP wd w1 v1 (A.take K) by simpa using hm1); clear hm1 hk1)
            clear hcut hcutA
            have hx3 := HEL2.out.keptS HM1.out.kept (fun x => x)
            obtain ⟨x0, x1⟩ := hx3
            dsimp only at x0 x1
            have ke : Kept (fun _ => False) w1 (w1.alloc (.cells #[.string xk, .string xv] 40)) := (Kept.refl _ _).alloc _
            have HM1e := Lib.hid (HM1.out.on ke)
            have HSe := Lib.hid (src_oneP w1 ⟨xk, xv⟩)
            dsimp only at HSe
            clear ke
            go_upto_region 11 with (at_builtin; refine wpList_mineP rfl (.tmp 38) (.tmp 43) rfl wd _ (A.take K) rfl HM1e.out _ [⟨xk, xv⟩] 1 rfl rfl HSe.out (by have := HTL.out.1; have := HSZ.out; omega) ?_; intro v2 w2 hm2 hk2; have HM2 := Lib.hid hm2; clear hm2 hk2)
            clear x0 x1
            have HX3 := Lib.hid (HX2.out.on HM2.out.kept)
            have hdr := PsAt.drop HX3.out.at_ K (by rw [HAL.out]; exact HCO.out)
            rw [← HAD.out] at hdr
            have hs3 := PsAt.src (c := dc) hdr (fun _ => trivial)
            rw [HTL.out.2, ← HDL.out] at hs3
            have HS3 := Lib.hid hs3
            clear hdr hs3
            go_upto_region 4 with (at_builtin; refine wpList_mineP rfl (.tmp 45) (.tmp 48) rfl wd _ (A.take K ++ [(⟨xk, xv⟩ : Pr)]) rfl HM2.out _ (A.drop K) dl (by rw [HTL.out.2, HDL.out]) rfl HS3.out (by have h1 := HTL.out.1; have := HSZ.out; have := HDL.out; rw [List.length_append, h1]; simp; omega) ?_; intro v3 w3 hm3 hk3; have HM3 := Lib.hid hm3; clear hm3 hk3)
            have hfin : MineP w w3 v3 (sortP (L.take (i + 1))) := by
              have h := HM3.out.down (HX.out.kept.trans HK2.out)
              rw [HSC.out]
              unfold insP
              rw [HPE.out]
              rw [List.append_assoc] at h
              exact h
            have HFIN := Lib.hid hfin
            clear hfin
            go_wp2
            go_roundg (n - (i + 1))
            case measure => have := HD.out; omega
            case rel => exact ⟨i + 1, HD.out, rfl, rfl, HFIN.out⟩
    · obtain rfl : n = i := by omega
      rw [HT.out] at hx
      clear hd
      go_wp2
      go_ret
      exact ⟨_, rfl, hx⟩
end Go.Proofs.YtkgjkcfjkjkflaaDoor

