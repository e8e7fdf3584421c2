/- package glob, layer 32: Match (written by tools/gen_XDC.py). -/
import Derived.Test.YtjbjfdmdicfjfaaDM
import Derived.Test.YtjbjfdmdicfjfaaG3
import Derived.Test.YtjbjfdmdicfjfaaDB
import Derived.ScopeJumps
import Derived.WalkMore
import Derived.Deep.RegionWith
namespace Go.Proofs.Ytjbjfdmdicfjfaa
open Go.RowKit
attribute [local go_sem ↓] Go.wp_at_zero Go.wp_at_succ


set_option maxHeartbeats 8000000 in
set_option maxRecDepth 100000 in
theorem match_any (gb : Nat) (p s : ByteArray) (L : List PcR) (w : World) (hG : GlobAt w gb p L) (hs : s.size ≤ 1000000) :
    Calls Try.prog 12 #[.pointer (some ⟨gb, 0, none⟩), .string s] w fun e w' => e = .returned (.bool (mt (L.map PcR.p) (bl s))) ∧ Kept (fun _ => False) w w' := by
  have HG := Lib.hid hG
  have HS := Lib.hid hs
  have HL := Lib.hid hG.len
  clear hG hs
  go_enter Try.func12, Try.ntmps12
  go_wp2
  refine wp_scope_once 0 (MJ gb s L w) (fun a' _ => miN (L.map PcR.p).length (bl s).length (intOf (a'.tmps.getD 6 undef)).toNat (intOf (a'.tmps.getD 7 undef)) (intOf (a'.tmps.getD 8 undef)).toNat) rfl ?_ ?_
  case refine_2 =>
    intro hpass
    have HPASS := Lib.hid hpass
    clear hpass
    go_wp2
    go_step3
    rename_i K hK
    exact hK _ _ (HPASS.out _ _ (MJ.intro (MI.start _ _) (Kept.refl _ _) _ _ _ _ _ _ _ _ _ _ _ _ _ _ _ _ _ _ _ _ _ _ _ _ _ _ _ _ _ _ _ _ _ _ _ _ _ _ _ _ _ _ _ _ _ _ _ _ _ _ _ _ _ _ _ _ _ _ _ _ _ _ _ _ _ _ _ _ _ _ _ _ _ _ _ _ _ _ _ _ _))
  case refine_1 =>
    refine MJ.all ?_
    intro w0 at_ pc st fr u2 u3 u4 u9 u10 u11 u12 u13 u14 u15 u16 u17 u18 u19 u20 u21 u22 u23 u24 u25 u26 u27 u28 u29 u30 u31 u32 u33 u34 u35 u36 u37 u38 u39 u40 u41 u42 u43 u44 u45 u46 u47 u48 u49 u50 u51 u52 u53 u54 u55 u56 u57 u58 u59 u60 u61 u62 u63 u64 u65 u66 u67 u68 u69 u70 u71 u72 u73 u74 u75 u76 u77 u78 u79 u80 u81 u82 u83 u84 u85 u86 hM hk
    have HM := Lib.hid hM
    have HK := Lib.hid hk
    have hG0 := HG.out.kept hk
    obtain ⟨a, cp, hbx, hrow⟩ := hG0.box
    have HROW := Lib.hid hrow
    have c1 : w0.cell? ⟨gb, 1, none⟩ = some (.slice a L.length cp) := by rw [cell_of_row _ _ _ _ _ _ hbx]; rfl
    have hat := hM.hat
    have hpc := hM.hpc
    have hlo := hM.lo
    have hst := hM.hst
    have hfr := hM.hfr
    rw [bl_length] at hat hfr
    rw [List.length_map] at hpc
    have HBD := Lib.hid (And.intro hat (And.intro hpc (And.intro hlo (And.intro hst hfr))))
    have hLL := HL.out
    have hSS := HS.out
    obtain ⟨pc1, hpc1⟩ : ∃ k, k = pc + 1 := ⟨_, rfl⟩
    have wpc : IntKind.i64.wrap ((pc : Int) + 1) = (pc1 : Int) := by rw [IntWalk.i64_in _ ⟨by omega, by omega⟩]; omega
    obtain ⟨at1, hat1⟩ : ∃ k, k = at_ + 1 := ⟨_, rfl⟩
    have wat : IntKind.i64.wrap ((at_ : Int) + 1) = (at1 : Int) := by rw [IntWalk.i64_in _ ⟨by omega, by omega⟩]; omega
    obtain ⟨fr1, hfr1⟩ : ∃ k, k = fr + 1 := ⟨_, rfl⟩
    have wfr : IntKind.i64.wrap ((fr : Int) + 1) = (fr1 : Int) := by rw [IntWalk.i64_in _ ⟨by omega, by omega⟩]; omega
    have hpc0 : (0 : Int) ≤ (pc : Int) := by omega
    have hat0 : (0 : Int) ≤ (at_ : Int) := by omega
    clear hG0 hbx hrow hM hk
    by_cases hp : pc < L.length
    · have hpl : (pc : Int) < (L.length : Int) := by omega
      have hpl' : decide (pc < L.length) = true := decide_eq_true hp
      obtain ⟨g, o, rfl, hrec⟩ := HROW.out (by omega)
      have hgp := List.getElem?_eq_getElem hp
      have hcell := hrec pc L[pc] hgp
      have HPOK := Lib.hid (HG.out.ok L[pc] (List.getElem_mem hp))
      have HGP : Hid ((L.map PcR.p)[pc]? = some (L[pc]).p) := Lib.hid (by rw [List.getElem?_map, hgp]; rfl)
      obtain ⟨P, hP⟩ : ∃ P, P = L[pc] := ⟨_, rfl⟩
      rw [← hP] at hcell HPOK HGP
      clear hP hgp hrec
      have x0 : w0.cell? ⟨g, o + pc * 6, none⟩ = some (.int .i64 (P.p.k : Int)) := hcell 0 _ rfl
      have x1 : w0.cell? ⟨g, o + pc * 6 + 1, none⟩ = some (.int .u8 (P.p.c : Int)) := hcell 1 _ rfl
      have x2 : w0.cell? ⟨g, o + pc * 6 + 2, none⟩ = some (.int .u64 (P.a : Int)) := hcell 2 _ rfl
      have x3 : w0.cell? ⟨g, o + pc * 6 + 3, none⟩ = some (.int .u64 (P.b : Int)) := hcell 3 _ rfl
      have x4 : w0.cell? ⟨g, o + pc * 6 + 4, none⟩ = some (.int .u64 (P.c : Int)) := hcell 4 _ rfl
      have x5 : w0.cell? ⟨g, o + pc * 6 + 5, none⟩ = some (.int .u64 (P.d : Int)) := hcell 5 _ rfl
      clear hcell
      by_cases hk3 : P.p.k = 3
      · have q3 : ((P.p.k : Int) == 3) = true := by simp; omega
        have q3' : (P.p.k == 3) = true := by simp [hk3]
        have HN := Lib.hid (HM.out.many HGP.out hk3)
        have HD := Lib.hid (miN_many (m := (L.map PcR.p).length) (n := (bl s).length) (at_ := at_) (fr := fr) hst (show pc < (L.map PcR.p).length by rw [List.length_map]; exact hp))
        clear hk3 x1 x2 x3 x4 x5 hp hat hpc hlo hst hfr
        rw [← hpc1] at HN HD
        clear hpc1 hat1 hfr1
        go_wp2
        go_step3
        try simp only [Exit.jump]
        exact ⟨rfl, MJ.intro HN.out HK.out _ _ _ _ _ _ _ _ _ _ _ _ _ _ _ _ _ _ _ _ _ _ _ _ _ _ _ _ _ _ _ _ _ _ _ _ _ _ _ _ _ _ _ _ _ _ _ _ _ _ _ _ _ _ _ _ _ _ _ _ _ _ _ _ _ _ _ _ _ _ _ _ _ _ _ _ _ _ _ _ _, HD.out⟩
      · have q3 : ((P.p.k : Int) == 3) = false := by simp; omega
        have q3' : (P.p.k == 3) = false := by simp [hk3]
        have hpn : (((pc : Nat) : Int) == (L.length : Int)) = false := by simp; omega
        have HP := Lib.hid hp
        have HK3 := Lib.hid (show ∀ q, (L.map PcR.p)[pc]? = some q → q.k ≠ 3 from fun q hq => by rw [HGP.out] at hq; injection hq with hq; rw [← hq]; exact hk3)
        by_cases ha : at_ < s.size
        · have hal : (at_ : Int) < (s.size : Int) := by omega
          have hal' : decide (at_ < s.size) = true := decide_eq_true ha
          have han : (((at_ : Nat) : Int) == (s.size : Int)) = false := by simp; omega
          have hix := fun w => run_chr (P := Try.prog) Try.underlying9 s at_ ha w
          have HH : Hid (∀ w, Calls Try.prog 19 #[.agg #[.int .i64 (P.p.k : Int), .int .u8 (P.p.c : Int), .int .u64 (P.a : Int), .int .u64 (P.b : Int), .int .u64 (P.c : Int), .int .u64 (P.d : Int)], .int .u8 (chr s at_ : Int)] w fun e w' => e = .returned (.bool (P.p.hold (chr s at_))) ∧ Kept (fun _ => False) w w') := Lib.hid (holds_any P HPOK.out (chr s at_) (chr_lt _ _))
          have HC := Lib.hid (show (bl s).getD at_ 0 = chr s at_ from bl_getD s at_)
          obtain ⟨c, hc⟩ : ∃ c, c = chr s at_ := ⟨_, rfl⟩
          rw [← hc] at hix HH HC
          have HSS := Lib.hid (show (fun w' => w'.cell? ⟨gb, 1, none⟩ = some (.slice (some ⟨g, o, none⟩) L.length cp) ∧ w'.cell? ⟨g, o + pc * 6, none⟩ = some (.int .i64 (P.p.k : Int)) ∧ w'.cell? ⟨g, o + pc * 6 + 1, none⟩ = some (.int .u8 (P.p.c : Int)) ∧ w'.cell? ⟨g, o + pc * 6 + 2, none⟩ = some (.int .u64 (P.a : Int)) ∧ w'.cell? ⟨g, o + pc * 6 + 3, none⟩ = some (.int .u64 (P.b : Int)) ∧ w'.cell? ⟨g, o + pc * 6 + 4, none⟩ = some (.int .u64 (P.c : Int)) ∧ w'.cell? ⟨g, o + pc * 6 + 5, none⟩ = some (.int .u64 (P.d : Int))) w0.drew from ⟨c1, x0, x1, x2, x3, x4, x5⟩)
          clear hc hp
          cases hR : P.p.hold c with
          | true =>
            rw [hR] at HH
            have HN := Lib.hid (HM.out.step HGP.out hk3 (by rw [bl_length]; exact ha) (by rw [HC.out]; exact hR))
            have HD := Lib.hid (miN_step (m := (L.map PcR.p).length) (n := (bl s).length) (fr := fr) (st := st) (show pc < (L.map PcR.p).length by rw [List.length_map]; exact HP.out))
            rw [← hpc1, ← hat1] at HN
            rw [← hpc1] at HD
            clear hk3 hat hpc hlo hst hfr hpc1 hat1 hfr1 hR ha
            go_upto_region 6 with fail
            refine AnyBut.start (S := fun w' => w'.cell? ⟨gb, 1, none⟩ = some (.slice (some ⟨g, o, none⟩) L.length cp) ∧ w'.cell? ⟨g, o + pc * 6, none⟩ = some (.int .i64 (P.p.k : Int)) ∧ w'.cell? ⟨g, o + pc * 6 + 1, none⟩ = some (.int .u8 (P.p.c : Int)) ∧ w'.cell? ⟨g, o + pc * 6 + 2, none⟩ = some (.int .u64 (P.a : Int)) ∧ w'.cell? ⟨g, o + pc * 6 + 3, none⟩ = some (.int .u64 (P.b : Int)) ∧ w'.cell? ⟨g, o + pc * 6 + 4, none⟩ = some (.int .u64 (P.c : Int)) ∧ w'.cell? ⟨g, o + pc * 6 + 5, none⟩ = some (.int .u64 (P.d : Int))) (k := 26) (by kernel_rfl) ?_
            refine AnyBut.takeS (i := 0) (v := ?v1) rfl (by kernel_rfl) (Nat.le_of_eq (by kernel_rfl)) (by kernel_rfl) (by kernel_rfl) (fun _ _ _ h => h) (HSS.out) (Or.inl ⟨by kernel_rfl, ?hy1⟩) ?r1
            case hy1 =>
              intro w hSw
              try dsimp only at hSw
              go_simp
              first | (obtain ⟨y0, y1, y2, y3, y4, y5, y6⟩ := hSw; go_simp) | skip
              try with_reducible rfl
            try simp only [Act.put, List.getElem_toArray, List.getElem_cons_zero, List.setIfInBounds_toArray, List.set_cons_zero, List.set_cons_succ]
            refine AnyBut.takeS (i := 1) (v := ?v2) rfl (by kernel_rfl) (Nat.le_of_eq (by kernel_rfl)) (by kernel_rfl) (by kernel_rfl) (fun _ _ _ h => h) (HSS.out) (Or.inl ⟨by kernel_rfl, ?hy2⟩) ?r2
            case hy2 =>
              intro w hSw
              try dsimp only at hSw
              go_simp
              first | (obtain ⟨y0, y1, y2, y3, y4, y5, y6⟩ := hSw; go_simp) | skip
              try with_reducible rfl
            try simp only [Act.put, List.getElem_toArray, List.getElem_cons_succ, List.getElem_cons_zero, List.setIfInBounds_toArray, List.set_cons_zero, List.set_cons_succ]
            refine AnyBut.takeS (i := 2) (v := ?v3) rfl (by kernel_rfl) (Nat.le_of_eq (by kernel_rfl)) (by kernel_rfl) (by kernel_rfl) (fun _ _ _ h => h) (HSS.out) (Or.inl ⟨by kernel_rfl, ?hy3⟩) ?r3
            case hy3 =>
              intro w hSw
              try dsimp only at hSw
              go_simp
              first | (obtain ⟨y0, y1, y2, y3, y4, y5, y6⟩ := hSw; go_simp) | skip
              try with_reducible rfl
            try simp only [Act.put, List.getElem_toArray, List.getElem_cons_succ, List.getElem_cons_zero, List.setIfInBounds_toArray, List.set_cons_zero, List.set_cons_succ]
            refine AnyBut.takeS (i := 3) (v := ?v4) rfl (by kernel_rfl) (Nat.le_of_eq (by kernel_rfl)) (by kernel_rfl) (by kernel_rfl) (fun _ _ _ h => h) (HSS.out) (Or.inl ⟨by kernel_rfl, ?hy4⟩) ?r4
            case hy4 =>
              intro w hSw
              try dsimp only at hSw
              go_simp
              first | (obtain ⟨y0, y1, y2, y3, y4, y5, y6⟩ := hSw; go_simp) | skip
              try with_reducible rfl
            try simp only [Act.put, List.getElem_toArray, List.getElem_cons_succ, List.getElem_cons_zero, List.setIfInBounds_toArray, List.set_cons_zero, List.set_cons_succ]
            refine AnyBut.takeS (i := 4) (v := ?v5) rfl (by kernel_rfl) (Nat.le_of_eq (by kernel_rfl)) (by kernel_rfl) (by kernel_rfl) (fun _ _ _ h => h) (HSS.out) (Or.inl ⟨by kernel_rfl, ?hy5⟩) ?r5
            case hy5 =>
              intro w hSw
              try dsimp only at hSw
              go_simp
              first | (obtain ⟨y0, y1, y2, y3, y4, y5, y6⟩ := hSw; go_simp) | skip
              try with_reducible rfl
            try simp only [Act.put, List.getElem_toArray, List.getElem_cons_succ, List.getElem_cons_zero, List.setIfInBounds_toArray, List.set_cons_zero, List.set_cons_succ]
            refine AnyBut.takeS (i := 5) (v := ?v6) rfl (by kernel_rfl) (Nat.le_of_eq (by kernel_rfl)) (by kernel_rfl) (by kernel_rfl) (fun _ _ _ h => h) (HSS.out) (Or.inl ⟨by kernel_rfl, ?hy6⟩) ?r6
            case hy6 =>
              intro w hSw
              try dsimp only at hSw
              go_simp
              first | (obtain ⟨y0, y1, y2, y3, y4, y5, y6⟩ := hSw; go_simp) | skip
              try with_reducible rfl
            try simp only [Act.put, List.getElem_toArray, List.getElem_cons_succ, List.getElem_cons_zero, List.setIfInBounds_toArray, List.set_cons_zero, List.set_cons_succ]
            refine AnyBut.takeS (i := 6) (v := ?v7) rfl (by kernel_rfl) (Nat.le_of_eq (by kernel_rfl)) (by kernel_rfl) (by kernel_rfl) (fun _ _ _ h => h) (HSS.out) (Or.inl ⟨by kernel_rfl, ?hy7⟩) ?r7
            case hy7 =>
              intro w hSw
              try dsimp only at hSw
              go_simp
              first | (obtain ⟨y0, y1, y2, y3, y4, y5, y6⟩ := hSw; go_simp) | skip
              try with_reducible rfl
            try simp only [Act.put, List.getElem_toArray, List.getElem_cons_succ, List.getElem_cons_zero, List.setIfInBounds_toArray, List.set_cons_zero, List.set_cons_succ]
            refine AnyBut.takeS (i := 7) (v := ?v8) rfl (by kernel_rfl) (Nat.le_of_eq (by kernel_rfl)) (by kernel_rfl) (by kernel_rfl) (fun _ _ _ h => h) (HSS.out) (Or.inl ⟨by kernel_rfl, ?hy8⟩) ?r8
            case hy8 =>
              intro w hSw
              try dsimp only at hSw
              go_simp
              first | (obtain ⟨y0, y1, y2, y3, y4, y5, y6⟩ := hSw; go_simp) | skip
              try with_reducible rfl
            try simp only [Act.put, List.getElem_toArray, List.getElem_cons_succ, List.getElem_cons_zero, List.setIfInBounds_toArray, List.set_cons_zero, List.set_cons_succ]
            refine AnyBut.takeS (i := 8) (v := ?v9) rfl (by kernel_rfl) (Nat.le_of_eq (by kernel_rfl)) (by kernel_rfl) (by kernel_rfl) (fun _ _ _ h => h) (HSS.out) (Or.inl ⟨by kernel_rfl, ?hy9⟩) ?r9
            case hy9 =>
              intro w hSw
              try dsimp only at hSw
              go_simp
              first | (obtain ⟨y0, y1, y2, y3, y4, y5, y6⟩ := hSw; go_simp) | skip
              try with_reducible rfl
            try simp only [Act.put, List.getElem_toArray, List.getElem_cons_succ, List.getElem_cons_zero, List.setIfInBounds_toArray, List.set_cons_zero, List.set_cons_succ]
            refine AnyBut.takeS (i := 9) (v := ?v10) rfl (by kernel_rfl) (Nat.le_of_eq (by kernel_rfl)) (by kernel_rfl) (by kernel_rfl) (fun _ _ _ h => h) (HSS.out) (Or.inl ⟨by kernel_rfl, ?hy10⟩) ?r10
            case hy10 =>
              intro w hSw
              try dsimp only at hSw
              go_simp
              first | (obtain ⟨y0, y1, y2, y3, y4, y5, y6⟩ := hSw; go_simp) | skip
              try with_reducible rfl
            try simp only [Act.put, List.getElem_toArray, List.getElem_cons_succ, List.getElem_cons_zero, List.setIfInBounds_toArray, List.set_cons_zero, List.set_cons_succ]
            refine AnyBut.takeS (i := 10) (v := ?v11) rfl (by kernel_rfl) (Nat.le_of_eq (by kernel_rfl)) (by kernel_rfl) (by kernel_rfl) (fun _ _ _ h => h) (HSS.out) (Or.inl ⟨by kernel_rfl, ?hy11⟩) ?r11
            case hy11 =>
              intro w hSw
              try dsimp only at hSw
              go_simp
              first | (obtain ⟨y0, y1, y2, y3, y4, y5, y6⟩ := hSw; go_simp) | skip
              try with_reducible rfl
            try simp only [Act.put, List.getElem_toArray, List.getElem_cons_succ, List.getElem_cons_zero, List.setIfInBounds_toArray, List.set_cons_zero, List.set_cons_succ]
            refine AnyBut.takeS (i := 11) (v := ?v12) rfl (by kernel_rfl) (Nat.le_of_eq (by kernel_rfl)) (by kernel_rfl) (by kernel_rfl) (fun _ _ _ h => h) (HSS.out) (Or.inl ⟨by kernel_rfl, ?hy12⟩) ?r12
            case hy12 =>
              intro w hSw
              try dsimp only at hSw
              go_simp
              first | (obtain ⟨y0, y1, y2, y3, y4, y5, y6⟩ := hSw; go_simp) | skip
              try with_reducible rfl
            try simp only [Act.put, List.getElem_toArray, List.getElem_cons_succ, List.getElem_cons_zero, List.setIfInBounds_toArray, List.set_cons_zero, List.set_cons_succ]
            refine AnyBut.takeS (i := 12) (v := ?v13) rfl (by kernel_rfl) (Nat.le_of_eq (by kernel_rfl)) (by kernel_rfl) (by kernel_rfl) (fun _ _ _ h => h) (HSS.out) (Or.inl ⟨by kernel_rfl, ?hy13⟩) ?r13
            case hy13 =>
              intro w hSw
              try dsimp only at hSw
              go_simp
              first | (obtain ⟨y0, y1, y2, y3, y4, y5, y6⟩ := hSw; go_simp) | skip
              try with_reducible rfl
            try simp only [Act.put, List.getElem_toArray, List.getElem_cons_succ, List.getElem_cons_zero, List.setIfInBounds_toArray, List.set_cons_zero, List.set_cons_succ]
            refine AnyBut.takeS (i := 13) (v := ?v14) rfl (by kernel_rfl) (Nat.le_of_eq (by kernel_rfl)) (by kernel_rfl) (by kernel_rfl) (fun _ _ _ h => h) (HSS.out) (Or.inl ⟨by kernel_rfl, ?hy14⟩) ?r14
            case hy14 =>
              intro w hSw
              try dsimp only at hSw
              go_simp
              first | (obtain ⟨y0, y1, y2, y3, y4, y5, y6⟩ := hSw; go_simp) | skip
              try with_reducible rfl
            try simp only [Act.put, List.getElem_toArray, List.getElem_cons_succ, List.getElem_cons_zero, List.setIfInBounds_toArray, List.set_cons_zero, List.set_cons_succ]
            refine AnyBut.takeS (i := 14) (v := ?v15) rfl (by kernel_rfl) (Nat.le_of_eq (by kernel_rfl)) (by kernel_rfl) (by kernel_rfl) (fun _ _ _ h => h) (HSS.out) (Or.inl ⟨by kernel_rfl, ?hy15⟩) ?r15
            case hy15 =>
              intro w hSw
              try dsimp only at hSw
              go_simp
              first | (obtain ⟨y0, y1, y2, y3, y4, y5, y6⟩ := hSw; go_simp) | skip
              try with_reducible rfl
            try simp only [Act.put, List.getElem_toArray, List.getElem_cons_succ, List.getElem_cons_zero, List.setIfInBounds_toArray, List.set_cons_zero, List.set_cons_succ]
            refine AnyBut.takeS (i := 15) (v := ?v16) rfl (by kernel_rfl) (Nat.le_of_eq (by kernel_rfl)) (by kernel_rfl) (by kernel_rfl) (fun _ _ _ h => h) (HSS.out) (Or.inl ⟨by kernel_rfl, ?hy16⟩) ?r16
            case hy16 =>
              intro w hSw
              try dsimp only at hSw
              go_simp
              first | (obtain ⟨y0, y1, y2, y3, y4, y5, y6⟩ := hSw; go_simp) | skip
              try with_reducible rfl
            try simp only [Act.put, List.getElem_toArray, List.getElem_cons_succ, List.getElem_cons_zero, List.setIfInBounds_toArray, List.set_cons_zero, List.set_cons_succ]
            refine AnyBut.takeS (i := 16) (v := ?v17) rfl (by kernel_rfl) (Nat.le_of_eq (by kernel_rfl)) (by kernel_rfl) (by kernel_rfl) (fun _ _ _ h => h) (HSS.out) (Or.inl ⟨by kernel_rfl, ?hy17⟩) ?r17
            case hy17 =>
              intro w hSw
              try dsimp only at hSw
              go_simp
              first | (obtain ⟨y0, y1, y2, y3, y4, y5, y6⟩ := hSw; go_simp) | skip
              try with_reducible rfl
            try simp only [Act.put, List.getElem_toArray, List.getElem_cons_succ, List.getElem_cons_zero, List.setIfInBounds_toArray, List.set_cons_zero, List.set_cons_succ]
            refine AnyBut.takeS (i := 17) (v := ?v18) rfl (by kernel_rfl) (Nat.le_of_eq (by kernel_rfl)) (by kernel_rfl) (by kernel_rfl) (fun _ _ _ h => h) (HSS.out) (Or.inl ⟨by kernel_rfl, ?hy18⟩) ?r18
            case hy18 =>
              intro w hSw
              try dsimp only at hSw
              go_simp
              first | (obtain ⟨y0, y1, y2, y3, y4, y5, y6⟩ := hSw; go_simp) | skip
              try with_reducible rfl
            try simp only [Act.put, List.getElem_toArray, List.getElem_cons_succ, List.getElem_cons_zero, List.setIfInBounds_toArray, List.set_cons_zero, List.set_cons_succ]
            refine AnyBut.takeS (i := 18) (v := ?v19) rfl (by kernel_rfl) (Nat.le_of_eq (by kernel_rfl)) (by kernel_rfl) (by kernel_rfl) (fun _ _ _ h => h) (HSS.out) (Or.inl ⟨by kernel_rfl, ?hy19⟩) ?r19
            case hy19 =>
              intro w hSw
              try dsimp only at hSw
              go_simp
              first | (obtain ⟨y0, y1, y2, y3, y4, y5, y6⟩ := hSw; go_simp) | skip
              try with_reducible rfl
            try simp only [Act.put, List.getElem_toArray, List.getElem_cons_succ, List.getElem_cons_zero, List.setIfInBounds_toArray, List.set_cons_zero, List.set_cons_succ]
            refine AnyBut.takeS (i := 19) (v := ?v20) rfl (by kernel_rfl) (Nat.le_of_eq (by kernel_rfl)) (by kernel_rfl) (by kernel_rfl) (fun _ _ _ h => h) (HSS.out) (Or.inl ⟨by kernel_rfl, ?hy20⟩) ?r20
            case hy20 =>
              intro w hSw
              try dsimp only at hSw
              go_simp
              first | (obtain ⟨y0, y1, y2, y3, y4, y5, y6⟩ := hSw; go_simp) | skip
              try with_reducible rfl
            try simp only [Act.put, List.getElem_toArray, List.getElem_cons_succ, List.getElem_cons_zero, List.setIfInBounds_toArray, List.set_cons_zero, List.set_cons_succ]
            refine AnyBut.takeS (i := 20) (v := ?v21) rfl (by kernel_rfl) (Nat.le_of_eq (by kernel_rfl)) (by kernel_rfl) (by kernel_rfl) (fun _ _ _ h => h) (HSS.out) (Or.inl ⟨by kernel_rfl, ?hy21⟩) ?r21
            case hy21 =>
              intro w hSw
              try dsimp only at hSw
              go_simp
              first | (obtain ⟨y0, y1, y2, y3, y4, y5, y6⟩ := hSw; go_simp) | skip
              try with_reducible rfl
            try simp only [Act.put, List.getElem_toArray, List.getElem_cons_succ, List.getElem_cons_zero, List.setIfInBounds_toArray, List.set_cons_zero, List.set_cons_succ]
            refine AnyBut.takeS (i := 21) (v := ?v22) rfl (by kernel_rfl) (Nat.le_of_eq (by kernel_rfl)) (by kernel_rfl) (by kernel_rfl) (fun _ _ _ h => h) (HSS.out) (Or.inl ⟨by kernel_rfl, ?hy22⟩) ?r22
            case hy22 =>
              intro w hSw
              try dsimp only at hSw
              go_simp
              first | (obtain ⟨y0, y1, y2, y3, y4, y5, y6⟩ := hSw; go_simp) | skip
              try with_reducible rfl
            try simp only [Act.put, List.getElem_toArray, List.getElem_cons_succ, List.getElem_cons_zero, List.setIfInBounds_toArray, List.set_cons_zero, List.set_cons_succ]
            refine AnyBut.takeS (i := 22) (v := ?v23) rfl (by kernel_rfl) (Nat.le_of_eq (by kernel_rfl)) (by kernel_rfl) (by kernel_rfl) (fun _ _ _ h => h) (HSS.out) (Or.inl ⟨by kernel_rfl, ?hy23⟩) ?r23
            case hy23 =>
              intro w hSw
              try dsimp only at hSw
              go_simp
              first | (obtain ⟨y0, y1, y2, y3, y4, y5, y6⟩ := hSw; go_simp) | skip
              try with_reducible rfl
            try simp only [Act.put, List.getElem_toArray, List.getElem_cons_succ, List.getElem_cons_zero, List.setIfInBounds_toArray, List.set_cons_zero, List.set_cons_succ]
            refine AnyBut.takeS (i := 23) (v := ?v24) rfl (by kernel_rfl) (Nat.le_of_eq (by kernel_rfl)) (by kernel_rfl) (by kernel_rfl) (fun _ _ _ h => h) (HSS.out) (Or.inl ⟨by kernel_rfl, ?hy24⟩) ?r24
            case hy24 =>
              intro w hSw
              try dsimp only at hSw
              go_simp
              first | (obtain ⟨y0, y1, y2, y3, y4, y5, y6⟩ := hSw; go_simp) | skip
              try with_reducible rfl
            try simp only [Act.put, List.getElem_toArray, List.getElem_cons_succ, List.getElem_cons_zero, List.setIfInBounds_toArray, List.set_cons_zero, List.set_cons_succ]
            refine AnyBut.one (i := 24) (by kernel_rfl) rfl (fun K hK => ?_)
            go_simp
            go_wp2_with fail
            refine (HH.out _).mono ?_
            rintro e w4 ⟨rfl, k4⟩
            have HK4 := Lib.hid (HK.out.drew.trans k4)
            have HS4 := Lib.hid (show (fun w' => w'.cell? ⟨gb, 1, none⟩ = some (.slice (some ⟨g, o, none⟩) L.length cp) ∧ w'.cell? ⟨g, o + pc * 6, none⟩ = some (.int .i64 (P.p.k : Int)) ∧ w'.cell? ⟨g, o + pc * 6 + 1, none⟩ = some (.int .u8 (P.p.c : Int)) ∧ w'.cell? ⟨g, o + pc * 6 + 2, none⟩ = some (.int .u64 (P.a : Int)) ∧ w'.cell? ⟨g, o + pc * 6 + 3, none⟩ = some (.int .u64 (P.b : Int)) ∧ w'.cell? ⟨g, o + pc * 6 + 4, none⟩ = some (.int .u64 (P.c : Int)) ∧ w'.cell? ⟨g, o + pc * 6 + 5, none⟩ = some (.int .u64 (P.d : Int))) w4 from ⟨k4.cell HSS.out.1 (fun x => x), k4.cell HSS.out.2.1 (fun x => x), k4.cell HSS.out.2.2.1 (fun x => x), k4.cell HSS.out.2.2.2.1 (fun x => x), k4.cell HSS.out.2.2.2.2.1 (fun x => x), k4.cell HSS.out.2.2.2.2.2.1 (fun x => x), k4.cell HSS.out.2.2.2.2.2.2 (fun x => x)⟩)
            clear k4
            have c1' := HS4.out.1
            clear c1 x0 x1 x2 x3 x4 x5
            refine hK.out _ _ (HS4.out) ?_
            clear hK K
            try simp only [Act.put, List.getElem_toArray, List.getElem_cons_succ, List.getElem_cons_zero, List.setIfInBounds_toArray, List.set_cons_zero, List.set_cons_succ]
            refine AnyBut.takeS (i := 25) (v := ?v25) rfl (by kernel_rfl) (Nat.le_of_eq (by kernel_rfl)) (by kernel_rfl) (by kernel_rfl) (fun _ _ _ h => h) (HS4.out) (Or.inl ⟨by kernel_rfl, ?hy25⟩) ?r25
            case hy25 =>
              intro w hSw
              try dsimp only at hSw
              go_simp
              first | (obtain ⟨y0, y1, y2, y3, y4, y5, y6⟩ := hSw; go_simp) | skip
              try with_reducible rfl
            try simp only [Act.put, List.getElem_toArray, List.getElem_cons_succ, List.getElem_cons_zero, List.setIfInBounds_toArray, List.set_cons_zero, List.set_cons_succ]
            refine AnyBut.done (by kernel_rfl) ?_
            go_wp2
            go_step3
            try simp only [Exit.jump]
            exact ⟨rfl, MJ.intro HN.out HK4.out _ _ _ _ _ _ _ _ _ _ _ _ _ _ _ _ _ _ _ _ _ _ _ _ _ _ _ _ _ _ _ _ _ _ _ _ _ _ _ _ _ _ _ _ _ _ _ _ _ _ _ _ _ _ _ _ _ _ _ _ _ _ _ _ _ _ _ _ _ _ _ _ _ _ _ _ _ _ _ _ _, HD.out⟩
          | false =>
            rw [hR] at HH
            have HF := Lib.hid (HM.out.fail HK3.out (fun q hq _ => by rw [HGP.out] at hq; injection hq with hq; rw [← hq, HC.out]; exact hR) (by rw [bl_length]; omega))
            clear hk3 hR ha
            go_upto_region 6 with fail
            refine AnyBut.start (S := fun w' => w'.cell? ⟨gb, 1, none⟩ = some (.slice (some ⟨g, o, none⟩) L.length cp) ∧ w'.cell? ⟨g, o + pc * 6, none⟩ = some (.int .i64 (P.p.k : Int)) ∧ w'.cell? ⟨g, o + pc * 6 + 1, none⟩ = some (.int .u8 (P.p.c : Int)) ∧ w'.cell? ⟨g, o + pc * 6 + 2, none⟩ = some (.int .u64 (P.a : Int)) ∧ w'.cell? ⟨g, o + pc * 6 + 3, none⟩ = some (.int .u64 (P.b : Int)) ∧ w'.cell? ⟨g, o + pc * 6 + 4, none⟩ = some (.int .u64 (P.c : Int)) ∧ w'.cell? ⟨g, o + pc * 6 + 5, none⟩ = some (.int .u64 (P.d : Int))) (k := 26) (by kernel_rfl) ?_
            refine AnyBut.takeS (i := 0) (v := ?v26) rfl (by kernel_rfl) (Nat.le_of_eq (by kernel_rfl)) (by kernel_rfl) (by kernel_rfl) (fun _ _ _ h => h) (HSS.out) (Or.inl ⟨by kernel_rfl, ?hy26⟩) ?r26
            case hy26 =>
              intro w hSw
              try dsimp only at hSw
              go_simp
              first | (obtain ⟨y0, y1, y2, y3, y4, y5, y6⟩ := hSw; go_simp) | skip
              try with_reducible rfl
            try simp only [Act.put, List.getElem_toArray, List.getElem_cons_zero, List.setIfInBounds_toArray, List.set_cons_zero, List.set_cons_succ]
            refine AnyBut.takeS (i := 1) (v := ?v27) rfl (by kernel_rfl) (Nat.le_of_eq (by kernel_rfl)) (by kernel_rfl) (by kernel_rfl) (fun _ _ _ h => h) (HSS.out) (Or.inl ⟨by kernel_rfl, ?hy27⟩) ?r27
            case hy27 =>
              intro w hSw
              try dsimp only at hSw
              go_simp
              first | (obtain ⟨y0, y1, y2, y3, y4, y5, y6⟩ := hSw; go_simp) | skip
              try with_reducible rfl
            try simp only [Act.put, List.getElem_toArray, List.getElem_cons_succ, List.getElem_cons_zero, List.setIfInBounds_toArray, List.set_cons_zero, List.set_cons_succ]
            refine AnyBut.takeS (i := 2) (v := ?v28) rfl (by kernel_rfl) (Nat.le_of_eq (by kernel_rfl)) (by kernel_rfl) (by kernel_rfl) (fun _ _ _ h => h) (HSS.out) (Or.inl ⟨by kernel_rfl, ?hy28⟩) ?r28
            case hy28 =>
              intro w hSw
              try dsimp only at hSw
              go_simp
              first | (obtain ⟨y0, y1, y2, y3, y4, y5, y6⟩ := hSw; go_simp) | skip
              try with_reducible rfl
            try simp only [Act.put, List.getElem_toArray, List.getElem_cons_succ, List.getElem_cons_zero, List.setIfInBounds_toArray, List.set_cons_zero, List.set_cons_succ]
            refine AnyBut.takeS (i := 3) (v := ?v29) rfl (by kernel_rfl) (Nat.le_of_eq (by kernel_rfl)) (by kernel_rfl) (by kernel_rfl) (fun _ _ _ h => h) (HSS.out) (Or.inl ⟨by kernel_rfl, ?hy29⟩) ?r29
            case hy29 =>
              intro w hSw
              try dsimp only at hSw
              go_simp
              first | (obtain ⟨y0, y1, y2, y3, y4, y5, y6⟩ := hSw; go_simp) | skip
              try with_reducible rfl
            try simp only [Act.put, List.getElem_toArray, List.getElem_cons_succ, List.getElem_cons_zero, List.setIfInBounds_toArray, List.set_cons_zero, List.set_cons_succ]
            refine AnyBut.takeS (i := 4) (v := ?v30) rfl (by kernel_rfl) (Nat.le_of_eq (by kernel_rfl)) (by kernel_rfl) (by kernel_rfl) (fun _ _ _ h => h) (HSS.out) (Or.inl ⟨by kernel_rfl, ?hy30⟩) ?r30
            case hy30 =>
              intro w hSw
              try dsimp only at hSw
              go_simp
              first | (obtain ⟨y0, y1, y2, y3, y4, y5, y6⟩ := hSw; go_simp) | skip
              try with_reducible rfl
            try simp only [Act.put, List.getElem_toArray, List.getElem_cons_succ, List.getElem_cons_zero, List.setIfInBounds_toArray, List.set_cons_zero, List.set_cons_succ]
            refine AnyBut.takeS (i := 5) (v := ?v31) rfl (by kernel_rfl) (Nat.le_of_eq (by kernel_rfl)) (by kernel_rfl) (by kernel_rfl) (fun _ _ _ h => h) (HSS.out) (Or.inl ⟨by kernel_rfl, ?hy31⟩) ?r31
            case hy31 =>
              intro w hSw
              try dsimp only at hSw
              go_simp
              first | (obtain ⟨y0, y1, y2, y3, y4, y5, y6⟩ := hSw; go_simp) | skip
              try with_reducible rfl
            try simp only [Act.put, List.getElem_toArray, List.getElem_cons_succ, List.getElem_cons_zero, List.setIfInBounds_toArray, List.set_cons_zero, List.set_cons_succ]
            refine AnyBut.takeS (i := 6) (v := ?v32) rfl (by kernel_rfl) (Nat.le_of_eq (by kernel_rfl)) (by kernel_rfl) (by kernel_rfl) (fun _ _ _ h => h) (HSS.out) (Or.inl ⟨by kernel_rfl, ?hy32⟩) ?r32
            case hy32 =>
              intro w hSw
              try dsimp only at hSw
              go_simp
              first | (obtain ⟨y0, y1, y2, y3, y4, y5, y6⟩ := hSw; go_simp) | skip
              try with_reducible rfl
            try simp only [Act.put, List.getElem_toArray, List.getElem_cons_succ, List.getElem_cons_zero, List.setIfInBounds_toArray, List.set_cons_zero, List.set_cons_succ]
            refine AnyBut.takeS (i := 7) (v := ?v33) rfl (by kernel_rfl) (Nat.le_of_eq (by kernel_rfl)) (by kernel_rfl) (by kernel_rfl) (fun _ _ _ h => h) (HSS.out) (Or.inl ⟨by kernel_rfl, ?hy33⟩) ?r33
            case hy33 =>
              intro w hSw
              try dsimp only at hSw
              go_simp
              first | (obtain ⟨y0, y1, y2, y3, y4, y5, y6⟩ := hSw; go_simp) | skip
              try with_reducible rfl
            try simp only [Act.put, List.getElem_toArray, List.getElem_cons_succ, List.getElem_cons_zero, List.setIfInBounds_toArray, List.set_cons_zero, List.set_cons_succ]
            refine AnyBut.takeS (i := 8) (v := ?v34) rfl (by kernel_rfl) (Nat.le_of_eq (by kernel_rfl)) (by kernel_rfl) (by kernel_rfl) (fun _ _ _ h => h) (HSS.out) (Or.inl ⟨by kernel_rfl, ?hy34⟩) ?r34
            case hy34 =>
              intro w hSw
              try dsimp only at hSw
              go_simp
              first | (obtain ⟨y0, y1, y2, y3, y4, y5, y6⟩ := hSw; go_simp) | skip
              try with_reducible rfl
            try simp only [Act.put, List.getElem_toArray, List.getElem_cons_succ, List.getElem_cons_zero, List.setIfInBounds_toArray, List.set_cons_zero, List.set_cons_succ]
            refine AnyBut.takeS (i := 9) (v := ?v35) rfl (by kernel_rfl) (Nat.le_of_eq (by kernel_rfl)) (by kernel_rfl) (by kernel_rfl) (fun _ _ _ h => h) (HSS.out) (Or.inl ⟨by kernel_rfl, ?hy35⟩) ?r35
            case hy35 =>
              intro w hSw
              try dsimp only at hSw
              go_simp
              first | (obtain ⟨y0, y1, y2, y3, y4, y5, y6⟩ := hSw; go_simp) | skip
              try with_reducible rfl
            try simp only [Act.put, List.getElem_toArray, List.getElem_cons_succ, List.getElem_cons_zero, List.setIfInBounds_toArray, List.set_cons_zero, List.set_cons_succ]
            refine AnyBut.takeS (i := 10) (v := ?v36) rfl (by kernel_rfl) (Nat.le_of_eq (by kernel_rfl)) (by kernel_rfl) (by kernel_rfl) (fun _ _ _ h => h) (HSS.out) (Or.inl ⟨by kernel_rfl, ?hy36⟩) ?r36
            case hy36 =>
              intro w hSw
              try dsimp only at hSw
              go_simp
              first | (obtain ⟨y0, y1, y2, y3, y4, y5, y6⟩ := hSw; go_simp) | skip
              try with_reducible rfl
            try simp only [Act.put, List.getElem_toArray, List.getElem_cons_succ, List.getElem_cons_zero, List.setIfInBounds_toArray, List.set_cons_zero, List.set_cons_succ]
            refine AnyBut.takeS (i := 11) (v := ?v37) rfl (by kernel_rfl) (Nat.le_of_eq (by kernel_rfl)) (by kernel_rfl) (by kernel_rfl) (fun _ _ _ h => h) (HSS.out) (Or.inl ⟨by kernel_rfl, ?hy37⟩) ?r37
            case hy37 =>
              intro w hSw
              try dsimp only at hSw
              go_simp
              first | (obtain ⟨y0, y1, y2, y3, y4, y5, y6⟩ := hSw; go_simp) | skip
              try with_reducible rfl
            try simp only [Act.put, List.getElem_toArray, List.getElem_cons_succ, List.getElem_cons_zero, List.setIfInBounds_toArray, List.set_cons_zero, List.set_cons_succ]
            refine AnyBut.takeS (i := 12) (v := ?v38) rfl (by kernel_rfl) (Nat.le_of_eq (by kernel_rfl)) (by kernel_rfl) (by kernel_rfl) (fun _ _ _ h => h) (HSS.out) (Or.inl ⟨by kernel_rfl, ?hy38⟩) ?r38
            case hy38 =>
              intro w hSw
              try dsimp only at hSw
              go_simp
              first | (obtain ⟨y0, y1, y2, y3, y4, y5, y6⟩ := hSw; go_simp) | skip
              try with_reducible rfl
            try simp only [Act.put, List.getElem_toArray, List.getElem_cons_succ, List.getElem_cons_zero, List.setIfInBounds_toArray, List.set_cons_zero, List.set_cons_succ]
            refine AnyBut.takeS (i := 13) (v := ?v39) rfl (by kernel_rfl) (Nat.le_of_eq (by kernel_rfl)) (by kernel_rfl) (by kernel_rfl) (fun _ _ _ h => h) (HSS.out) (Or.inl ⟨by kernel_rfl, ?hy39⟩) ?r39
            case hy39 =>
              intro w hSw
              try dsimp only at hSw
              go_simp
              first | (obtain ⟨y0, y1, y2, y3, y4, y5, y6⟩ := hSw; go_simp) | skip
              try with_reducible rfl
            try simp only [Act.put, List.getElem_toArray, List.getElem_cons_succ, List.getElem_cons_zero, List.setIfInBounds_toArray, List.set_cons_zero, List.set_cons_succ]
            refine AnyBut.takeS (i := 14) (v := ?v40) rfl (by kernel_rfl) (Nat.le_of_eq (by kernel_rfl)) (by kernel_rfl) (by kernel_rfl) (fun _ _ _ h => h) (HSS.out) (Or.inl ⟨by kernel_rfl, ?hy40⟩) ?r40
            case hy40 =>
              intro w hSw
              try dsimp only at hSw
              go_simp
              first | (obtain ⟨y0, y1, y2, y3, y4, y5, y6⟩ := hSw; go_simp) | skip
              try with_reducible rfl
            try simp only [Act.put, List.getElem_toArray, List.getElem_cons_succ, List.getElem_cons_zero, List.setIfInBounds_toArray, List.set_cons_zero, List.set_cons_succ]
            refine AnyBut.takeS (i := 15) (v := ?v41) rfl (by kernel_rfl) (Nat.le_of_eq (by kernel_rfl)) (by kernel_rfl) (by kernel_rfl) (fun _ _ _ h => h) (HSS.out) (Or.inl ⟨by kernel_rfl, ?hy41⟩) ?r41
            case hy41 =>
              intro w hSw
              try dsimp only at hSw
              go_simp
              first | (obtain ⟨y0, y1, y2, y3, y4, y5, y6⟩ := hSw; go_simp) | skip
              try with_reducible rfl
            try simp only [Act.put, List.getElem_toArray, List.getElem_cons_succ, List.getElem_cons_zero, List.setIfInBounds_toArray, List.set_cons_zero, List.set_cons_succ]
            refine AnyBut.takeS (i := 16) (v := ?v42) rfl (by kernel_rfl) (Nat.le_of_eq (by kernel_rfl)) (by kernel_rfl) (by kernel_rfl) (fun _ _ _ h => h) (HSS.out) (Or.inl ⟨by kernel_rfl, ?hy42⟩) ?r42
            case hy42 =>
              intro w hSw
              try dsimp only at hSw
              go_simp
              first | (obtain ⟨y0, y1, y2, y3, y4, y5, y6⟩ := hSw; go_simp) | skip
              try with_reducible rfl
            try simp only [Act.put, List.getElem_toArray, List.getElem_cons_succ, List.getElem_cons_zero, List.setIfInBounds_toArray, List.set_cons_zero, List.set_cons_succ]
            refine AnyBut.takeS (i := 17) (v := ?v43) rfl (by kernel_rfl) (Nat.le_of_eq (by kernel_rfl)) (by kernel_rfl) (by kernel_rfl) (fun _ _ _ h => h) (HSS.out) (Or.inl ⟨by kernel_rfl, ?hy43⟩) ?r43
            case hy43 =>
              intro w hSw
              try dsimp only at hSw
              go_simp
              first | (obtain ⟨y0, y1, y2, y3, y4, y5, y6⟩ := hSw; go_simp) | skip
              try with_reducible rfl
            try simp only [Act.put, List.getElem_toArray, List.getElem_cons_succ, List.getElem_cons_zero, List.setIfInBounds_toArray, List.set_cons_zero, List.set_cons_succ]
            refine AnyBut.takeS (i := 18) (v := ?v44) rfl (by kernel_rfl) (Nat.le_of_eq (by kernel_rfl)) (by kernel_rfl) (by kernel_rfl) (fun _ _ _ h => h) (HSS.out) (Or.inl ⟨by kernel_rfl, ?hy44⟩) ?r44
            case hy44 =>
              intro w hSw
              try dsimp only at hSw
              go_simp
              first | (obtain ⟨y0, y1, y2, y3, y4, y5, y6⟩ := hSw; go_simp) | skip
              try with_reducible rfl
            try simp only [Act.put, List.getElem_toArray, List.getElem_cons_succ, List.getElem_cons_zero, List.setIfInBounds_toArray, List.set_cons_zero, List.set_cons_succ]
            refine AnyBut.takeS (i := 19) (v := ?v45) rfl (by kernel_rfl) (Nat.le_of_eq (by kernel_rfl)) (by kernel_rfl) (by kernel_rfl) (fun _ _ _ h => h) (HSS.out) (Or.inl ⟨by kernel_rfl, ?hy45⟩) ?r45
            case hy45 =>
              intro w hSw
              try dsimp only at hSw
              go_simp
              first | (obtain ⟨y0, y1, y2, y3, y4, y5, y6⟩ := hSw; go_simp) | skip
              try with_reducible rfl
            try simp only [Act.put, List.getElem_toArray, List.getElem_cons_succ, List.getElem_cons_zero, List.setIfInBounds_toArray, List.set_cons_zero, List.set_cons_succ]
            refine AnyBut.takeS (i := 20) (v := ?v46) rfl (by kernel_rfl) (Nat.le_of_eq (by kernel_rfl)) (by kernel_rfl) (by kernel_rfl) (fun _ _ _ h => h) (HSS.out) (Or.inl ⟨by kernel_rfl, ?hy46⟩) ?r46
            case hy46 =>
              intro w hSw
              try dsimp only at hSw
              go_simp
              first | (obtain ⟨y0, y1, y2, y3, y4, y5, y6⟩ := hSw; go_simp) | skip
              try with_reducible rfl
            try simp only [Act.put, List.getElem_toArray, List.getElem_cons_succ, List.getElem_cons_zero, List.setIfInBounds_toArray, List.set_cons_zero, List.set_cons_succ]
            refine AnyBut.takeS (i := 21) (v := ?v47) rfl (by kernel_rfl) (Nat.le_of_eq (by kernel_rfl)) (by kernel_rfl) (by kernel_rfl) (fun _ _ _ h => h) (HSS.out) (Or.inl ⟨by kernel_rfl, ?hy47⟩) ?r47
            case hy47 =>
              intro w hSw
              try dsimp only at hSw
              go_simp
              first | (obtain ⟨y0, y1, y2, y3, y4, y5, y6⟩ := hSw; go_simp) | skip
              try with_reducible rfl
            try simp only [Act.put, List.getElem_toArray, List.getElem_cons_succ, List.getElem_cons_zero, List.setIfInBounds_toArray, List.set_cons_zero, List.set_cons_succ]
            refine AnyBut.takeS (i := 22) (v := ?v48) rfl (by kernel_rfl) (Nat.le_of_eq (by kernel_rfl)) (by kernel_rfl) (by kernel_rfl) (fun _ _ _ h => h) (HSS.out) (Or.inl ⟨by kernel_rfl, ?hy48⟩) ?r48
            case hy48 =>
              intro w hSw
              try dsimp only at hSw
              go_simp
              first | (obtain ⟨y0, y1, y2, y3, y4, y5, y6⟩ := hSw; go_simp) | skip
              try with_reducible rfl
            try simp only [Act.put, List.getElem_toArray, List.getElem_cons_succ, List.getElem_cons_zero, List.setIfInBounds_toArray, List.set_cons_zero, List.set_cons_succ]
            refine AnyBut.takeS (i := 23) (v := ?v49) rfl (by kernel_rfl) (Nat.le_of_eq (by kernel_rfl)) (by kernel_rfl) (by kernel_rfl) (fun _ _ _ h => h) (HSS.out) (Or.inl ⟨by kernel_rfl, ?hy49⟩) ?r49
            case hy49 =>
              intro w hSw
              try dsimp only at hSw
              go_simp
              first | (obtain ⟨y0, y1, y2, y3, y4, y5, y6⟩ := hSw; go_simp) | skip
              try with_reducible rfl
            try simp only [Act.put, List.getElem_toArray, List.getElem_cons_succ, List.getElem_cons_zero, List.setIfInBounds_toArray, List.set_cons_zero, List.set_cons_succ]
            refine AnyBut.one (i := 24) (by kernel_rfl) rfl (fun K hK => ?_)
            go_simp
            go_wp2_with fail
            refine (HH.out _).mono ?_
            rintro e w4 ⟨rfl, k4⟩
            have HK4 := Lib.hid (HK.out.drew.trans k4)
            have HS4 := Lib.hid (show (fun w' => w'.cell? ⟨gb, 1, none⟩ = some (.slice (some ⟨g, o, none⟩) L.length cp) ∧ w'.cell? ⟨g, o + pc * 6, none⟩ = some (.int .i64 (P.p.k : Int)) ∧ w'.cell? ⟨g, o + pc * 6 + 1, none⟩ = some (.int .u8 (P.p.c : Int)) ∧ w'.cell? ⟨g, o + pc * 6 + 2, none⟩ = some (.int .u64 (P.a : Int)) ∧ w'.cell? ⟨g, o + pc * 6 + 3, none⟩ = some (.int .u64 (P.b : Int)) ∧ w'.cell? ⟨g, o + pc * 6 + 4, none⟩ = some (.int .u64 (P.c : Int)) ∧ w'.cell? ⟨g, o + pc * 6 + 5, none⟩ = some (.int .u64 (P.d : Int))) w4 from ⟨k4.cell HSS.out.1 (fun x => x), k4.cell HSS.out.2.1 (fun x => x), k4.cell HSS.out.2.2.1 (fun x => x), k4.cell HSS.out.2.2.2.1 (fun x => x), k4.cell HSS.out.2.2.2.2.1 (fun x => x), k4.cell HSS.out.2.2.2.2.2.1 (fun x => x), k4.cell HSS.out.2.2.2.2.2.2 (fun x => x)⟩)
            clear k4
            have c1' := HS4.out.1
            clear c1 x0 x1 x2 x3 x4 x5
            refine hK.out _ _ (HS4.out) ?_
            clear hK K
            try simp only [Act.put, List.getElem_toArray, List.getElem_cons_succ, List.getElem_cons_zero, List.setIfInBounds_toArray, List.set_cons_zero, List.set_cons_succ]
            refine AnyBut.takeS (i := 25) (v := ?v50) rfl (by kernel_rfl) (Nat.le_of_eq (by kernel_rfl)) (by kernel_rfl) (by kernel_rfl) (fun _ _ _ h => h) (HS4.out) (Or.inl ⟨by kernel_rfl, ?hy50⟩) ?r50
            case hy50 =>
              intro w hSw
              try dsimp only at hSw
              go_simp
              first | (obtain ⟨y0, y1, y2, y3, y4, y5, y6⟩ := hSw; go_simp) | skip
              try with_reducible rfl
            try simp only [Act.put, List.getElem_toArray, List.getElem_cons_succ, List.getElem_cons_zero, List.setIfInBounds_toArray, List.set_cons_zero, List.set_cons_succ]
            refine AnyBut.done (by kernel_rfl) ?_
            by_cases hs0 : 0 ≤ st
            · obtain ⟨ST, hST⟩ : ∃ k, k = st.toNat + 1 := ⟨_, rfl⟩
              have wst : IntKind.i64.wrap (st + 1) = (ST : Int) := by rw [IntWalk.i64_in _ ⟨by omega, by omega⟩]; omega
              by_cases hf0 : fr < s.size
              · have q7 : (fr : Int) < (s.size : Int) := by omega
                have HN := Lib.hid (HM.out.back hs0 (by rw [bl_length]; exact hf0) HF.out)
                have HD := Lib.hid (miN_back (m := (L.map PcR.p).length) (n := (bl s).length) (pc := pc) (st := st) (show fr < (bl s).length by rw [bl_length]; exact hf0))
                rw [← hfr1, ← hST] at HN
                rw [← hST, ← hfr1] at HD
                clear hST hpc1 hat1 hfr1 hf0
                clear hat hpc hlo hst hfr hLL hSS
                go_wp2
                go_step3
                try simp only [Exit.jump]
                exact ⟨rfl, MJ.intro HN.out HK4.out _ _ _ _ _ _ _ _ _ _ _ _ _ _ _ _ _ _ _ _ _ _ _ _ _ _ _ _ _ _ _ _ _ _ _ _ _ _ _ _ _ _ _ _ _ _ _ _ _ _ _ _ _ _ _ _ _ _ _ _ _ _ _ _ _ _ _ _ _ _ _ _ _ _ _ _ _ _ _ _ _, HD.out⟩
              · have q7 : ¬ (fr : Int) < (s.size : Int) := by omega
                have HN := Lib.hid (HM.out.no (by rw [bl_length]; omega) HF.out)
                clear hST hpc1 hat1 hfr1 hf0
                clear hat hpc hlo hst hfr hLL hSS
                go_wp2
                try simp only [Exit.jump]
                go_ret
                exact ⟨by rw [HN.out]; rfl, HK4.out⟩
            · have HN := Lib.hid (HM.out.no (by omega) HF.out)
              clear hpc1 hat1 hfr1
              clear hat hpc hlo hst hfr hLL hSS
              go_wp2
              try simp only [Exit.jump]
              go_ret
              exact ⟨by rw [HN.out]; rfl, HK4.out⟩
        · have hal : ¬ (at_ : Int) < (s.size : Int) := by omega
          have hal' : decide (at_ < s.size) = false := decide_eq_false ha
          have han : (((at_ : Nat) : Int) == (s.size : Int)) = true := by simp; omega
          have HF := Lib.hid (HM.out.fail HK3.out (fun q _ h => by rw [bl_length] at h; omega) (by rw [List.length_map]; omega))
          have HKD := Lib.hid HK.out.drew
          have c1' : w0.drew.cell? ⟨gb, 1, none⟩ = some (.slice (some ⟨g, o, none⟩) L.length cp) := c1
          clear hk3 hp x1 x2 x3 x4 x5
          go_upto_region 6 with fail
          refine AnyBut.start (S := fun _ => True) (k := 26) (by kernel_rfl) ?_
          refine AnyBut.takeS (i := 0) (v := ?v77) rfl (by kernel_rfl) (Nat.le_of_eq (by kernel_rfl)) (by kernel_rfl) (by kernel_rfl) (fun _ _ _ h => h) (trivial) (Or.inl ⟨by kernel_rfl, ?hy77⟩) ?r77
          case hy77 =>
            intro w hSw
            try dsimp only at hSw
            go_simp
            try with_reducible rfl
          try simp only [Act.put, List.getElem_toArray, List.getElem_cons_zero, List.setIfInBounds_toArray, List.set_cons_zero, List.set_cons_succ]
          refine AnyBut.takeS (i := 1) (v := ?v78) rfl (by kernel_rfl) (Nat.le_of_eq (by kernel_rfl)) (by kernel_rfl) (by kernel_rfl) (fun _ _ _ h => h) (trivial) (Or.inl ⟨by kernel_rfl, ?hy78⟩) ?r78
          case hy78 =>
            intro w hSw
            try dsimp only at hSw
            go_simp
            try with_reducible rfl
          try simp only [Act.put, List.getElem_toArray, List.getElem_cons_succ, List.getElem_cons_zero, List.setIfInBounds_toArray, List.set_cons_zero, List.set_cons_succ]
          refine AnyBut.takeS (i := 2) (v := ?v79) rfl (by kernel_rfl) (Nat.le_of_eq (by kernel_rfl)) (by kernel_rfl) (by kernel_rfl) (fun _ _ _ h => h) (trivial) (Or.inl ⟨by kernel_rfl, ?hy79⟩) ?r79
          case hy79 =>
            intro w hSw
            try dsimp only at hSw
            go_simp
            try with_reducible rfl
          try simp only [Act.put, List.getElem_toArray, List.getElem_cons_succ, List.getElem_cons_zero, List.setIfInBounds_toArray, List.set_cons_zero, List.set_cons_succ]
          refine AnyBut.takeS (i := 3) (v := ?v80) rfl (by kernel_rfl) (Nat.le_of_eq (by kernel_rfl)) (by kernel_rfl) (by kernel_rfl) (fun _ _ _ h => h) (trivial) (Or.inl ⟨by kernel_rfl, ?hy80⟩) ?r80
          case hy80 =>
            intro w hSw
            try dsimp only at hSw
            go_simp
            try with_reducible rfl
          try simp only [Act.put, List.getElem_toArray, List.getElem_cons_succ, List.getElem_cons_zero, List.setIfInBounds_toArray, List.set_cons_zero, List.set_cons_succ]
          refine AnyBut.takeS (i := 4) (v := ?v81) rfl (by kernel_rfl) (Nat.le_of_eq (by kernel_rfl)) (by kernel_rfl) (by kernel_rfl) (fun _ _ _ h => h) (trivial) (Or.inl ⟨by kernel_rfl, ?hy81⟩) ?r81
          case hy81 =>
            intro w hSw
            try dsimp only at hSw
            go_simp
            try with_reducible rfl
          try simp only [Act.put, List.getElem_toArray, List.getElem_cons_succ, List.getElem_cons_zero, List.setIfInBounds_toArray, List.set_cons_zero, List.set_cons_succ]
          refine AnyBut.takeS (i := 5) (v := undef) rfl (by kernel_rfl) (Nat.le_of_eq (by kernel_rfl)) (by kernel_rfl) (by kernel_rfl) (fun _ _ _ h => h) (trivial) (Or.inr ⟨by kernel_rfl, rfl⟩) ?r82
          try simp only [Act.put, List.getElem_toArray, List.getElem_cons_succ, List.getElem_cons_zero, List.setIfInBounds_toArray, List.set_cons_zero, List.set_cons_succ]
          refine AnyBut.takeS (i := 6) (v := undef) rfl (by kernel_rfl) (Nat.le_of_eq (by kernel_rfl)) (by kernel_rfl) (by kernel_rfl) (fun _ _ _ h => h) (trivial) (Or.inr ⟨by kernel_rfl, rfl⟩) ?r83
          try simp only [Act.put, List.getElem_toArray, List.getElem_cons_succ, List.getElem_cons_zero, List.setIfInBounds_toArray, List.set_cons_zero, List.set_cons_succ]
          refine AnyBut.takeS (i := 7) (v := undef) rfl (by kernel_rfl) (Nat.le_of_eq (by kernel_rfl)) (by kernel_rfl) (by kernel_rfl) (fun _ _ _ h => h) (trivial) (Or.inr ⟨by kernel_rfl, rfl⟩) ?r84
          try simp only [Act.put, List.getElem_toArray, List.getElem_cons_succ, List.getElem_cons_zero, List.setIfInBounds_toArray, List.set_cons_zero, List.set_cons_succ]
          refine AnyBut.takeS (i := 8) (v := undef) rfl (by kernel_rfl) (Nat.le_of_eq (by kernel_rfl)) (by kernel_rfl) (by kernel_rfl) (fun _ _ _ h => h) (trivial) (Or.inr ⟨by kernel_rfl, rfl⟩) ?r85
          try simp only [Act.put, List.getElem_toArray, List.getElem_cons_succ, List.getElem_cons_zero, List.setIfInBounds_toArray, List.set_cons_zero, List.set_cons_succ]
          refine AnyBut.takeS (i := 9) (v := undef) rfl (by kernel_rfl) (Nat.le_of_eq (by kernel_rfl)) (by kernel_rfl) (by kernel_rfl) (fun _ _ _ h => h) (trivial) (Or.inr ⟨by kernel_rfl, rfl⟩) ?r86
          try simp only [Act.put, List.getElem_toArray, List.getElem_cons_succ, List.getElem_cons_zero, List.setIfInBounds_toArray, List.set_cons_zero, List.set_cons_succ]
          refine AnyBut.takeS (i := 10) (v := undef) rfl (by kernel_rfl) (Nat.le_of_eq (by kernel_rfl)) (by kernel_rfl) (by kernel_rfl) (fun _ _ _ h => h) (trivial) (Or.inr ⟨by kernel_rfl, rfl⟩) ?r87
          try simp only [Act.put, List.getElem_toArray, List.getElem_cons_succ, List.getElem_cons_zero, List.setIfInBounds_toArray, List.set_cons_zero, List.set_cons_succ]
          refine AnyBut.takeS (i := 11) (v := undef) rfl (by kernel_rfl) (Nat.le_of_eq (by kernel_rfl)) (by kernel_rfl) (by kernel_rfl) (fun _ _ _ h => h) (trivial) (Or.inr ⟨by kernel_rfl, rfl⟩) ?r88
          try simp only [Act.put, List.getElem_toArray, List.getElem_cons_succ, List.getElem_cons_zero, List.setIfInBounds_toArray, List.set_cons_zero, List.set_cons_succ]
          refine AnyBut.takeS (i := 12) (v := ?v89) rfl (by kernel_rfl) (Nat.le_of_eq (by kernel_rfl)) (by kernel_rfl) (by kernel_rfl) (fun _ _ _ h => h) (trivial) (Or.inl ⟨by kernel_rfl, ?hy89⟩) ?r89
          case hy89 =>
            intro w hSw
            try dsimp only at hSw
            go_simp
            try with_reducible rfl
          try simp only [Act.put, List.getElem_toArray, List.getElem_cons_succ, List.getElem_cons_zero, List.setIfInBounds_toArray, List.set_cons_zero, List.set_cons_succ]
          refine AnyBut.takeS (i := 13) (v := ?v90) rfl (by kernel_rfl) (Nat.le_of_eq (by kernel_rfl)) (by kernel_rfl) (by kernel_rfl) (fun _ _ _ h => h) (trivial) (Or.inl ⟨by kernel_rfl, ?hy90⟩) ?r90
          case hy90 =>
            intro w hSw
            try dsimp only at hSw
            go_simp
            try with_reducible rfl
          try simp only [Act.put, List.getElem_toArray, List.getElem_cons_succ, List.getElem_cons_zero, List.setIfInBounds_toArray, List.set_cons_zero, List.set_cons_succ]
          refine AnyBut.takeS (i := 14) (v := undef) rfl (by kernel_rfl) (Nat.le_of_eq (by kernel_rfl)) (by kernel_rfl) (by kernel_rfl) (fun _ _ _ h => h) (trivial) (Or.inr ⟨by kernel_rfl, rfl⟩) ?r91
          try simp only [Act.put, List.getElem_toArray, List.getElem_cons_succ, List.getElem_cons_zero, List.setIfInBounds_toArray, List.set_cons_zero, List.set_cons_succ]
          refine AnyBut.takeS (i := 15) (v := undef) rfl (by kernel_rfl) (Nat.le_of_eq (by kernel_rfl)) (by kernel_rfl) (by kernel_rfl) (fun _ _ _ h => h) (trivial) (Or.inr ⟨by kernel_rfl, rfl⟩) ?r92
          try simp only [Act.put, List.getElem_toArray, List.getElem_cons_succ, List.getElem_cons_zero, List.setIfInBounds_toArray, List.set_cons_zero, List.set_cons_succ]
          refine AnyBut.takeS (i := 16) (v := undef) rfl (by kernel_rfl) (Nat.le_of_eq (by kernel_rfl)) (by kernel_rfl) (by kernel_rfl) (fun _ _ _ h => h) (trivial) (Or.inr ⟨by kernel_rfl, rfl⟩) ?r93
          try simp only [Act.put, List.getElem_toArray, List.getElem_cons_succ, List.getElem_cons_zero, List.setIfInBounds_toArray, List.set_cons_zero, List.set_cons_succ]
          refine AnyBut.takeS (i := 17) (v := undef) rfl (by kernel_rfl) (Nat.le_of_eq (by kernel_rfl)) (by kernel_rfl) (by kernel_rfl) (fun _ _ _ h => h) (trivial) (Or.inr ⟨by kernel_rfl, rfl⟩) ?r94
          try simp only [Act.put, List.getElem_toArray, List.getElem_cons_succ, List.getElem_cons_zero, List.setIfInBounds_toArray, List.set_cons_zero, List.set_cons_succ]
          refine AnyBut.takeS (i := 18) (v := undef) rfl (by kernel_rfl) (Nat.le_of_eq (by kernel_rfl)) (by kernel_rfl) (by kernel_rfl) (fun _ _ _ h => h) (trivial) (Or.inr ⟨by kernel_rfl, rfl⟩) ?r95
          try simp only [Act.put, List.getElem_toArray, List.getElem_cons_succ, List.getElem_cons_zero, List.setIfInBounds_toArray, List.set_cons_zero, List.set_cons_succ]
          refine AnyBut.takeS (i := 19) (v := undef) rfl (by kernel_rfl) (Nat.le_of_eq (by kernel_rfl)) (by kernel_rfl) (by kernel_rfl) (fun _ _ _ h => h) (trivial) (Or.inr ⟨by kernel_rfl, rfl⟩) ?r96
          try simp only [Act.put, List.getElem_toArray, List.getElem_cons_succ, List.getElem_cons_zero, List.setIfInBounds_toArray, List.set_cons_zero, List.set_cons_succ]
          refine AnyBut.takeS (i := 20) (v := undef) rfl (by kernel_rfl) (Nat.le_of_eq (by kernel_rfl)) (by kernel_rfl) (by kernel_rfl) (fun _ _ _ h => h) (trivial) (Or.inr ⟨by kernel_rfl, rfl⟩) ?r97
          try simp only [Act.put, List.getElem_toArray, List.getElem_cons_succ, List.getElem_cons_zero, List.setIfInBounds_toArray, List.set_cons_zero, List.set_cons_succ]
          refine AnyBut.takeS (i := 21) (v := undef) rfl (by kernel_rfl) (Nat.le_of_eq (by kernel_rfl)) (by kernel_rfl) (by kernel_rfl) (fun _ _ _ h => h) (trivial) (Or.inr ⟨by kernel_rfl, rfl⟩) ?r98
          try simp only [Act.put, List.getElem_toArray, List.getElem_cons_succ, List.getElem_cons_zero, List.setIfInBounds_toArray, List.set_cons_zero, List.set_cons_succ]
          refine AnyBut.takeS (i := 22) (v := undef) rfl (by kernel_rfl) (Nat.le_of_eq (by kernel_rfl)) (by kernel_rfl) (by kernel_rfl) (fun _ _ _ h => h) (trivial) (Or.inr ⟨by kernel_rfl, rfl⟩) ?r99
          try simp only [Act.put, List.getElem_toArray, List.getElem_cons_succ, List.getElem_cons_zero, List.setIfInBounds_toArray, List.set_cons_zero, List.set_cons_succ]
          refine AnyBut.takeS (i := 23) (v := undef) rfl (by kernel_rfl) (Nat.le_of_eq (by kernel_rfl)) (by kernel_rfl) (by kernel_rfl) (fun _ _ _ h => h) (trivial) (Or.inr ⟨by kernel_rfl, rfl⟩) ?r100
          try simp only [Act.put, List.getElem_toArray, List.getElem_cons_succ, List.getElem_cons_zero, List.setIfInBounds_toArray, List.set_cons_zero, List.set_cons_succ]
          refine AnyBut.takeS (i := 24) (v := undef) rfl (by kernel_rfl) (Nat.le_of_eq (by kernel_rfl)) (by kernel_rfl) (by kernel_rfl) (fun _ _ _ h => h) (trivial) (Or.inr ⟨by kernel_rfl, rfl⟩) ?r101
          try simp only [Act.put, List.getElem_toArray, List.getElem_cons_succ, List.getElem_cons_zero, List.setIfInBounds_toArray, List.set_cons_zero, List.set_cons_succ]
          refine AnyBut.takeS (i := 25) (v := ?v102) rfl (by kernel_rfl) (Nat.le_of_eq (by kernel_rfl)) (by kernel_rfl) (by kernel_rfl) (fun _ _ _ h => h) (trivial) (Or.inl ⟨by kernel_rfl, ?hy102⟩) ?r102
          case hy102 =>
            intro w hSw
            try dsimp only at hSw
            go_simp
            try with_reducible rfl
          try simp only [Act.put, List.getElem_toArray, List.getElem_cons_succ, List.getElem_cons_zero, List.setIfInBounds_toArray, List.set_cons_zero, List.set_cons_succ]
          refine AnyBut.done (by kernel_rfl) ?_
          by_cases hs0 : 0 ≤ st
          · obtain ⟨ST, hST⟩ : ∃ k, k = st.toNat + 1 := ⟨_, rfl⟩
            have wst : IntKind.i64.wrap (st + 1) = (ST : Int) := by rw [IntWalk.i64_in _ ⟨by omega, by omega⟩]; omega
            by_cases hf0 : fr < s.size
            · have q7 : (fr : Int) < (s.size : Int) := by omega
              have HN := Lib.hid (HM.out.back hs0 (by rw [bl_length]; exact hf0) HF.out)
              have HD := Lib.hid (miN_back (m := (L.map PcR.p).length) (n := (bl s).length) (pc := pc) (st := st) (show fr < (bl s).length by rw [bl_length]; exact hf0))
              rw [← hfr1, ← hST] at HN
              rw [← hST, ← hfr1] at HD
              clear hST hpc1 hat1 hfr1 hf0
              clear hat hpc hlo hst hfr hLL hSS
              go_wp2
              go_step3
              try simp only [Exit.jump]
              exact ⟨rfl, MJ.intro HN.out HKD.out _ _ _ _ _ _ _ _ _ _ _ _ _ _ _ _ _ _ _ _ _ _ _ _ _ _ _ _ _ _ _ _ _ _ _ _ _ _ _ _ _ _ _ _ _ _ _ _ _ _ _ _ _ _ _ _ _ _ _ _ _ _ _ _ _ _ _ _ _ _ _ _ _ _ _ _ _ _ _ _ _, HD.out⟩
            · have q7 : ¬ (fr : Int) < (s.size : Int) := by omega
              have HN := Lib.hid (HM.out.no (by rw [bl_length]; omega) HF.out)
              clear hST hpc1 hat1 hfr1 hf0
              clear hat hpc hlo hst hfr hLL hSS
              go_wp2
              try simp only [Exit.jump]
              go_ret
              exact ⟨by rw [HN.out]; rfl, HKD.out⟩
          · have HN := Lib.hid (HM.out.no (by omega) HF.out)
            clear hpc1 hat1 hfr1
            clear hat hpc hlo hst hfr hLL hSS
            go_wp2
            try simp only [Exit.jump]
            go_ret
            exact ⟨by rw [HN.out]; rfl, HKD.out⟩
    · have hpl : ¬ (pc : Int) < (L.length : Int) := by omega
      have hpl' : decide (pc < L.length) = false := decide_eq_false hp
      have hpn : (((pc : Nat) : Int) == (L.length : Int)) = true := by simp; omega
      have hK3 : ∀ q, (L.map PcR.p)[pc]? = some q → q.k ≠ 3 := fun q hq => by have := (List.getElem?_eq_some_iff.1 hq).1; rw [List.length_map] at this; omega
      have HKD := Lib.hid HK.out.drew
      have HSS : Hid ((fun w' => w'.cell? ⟨gb, 1, none⟩ = some (.slice a L.length cp)) w0.drew) := Lib.hid c1
      have c1' : w0.drew.cell? ⟨gb, 1, none⟩ = some (.slice a L.length cp) := c1
      by_cases ha : at_ < s.size
      · have hal : (at_ : Int) < (s.size : Int) := by omega
        have hal' : decide (at_ < s.size) = true := decide_eq_true ha
        have han : (((at_ : Nat) : Int) == (s.size : Int)) = false := by simp; omega
        have HF := Lib.hid (HM.out.fail hK3 (fun q hq => by have := (List.getElem?_eq_some_iff.1 hq).1; rw [List.length_map] at this; omega) (by rw [bl_length]; omega))
        clear hp hK3 ha
        go_upto_region 6 with fail
        refine AnyBut.start (S := fun w' => w'.cell? ⟨gb, 1, none⟩ = some (.slice a L.length cp)) (k := 26) (by kernel_rfl) ?_
        refine AnyBut.takeS (i := 0) (v := ?v103) rfl (by kernel_rfl) (Nat.le_of_eq (by kernel_rfl)) (by kernel_rfl) (by kernel_rfl) (fun _ _ _ h => h) (HSS.out) (Or.inl ⟨by kernel_rfl, ?hy103⟩) ?r103
        case hy103 =>
          intro w hSw
          try dsimp only at hSw
          go_simp
          try with_reducible rfl
        try simp only [Act.put, List.getElem_toArray, List.getElem_cons_zero, List.setIfInBounds_toArray, List.set_cons_zero, List.set_cons_succ]
        refine AnyBut.takeS (i := 1) (v := ?v104) rfl (by kernel_rfl) (Nat.le_of_eq (by kernel_rfl)) (by kernel_rfl) (by kernel_rfl) (fun _ _ _ h => h) (HSS.out) (Or.inl ⟨by kernel_rfl, ?hy104⟩) ?r104
        case hy104 =>
          intro w hSw
          try dsimp only at hSw
          go_simp
          try with_reducible rfl
        try simp only [Act.put, List.getElem_toArray, List.getElem_cons_succ, List.getElem_cons_zero, List.setIfInBounds_toArray, List.set_cons_zero, List.set_cons_succ]
        refine AnyBut.takeS (i := 2) (v := ?v105) rfl (by kernel_rfl) (Nat.le_of_eq (by kernel_rfl)) (by kernel_rfl) (by kernel_rfl) (fun _ _ _ h => h) (HSS.out) (Or.inl ⟨by kernel_rfl, ?hy105⟩) ?r105
        case hy105 =>
          intro w hSw
          try dsimp only at hSw
          go_simp
          try with_reducible rfl
        try simp only [Act.put, List.getElem_toArray, List.getElem_cons_succ, List.getElem_cons_zero, List.setIfInBounds_toArray, List.set_cons_zero, List.set_cons_succ]
        refine AnyBut.takeS (i := 3) (v := ?v106) rfl (by kernel_rfl) (Nat.le_of_eq (by kernel_rfl)) (by kernel_rfl) (by kernel_rfl) (fun _ _ _ h => h) (HSS.out) (Or.inl ⟨by kernel_rfl, ?hy106⟩) ?r106
        case hy106 =>
          intro w hSw
          try dsimp only at hSw
          go_simp
          try with_reducible rfl
        try simp only [Act.put, List.getElem_toArray, List.getElem_cons_succ, List.getElem_cons_zero, List.setIfInBounds_toArray, List.set_cons_zero, List.set_cons_succ]
        refine AnyBut.takeS (i := 4) (v := ?v107) rfl (by kernel_rfl) (Nat.le_of_eq (by kernel_rfl)) (by kernel_rfl) (by kernel_rfl) (fun _ _ _ h => h) (HSS.out) (Or.inl ⟨by kernel_rfl, ?hy107⟩) ?r107
        case hy107 =>
          intro w hSw
          try dsimp only at hSw
          go_simp
          try with_reducible rfl
        try simp only [Act.put, List.getElem_toArray, List.getElem_cons_succ, List.getElem_cons_zero, List.setIfInBounds_toArray, List.set_cons_zero, List.set_cons_succ]
        refine AnyBut.takeS (i := 5) (v := ?v108) rfl (by kernel_rfl) (Nat.le_of_eq (by kernel_rfl)) (by kernel_rfl) (by kernel_rfl) (fun _ _ _ h => h) (HSS.out) (Or.inl ⟨by kernel_rfl, ?hy108⟩) ?r108
        case hy108 =>
          intro w hSw
          try dsimp only at hSw
          go_simp
          try with_reducible rfl
        try simp only [Act.put, List.getElem_toArray, List.getElem_cons_succ, List.getElem_cons_zero, List.setIfInBounds_toArray, List.set_cons_zero, List.set_cons_succ]
        refine AnyBut.takeS (i := 6) (v := ?v109) rfl (by kernel_rfl) (Nat.le_of_eq (by kernel_rfl)) (by kernel_rfl) (by kernel_rfl) (fun _ _ _ h => h) (HSS.out) (Or.inl ⟨by kernel_rfl, ?hy109⟩) ?r109
        case hy109 =>
          intro w hSw
          try dsimp only at hSw
          go_simp
          try with_reducible rfl
        try simp only [Act.put, List.getElem_toArray, List.getElem_cons_succ, List.getElem_cons_zero, List.setIfInBounds_toArray, List.set_cons_zero, List.set_cons_succ]
        refine AnyBut.takeS (i := 7) (v := ?v110) rfl (by kernel_rfl) (Nat.le_of_eq (by kernel_rfl)) (by kernel_rfl) (by kernel_rfl) (fun _ _ _ h => h) (HSS.out) (Or.inl ⟨by kernel_rfl, ?hy110⟩) ?r110
        case hy110 =>
          intro w hSw
          try dsimp only at hSw
          go_simp
          try with_reducible rfl
        try simp only [Act.put, List.getElem_toArray, List.getElem_cons_succ, List.getElem_cons_zero, List.setIfInBounds_toArray, List.set_cons_zero, List.set_cons_succ]
        refine AnyBut.takeS (i := 8) (v := ?v111) rfl (by kernel_rfl) (Nat.le_of_eq (by kernel_rfl)) (by kernel_rfl) (by kernel_rfl) (fun _ _ _ h => h) (HSS.out) (Or.inl ⟨by kernel_rfl, ?hy111⟩) ?r111
        case hy111 =>
          intro w hSw
          try dsimp only at hSw
          go_simp
          try with_reducible rfl
        try simp only [Act.put, List.getElem_toArray, List.getElem_cons_succ, List.getElem_cons_zero, List.setIfInBounds_toArray, List.set_cons_zero, List.set_cons_succ]
        refine AnyBut.takeS (i := 9) (v := ?v112) rfl (by kernel_rfl) (Nat.le_of_eq (by kernel_rfl)) (by kernel_rfl) (by kernel_rfl) (fun _ _ _ h => h) (HSS.out) (Or.inl ⟨by kernel_rfl, ?hy112⟩) ?r112
        case hy112 =>
          intro w hSw
          try dsimp only at hSw
          go_simp
          try with_reducible rfl
        try simp only [Act.put, List.getElem_toArray, List.getElem_cons_succ, List.getElem_cons_zero, List.setIfInBounds_toArray, List.set_cons_zero, List.set_cons_succ]
        refine AnyBut.takeS (i := 10) (v := ?v113) rfl (by kernel_rfl) (Nat.le_of_eq (by kernel_rfl)) (by kernel_rfl) (by kernel_rfl) (fun _ _ _ h => h) (HSS.out) (Or.inl ⟨by kernel_rfl, ?hy113⟩) ?r113
        case hy113 =>
          intro w hSw
          try dsimp only at hSw
          go_simp
          try with_reducible rfl
        try simp only [Act.put, List.getElem_toArray, List.getElem_cons_succ, List.getElem_cons_zero, List.setIfInBounds_toArray, List.set_cons_zero, List.set_cons_succ]
        refine AnyBut.takeS (i := 11) (v := ?v114) rfl (by kernel_rfl) (Nat.le_of_eq (by kernel_rfl)) (by kernel_rfl) (by kernel_rfl) (fun _ _ _ h => h) (HSS.out) (Or.inl ⟨by kernel_rfl, ?hy114⟩) ?r114
        case hy114 =>
          intro w hSw
          try dsimp only at hSw
          go_simp
          try with_reducible rfl
        try simp only [Act.put, List.getElem_toArray, List.getElem_cons_succ, List.getElem_cons_zero, List.setIfInBounds_toArray, List.set_cons_zero, List.set_cons_succ]
        refine AnyBut.takeS (i := 12) (v := ?v115) rfl (by kernel_rfl) (Nat.le_of_eq (by kernel_rfl)) (by kernel_rfl) (by kernel_rfl) (fun _ _ _ h => h) (HSS.out) (Or.inl ⟨by kernel_rfl, ?hy115⟩) ?r115
        case hy115 =>
          intro w hSw
          try dsimp only at hSw
          go_simp
          try with_reducible rfl
        try simp only [Act.put, List.getElem_toArray, List.getElem_cons_succ, List.getElem_cons_zero, List.setIfInBounds_toArray, List.set_cons_zero, List.set_cons_succ]
        refine AnyBut.takeS (i := 13) (v := ?v116) rfl (by kernel_rfl) (Nat.le_of_eq (by kernel_rfl)) (by kernel_rfl) (by kernel_rfl) (fun _ _ _ h => h) (HSS.out) (Or.inl ⟨by kernel_rfl, ?hy116⟩) ?r116
        case hy116 =>
          intro w hSw
          try dsimp only at hSw
          go_simp
          try with_reducible rfl
        try simp only [Act.put, List.getElem_toArray, List.getElem_cons_succ, List.getElem_cons_zero, List.setIfInBounds_toArray, List.set_cons_zero, List.set_cons_succ]
        refine AnyBut.takeS (i := 14) (v := undef) rfl (by kernel_rfl) (Nat.le_of_eq (by kernel_rfl)) (by kernel_rfl) (by kernel_rfl) (fun _ _ _ h => h) (HSS.out) (Or.inr ⟨by kernel_rfl, rfl⟩) ?r117
        try simp only [Act.put, List.getElem_toArray, List.getElem_cons_succ, List.getElem_cons_zero, List.setIfInBounds_toArray, List.set_cons_zero, List.set_cons_succ]
        refine AnyBut.takeS (i := 15) (v := undef) rfl (by kernel_rfl) (Nat.le_of_eq (by kernel_rfl)) (by kernel_rfl) (by kernel_rfl) (fun _ _ _ h => h) (HSS.out) (Or.inr ⟨by kernel_rfl, rfl⟩) ?r118
        try simp only [Act.put, List.getElem_toArray, List.getElem_cons_succ, List.getElem_cons_zero, List.setIfInBounds_toArray, List.set_cons_zero, List.set_cons_succ]
        refine AnyBut.takeS (i := 16) (v := undef) rfl (by kernel_rfl) (Nat.le_of_eq (by kernel_rfl)) (by kernel_rfl) (by kernel_rfl) (fun _ _ _ h => h) (HSS.out) (Or.inr ⟨by kernel_rfl, rfl⟩) ?r119
        try simp only [Act.put, List.getElem_toArray, List.getElem_cons_succ, List.getElem_cons_zero, List.setIfInBounds_toArray, List.set_cons_zero, List.set_cons_succ]
        refine AnyBut.takeS (i := 17) (v := undef) rfl (by kernel_rfl) (Nat.le_of_eq (by kernel_rfl)) (by kernel_rfl) (by kernel_rfl) (fun _ _ _ h => h) (HSS.out) (Or.inr ⟨by kernel_rfl, rfl⟩) ?r120
        try simp only [Act.put, List.getElem_toArray, List.getElem_cons_succ, List.getElem_cons_zero, List.setIfInBounds_toArray, List.set_cons_zero, List.set_cons_succ]
        refine AnyBut.takeS (i := 18) (v := undef) rfl (by kernel_rfl) (Nat.le_of_eq (by kernel_rfl)) (by kernel_rfl) (by kernel_rfl) (fun _ _ _ h => h) (HSS.out) (Or.inr ⟨by kernel_rfl, rfl⟩) ?r121
        try simp only [Act.put, List.getElem_toArray, List.getElem_cons_succ, List.getElem_cons_zero, List.setIfInBounds_toArray, List.set_cons_zero, List.set_cons_succ]
        refine AnyBut.takeS (i := 19) (v := undef) rfl (by kernel_rfl) (Nat.le_of_eq (by kernel_rfl)) (by kernel_rfl) (by kernel_rfl) (fun _ _ _ h => h) (HSS.out) (Or.inr ⟨by kernel_rfl, rfl⟩) ?r122
        try simp only [Act.put, List.getElem_toArray, List.getElem_cons_succ, List.getElem_cons_zero, List.setIfInBounds_toArray, List.set_cons_zero, List.set_cons_succ]
        refine AnyBut.takeS (i := 20) (v := undef) rfl (by kernel_rfl) (Nat.le_of_eq (by kernel_rfl)) (by kernel_rfl) (by kernel_rfl) (fun _ _ _ h => h) (HSS.out) (Or.inr ⟨by kernel_rfl, rfl⟩) ?r123
        try simp only [Act.put, List.getElem_toArray, List.getElem_cons_succ, List.getElem_cons_zero, List.setIfInBounds_toArray, List.set_cons_zero, List.set_cons_succ]
        refine AnyBut.takeS (i := 21) (v := undef) rfl (by kernel_rfl) (Nat.le_of_eq (by kernel_rfl)) (by kernel_rfl) (by kernel_rfl) (fun _ _ _ h => h) (HSS.out) (Or.inr ⟨by kernel_rfl, rfl⟩) ?r124
        try simp only [Act.put, List.getElem_toArray, List.getElem_cons_succ, List.getElem_cons_zero, List.setIfInBounds_toArray, List.set_cons_zero, List.set_cons_succ]
        refine AnyBut.takeS (i := 22) (v := undef) rfl (by kernel_rfl) (Nat.le_of_eq (by kernel_rfl)) (by kernel_rfl) (by kernel_rfl) (fun _ _ _ h => h) (HSS.out) (Or.inr ⟨by kernel_rfl, rfl⟩) ?r125
        try simp only [Act.put, List.getElem_toArray, List.getElem_cons_succ, List.getElem_cons_zero, List.setIfInBounds_toArray, List.set_cons_zero, List.set_cons_succ]
        refine AnyBut.takeS (i := 23) (v := undef) rfl (by kernel_rfl) (Nat.le_of_eq (by kernel_rfl)) (by kernel_rfl) (by kernel_rfl) (fun _ _ _ h => h) (HSS.out) (Or.inr ⟨by kernel_rfl, rfl⟩) ?r126
        try simp only [Act.put, List.getElem_toArray, List.getElem_cons_succ, List.getElem_cons_zero, List.setIfInBounds_toArray, List.set_cons_zero, List.set_cons_succ]
        refine AnyBut.takeS (i := 24) (v := undef) rfl (by kernel_rfl) (Nat.le_of_eq (by kernel_rfl)) (by kernel_rfl) (by kernel_rfl) (fun _ _ _ h => h) (HSS.out) (Or.inr ⟨by kernel_rfl, rfl⟩) ?r127
        try simp only [Act.put, List.getElem_toArray, List.getElem_cons_succ, List.getElem_cons_zero, List.setIfInBounds_toArray, List.set_cons_zero, List.set_cons_succ]
        refine AnyBut.takeS (i := 25) (v := ?v128) rfl (by kernel_rfl) (Nat.le_of_eq (by kernel_rfl)) (by kernel_rfl) (by kernel_rfl) (fun _ _ _ h => h) (HSS.out) (Or.inl ⟨by kernel_rfl, ?hy128⟩) ?r128
        case hy128 =>
          intro w hSw
          try dsimp only at hSw
          go_simp
          try with_reducible rfl
        try simp only [Act.put, List.getElem_toArray, List.getElem_cons_succ, List.getElem_cons_zero, List.setIfInBounds_toArray, List.set_cons_zero, List.set_cons_succ]
        refine AnyBut.done (by kernel_rfl) ?_
        by_cases hs0 : 0 ≤ st
        · obtain ⟨ST, hST⟩ : ∃ k, k = st.toNat + 1 := ⟨_, rfl⟩
          have wst : IntKind.i64.wrap (st + 1) = (ST : Int) := by rw [IntWalk.i64_in _ ⟨by omega, by omega⟩]; omega
          by_cases hf0 : fr < s.size
          · have q7 : (fr : Int) < (s.size : Int) := by omega
            have HN := Lib.hid (HM.out.back hs0 (by rw [bl_length]; exact hf0) HF.out)
            have HD := Lib.hid (miN_back (m := (L.map PcR.p).length) (n := (bl s).length) (pc := pc) (st := st) (show fr < (bl s).length by rw [bl_length]; exact hf0))
            rw [← hfr1, ← hST] at HN
            rw [← hST, ← hfr1] at HD
            clear hST hpc1 hat1 hfr1 hf0
            clear hat hpc hlo hst hfr hLL hSS
            go_wp2
            go_step3
            try simp only [Exit.jump]
            exact ⟨rfl, MJ.intro HN.out HKD.out _ _ _ _ _ _ _ _ _ _ _ _ _ _ _ _ _ _ _ _ _ _ _ _ _ _ _ _ _ _ _ _ _ _ _ _ _ _ _ _ _ _ _ _ _ _ _ _ _ _ _ _ _ _ _ _ _ _ _ _ _ _ _ _ _ _ _ _ _ _ _ _ _ _ _ _ _ _ _ _ _, HD.out⟩
          · have q7 : ¬ (fr : Int) < (s.size : Int) := by omega
            have HN := Lib.hid (HM.out.no (by rw [bl_length]; omega) HF.out)
            clear hST hpc1 hat1 hfr1 hf0
            clear hat hpc hlo hst hfr hLL hSS
            go_wp2
            try simp only [Exit.jump]
            go_ret
            exact ⟨by rw [HN.out]; rfl, HKD.out⟩
        · have HN := Lib.hid (HM.out.no (by omega) HF.out)
          clear hpc1 hat1 hfr1
          clear hat hpc hlo hst hfr hLL hSS
          go_wp2
          try simp only [Exit.jump]
          go_ret
          exact ⟨by rw [HN.out]; rfl, HKD.out⟩
      · have hal : ¬ (at_ : Int) < (s.size : Int) := by omega
        have hal' : decide (at_ < s.size) = false := decide_eq_false ha
        have han : (((at_ : Nat) : Int) == (s.size : Int)) = true := by simp; omega
        have HN := Lib.hid (HM.out.yes (by rw [bl_length]; omega) (by rw [List.length_map]; omega))
        clear hp hK3 ha hat hpc hlo hst hfr hLL hSS hpc1 hat1 hfr1
        go_upto_region 6 with fail
        refine AnyBut.start (S := fun _ => True) (k := 26) (by kernel_rfl) ?_
        refine AnyBut.takeS (i := 0) (v := ?v129) rfl (by kernel_rfl) (Nat.le_of_eq (by kernel_rfl)) (by kernel_rfl) (by kernel_rfl) (fun _ _ _ h => h) (trivial) (Or.inl ⟨by kernel_rfl, ?hy129⟩) ?r129
        case hy129 =>
          intro w hSw
          try dsimp only at hSw
          go_simp
          try with_reducible rfl
        try simp only [Act.put, List.getElem_toArray, List.getElem_cons_zero, List.setIfInBounds_toArray, List.set_cons_zero, List.set_cons_succ]
        refine AnyBut.takeS (i := 1) (v := ?v130) rfl (by kernel_rfl) (Nat.le_of_eq (by kernel_rfl)) (by kernel_rfl) (by kernel_rfl) (fun _ _ _ h => h) (trivial) (Or.inl ⟨by kernel_rfl, ?hy130⟩) ?r130
        case hy130 =>
          intro w hSw
          try dsimp only at hSw
          go_simp
          try with_reducible rfl
        try simp only [Act.put, List.getElem_toArray, List.getElem_cons_succ, List.getElem_cons_zero, List.setIfInBounds_toArray, List.set_cons_zero, List.set_cons_succ]
        refine AnyBut.takeS (i := 2) (v := ?v131) rfl (by kernel_rfl) (Nat.le_of_eq (by kernel_rfl)) (by kernel_rfl) (by kernel_rfl) (fun _ _ _ h => h) (trivial) (Or.inl ⟨by kernel_rfl, ?hy131⟩) ?r131
        case hy131 =>
          intro w hSw
          try dsimp only at hSw
          go_simp
          try with_reducible rfl
        try simp only [Act.put, List.getElem_toArray, List.getElem_cons_succ, List.getElem_cons_zero, List.setIfInBounds_toArray, List.set_cons_zero, List.set_cons_succ]
        refine AnyBut.takeS (i := 3) (v := ?v132) rfl (by kernel_rfl) (Nat.le_of_eq (by kernel_rfl)) (by kernel_rfl) (by kernel_rfl) (fun _ _ _ h => h) (trivial) (Or.inl ⟨by kernel_rfl, ?hy132⟩) ?r132
        case hy132 =>
          intro w hSw
          try dsimp only at hSw
          go_simp
          try with_reducible rfl
        try simp only [Act.put, List.getElem_toArray, List.getElem_cons_succ, List.getElem_cons_zero, List.setIfInBounds_toArray, List.set_cons_zero, List.set_cons_succ]
        refine AnyBut.takeS (i := 4) (v := ?v133) rfl (by kernel_rfl) (Nat.le_of_eq (by kernel_rfl)) (by kernel_rfl) (by kernel_rfl) (fun _ _ _ h => h) (trivial) (Or.inl ⟨by kernel_rfl, ?hy133⟩) ?r133
        case hy133 =>
          intro w hSw
          try dsimp only at hSw
          go_simp
          try with_reducible rfl
        try simp only [Act.put, List.getElem_toArray, List.getElem_cons_succ, List.getElem_cons_zero, List.setIfInBounds_toArray, List.set_cons_zero, List.set_cons_succ]
        refine AnyBut.takeS (i := 5) (v := undef) rfl (by kernel_rfl) (Nat.le_of_eq (by kernel_rfl)) (by kernel_rfl) (by kernel_rfl) (fun _ _ _ h => h) (trivial) (Or.inr ⟨by kernel_rfl, rfl⟩) ?r134
        try simp only [Act.put, List.getElem_toArray, List.getElem_cons_succ, List.getElem_cons_zero, List.setIfInBounds_toArray, List.set_cons_zero, List.set_cons_succ]
        refine AnyBut.takeS (i := 6) (v := undef) rfl (by kernel_rfl) (Nat.le_of_eq (by kernel_rfl)) (by kernel_rfl) (by kernel_rfl) (fun _ _ _ h => h) (trivial) (Or.inr ⟨by kernel_rfl, rfl⟩) ?r135
        try simp only [Act.put, List.getElem_toArray, List.getElem_cons_succ, List.getElem_cons_zero, List.setIfInBounds_toArray, List.set_cons_zero, List.set_cons_succ]
        refine AnyBut.takeS (i := 7) (v := undef) rfl (by kernel_rfl) (Nat.le_of_eq (by kernel_rfl)) (by kernel_rfl) (by kernel_rfl) (fun _ _ _ h => h) (trivial) (Or.inr ⟨by kernel_rfl, rfl⟩) ?r136
        try simp only [Act.put, List.getElem_toArray, List.getElem_cons_succ, List.getElem_cons_zero, List.setIfInBounds_toArray, List.set_cons_zero, List.set_cons_succ]
        refine AnyBut.takeS (i := 8) (v := undef) rfl (by kernel_rfl) (Nat.le_of_eq (by kernel_rfl)) (by kernel_rfl) (by kernel_rfl) (fun _ _ _ h => h) (trivial) (Or.inr ⟨by kernel_rfl, rfl⟩) ?r137
        try simp only [Act.put, List.getElem_toArray, List.getElem_cons_succ, List.getElem_cons_zero, List.setIfInBounds_toArray, List.set_cons_zero, List.set_cons_succ]
        refine AnyBut.takeS (i := 9) (v := undef) rfl (by kernel_rfl) (Nat.le_of_eq (by kernel_rfl)) (by kernel_rfl) (by kernel_rfl) (fun _ _ _ h => h) (trivial) (Or.inr ⟨by kernel_rfl, rfl⟩) ?r138
        try simp only [Act.put, List.getElem_toArray, List.getElem_cons_succ, List.getElem_cons_zero, List.setIfInBounds_toArray, List.set_cons_zero, List.set_cons_succ]
        refine AnyBut.takeS (i := 10) (v := undef) rfl (by kernel_rfl) (Nat.le_of_eq (by kernel_rfl)) (by kernel_rfl) (by kernel_rfl) (fun _ _ _ h => h) (trivial) (Or.inr ⟨by kernel_rfl, rfl⟩) ?r139
        try simp only [Act.put, List.getElem_toArray, List.getElem_cons_succ, List.getElem_cons_zero, List.setIfInBounds_toArray, List.set_cons_zero, List.set_cons_succ]
        refine AnyBut.takeS (i := 11) (v := undef) rfl (by kernel_rfl) (Nat.le_of_eq (by kernel_rfl)) (by kernel_rfl) (by kernel_rfl) (fun _ _ _ h => h) (trivial) (Or.inr ⟨by kernel_rfl, rfl⟩) ?r140
        try simp only [Act.put, List.getElem_toArray, List.getElem_cons_succ, List.getElem_cons_zero, List.setIfInBounds_toArray, List.set_cons_zero, List.set_cons_succ]
        refine AnyBut.takeS (i := 12) (v := ?v141) rfl (by kernel_rfl) (Nat.le_of_eq (by kernel_rfl)) (by kernel_rfl) (by kernel_rfl) (fun _ _ _ h => h) (trivial) (Or.inl ⟨by kernel_rfl, ?hy141⟩) ?r141
        case hy141 =>
          intro w hSw
          try dsimp only at hSw
          go_simp
          try with_reducible rfl
        try simp only [Act.put, List.getElem_toArray, List.getElem_cons_succ, List.getElem_cons_zero, List.setIfInBounds_toArray, List.set_cons_zero, List.set_cons_succ]
        refine AnyBut.takeS (i := 13) (v := ?v142) rfl (by kernel_rfl) (Nat.le_of_eq (by kernel_rfl)) (by kernel_rfl) (by kernel_rfl) (fun _ _ _ h => h) (trivial) (Or.inl ⟨by kernel_rfl, ?hy142⟩) ?r142
        case hy142 =>
          intro w hSw
          try dsimp only at hSw
          go_simp
          try with_reducible rfl
        try simp only [Act.put, List.getElem_toArray, List.getElem_cons_succ, List.getElem_cons_zero, List.setIfInBounds_toArray, List.set_cons_zero, List.set_cons_succ]
        refine AnyBut.takeS (i := 14) (v := undef) rfl (by kernel_rfl) (Nat.le_of_eq (by kernel_rfl)) (by kernel_rfl) (by kernel_rfl) (fun _ _ _ h => h) (trivial) (Or.inr ⟨by kernel_rfl, rfl⟩) ?r143
        try simp only [Act.put, List.getElem_toArray, List.getElem_cons_succ, List.getElem_cons_zero, List.setIfInBounds_toArray, List.set_cons_zero, List.set_cons_succ]
        refine AnyBut.takeS (i := 15) (v := undef) rfl (by kernel_rfl) (Nat.le_of_eq (by kernel_rfl)) (by kernel_rfl) (by kernel_rfl) (fun _ _ _ h => h) (trivial) (Or.inr ⟨by kernel_rfl, rfl⟩) ?r144
        try simp only [Act.put, List.getElem_toArray, List.getElem_cons_succ, List.getElem_cons_zero, List.setIfInBounds_toArray, List.set_cons_zero, List.set_cons_succ]
        refine AnyBut.takeS (i := 16) (v := undef) rfl (by kernel_rfl) (Nat.le_of_eq (by kernel_rfl)) (by kernel_rfl) (by kernel_rfl) (fun _ _ _ h => h) (trivial) (Or.inr ⟨by kernel_rfl, rfl⟩) ?r145
        try simp only [Act.put, List.getElem_toArray, List.getElem_cons_succ, List.getElem_cons_zero, List.setIfInBounds_toArray, List.set_cons_zero, List.set_cons_succ]
        refine AnyBut.takeS (i := 17) (v := undef) rfl (by kernel_rfl) (Nat.le_of_eq (by kernel_rfl)) (by kernel_rfl) (by kernel_rfl) (fun _ _ _ h => h) (trivial) (Or.inr ⟨by kernel_rfl, rfl⟩) ?r146
        try simp only [Act.put, List.getElem_toArray, List.getElem_cons_succ, List.getElem_cons_zero, List.setIfInBounds_toArray, List.set_cons_zero, List.set_cons_succ]
        refine AnyBut.takeS (i := 18) (v := undef) rfl (by kernel_rfl) (Nat.le_of_eq (by kernel_rfl)) (by kernel_rfl) (by kernel_rfl) (fun _ _ _ h => h) (trivial) (Or.inr ⟨by kernel_rfl, rfl⟩) ?r147
        try simp only [Act.put, List.getElem_toArray, List.getElem_cons_succ, List.getElem_cons_zero, List.setIfInBounds_toArray, List.set_cons_zero, List.set_cons_succ]
        refine AnyBut.takeS (i := 19) (v := undef) rfl (by kernel_rfl) (Nat.le_of_eq (by kernel_rfl)) (by kernel_rfl) (by kernel_rfl) (fun _ _ _ h => h) (trivial) (Or.inr ⟨by kernel_rfl, rfl⟩) ?r148
        try simp only [Act.put, List.getElem_toArray, List.getElem_cons_succ, List.getElem_cons_zero, List.setIfInBounds_toArray, List.set_cons_zero, List.set_cons_succ]
        refine AnyBut.takeS (i := 20) (v := undef) rfl (by kernel_rfl) (Nat.le_of_eq (by kernel_rfl)) (by kernel_rfl) (by kernel_rfl) (fun _ _ _ h => h) (trivial) (Or.inr ⟨by kernel_rfl, rfl⟩) ?r149
        try simp only [Act.put, List.getElem_toArray, List.getElem_cons_succ, List.getElem_cons_zero, List.setIfInBounds_toArray, List.set_cons_zero, List.set_cons_succ]
        refine AnyBut.takeS (i := 21) (v := undef) rfl (by kernel_rfl) (Nat.le_of_eq (by kernel_rfl)) (by kernel_rfl) (by kernel_rfl) (fun _ _ _ h => h) (trivial) (Or.inr ⟨by kernel_rfl, rfl⟩) ?r150
        try simp only [Act.put, List.getElem_toArray, List.getElem_cons_succ, List.getElem_cons_zero, List.setIfInBounds_toArray, List.set_cons_zero, List.set_cons_succ]
        refine AnyBut.takeS (i := 22) (v := undef) rfl (by kernel_rfl) (Nat.le_of_eq (by kernel_rfl)) (by kernel_rfl) (by kernel_rfl) (fun _ _ _ h => h) (trivial) (Or.inr ⟨by kernel_rfl, rfl⟩) ?r151
        try simp only [Act.put, List.getElem_toArray, List.getElem_cons_succ, List.getElem_cons_zero, List.setIfInBounds_toArray, List.set_cons_zero, List.set_cons_succ]
        refine AnyBut.takeS (i := 23) (v := undef) rfl (by kernel_rfl) (Nat.le_of_eq (by kernel_rfl)) (by kernel_rfl) (by kernel_rfl) (fun _ _ _ h => h) (trivial) (Or.inr ⟨by kernel_rfl, rfl⟩) ?r152
        try simp only [Act.put, List.getElem_toArray, List.getElem_cons_succ, List.getElem_cons_zero, List.setIfInBounds_toArray, List.set_cons_zero, List.set_cons_succ]
        refine AnyBut.takeS (i := 24) (v := undef) rfl (by kernel_rfl) (Nat.le_of_eq (by kernel_rfl)) (by kernel_rfl) (by kernel_rfl) (fun _ _ _ h => h) (trivial) (Or.inr ⟨by kernel_rfl, rfl⟩) ?r153
        try simp only [Act.put, List.getElem_toArray, List.getElem_cons_succ, List.getElem_cons_zero, List.setIfInBounds_toArray, List.set_cons_zero, List.set_cons_succ]
        refine AnyBut.takeS (i := 25) (v := ?v154) rfl (by kernel_rfl) (Nat.le_of_eq (by kernel_rfl)) (by kernel_rfl) (by kernel_rfl) (fun _ _ _ h => h) (trivial) (Or.inl ⟨by kernel_rfl, ?hy154⟩) ?r154
        case hy154 =>
          intro w hSw
          try dsimp only at hSw
          go_simp
          try with_reducible rfl
        try simp only [Act.put, List.getElem_toArray, List.getElem_cons_succ, List.getElem_cons_zero, List.setIfInBounds_toArray, List.set_cons_zero, List.set_cons_succ]
        refine AnyBut.done (by kernel_rfl) ?_
        go_wp2
        try simp only [Exit.jump]
        go_ret
        exact ⟨by rw [HN.out]; rfl, HKD.out⟩
end Go.Proofs.Ytjbjfdmdicfjfaa

