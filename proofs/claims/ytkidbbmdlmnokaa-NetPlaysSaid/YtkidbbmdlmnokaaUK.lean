/- Layer 23: the walk of NetPlays. -/
import Derived.Test.YtkidbbmdlmnokaaUL
namespace Go.Proofs.Ytkidbbmdlmnokaa
open Go.RowKit
attribute [local go_sem ↓] Go.wp_at_zero Go.wp_at_succ

set_option maxHeartbeats 32000000 in
set_option maxRecDepth 100000 in
theorem netPlays_walk (a : Option Addr) (cap : Nat) (A : List Ac) (W : World) (hA : ActsIn W a A) (hl : A.length ≤ 9223372036854775807) :
    Calls Try.prog 3 #[.slice a A.length cap] W fun e w' => e = .returned (.bool true) ∧ Kept (fun _ => False) W w' := by
  have HA := Lib.hid (awake23_any W)
  have HAI := Lib.hid hA
  by_cases h60 : 60 < A.length
  · have q1 : (60 : Int) < (A.length : Int) := by omega
    have q1' : decide (60 < A.length) = true := decide_eq_true h60
    clear h60 hA hl
    go_enter Try.func3, Try.ntmps3
    go_wp2_with fail
    refine HA.out.mono ?_
    rintro e w1 ⟨rfl, k1⟩
    have HK1 := Lib.hid k1
    clear k1
    go_wp2
    go_ret
    exact ⟨rfl, HK1.out⟩
  have q1 : ¬ (60 : Int) < (A.length : Int) := by omega
  have q1' : decide (60 < A.length) = false := decide_eq_false h60
  have H60 := Lib.hid (show A.length ≤ 60 by omega)
  clear h60 hA hl
  go_enter Try.func3, Try.ntmps3
  go_wp2_with fail
  refine HA.out.mono ?_
  rintro e w1 ⟨rfl, k1⟩
  have HK1 := Lib.hid k1
  clear k1
  go_wp2_with fail
  refine (netNew_any w1).mono ?_
  rintro e w2 ⟨nb, rfl, hn2, k2⟩
  have HP2 : Hid (PL W w1 w2 nb [] [] none 0 (.slice none 0 0)) := Lib.hid ⟨hn2, MineG.nil k2, rfl, by simp, HK1.out, fun k e => by cases e⟩
  clear hn2 k2 q1 q1'
  go_upto_region 8 with fail
  go_loopg [4, 5] A.length (fun G s4 s5 wr => ∃ i : Nat, i ≤ A.length ∧ G = A.length - i ∧ s5 = .int .i64 i ∧ ∃ L M ao cp, PL W w1 wr nb L M ao cp s4 ∧ L.length ≤ i)
  case atStart => exact ⟨0, Nat.zero_le _, rfl, rfl, [], [], none, 0, HP2.out, by simp⟩
  case round =>
    obtain ⟨i, hin, rfl, rfl, L, M, ao, cp, hp, hli⟩ := hrel
    obtain ⟨da, dc, rfl⟩ := hp.doc.slice
    obtain ⟨n, hn⟩ : ∃ n, n = M.length := ⟨_, rfl⟩
    rw [← hn] at hp ⊢
    have HP := Lib.hid hp
    have HN := Lib.hid (show M.length = n ∧ L.length = n ∧ n ≤ i ∧ n ≤ 60 by have := hp.len; have := H60.out; exact ⟨hn.symm, by omega, by omega, by omega⟩)
    clear hp hli hn
    as_aux_lemma =>
      by_cases hd : i < A.length
      · have hdi : (i : Int) < (A.length : Int) := by omega
        have hi0 : (0 : Int) ≤ (i : Int) := by omega
        have wi : IntKind.i64.wrap ((i : Int) + 1) = ((i + 1 : Nat) : Int) := by rw [IntWalk.i64_in _ ⟨by omega, by have := H60.out; omega⟩]; omega
        have HD := Lib.hid hd
        have hg := List.getElem?_eq_getElem hd
        have hmem := List.getElem_mem hd
        obtain ⟨x, hx⟩ : ∃ x, x = A[i]'hd := ⟨_, rfl⟩
        rw [← hx] at hg hmem
        have HX := Lib.hid (HAI.out.ok x hmem)
        obtain ⟨g, o, hao, hr⟩ := HAI.out.at_ (by omega)
        subst hao
        have kw := HP.out.keptW
        have e0 := kw.cell (hr i x hg 0 _ rfl) (fun x => x)
        have e1 := kw.cell (hr i x hg 1 _ rfl) (fun x => x)
        have e2 := kw.cell (hr i x hg 2 _ rfl) (fun x => x)
        have e3 := kw.cell (hr i x hg 3 _ rfl) (fun x => x)
        have e4 := kw.cell (hr i x hg 4 _ rfl) (fun x => x)
        have e5 := kw.cell (hr i x hg 5 _ rfl) (fun x => x)
        rw [Nat.add_zero] at e0
        obtain ⟨xkind, xi, xk, ⟨ack, hv, ma, mc, b⟩⟩ := x
        dsimp only at e0 e1 e2 e3 e4 e5
        obtain ⟨ml, hml⟩ : ∃ ml, ml = b.length := ⟨_, rfl⟩
        rw [← hml] at e5
        have HML := Lib.hid hml
        clear hg hmem hx hr kw hml hd hin
        go_upto_region 11 with fail
        obtain ⟨w3, hw3⟩ : ∃ w3, w3 = wr.alloc (.cells #[.int .i64 xkind, .int .i64 xi, .int .i64 xk, .bool ack, .int .i64 hv, .slice ma ml mc] 31) := ⟨_, rfl⟩
        obtain ⟨q6, hq6⟩ : ∃ q, q = wr.heap.size := ⟨_, rfl⟩
        rw [← hw3, ← hq6]
        have k3 : Kept (fun _ => False) wr w3 := by rw [hw3]; exact (Kept.refl _ _).alloc _
        have HB6 : Hid (w3.heap[q6]? = some (.cells #[.int .i64 xkind, .int .i64 xi, .int .i64 xk, .bool ack, .int .i64 hv, .slice ma ml mc] 31 (0, 0))) := Lib.hid (by rw [hw3, hq6]; exact heap_alloc_new wr _)
        have HP3 := Lib.hid (HP.out.kept k3)
        clear hw3 hq6 k3 e0 e1 e2 e3 e4 e5
        obtain ⟨c60, c61, c62, c63, c64, c65⟩ : w3.cell? ⟨q6, 0, none⟩ = some (.int .i64 xkind) ∧ w3.cell? ⟨q6, 1, none⟩ = some (.int .i64 xi) ∧ w3.cell? ⟨q6, 2, none⟩ = some (.int .i64 xk) ∧ w3.cell? ⟨q6, 3, none⟩ = some (.bool ack) ∧ w3.cell? ⟨q6, 4, none⟩ = some (.int .i64 hv) ∧ w3.cell? ⟨q6, 5, none⟩ = some (.slice ma ml mc) :=
          ⟨(cell_of_row _ _ 0 _ _ _ HB6.out).trans rfl, (cell_of_row _ _ 1 _ _ _ HB6.out).trans rfl, (cell_of_row _ _ 2 _ _ _ HB6.out).trans rfl, (cell_of_row _ _ 3 _ _ _ HB6.out).trans rfl, (cell_of_row _ _ 4 _ _ _ HB6.out).trans rfl, (cell_of_row _ _ 5 _ _ _ HB6.out).trans rfl⟩
        have HC6 : Hid (∀ w, Kept (fun _ => False) w3 w → w.cell? ⟨q6, 0, none⟩ = some (.int .i64 xkind) ∧ w.cell? ⟨q6, 1, none⟩ = some (.int .i64 xi) ∧ w.cell? ⟨q6, 2, none⟩ = some (.int .i64 xk) ∧ w.cell? ⟨q6, 3, none⟩ = some (.bool ack) ∧ w.cell? ⟨q6, 4, none⟩ = some (.int .i64 hv) ∧ w.cell? ⟨q6, 5, none⟩ = some (.slice ma ml mc)) := Lib.hid (fun w kk => ⟨kk.cell c60 (fun x => x), kk.cell c61 (fun x => x), kk.cell c62 (fun x => x), kk.cell c63 (fun x => x), kk.cell c64 (fun x => x), kk.cell c65 (fun x => x)⟩)
        by_cases h300 : 300 < ml
        · have p1 : (300 : Int) < (ml : Int) := by omega
          have p1' : decide (300 < ml) = true := decide_eq_true h300
          clear h300
          go_wp2
          go_ret
          exact ⟨rfl, HP3.out.keptW⟩
        have p1 : ¬ (300 : Int) < (ml : Int) := by omega
        have p1' : decide (300 < ml) = false := decide_eq_false h300
        have H300 := Lib.hid (show ml ≤ 300 by omega)
        clear h300
        go_upto_region 13 with fail
        clear p1 p1'
        go_cut [7] (fun s7 wc => s7 = .bool (hasB M xi) ∧ w3 = wc)
        case first =>
          by_cases h0 : 0 ≤ xi
          · have q0 : decide ((0 : Int) ≤ xi) = true := decide_eq_true h0
            by_cases h1 : xi < (n : Int)
            · have HZ : Hid (hasB M xi = true) := Lib.hid (decide_eq_true ⟨h0, by rw [HN.out.1]; exact h1⟩)
              have q2 : decide (xi < (n : Int)) = true := decide_eq_true h1
              go_wp2
              go_meet
              case rel => exact ⟨by rw [HZ.out], rfl⟩
            · have HZ : Hid (hasB M xi = false) := Lib.hid (decide_eq_false (fun e => h1 (by have := e.2; rw [HN.out.1] at this; exact this)))
              have q2 : decide (xi < (n : Int)) = false := decide_eq_false h1
              go_wp2
              go_meet
              case rel => exact ⟨by rw [HZ.out], rfl⟩
          · have HZ : Hid (hasB M xi = false) := Lib.hid (decide_eq_false (fun e => h0 e.1))
            have q0 : decide ((0 : Int) ≤ xi) = false := decide_eq_false h0
            go_wp2
            go_meet
            case rel => exact ⟨by rw [HZ.out], rfl⟩
        case rest =>
        obtain ⟨rfl, rfl⟩ := hcut
        as_aux_lemma =>
          obtain ⟨B, hB⟩ : ∃ B, B = hasB M xi := ⟨_, rfl⟩
          rw [← hB]
          have HB := Lib.hid hB
          clear hB
          obtain ⟨w4, hw4⟩ : ∃ w', w' = w3.alloc (.cells #[.bool false, .int .i64 0, .slice none 0 0] 29) := ⟨_, rfl⟩
          obtain ⟨q8, hq8⟩ : ∃ q, q = w3.heap.size := ⟨_, rfl⟩
          have k34 : Kept (fun _ => False) w3 w4 := by rw [hw4]; exact (Kept.refl _ _).alloc _
          have HB8 : Hid (MB w4 q8 false 0 (.slice none 0 0)) := Lib.hid (by rw [hw4, hq8]; exact heap_alloc_new w3 _)
          have HW4 := Lib.hid (And.intro hw4 hq8)
          have HP4 := Lib.hid (HP3.out.kept k34)
          have HK34 := Lib.hid k34
          have HQ8 := Lib.hid (show w3.heap.size ≤ q8 by omega)
          clear hw4 hq8 k34 c60 c61 c62 c63 c64 c65
          go_upto_region 15 with fail
          rw [← HW4.out.1, ← HW4.out.2]
          obtain ⟨c60, c61, c62, c63, c64, c65⟩ := HC6.out w4 HK34.out
          go_upto_if 54 with fail
          go_cut [] (fun wc => ∃ y : Mg, MB wc q8 y.ack y.have_ (.slice y.a y.b.length y.c) ∧ y.t = lookT M xi ∧ y.At W ∧ (∀ z ∈ y.b, 0 ≤ z ∧ z < 256) ∧ Kept (fun k => k = q8) w4 wc)
          case first =>
            obtain ⟨z0, z1, z2⟩ := HB8.out.c
            have f0 := HB8.out.fz 0
            have f1 := HB8.out.fz 1
            have f2 := HB8.out.fz 2
            cases B with
            | false =>
              go_wp2
              go_meet
              case rel => exact ⟨⟨false, 0, none, 0, []⟩, HB8.out, by unfold lookT; rw [if_neg (by rw [← HB.out]; decide)]; rfl, ⟨none, 0, rfl, fun _ => rfl, fun a ha => by cases ha⟩, by simp, Kept.refl _ _⟩
            | true =>
              have hi2 := of_decide_eq_true HB.out.symm
              obtain ⟨j, rfl⟩ : ∃ j : Nat, xi = (j : Int) := ⟨xi.toNat, by omega⟩
              have hj : j < M.length := by omega
              have hg := List.getElem?_eq_getElem hj
              have hmem := List.getElem_mem hj
              have hlt : lookT M (j : Int) = (M[j]'hj).t := by unfold lookT; rw [if_pos HB.out.symm, Int.toNat_natCast, List.getD_eq_getElem?_getD, hg]; rfl
              obtain ⟨m, hm⟩ : ∃ m, m = M[j]'hj := ⟨_, rfl⟩
              rw [← hm] at hg hmem hlt
              obtain ⟨g7, hda, d0, d1, d2⟩ := HP4.out.doc.cells3 hg
              subst hda
              have HMM := Lib.hid (And.intro hlt (HP4.out.base m hmem))
              have hjn : (j : Int) < (n : Int) := by have := HN.out.1; omega
              have hj0 : (0 : Int) ≤ (j : Int) := by omega
              have HSET := Lib.hid (HB8.out.set3 m.ack m.have_ (.slice m.a m.b.length m.c))
              have HKS := Lib.hid (set3_keptM w4 q8 (.bool m.ack) (.int .i64 m.have_) (.slice m.a m.b.length m.c))
              clear hi2 hj hg hmem hlt hm
              go_wp2
              go_meet
              case rel => exact ⟨m, HSET.out, HMM.out.1.symm, HMM.out.2.1, HMM.out.2.2, HKS.out⟩
          case rest =>
          obtain ⟨y, hyb, hyt, hya, hyy, hk45⟩ := hcut
          have HYB := Lib.hid hyb
          have HY := Lib.hid (And.intro hyt (And.intro hya hyy))
          have HK45 := Lib.hid hk45
          have HP5 := Lib.hid (HP3.out.newer ((HK34.out.mono (fun _ _ x => x.elim)).trans hk45) (fun j e => by subst e; exact HQ8.out))
          have HK35 : Hid (Kept (fun _ => False) w3 wc) := Lib.hid (HK34.out.newer hk45 (fun j e => by subst e; exact HQ8.out))
          clear hyb hyt hya hyy hk45 c60 c61 c62 c63 c64 c65
          obtain ⟨w5, hw5⟩ : ∃ w5, w5 = wc := ⟨_, rfl⟩
          rw [← hw5] at HYB HP5 HK35 ⊢
          clear HK45 hw5
          as_aux_lemma =>
            obtain ⟨c60, c61, c62, c63, c64, c65⟩ := HC6.out w5 HK35.out
            go_upto_block 2 with fail
            go_cut [4] (fun s4 wc => ∃ L4 M4 ao4 cp4, PL W w1 wc nb L4 M4 ao4 cp4 s4 ∧ L4.length ≤ i + 1)
            case first =>
              clear HC6 HW4 HP4 HK34 HB8
              exact netPlays_kinds H300 HB HB6 HK35 HML HN HP3 HP5 HQ8 HX HY HYB c60 c61 c62 c63 c64 c65 (by assumption) (by assumption)
            case rest =>
              obtain ⟨L4, M4, ao4, cp4, hp4, hl4⟩ := hcut
              clear c60 c61 c62 c63 c64 c65
              have HPC := Lib.hid hp4
              have HNC := Lib.hid hl4
              obtain ⟨da4, dc4, rfl⟩ := hp4.doc.slice
              clear hp4 hl4
              as_aux_lemma =>
                obtain ⟨n4, hn4⟩ : ∃ n, n = M4.length := ⟨_, rfl⟩
                rw [← hn4] at HPC ⊢
                have HN4 := Lib.hid (show M4.length = n4 ∧ L4.length = n4 ∧ n4 ≤ 61 by have := HPC.out.len; have := HNC.out; have := HD.out; have := H60.out; exact ⟨hn4.symm, by omega, by omega⟩)
                clear hn4
                go_upto_region 56 with fail
                go_loopg [18, 19] n4 (fun G s18 s19 wr => ∃ k : Nat, k ≤ n4 ∧ G = n4 - k ∧ s19 = .int .i64 k ∧ s18 = .int .i64 ((cntM ((M4.take k).map Mg.t) true : Nat) : Int) ∧ Kept (fun _ => False) wc wr)
                case atStart => exact ⟨0, Nat.zero_le _, rfl, rfl, rfl, Kept.refl _ _⟩
                case round =>
                  obtain ⟨k, hkn, rfl, rfl, rfl, hk5⟩ := hrel
                  have HPR := Lib.hid (HPC.out.kept hk5)
                  have HKR := Lib.hid hk5
                  clear hk5
                  as_aux_lemma =>
                    obtain ⟨N5, hN5⟩ : ∃ N, N = cntM ((M4.take k).map Mg.t) true := ⟨_, rfl⟩
                    rw [← hN5]
                    have hNk : N5 ≤ n4 := by have := cntM_le ((M4.take k).map Mg.t) true; rw [List.length_map, List.length_take] at this; have := HN4.out; omega
                    have HN5 := Lib.hid (And.intro hN5 hNk)
                    clear hN5 hNk
                    by_cases hk : k < n4
                    · have hki : (k : Int) < (n4 : Int) := by omega
                      have hk0 : (0 : Int) ≤ (k : Int) := by omega
                      have HKD := Lib.hid hk
                      have wk : IntKind.i64.wrap ((k : Int) + 1) = ((k + 1 : Nat) : Int) := by rw [IntWalk.i64_in _ ⟨by omega, by have := HN4.out; omega⟩]; omega
                      have wN : IntKind.i64.wrap ((N5 : Int) + 1) = ((N5 + 1 : Nat) : Int) := by rw [IntWalk.i64_in _ ⟨by omega, by have := HN5.out.2; have := HN4.out; omega⟩]; omega
                      have hkl : k < M4.length := by have := HN4.out; omega
                      have hg := List.getElem?_eq_getElem hkl
                      have hmem := List.getElem_mem hkl
                      obtain ⟨m, hm⟩ : ∃ m, m = M4[k]'hkl := ⟨_, rfl⟩
                      rw [← hm] at hg hmem
                      have hcs := cntM_succ hg true
                      rw [← HN5.out.1] at hcs
                      have HCS := Lib.hid hcs
                      have hlk := HPR.out.look hg
                      have HLK := Lib.hid hlk.2
                      have hml := (HPR.out.base m hmem).2
                      have HML2 := Lib.hid hml
                      have HMA := Lib.hid (HPR.out.at_ hmem)
                      obtain ⟨g7, hda, d0, d1, d2⟩ := HPR.out.doc.cells3 hg
                      subst hda
                      have HLO := Lib.hid (netLook_any w1 nb L4 ao4 cp4 (k : Int) wr HPR.out.ns)
                      unfold LookTo at HLO
                      rw [hlk.1, HLK.out] at HLO
                      obtain ⟨mk, mh, mma, mmc, mb⟩ := m
                      dsimp only at d0 d1 d2
                      obtain ⟨nn, hnn⟩ : ∃ nn, nn = mb.length := ⟨_, rfl⟩
                      rw [← hnn] at d2
                      have HNN := Lib.hid hnn
                      clear hk hkn hkl hg hmem hm hcs hlk hml hnn
                      go_wp2_with fail
                      refine HLO.out.mono ?_
                      rintro e w6 ⟨⟨xk2, xh2, xa2, xc2, xb2⟩, rfl, hxt, hxm⟩
                      dsimp only at hxm ⊢
                      have hx2 : xk2 = mk ∧ xh2 = mh ∧ xb2 = mb := by
                        unfold Mg.t at hxt
                        injection hxt with e1 e2 e3
                        exact ⟨e1, e2, e3⟩
                      obtain ⟨hxk2, hxh2, hxb2⟩ := hx2
                      obtain ⟨xn2, hxn2⟩ : ∃ n, n = xb2.length := ⟨_, rfl⟩
                      rw [← hxn2] at hxm ⊢
                      obtain ⟨w7, hw7⟩ : ∃ w', w' = w6.alloc (.cells #[.bool xk2, .int .i64 xh2, .slice xa2 xn2 xc2] 29) := ⟨_, rfl⟩
                      obtain ⟨q20, hq20⟩ : ∃ q, q = w6.heap.size := ⟨_, rfl⟩
                      have k67 : Kept (fun _ => False) w6 w7 := by rw [hw7]; exact (Kept.refl _ _).alloc _
                      have HKR7 := Lib.hid (hxm.kept.trans k67)
                      have HB20 : Hid (MB w7 q20 xk2 xh2 (.slice xa2 xn2 xc2)) := Lib.hid (by rw [hw7, hq20]; exact heap_alloc_new w6 _)
                      have HXA := Lib.hid (hxm.at_.kept k67 (fun _ _ x => x))
                      have HW7 := Lib.hid (And.intro hw7 hq20)
                      have HD0 := Lib.hid (And.intro d0 (And.intro d1 d2))
                      have HXE := Lib.hid (And.intro hxk2 (And.intro hxh2 hxb2))
                      clear hxt hxm hxk2 hxh2 hxb2 hxn2 hw7 hq20 k67 d0 d1 d2
                      go_upto_region 59 with fail
                      rw [← HW7.out.1, ← HW7.out.2]
                      obtain ⟨wd, hwd⟩ : ∃ w', w' = w7.drew := ⟨_, rfl⟩
                      have HK7D : Hid (Kept (fun _ => False) w7 wd) := Lib.hid (by rw [hwd]; exact (Kept.refl _ _).drew)
                      have HKRD := Lib.hid (HKR7.out.trans HK7D.out)
                      have HMV : Hid (∀ w, Kept (fun _ => False) wd w → (fun w' => ((w'.cell? ⟨g7, k * 3, none⟩ = some (.bool mk) ∧ w'.cell? ⟨g7, k * 3 + 1, none⟩ = some (.int .i64 mh) ∧ w'.cell? ⟨g7, k * 3 + 2, none⟩ = some (.slice mma nn mmc)) ∧ (w'.cell? ⟨q20, 0, none⟩ = some (.bool xk2) ∧ w'.cell? ⟨q20, 1, none⟩ = some (.int .i64 xh2) ∧ w'.cell? ⟨q20, 2, none⟩ = some (.slice xa2 xn2 xc2))) ∧ Kept (fun _ => False) wd w') w) := Lib.hid (fun w kk => ⟨⟨⟨(HKRD.out.trans kk).cell HD0.out.1 (fun x => x), (HKRD.out.trans kk).cell HD0.out.2.1 (fun x => x), (HKRD.out.trans kk).cell HD0.out.2.2 (fun x => x)⟩, (show MB w q20 xk2 xh2 (.slice xa2 xn2 xc2) from (HK7D.out.trans kk).same HB20.out (fun x => x)).c⟩, kk⟩)
                      have HSS : Hid ((fun w' => ((w'.cell? ⟨g7, k * 3, none⟩ = some (.bool mk) ∧ w'.cell? ⟨g7, k * 3 + 1, none⟩ = some (.int .i64 mh) ∧ w'.cell? ⟨g7, k * 3 + 2, none⟩ = some (.slice mma nn mmc)) ∧ (w'.cell? ⟨q20, 0, none⟩ = some (.bool xk2) ∧ w'.cell? ⟨q20, 1, none⟩ = some (.int .i64 xh2) ∧ w'.cell? ⟨q20, 2, none⟩ = some (.slice xa2 xn2 xc2))) ∧ Kept (fun _ => False) wd w') w7.drew) := Lib.hid (by rw [← hwd]; exact HMV.out wd (Kept.refl _ _))
                      have HSAM : Hid (∀ w, Kept (fun _ => False) wd w → Calls Try.prog 18 #[.agg #[.bool mk, .int .i64 mh, .slice mma nn mmc], .agg #[.bool xk2, .int .i64 xh2, .slice xa2 xn2 xc2]] w fun e w' => e = .returned (.bool true) ∧ Kept (fun _ => False) w w') := Lib.hid (fun w kk => by
                        have hma : SlAt w (.slice mma nn mmc) (u8s mb) := by
                          have h1 : SlAt wr (.slice mma mb.length mmc) (u8s mb) := HMA.out
                          rw [HNN.out]
                          exact h1.kept (HKRD.out.trans kk) (fun _ _ x => x)
                        have h3 := refSame_any mk mh mma nn mmc mb xk2 xh2 xa2 xn2 xc2 xb2 w hma (HXA.out.kept (HK7D.out.trans kk) (fun _ _ x => x)) HML2.out (by rw [HXE.out.2.2]; exact HML2.out)
                        rw [show decide ((⟨mk, mh, mb⟩ : Tl) = ⟨xk2, xh2, xb2⟩) = true from decide_eq_true (by rw [HXE.out.1, HXE.out.2.1, HXE.out.2.2])] at h3
                        exact h3)
                      clear hwd
                      refine AnyBut.start (S := fun w' => ((w'.cell? ⟨g7, k * 3, none⟩ = some (.bool mk) ∧ w'.cell? ⟨g7, k * 3 + 1, none⟩ = some (.int .i64 mh) ∧ w'.cell? ⟨g7, k * 3 + 2, none⟩ = some (.slice mma nn mmc)) ∧ (w'.cell? ⟨q20, 0, none⟩ = some (.bool xk2) ∧ w'.cell? ⟨q20, 1, none⟩ = some (.int .i64 xh2) ∧ w'.cell? ⟨q20, 2, none⟩ = some (.slice xa2 xn2 xc2))) ∧ Kept (fun _ => False) wd w') (k := 11) (by kernel_rfl) ?_
                      refine AnyBut.takeS (i := 0) (v := ?v1) rfl (by kernel_rfl) (Nat.le_of_eq (by kernel_rfl)) (by kernel_rfl) (by kernel_rfl) (fun _ _ _ h => h) (HSS.out) (Or.inl ⟨by kernel_rfl, ?hy1⟩) ?r1
                      case hy1 =>
                        intro w hSw
                        try dsimp only at hSw
                        go_simp
                        try with_reducible rfl
                      try simp only [Act.put, List.getElem_toArray, List.getElem_cons_zero, List.setIfInBounds_toArray, List.set_cons_zero, List.set_cons_succ]
                      refine AnyBut.takeS (i := 1) (v := ?v2) rfl (by kernel_rfl) (Nat.le_of_eq (by kernel_rfl)) (by kernel_rfl) (by kernel_rfl) (fun _ _ _ h => h) (HSS.out) (Or.inl ⟨by kernel_rfl, ?hy2⟩) ?r2
                      case hy2 =>
                        intro w hSw
                        try dsimp only at hSw
                        go_simp
                        try with_reducible rfl
                      try simp only [Act.put, List.getElem_toArray, List.getElem_cons_succ, List.getElem_cons_zero, List.setIfInBounds_toArray, List.set_cons_zero, List.set_cons_succ]
                      refine AnyBut.takeS (i := 2) (v := ?v3) rfl (by kernel_rfl) (Nat.le_of_eq (by kernel_rfl)) (by kernel_rfl) (by kernel_rfl) (fun _ _ _ h => h) (HSS.out) (Or.inl ⟨by kernel_rfl, ?hy3⟩) ?r3
                      case hy3 =>
                        intro w hSw
                        try dsimp only at hSw
                        go_simp
                        try with_reducible rfl
                      try simp only [Act.put, List.getElem_toArray, List.getElem_cons_succ, List.getElem_cons_zero, List.setIfInBounds_toArray, List.set_cons_zero, List.set_cons_succ]
                      refine AnyBut.takeS (i := 3) (v := ?v4) rfl (by kernel_rfl) (Nat.le_of_eq (by kernel_rfl)) (by kernel_rfl) (by kernel_rfl) (fun _ _ _ h => h) (HSS.out) (Or.inl ⟨by kernel_rfl, ?hy4⟩) ?r4
                      case hy4 =>
                        intro w hSw
                        try dsimp only at hSw
                        go_simp
                        try with_reducible rfl
                      try simp only [Act.put, List.getElem_toArray, List.getElem_cons_succ, List.getElem_cons_zero, List.setIfInBounds_toArray, List.set_cons_zero, List.set_cons_succ]
                      refine AnyBut.takeS (i := 4) (v := ?v5) rfl (by kernel_rfl) (Nat.le_of_eq (by kernel_rfl)) (by kernel_rfl) (by kernel_rfl) (fun _ _ _ h => h) (HSS.out) (Or.inl ⟨by kernel_rfl, ?hy5⟩) ?r5
                      case hy5 =>
                        intro w hSw
                        try dsimp only at hSw
                        go_simp
                        try with_reducible rfl
                      try simp only [Act.put, List.getElem_toArray, List.getElem_cons_succ, List.getElem_cons_zero, List.setIfInBounds_toArray, List.set_cons_zero, List.set_cons_succ]
                      refine AnyBut.takeS (i := 5) (v := ?v6) rfl (by kernel_rfl) (Nat.le_of_eq (by kernel_rfl)) (by kernel_rfl) (by kernel_rfl) (fun _ _ _ h => h) (HSS.out) (Or.inl ⟨by kernel_rfl, ?hy6⟩) ?r6
                      case hy6 =>
                        intro w hSw
                        try dsimp only at hSw
                        go_simp
                        try with_reducible rfl
                      try simp only [Act.put, List.getElem_toArray, List.getElem_cons_succ, List.getElem_cons_zero, List.setIfInBounds_toArray, List.set_cons_zero, List.set_cons_succ]
                      refine AnyBut.takeS (i := 6) (v := ?v7) rfl (by kernel_rfl) (Nat.le_of_eq (by kernel_rfl)) (by kernel_rfl) (by kernel_rfl) (fun _ _ _ h => h) (HSS.out) (Or.inl ⟨by kernel_rfl, ?hy7⟩) ?r7
                      case hy7 =>
                        intro w hSw
                        try dsimp only at hSw
                        go_simp
                        try with_reducible rfl
                      try simp only [Act.put, List.getElem_toArray, List.getElem_cons_succ, List.getElem_cons_zero, List.setIfInBounds_toArray, List.set_cons_zero, List.set_cons_succ]
                      refine AnyBut.takeS (i := 7) (v := ?v8) rfl (by kernel_rfl) (Nat.le_of_eq (by kernel_rfl)) (by kernel_rfl) (by kernel_rfl) (fun _ _ _ h => h) (HSS.out) (Or.inl ⟨by kernel_rfl, ?hy8⟩) ?r8
                      case hy8 =>
                        intro w hSw
                        try dsimp only at hSw
                        go_simp
                        try with_reducible rfl
                      try simp only [Act.put, List.getElem_toArray, List.getElem_cons_succ, List.getElem_cons_zero, List.setIfInBounds_toArray, List.set_cons_zero, List.set_cons_succ]
                      refine AnyBut.one (i := 8) (by kernel_rfl) rfl (fun K hK => ?_)
                      go_simp
                      go_wp2_with fail
                      refine (HSAM.out _ HSS.out.2).mono ?_
                      rintro e w9 ⟨rfl, k9⟩
                      have HSS9 := Lib.hid (HMV.out w9 (HSS.out.2.trans k9))
                      clear k9
                      go_wp2
                      refine hK.out _ _ (HSS9.out) ?_
                      clear hK K
                      try simp only [Act.put, List.getElem_toArray, List.getElem_cons_succ, List.getElem_cons_zero, List.setIfInBounds_toArray, List.set_cons_zero, List.set_cons_succ]
                      refine AnyBut.takeS (i := 9) (v := ?v9) rfl (by kernel_rfl) (Nat.le_of_eq (by kernel_rfl)) (by kernel_rfl) (by kernel_rfl) (fun _ _ _ h => h) (HSS9.out) (Or.inl ⟨by kernel_rfl, ?hy9⟩) ?r9
                      case hy9 =>
                        intro w hSw
                        try dsimp only at hSw
                        go_simp
                        try with_reducible rfl
                      try simp only [Act.put, List.getElem_toArray, List.getElem_cons_succ, List.getElem_cons_zero, List.setIfInBounds_toArray, List.set_cons_zero, List.set_cons_succ]
                      refine AnyBut.takeS (i := 10) (v := ?v10) rfl (by kernel_rfl) (Nat.le_of_eq (by kernel_rfl)) (by kernel_rfl) (by kernel_rfl) (fun _ _ _ h => h) (HSS9.out) (Or.inl ⟨by kernel_rfl, ?hy10⟩) ?r10
                      case hy10 =>
                        intro w hSw
                        try dsimp only at hSw
                        go_simp
                        try with_reducible rfl
                      try simp only [Act.put, List.getElem_toArray, List.getElem_cons_succ, List.getElem_cons_zero, List.setIfInBounds_toArray, List.set_cons_zero, List.set_cons_succ]
                      refine AnyBut.done (by kernel_rfl) ?_
                      have HK9 := Lib.hid (HKR.out.trans (HKRD.out.trans HSS9.out.2))
                      obtain ⟨⟨⟨d0, d1, d2⟩, _⟩, _⟩ := HSS9.out
                      cases mk with
                      | true =>
                        go_wp2
                        go_roundg (n4 - (k + 1))
                        case measure => have := HKD.out; omega
                        case rel => exact ⟨k + 1, HKD.out, rfl, rfl, by rw [HCS.out]; simp, HK9.out⟩
                      | false =>
                        go_wp2
                        go_roundg (n4 - (k + 1))
                        case measure => have := HKD.out; omega
                        case rel => exact ⟨k + 1, HKD.out, rfl, rfl, by rw [HCS.out, if_neg (by decide), Nat.add_zero], HK9.out⟩
                    · have hke : k = n4 := by omega
                      have hki : ¬ (k : Int) < (n4 : Int) := by omega
                      have hki' : decide (k < n4) = false := decide_eq_false hk
                      have hall : N5 = cntM (M4.map Mg.t) true := by rw [HN5.out.1, List.take_of_length_le (by have := HN4.out; omega)]
                      have HT1 : Hid (cntM (L4.map Mg.t) true = N5) := Lib.hid (by rw [HPC.out.same, hall])
                      have HT2 : Hid (cntM (L4.map Mg.t) false = n4 - N5 ∧ N5 ≤ n4) := Lib.hid (by
                        have h1 := cntM_two (L4.map Mg.t)
                        rw [HT1.out, List.length_map, HN4.out.2.1] at h1
                        exact ⟨by omega, by omega⟩)
                      have HLE := Lib.hid (netLen_any w1 nb L4 ao4 cp4 wr HPR.out.ns)
                      rw [HN4.out.2.1] at HLE
                      have HC1 := Lib.hid (netCount_any w1 nb L4 ao4 cp4 true wr HPR.out.ns (by rw [HN4.out.2.1]; have := HN4.out; omega))
                      rw [HT1.out] at HC1
                      have qn : ((n4 : Int) != (n4 : Int)) = false := by simp
                      have qN : ((N5 : Int) != (N5 : Int)) = false := by simp
                      obtain ⟨F5, hF5⟩ : ∃ F, F = n4 - N5 := ⟨_, rfl⟩
                      have wF : IntKind.i64.wrap ((n4 : Int) - (N5 : Int)) = (F5 : Int) := by rw [IntWalk.i64_in _ ⟨by have := HT2.out; omega, by have := HN4.out; omega⟩]; have := HT2.out; omega
                      have qF : ((F5 : Int) != (F5 : Int)) = false := by simp
                      have HF5 := Lib.hid hF5
                      clear hk hkn hke hall hF5
                      go_wp2_with fail
                      refine HLE.out.mono ?_
                      rintro e w6 ⟨rfl, rfl⟩
                      go_wp2_with fail
                      refine HC1.out.mono ?_
                      rintro e w6 ⟨rfl, k6⟩
                      have HPR6 := Lib.hid (HPR.out.kept k6)
                      have HC2 := Lib.hid (netCount_any w1 nb L4 ao4 cp4 false w6 HPR6.out.ns (by rw [HN4.out.2.1]; have := HN4.out; omega))
                      rw [HT2.out.1, ← HF5.out] at HC2
                      clear k6
                      go_wp2_with fail
                      refine HC2.out.mono ?_
                      rintro e w7 ⟨rfl, k7⟩
                      have HP7 := Lib.hid (HPR6.out.kept k7)
                      clear k7
                      go_wp2
                      go_roundg (A.length - (i + 1))
                      case measure => have := HD.out; omega
                      case rel => exact ⟨i + 1, HD.out, rfl, rfl, L4, M4, ao4, cp4, HP7.out, HNC.out⟩
      · have hdi : ¬ (i : Int) < (A.length : Int) := by omega
        have hdi' : decide (i < A.length) = false := decide_eq_false hd
        clear hd hin
        go_wp2
        go_ret
        exact ⟨rfl, HP.out.keptW⟩
end Go.Proofs.Ytkidbbmdlmnokaa
