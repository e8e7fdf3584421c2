/- package bitio: Put, of a number that has its bits. -/
import Derived.Test.YtjpnfadmblmjbaaDoorB2
namespace Go.Proofs.YtjpnfadmblmjbaaDoor
open Go.RowKit
attribute [local go_sem ↓] Go.wp_at_zero Go.wp_at_succ

set_option maxHeartbeats 2000000 in
set_option maxRecDepth 100000 in
theorem bput_yes (B p : Nat) (v : Value) (bs : List Bool) (x n : Nat) (w : World) (HW : BwAt w B p v bs) (hB : B ≤ w.heap.size) (hn : n ≤ 64) (hx : x < 2 ^ n) (hl : bs.length ≤ 1000000000) :
    Calls Tryd.prog 48 #[.pointer (some ⟨p, 0, none⟩), .int .u64 x, .int .i64 n] w fun e w' => e = .returned (.bool true) ∧ BwTo w w' B p v (bs ++ bitsN x n) := by
  obtain ⟨i0, hi, hz0, hz1, hz2⟩ := info_parts Tryd.infoU8
  have h1 : ¬ (n : Int) < 0 := by omega
  have h2 : ¬ 64 < (n : Int) := by omega
  have hq : n = 64 ∨ ((n : Int) < 64 ∧ ((x : Int) / 2 ^ n != 0) = false) := by
    by_cases h : n = 64
    · exact .inl h
    · refine .inr ⟨by omega, ?_⟩
      have h5 : ((x : Int) / 2 ^ n) = ((x / 2 ^ n : Nat) : Int) := by simp
      rw [h5, Nat.div_eq_of_lt hx]; rfl
  have hst : BwTo w w B p v (putN bs x n n) := by rw [putN_all]; exact HW.to
  have hx64 : x < 18446744073709551616 := Nat.lt_of_lt_of_le hx (Nat.pow_le_pow_right (by omega) hn)
  have HX := Lib.hid hx
  clear HW hx
  rcases hq with hq | ⟨hq1, hq2⟩
  all_goals
    try have h3 : ¬ (n : Int) < 64 := by omega
    try clear hq
    go_enter Tryd.func48, Tryd.ntmps48
    go_wp2
    go_loopg [2] n (fun g i wr => ∃ m : Nat, m ≤ n ∧ g = m ∧ i = .int .i64 m ∧ BwTo w wr B p v (putN bs x n m))
    case atStart => exact ⟨n, Nat.le_refl _, rfl, rfl, hst⟩
    case round =>
      obtain ⟨m, hm, rfl, rfl, hto⟩ := hrel
      by_cases hm0 : gk = 0
      · subst hm0
        clear hst
        go_wp2
        go_ret
        exact ⟨rfl, by rw [← putN_zero]; exact hto⟩
      · obtain ⟨v1, HW1, hsz1, back⟩ := hto.part
        clear hto hst
        have hm1 : 0 < (gk : Int) := by omega
        have hc0 := HW1.c0
        have hc1 := HW1.c1
        have hf0 := HW1.free 0
        have hf1 := HW1.free 1
        obtain ⟨cur, hcur⟩ : ∃ cur, cur = putN bs x n gk := ⟨_, rfl⟩
        rw [← hcur] at HW1 hc1
        have HCur := Lib.hid hcur
        have hcl : cur.length = bs.length + (n - gk) := by rw [hcur, putN_length]
        clear hcur
        obtain ⟨c, hc⟩ : ∃ c, c = cur.length := ⟨_, rfl⟩
        rw [← hc] at hc1 hcl
        obtain ⟨f, hf⟩ : ∃ f, f = 8 - c % 8 := ⟨_, rfl⟩
        have r2 : 8 - (c : Int) % 8 = (f : Int) := by omega
        have hfr : 1 ≤ f ∧ f ≤ 8 := by omega
        have HL1 := HW1.owns
        obtain ⟨ao1, cp1, rfl⟩ := ownsRow_slice HW1.owns
        have HC := Lib.hid hc
        have HF := Lib.hid hf
        have HCL := Lib.hid hcl
        clear hf hcl hc
        have hB1 : B ≤ wr.heap.size := Nat.le_trans hB hsz1
        go_upto_if 35 with fail
        go_cut [7] (fun s7 wc => s7 = .int .i64 f ∧ PutMid wr wc B p (.slice ao1 (packB cur).length cp1) cur)
        case first =>
          by_cases hf8 : f = 8
          · have r3 : ((f : Int) == 8) = true := by simp; omega
            have hlen : (packB cur).length ≤ 1000000100 := by have := HC.out; have := HCL.out; rw [packB_length]; omega
            have hlen2 : (packB cur).length + 1 = cur.length / 8 + 1 := by have := HC.out; have := HF.out; rw [packB_length]; omega
            have HL2 := Lib.hid hlen2
            have hc8 : cur.length % 8 = 0 := by have := HC.out; have := HF.out; omega
            have HC8 := Lib.hid hc8
            clear hlen2 hc8 hf8
            go_wp2_with (at_builtin; refine wpList_append_src _ rfl (.tmp 40) (.tmp 41) 33 33 rfl B 5 i0 (.int .u8 0) 1 1 Tryd.underlying33 hi hz0 hz1 hz2 rfl (.slice ao1 (packB cur).length cp1) (packB cur).length (bys (packB cur)) rfl (HL1.alloc _) (.slice (some ⟨wr.heap.size, 0, none⟩) 1 1) 1 [.int .u8 0] rfl (src_one wr Tryd.underlying33 (.int .u8 0) rfl) ?c1 ?c2 ?c3 ?_)
            case c1 => unfold maxLen; omega
            case c2 => omega
            case c3 => simp; omega
            intro v2 w2 hown hg _ hat
            have hk1 : Kept (fun _ => False) wr (wr.alloc (.cells #[.int .u8 0] 5)) := (Kept.refl _ _).alloc _
            have fin := Lib.hid (HW1.mid_push HC8.out hk1 hown HL2.out hg (by simpa using hat))
            have hc2 : w2.cell? ⟨p, 0, none⟩ = some (.slice ao1 (packB cur).length cp1) := by
              rw [hg.cell_far ⟨p, 0, none⟩ (by simp; have := HW1.lt; omega) (fun e => HW1.apart e.symm)]
              exact hk1.cell hc0 (fun x => x)
            have hf2 : w2.frozen? ⟨p, 0, none⟩ = false := by
              rw [hg.frozen_far ⟨p, 0, none⟩ (by simp; have := HW1.lt; omega) (fun e => HW1.apart e.symm)]
              simp [World.frozen?, hk1.same HW1.box (fun x => x)]
            obtain ⟨a', c', rfl⟩ := ownsRow_slice hown
            clear hown hg hat
            go_wp2
            go_meet
            case rel => exact ⟨rfl, fin.out⟩
          · have r3 : ((f : Int) == 8) = false := by simp; omega
            have hmid := Lib.hid (HW1.mid (by have := HC.out; have := HF.out; omega))
            go_wp2
            go_meet
            case rel => exact ⟨rfl, hmid.out⟩
        case rest =>
          obtain ⟨rfl, g, cp, hbox, hown, hgp, hat, hBp, hkk⟩ := hcut
          have k0 : wc.cell? ⟨p, 0, none⟩ = some (.slice (some ⟨g, 0, none⟩) (cur.length / 8 + 1) cp) := by rw [cell_of_row wc p 0 _ _ _ hbox]; rfl
          have k1 : wc.cell? ⟨p, 1, none⟩ = some (.int .i64 c) := by rw [cell_of_row wc p 1 _ _ _ hbox, HC.out]; rfl
          obtain ⟨k, hk⟩ : ∃ k, k = min f gk := ⟨_, rfl⟩
          have hk1 : 1 ≤ k ∧ k ≤ f ∧ k ≤ gk := by omega
          have HK := Lib.hid hk
          obtain ⟨q, hq⟩ : ∃ q, q = c / 8 := ⟨_, rfl⟩
          have r5 : (c : Int) / 8 = (q : Int) := by omega
          have r6 : cur.length / 8 = q := by rw [hq, HC.out]
          rw [r6] at k0
          have HQ8 := Lib.hid hq
          have H6 := Lib.hid r6
          have HN := Lib.hid hown
          have HBX := Lib.hid hbox
          clear hq hk r6 hown hbox
          go_upto_region 7 with fail
          go_cut [7, 8] (fun s7 s8 wd => s7 = .int .i64 f ∧ s8 = .int .i64 k ∧ wc = wd)
          case first =>
            have hc : k = f ∧ f ≤ gk ∨ k = gk ∧ gk < f := by have := HK.out; omega
            rcases hc with ⟨rfl, hc⟩ | ⟨rfl, hc⟩
            · have : (k : Int) ≤ (gk : Int) := by omega
              go_wp2
              go_meet
              case rel => exact ⟨rfl, rfl, rfl⟩
            · have : (k : Int) < (f : Int) := by omega
              go_wp2
              go_meet
              case rel => exact ⟨rfl, rfl, rfl⟩
          case rest =>
            obtain ⟨rfl, rfl, rfl⟩ := hcut
            obtain ⟨d, hd⟩ : ∃ d, d = gk - k := ⟨_, rfl⟩
            have r7 : IntKind.i64.wrap ((gk : Int) - (k : Int)) = (d : Int) := by rw [IntWalk.i64_in _ ⟨by omega, by omega⟩]; omega
            have r8 : (gk : Int) - (k : Int) = (d : Int) := by omega
            obtain ⟨e, he⟩ : ∃ e, e = f - k := ⟨_, rfl⟩
            have r9 : IntKind.i64.wrap ((f : Int) - (k : Int)) = (e : Int) := by rw [IntWalk.i64_in _ ⟨by omega, by omega⟩]; omega
            have r10 : (f : Int) - (k : Int) = (e : Int) := by omega
            obtain ⟨y, hy⟩ : ∃ y, y = x / 2 ^ d % 2 ^ k := ⟨_, rfl⟩
            have hy2 : y < 2 ^ k := by rw [hy]; exact Nat.mod_lt _ (Nat.two_pow_pos k)
            have r11 : bits .and .u64 ((x : Int) / 2 ^ d) (IntKind.u64.wrap (IntKind.u64.wrap (2 ^ k) - 1)) % 256 = (y : Int) := by rw [hy]; exact part_and x d k hx64 (by omega)
            have hye : y * 2 ^ e < 256 := by
              have h1 : y * 2 ^ e < 2 ^ k * 2 ^ e := Nat.mul_lt_mul_of_pos_right hy2 (Nat.two_pow_pos e)
              rw [← Nat.pow_add] at h1
              have h2 : 2 ^ (k + e) ≤ 2 ^ 8 := Nat.pow_le_pow_right (by omega) (by omega)
              omega
            have r12 : IntKind.u8.wrap ((y : Int) * 2 ^ e) = ((y * 2 ^ e : Nat) : Int) := by
              have h1 : (y : Int) * 2 ^ e = ((y * 2 ^ e : Nat) : Int) := by simp
              rw [h1, IntKind.wrap_u8]; omega
            obtain ⟨z, hz⟩ : ∃ z, z = y * 2 ^ e := ⟨_, rfl⟩
            rw [← hz] at r12 hye
            obtain ⟨b, hb⟩ : ∃ b, b = byteAt cur q := ⟨_, rfl⟩
            have hb2 : b < 256 := by rw [hb]; exact byteAt_lt _ _
            obtain ⟨b', hb'⟩ : ∃ b', b' = b ||| z := ⟨_, rfl⟩
            have r13 : bits .or .u8 (b : Int) (z : Int) = (b' : Int) := by rw [hb']; exact u8_or_nat b z (by omega) (by omega)
            have hcell : wc.cell? ⟨g, q, none⟩ = some (.int .u8 (b : Int)) := by
              have ho := HN.out
              rw [packX_length] at ho
              rw [ho.cellAt q (by have := H6.out; omega), bys_get (by rw [packX_length]; have := H6.out; omega), ← H6.out, packX_getD, H6.out, hb]
            have hfree : wc.frozen? ⟨g, q, none⟩ = false := by
              obtain ⟨cur', hcur'⟩ := ownsRow_block HN.out (k := g) rfl
              simp [World.frozen?, hcur']
            have hfp : wc.frozen? ⟨p, 1, none⟩ = false := by simp [World.frozen?, HBX.out]
            have HD := Lib.hid hd
            have HE := Lib.hid he
            have HY := Lib.hid hy
            have HZ := Lib.hid hz
            have HB := Lib.hid hb
            have HB' := Lib.hid hb'
            clear hd he hy hz hb hb' hy2 hye hb2
            have q0 : (0 : Int) ≤ (q : Int) := by omega
            have qw : IntKind.i64.wrap (q : Int) = (q : Int) := IntWalk.i64_in _ ⟨by omega, by have := HCL.out; have := HQ8.out; omega⟩
            obtain ⟨s, hs⟩ : ∃ s, s = c + k := ⟨_, rfl⟩
            have ck : (c : Int) + (k : Int) = (s : Int) := by omega
            have cw : IntKind.i64.wrap ((c : Int) + (k : Int)) = (s : Int) := by have := HCL.out; rw [IntWalk.i64_in _ ⟨by omega, by omega⟩]; exact ck
            have sw : IntKind.i64.wrap (s : Int) = (s : Int) := IntWalk.i64_in _ ⟨by omega, by have := HCL.out; omega⟩
            have HS := Lib.hid hs
            clear hs
            go_wp2
            go_quiet (fail)
            go_wp2
            have kS : ∀ (j : Nat) (u : Value), ((wc.drewN j).setCell ⟨g, q, none⟩ u).cell? ⟨p, 1, none⟩ = some (.int .i64 c) := fun j u => by
              rw [World.cell?_setCell_other _ _ _ _ (fun e => hgp (by cases e; rfl))]; exact k1
            have kF : ∀ (j : Nat) (u : Value), ((wc.drewN j).setCell ⟨g, q, none⟩ u).frozen? ⟨p, 1, none⟩ = false := fun j u => by
              have h1 : ((wc.drewN j).setCell ⟨g, q, none⟩ u).heap[p]? = wc.heap[p]? := Below.heap_setCell _ _ _ _ (fun e => hgp e.symm)
              simp only [World.frozen?, h1]
              exact hfp
            have fin : ∀ j : Nat, BwTo w (((wc.drewN j).setCell ⟨g, q, none⟩ (.int .u8 (b' : Int))).setCell ⟨p, 1, none⟩ (.int .i64 (s : Int))) B p v (putN bs x n (gk - k)) := fun j => by
              have hadd : (bitsN (x / 2 ^ d) k).length = k := bitsN_length _ _
              have hnum : numB (bitsN (x / 2 ^ d) k) = y := by rw [← bitsN_mod, numB_bitsN _ _ (Nat.mod_lt _ (Nat.two_pow_pos k)), HY.out]
              have hst : putN bs x n (gk - k) = cur ++ bitsN (x / 2 ^ d) k := by rw [putN_step bs x n gk k hm hk1.2.2, ← HCur.out, ← HD.out]
              have := HC.out
              have := HF.out
              rw [hst]
              refine back.out _ _ (PutMid.done (q := j) (w2 := (wc.drewN j).setCell ⟨g, q, none⟩ (.int .u8 (b' : Int))) HBX.out HN.out hgp hat hBp hkk ?_ ?_ ?_ ?_)
              · rw [hadd]; omega
              · rw [hadd]; omega
              · rw [hadd, hnum, H6.out, HB'.out, HZ.out, HB.out]
                have e1 : 8 - cur.length % 8 - k = e := by rw [HE.out]; omega
                rw [e1]
              · rw [hadd, HS.out, HC.out]
            have FIN := Lib.hid fin
            clear fin
            go_region
            go_wp2
            go_roundg (gk - k)
            case measure => omega
            case rel => exact ⟨d, by have := HD.out; omega, by rw [HD.out], rfl, by rw [HD.out]; exact FIN.out _⟩
end Go.Proofs.YtjpnfadmblmjbaaDoor
