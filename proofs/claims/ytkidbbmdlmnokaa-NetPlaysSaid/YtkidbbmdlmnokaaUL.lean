/- Layer 23: NetPlays' five kinds of a step, a theorem of their own (tools/gen_XUL.py). -/
import Derived.Test.YtkidbbmdlmnokaaG3
import Derived.Test.YtkidbbmdlmnokaaUJ
namespace Go.Proofs.Ytkidbbmdlmnokaa
open Go.RowKit
attribute [local go_sem ↓] Go.wp_at_zero Go.wp_at_succ

def cA : Code → Code
  | .seq a _ => a
  | c => c
def cB : Code → Code
  | .seq _ b => b
  | c => c
def cIn : Code → Code
  | .block _ c => c
  | .loop c => c
  | c => c
/-- The block in which the kinds are told apart. -/
noncomputable def codeK : Code := cB (cA (cB (cB (cB (cB (cB (cIn (cA (cB (cIn (cIn (cB (cA (cB (cB (cB (cB (cB ((Try.f3).body.getD .skip)))))))))))))))))))

set_option maxHeartbeats 32000000 in
set_option maxRecDepth 100000 in
theorem netPlays_kinds {W w1 w3 w5 : World} {nb q6 q8 n dc cp i mc ml : Nat} {L M : List Mg} {ao da ma : Option Addr} {xkind xi xk hv : Int} {ack B : Bool} {b : List Int} {y : Mg}
    {Q : Exit → Act → World → Prop} {J K : Act → World → Prop}
    {s0 s1 s2 s9 s10 s11 s12 s13 s14 s15 s16 s17 s18 s19 s20 s21 s22 s23 s24 s25 s26 s27 s28 s29 s30 s31 s32 s33 s34 s35 s36 s37 s38 s39 s40 s41 s42 s43
    s44 s45 s46 s47 s48 s49 s50 s51 s52 s53 s54 s55 s56 s57 s58 s59 s62 s63 s64 s65 s66 s67 s68 s69 s70 s71 s72 s73 s74 s75 s76 s77 s78 s79 s80 s81
    s82 s83 s84 s85 s86 s87 s88 s89 s90 s91 s92 s93 s94 s95 s96 s97 s98 s99 s100 s101 s102 s103 s104 s105 s106 s107 s108 s109 s110 s111 s112 s113 s114
    s115 s116 s117 s118 s119 s120 s121 s122 s123 s124 s125 s126 s127 s128 s129 s130 s131 s132 s133 s134 s135 s136 s137 s138 s139 s140 s141 s142 s143
    s144 s145 s146 s147 s148 s149 s150 s151 s152 s153 s154 s155 s156 s157 s158 s159 s160 s161 s162 s163 s164 s165 s166 s167 s168 s169 s170 s171 s172
    s173 s174 s175 s176 s177 s178 s179 s180 s181 s182 s183 s184 s185 s186 s187 s188 s189 s190 s191 s192 s193 s194 s195 s196 s197 s198 s199 s200 s201
    s202 s203 s204 s205 s206 s207 s208 s209 s210 s211 s212 s213 s214 s215 s216 s217 s218 s219 s220 s221 s222 s223 s224 s225 s226 s227 s228 s229 s230
    s231 s232 s233 s234 s235 s236 s237 s238 s239 s240 s241 s242 s243 s244 s245 s246 s247 s248 : Value}
    (H300 : Hid (ml ≤ 300)) (HB : Hid (B = hasB M xi)) (HB6 : Hid (w3.heap[q6]? = some (.cells #[.int .i64 xkind, .int .i64 xi, .int .i64 xk, .bool ack, .int .i64 hv, .slice ma ml mc] 31 (0, 0))))
    (HK35 : Hid (Kept (fun _ => False) w3 w5)) (HML : Hid (ml = b.length)) (HN : Hid (M.length = n ∧ L.length = n ∧ n ≤ i ∧ n ≤ 60))
    (HP3 : Hid (PL W w1 w3 nb L M ao cp (.slice da n dc))) (HP5 : Hid (PL W w1 w5 nb L M ao cp (.slice da n dc))) (HQ8 : Hid (w3.heap.size ≤ q8))
    (HX : Hid ((⟨xkind, xi, xk, ⟨ack, hv, ma, mc, b⟩⟩ : Ac).Ok W)) (HY : Hid (y.t = lookT M xi ∧ y.At W ∧ (∀ z ∈ y.b, 0 ≤ z ∧ z < 256))) (HYB : Hid (MB w5 q8 y.ack y.have_ (.slice y.a y.b.length y.c)))
    (c60 : w5.cell? ⟨q6, 0, none⟩ = some (.int .i64 xkind)) (c61 : w5.cell? ⟨q6, 1, none⟩ = some (.int .i64 xi)) (c62 : w5.cell? ⟨q6, 2, none⟩ = some (.int .i64 xk))
    (c63 : w5.cell? ⟨q6, 3, none⟩ = some (.bool ack)) (c64 : w5.cell? ⟨q6, 4, none⟩ = some (.int .i64 hv)) (c65 : w5.cell? ⟨q6, 5, none⟩ = some (.slice ma ml mc))
    (hJ1 : ∀ (a' : Act) (w' : World), (∃ u2 u4 u9 u10 u11 u12 u13 u14 u15 u16 u17 u28 u29 u30 u31 u32 u33 u34 u35 u36 u37 u38 u39 u40 u41 u42 u43 u44 u45 u46 u47 u48 u49 u50 u51 u52 u53 u54
    u55 u56 u57 u58 u59 u60 u62 u63 u64 u65 u66 u67 u68 u69 u70 u71 u72 u73 u74 u75 u76 u77 u78 u79 u80 u81 u82 u83 u84 u85 u86 u87 u88 u89 u90 u91
    u92 u93 u94 u95 u96 u97 u98 u99 u100 u101 u102 u103 u104 u105 u106 u107 u108 u109 u110 u111 u112 u113 u114 u115 u116 u117 u118 u119 u120 u121 u122
    u123 u124 u125 u126 u127 u128 u129 u130 u131 u132 u133 u134 u135 u136 u137 u138 u139 u140 u141 u142 u143 u144 u145 u146 u147 u148 u149 u150 u151
    u152 u153 u154 u155 u156 u157 u158 u159 u160 u161 u162 u163 u164 u165 u166 u167 u168 u169 u170 u171 u172 u173 u174 u175 u176 u177 u178 u179 u180
    u181 u182 u183 u184 u185 u186 u187 u188 u189 u190 u191 u192 u193 u194 u195 u196 u197 u198 u199 u200 u201 u202 u203 u204 u205 u206 u207 u208 u209
    u210 u211 u212 u213 u214 u215 u216 u217 u218 u219 u220 u221 u222 u223 u224 u225 u226 u227 u228 u229 u230 u231 u232 u233 u234 u235 u236 u237 u238
    u239 u240 u241 u242 u243 u244 u245 u246 u247 u248,
      (∃ L4 M4 ao4 cp4, PL W w1 w' nb L4 M4 ao4 cp4 u4 ∧ L4.length ≤ i + 1) ∧ a' = (⟨(List.toArray (
    s0 :: s1 :: u2 :: .pointer (some ⟨nb, 0, none⟩) :: u4 :: .int .i64 (i : Int) :: .pointer (some ⟨q6, 0, none⟩) :: .bool B ::
    .pointer (some ⟨q8, 0, none⟩) :: u9 :: u10 :: u11 :: u12 :: u13 :: u14 :: u15 :: u16 :: u17 :: s18 :: s19 :: s20 :: s21 :: s22 :: s23 :: s24 ::
    s25 :: s26 :: s27 :: u28 :: u29 :: u30 :: u31 :: u32 :: u33 :: u34 :: u35 :: u36 :: u37 :: u38 :: u39 :: u40 :: u41 :: u42 :: u43 :: u44 :: u45 ::
    u46 :: u47 :: u48 :: u49 :: u50 :: u51 :: u52 :: u53 :: u54 :: u55 :: u56 :: u57 :: u58 :: u59 :: u60 :: .int .i64 xkind :: u62 :: u63 :: u64 ::
    u65 :: u66 :: u67 :: u68 :: u69 :: u70 :: u71 :: u72 :: u73 :: u74 :: u75 :: u76 :: u77 :: u78 :: u79 :: u80 :: u81 :: u82 :: u83 :: u84 :: u85 ::
    u86 :: u87 :: u88 :: u89 :: u90 :: u91 :: u92 :: u93 :: u94 :: u95 :: u96 :: u97 :: u98 :: u99 :: u100 :: u101 :: u102 :: u103 :: u104 :: u105 ::
    u106 :: u107 :: u108 :: u109 :: u110 :: u111 :: u112 :: u113 :: u114 :: u115 :: u116 :: u117 :: u118 :: u119 :: u120 :: u121 :: u122 :: u123 ::
    u124 :: u125 :: u126 :: u127 :: u128 :: u129 :: u130 :: u131 :: u132 :: u133 :: u134 :: u135 :: u136 :: u137 :: u138 :: u139 :: u140 :: u141 ::
    u142 :: u143 :: u144 :: u145 :: u146 :: u147 :: u148 :: u149 :: u150 :: u151 :: u152 :: u153 :: u154 :: u155 :: u156 :: u157 :: u158 :: u159 ::
    u160 :: u161 :: u162 :: u163 :: u164 :: u165 :: u166 :: u167 :: u168 :: u169 :: u170 :: u171 :: u172 :: u173 :: u174 :: u175 :: u176 :: u177 ::
    u178 :: u179 :: u180 :: u181 :: u182 :: u183 :: u184 :: u185 :: u186 :: u187 :: u188 :: u189 :: u190 :: u191 :: u192 :: u193 :: u194 :: u195 ::
    u196 :: u197 :: u198 :: u199 :: u200 :: u201 :: u202 :: u203 :: u204 :: u205 :: u206 :: u207 :: u208 :: u209 :: u210 :: u211 :: u212 :: u213 ::
    u214 :: u215 :: u216 :: u217 :: u218 :: u219 :: u220 :: u221 :: u222 :: u223 :: u224 :: u225 :: u226 :: u227 :: u228 :: u229 :: u230 :: u231 ::
    u232 :: u233 :: u234 :: u235 :: u236 :: u237 :: u238 :: u239 :: u240 :: u241 :: u242 :: u243 :: u244 :: u245 :: u246 :: u247 :: u248 :: [])), []⟩ : Act)) → J a' w')
    (hJ2 : ∀ (a' : Act) (w' : World), Met J a' w' → K a' w') :
    Code.wp Try.prog codeK (Exit.then K Q) (⟨(List.toArray (
    s0 :: s1 :: s2 :: .pointer (some ⟨nb, 0, none⟩) :: .slice da n dc :: .int .i64 (i : Int) :: .pointer (some ⟨q6, 0, none⟩) :: .bool B ::
    .pointer (some ⟨q8, 0, none⟩) :: s9 :: s10 :: s11 :: s12 :: s13 :: s14 :: s15 :: s16 :: s17 :: s18 :: s19 :: s20 :: s21 :: s22 :: s23 :: s24 ::
    s25 :: s26 :: s27 :: s28 :: s29 :: s30 :: s31 :: s32 :: s33 :: s34 :: s35 :: s36 :: s37 :: s38 :: s39 :: s40 :: s41 :: s42 :: s43 :: s44 :: s45 ::
    s46 :: s47 :: s48 :: s49 :: s50 :: s51 :: s52 :: s53 :: s54 :: s55 :: s56 :: s57 :: s58 :: s59 :: .pointer (some ⟨q6, 0, none⟩) ::
    .int .i64 xkind :: s62 :: s63 :: s64 :: s65 :: s66 :: s67 :: s68 :: s69 :: s70 :: s71 :: s72 :: s73 :: s74 :: s75 :: s76 :: s77 :: s78 :: s79 ::
    s80 :: s81 :: s82 :: s83 :: s84 :: s85 :: s86 :: s87 :: s88 :: s89 :: s90 :: s91 :: s92 :: s93 :: s94 :: s95 :: s96 :: s97 :: s98 :: s99 ::
    s100 :: s101 :: s102 :: s103 :: s104 :: s105 :: s106 :: s107 :: s108 :: s109 :: s110 :: s111 :: s112 :: s113 :: s114 :: s115 :: s116 :: s117 ::
    s118 :: s119 :: s120 :: s121 :: s122 :: s123 :: s124 :: s125 :: s126 :: s127 :: s128 :: s129 :: s130 :: s131 :: s132 :: s133 :: s134 :: s135 ::
    s136 :: s137 :: s138 :: s139 :: s140 :: s141 :: s142 :: s143 :: s144 :: s145 :: s146 :: s147 :: s148 :: s149 :: s150 :: s151 :: s152 :: s153 ::
    s154 :: s155 :: s156 :: s157 :: s158 :: s159 :: s160 :: s161 :: s162 :: s163 :: s164 :: s165 :: s166 :: s167 :: s168 :: s169 :: s170 :: s171 ::
    s172 :: s173 :: s174 :: s175 :: s176 :: s177 :: s178 :: s179 :: s180 :: s181 :: s182 :: s183 :: s184 :: s185 :: s186 :: s187 :: s188 :: s189 ::
    s190 :: s191 :: s192 :: s193 :: s194 :: s195 :: s196 :: s197 :: s198 :: s199 :: s200 :: s201 :: s202 :: s203 :: s204 :: s205 :: s206 :: s207 ::
    s208 :: s209 :: s210 :: s211 :: s212 :: s213 :: s214 :: s215 :: s216 :: s217 :: s218 :: s219 :: s220 :: s221 :: s222 :: s223 :: s224 :: s225 ::
    s226 :: s227 :: s228 :: s229 :: s230 :: s231 :: s232 :: s233 :: s234 :: s235 :: s236 :: s237 :: s238 :: s239 :: s240 :: s241 :: s242 :: s243 ::
    s244 :: s245 :: s246 :: s247 :: s248 :: [])), []⟩ : Act) w5 := by
  dsimp only [codeK, cA, cB, cIn, Try.f3, Option.getD]
  have hc6 := And.intro c60 (And.intro c63 c64)
  clear hc6
  have HA5 : Hid (AB w5 q6 xkind xi xk ack hv (.slice ma ml mc)) := Lib.hid (HK35.out.same HB6.out (fun x => x))
  obtain ⟨yk, yh, ya, yc, yb⟩ := y
  dsimp only at HYB HY
  obtain ⟨yn, hyn⟩ : ∃ n, n = yb.length := ⟨_, rfl⟩
  rw [← hyn] at HYB
  have HYN := Lib.hid hyn
  clear hyn
  have HBL : Hid (hasB L xi = B) := Lib.hid (by rw [HP5.out.has, HB.out])
  have HLT : Hid (lookT L xi = ⟨yk, yh, yb⟩) := Lib.hid (by rw [HP5.out.lookT]; exact HY.out.1.symm)
  have HROW : Hid (∀ j, (Value.slice ao L.length cp).ownBlock = some j → j ≠ q8) := Lib.hid (fun j e => by have := HP3.out.own_lt.2.2.1 j e; have := HQ8.out; omega)
  by_cases k0 : xkind = 0
  · have p0 : (xkind == (0 : Int)) = true := beqT k0
    clear k0
    have c65a := fun o => Lib.cell?_alloc_some o c65
    obtain ⟨iI, hiI, hzI0, hzI1, hzI2⟩ := info_parts Try.info5
    have HM0 : Hid (Mine w5 (w5.alloc (.cells #[] 5)) 5 (.slice (some ⟨w5.heap.size, 0, none⟩) 0 0) []) := Lib.hid ⟨⟨rfl, .inr ⟨w5.heap.size, 0, #[], rfl, Nat.le_refl _, heap_alloc_new w5 _, Nat.le_refl _, by unfold maxLen; omega, rfl, rfl⟩⟩, (Kept.refl _ _).alloc _⟩
    have HUL : Hid ((u8s b).length = ml) := Lib.hid (by rw [HML.out]; simp)
    obtain ⟨ub, hub⟩ : ∃ ub, ub = u8s b := ⟨_, rfl⟩
    have HS0 : Hid (Src Try.prog 1 27 (.slice ma ml mc) ub.length ub (w5.alloc (.cells #[] 5))) := Lib.hid (by
      have h1 : SlAt W (.slice ma b.length mc) (u8s b) := HX.out.at_
      rw [← HML.out] at h1
      rw [hub]
      exact (h1.kept (HP5.out.keptW.trans ((Kept.refl (fun _ => False) w5).alloc _)) (fun _ _ x => x)).src Try.underlying27 (u8s_one _))
    rw [← hub] at HUL
    have HUB := Lib.hid hub
    clear hub
    go_upto_region 19 with fail
    go_wp2_with (at_builtin; refine wpList_mine rfl (.tmp 64) (.tmp 67) _ _ rfl 5 iI (.int .u8 0) 1 Try.underlying27 hiI hzI0 hzI1 hzI2 rfl (by omega) w5 _ [] rfl HM0.out _ ub rfl HS0.out (by have := HUL.out; have := H300.out; simp; omega) ?_)
    intro v6 w6 hm6
    obtain ⟨oa, oc, rfl⟩ := hm6.slice
    rw [HUL.out] at hm6 ⊢
    have HM6 := Lib.hid hm6
    have HP6 := Lib.hid (HP5.out.kept hm6.kept)
    have HA6 : Hid (AB w6 q6 xkind xi xk ack hv (.slice ma ml mc)) := Lib.hid (hm6.kept.same HA5.out (fun x => x))
    have HSD := Lib.hid (netSend_any w1 nb L ao cp ack hv oa ml oc b HML.out.symm w6 HP6.out.ns (by have := hm6.at_; rwa [HUB.out] at this) (by have := H300.out; omega) (by have := HN.out; omega) HX.out.byte)
    clear hm6 c60 c61 c62 c63 c64 c65 c65a hiI hzI0 hzI1 hzI2
    obtain ⟨c60, c61, c62, c63, c64, c65⟩ := HA6.out.c
    go_wp2_with fail
    refine HSD.out.mono ?_
    intro e w7 hsd
    obtain ⟨rfl, hbad, hgood⟩ := hsd.parts
    obtain ⟨R, hR⟩ : ∃ R, R = rightB ⟨ack, hv, b⟩ := ⟨_, rfl⟩
    have hsb : sendB L ⟨ack, hv, b⟩ = R := by unfold sendB; rw [decide_eq_true (show L.length < 4096 by have := HN.out; omega), Bool.true_and, hR]
    rw [hsb] at hbad hgood ⊢
    have hk7 : Kept (fun j => j = nb ∨ (Value.slice ao L.length cp).ownBlock = some j) w6 w7 := by
      cases R with
      | false => exact (hbad rfl).mono (fun _ _ x => x.elim)
      | true => obtain ⟨_, _, _, _, _, _, hk, _⟩ := hgood rfl; exact hk
    have HBAD := Lib.hid hbad
    have HGOOD := Lib.hid hgood
    have HR := Lib.hid hR
    have HA7 : Hid (AB w7 q6 xkind xi xk ack hv (.slice ma ml mc)) := Lib.hid (HP6.out.act HA6.out hk7)
    have HOW7 : Hid (w7.ownsRow w5.heap.size 5 1 (.slice oa ml oc) ml (u8s b)) := Lib.hid (by
      have h1 := HM6.out.own
      rw [HUL.out, HUB.out] at h1
      refine hk7.owns h1 (fun j e => ?_)
      rintro (e2 | e2)
      · subst e2; exact own_ne_box h1 HP6.out.ns.box (by decide) e
      · obtain ⟨cur, hc⟩ := ownsRow_block HP6.out.ns.row.own e2
        exact own_ne_box h1 hc (by decide) e)
    have HLT6 : Hid (∀ j, (Value.slice oa ml oc).ownBlock = some j → w5.heap.size ≤ j ∧ j < w6.heap.size) := Lib.hid (fun j e => by
      have h1 := HM6.out.own
      rw [HUL.out] at h1
      have := ownsRow_lt h1 e
      omega)
    clear hsd hbad hgood hsb hk7 hR c60 c61 c62 c63 c64 c65
    go_upto_region 22 with fail
    go_loopg [11] ml (fun G s11 wr => ∃ k : Nat, k ≤ ml ∧ G = ml - k ∧ s11 = .int .i64 k ∧ ∃ xs : List Int, xs.length = ml ∧ wr.ownsRow w5.heap.size 5 1 (.slice oa ml oc) ml (u8s xs) ∧ Kept (fun j => (Value.slice oa ml oc).ownBlock = some j) w7 wr)
    case atStart => exact ⟨0, Nat.zero_le _, rfl, rfl, b, HML.out.symm, HOW7.out, Kept.refl _ _⟩
    case round =>
      obtain ⟨k, hkn, rfl, rfl, xs, hxs, how, hkr⟩ := hrel
      have HOR := Lib.hid how
      have HKR := Lib.hid hkr
      have HXS := Lib.hid hxs
      have HAR : Hid (AB wr q6 xkind xi xk ack hv (.slice ma ml mc)) := Lib.hid (hkr.same HA7.out (own_ne_box HOW7.out HA7.out (by decide)))
      clear how hkr hxs
      by_cases hk : k < ml
      · have hki : (k : Int) < (ml : Int) := by omega
        have hk0 : (0 : Int) ≤ (k : Int) := by omega
        have HKD := Lib.hid hk
        have wk : IntKind.i64.wrap ((k : Int) + 1) = ((k + 1 : Nat) : Int) := by rw [IntWalk.i64_in _ ⟨by omega, by have := H300.out; omega⟩]; omega
        obtain ⟨gq, hxa⟩ : ∃ gq, oa = some ⟨gq, 0, none⟩ := by
          rcases HOR.out.2 with ⟨_, h0⟩ | ⟨gq, cap', cur, e0, _⟩
          · omega
          · injection e0 with e0; exact ⟨gq, e0⟩
        subst hxa
        obtain ⟨z, hz⟩ : ∃ z, z = xs[k]'(by have := HXS.out; omega) := ⟨_, rfl⟩
        have hcz : wr.cell? ⟨gq, k, none⟩ = some (.int .u8 z) := by
          have := HOR.out.cells (g := gq) rfl k (.int .u8 z) (by unfold u8s; rw [List.getElem?_map, List.getElem?_eq_getElem (by have := HXS.out; omega), ← hz]; rfl)
          rwa [addr_add0] at this
        have hfz := (own_some HOR.out k (by omega)).2
        have HST : Hid (∀ u : Int, (wr.setCell ⟨gq, k, none⟩ (.int .u8 u)).ownsRow w5.heap.size 5 1 (.slice (some ⟨gq, 0, none⟩) ml oc) ml (u8s (xs.set k u)) ∧ Kept (fun j => (Value.slice (some ⟨gq, 0, none⟩) ml oc).ownBlock = some j) w7 (wr.setCell ⟨gq, k, none⟩ (.int .u8 u))) := Lib.hid (fun u => ⟨by rw [u8s_set]; exact owns_setM HOR.out k _, HKR.out.setCell (p := ⟨gq, k, none⟩) (fun _ => rfl) _⟩)
        clear hk hkn hz
        go_wp2
        go_roundg (ml - (k + 1))
        case measure => have := HKD.out; omega
        case rel => exact ⟨k + 1, HKD.out, rfl, rfl, xs.set k _, by rw [List.length_set]; exact HXS.out, (HST.out _).1, (HST.out _).2⟩
      · have hki : ¬ (k : Int) < (ml : Int) := by omega
        have hki' : decide (k < ml) = false := decide_eq_false hk
        obtain ⟨c60, c61, c62, c63, c64, c65⟩ := HAR.out.c
        have HRT := Lib.hid (refRight_any ack hv ma mc b wr)
        rw [← HML.out, ← HR.out] at HRT
        have qR : (R != R) = false := by simp
        clear hk hkn
        go_wp2_with fail
        refine HRT.out.mono ?_
        rintro e w8 ⟨rfl, k8⟩
        have HK8 := Lib.hid k8
        have ha8 : AB w8 q6 xkind xi xk ack hv (.slice ma ml mc) := k8.same HAR.out (fun x => x)
        clear k8 c60 c61 c62 c63 c64 c65
        obtain ⟨c60, c61, c62, c63, c64, c65⟩ := ha8.c
        clear ha8
        cases R with
        | false =>
          have HPX := Lib.hid ((HP5.out.newer (((HM6.out.kept.trans (HBAD.out rfl)).mono (fun _ _ x => x.elim)).trans HKR.out) (fun j e => (HLT6.out j e).1)).kept HK8.out)
          go_wp2
          go_meet
          case rel => exact ⟨L, M, ao, cp, HPX.out, by have := HN.out; omega⟩
        | true =>
          obtain ⟨m, ao', cp', hn7, hd7, hs7, hap7, hmf, hrf⟩ := HP5.out.grew (x := ⟨ack, hv, ma, mc, b⟩) HM6.out.kept (HGOOD.out rfl) ⟨rfl, HX.out.at_, HX.out.byte⟩
          have hlt := HP5.out.own_lt
          have hnR : NS w1 wr nb (L ++ [m]) ao' cp' := hn7.beside HKR.out (fun j e => by
            have h1 := HLT6.out j e
            refine ⟨by have := HP5.out.ns.row.kept.size; omega, fun m2 hm2 e2 => ?_, fun e2 => by have := hlt.2.1; omega, fun e2 => ?_⟩
            · rcases List.mem_append.1 hm2 with h2 | h2
              · have := hlt.1 m2 h2 j e2; omega
              · rw [List.mem_singleton] at h2; subst h2; have := hmf j e2; omega
            · rcases hrf j e2 with h3 | h3 <;> omega)
          have hdR : MineG cellsM 3 29 w1 wr (.slice da n dc) M := hd7.keptS HKR.out (fun j e e2 => by have := hlt.2.2.2 j e; have := HLT6.out j e2; omega) (fun j e => by have := HLT6.out j e; have := HP5.out.ns.row.kept.size; omega)
          have HN8 := Lib.hid (hnR.kept HK8.out)
          have HD8 := Lib.hid (hdR.on HK8.out)
          have HS8 := Lib.hid (And.intro hs7 hap7)
          have HDA := Lib.hid ((hdR.on HK8.out).on ((Kept.refl (fun _ => False) w8).alloc (.cells #[.bool ack, .int .i64 hv, .slice ma ml mc] 29)))
          have HSR : Hid (Src Try.prog 3 26 (.slice (some ⟨w8.heap.size, 0, none⟩) 1 1) 1 (flatG cellsM [⟨ack, hv, ma, mc, b⟩]) (w8.alloc (.cells #[.bool ack, .int .i64 hv, .slice ma ml mc] 29))) := Lib.hid (by have := src_oneG (P := Try.prog) cfM Try.underlying26 w8 (⟨ack, hv, ma, mc, b⟩ : Mg); rw [flatG_one']; rw [HML.out]; exact this)
          clear hn7 hd7 hs7 hap7 hmf hrf hlt hnR hdR
          go_upto_region 28 with fail
          go_wp2_with (at_builtin; refine wpList_mineM rfl (.tmp 99) (.tmp 102) rfl w1 _ M rfl HDA.out _ [⟨ack, hv, ma, mc, b⟩] 1 rfl rfl HSR.out (by have := HN.out; omega) ?_)
          intro v9 w9 hm9 hk9 hat9
          have HPX := Lib.hid (PL.listed HN8.out HD8.out HS8.out.1 HS8.out.2 HP5.out.base ⟨HX.out.at_, HX.out.byte⟩ HP5.out.old hm9 hk9 (by rw [show (w8.alloc (.cells #[.bool ack, .int .i64 hv, .slice ma ml mc] 29)).heap.size = w8.heap.size + 1 from Array.size_push ..]; exact hat9))
          clear hm9 hk9 hat9
          go_wp2
          go_meet
          case rel => exact ⟨L ++ [m], M ++ [⟨ack, hv, ma, mc, b⟩], ao', cp', HPX.out, by rw [List.length_append]; have := HN.out; simp; omega⟩
  · have p0 : (xkind == (0 : Int)) = false := beqF k0
    by_cases k1 : xkind = 1
    · have p1 : (xkind == (1 : Int)) = true := beqT k1
      clear k0 k1
      have HTK := Lib.hid (netTake_any w1 nb L ao cp xi w5 HP5.out.ns (by have := HN.out; omega))
      unfold TakeTo at HTK
      rw [HBL.out, HLT.out] at HTK
      go_wp2_with fail
      refine HTK.out.mono ?_
      rintro e w6 ⟨⟨xk2, xh2, xa2, xc2, xb2⟩, rfl, hxt, hxa, hn6, hk6⟩
      unfold Mg.At at hxa
      dsimp only at hxa ⊢
      have hx2 : xk2 = yk ∧ xh2 = yh ∧ xb2 = yb := by
        unfold Mg.t at hxt
        injection hxt with e1 e2 e3
        exact ⟨e1, e2, e3⟩
      obtain ⟨rfl, rfl, rfl⟩ := hx2
      rw [← HYN.out] at hxa ⊢
      have HN6 := Lib.hid hn6
      have HD6 := Lib.hid (HP5.out.docK hk6)
      have HY6 := Lib.hid (HP5.out.msg HYB.out HROW.out hk6)
      obtain ⟨w7, hw7⟩ : ∃ w', w' = w6.alloc (.cells #[.bool xk2, .int .i64 xh2, .slice xa2 yn xc2] 29) := ⟨_, rfl⟩
      obtain ⟨q12, hq12⟩ : ∃ q, q = w6.heap.size := ⟨_, rfl⟩
      have k67 : Kept (fun _ => False) w6 w7 := by rw [hw7]; exact (Kept.refl _ _).alloc _
      have HB12 : Hid (MB w7 q12 xk2 xh2 (.slice xa2 yn xc2)) := Lib.hid (by rw [hw7, hq12]; exact heap_alloc_new w6 _)
      have HY7 : Hid (MB w7 q8 xk2 xh2 (.slice ya yn yc)) := Lib.hid (k67.same HY6.out (fun x => x))
      have HA7 : Hid (AB w7 q6 xkind xi xk ack hv (.slice ma ml mc)) := Lib.hid (k67.same (HP5.out.act HA5.out hk6) (fun x => x))
      have HW7 := Lib.hid (And.intro hw7 hq12)
      have HK67 := Lib.hid k67
      have HSM := Lib.hid (refSame_any xk2 xh2 ya yn yc xb2 xk2 xh2 xa2 yn xc2 xb2 w7 (by
        have h1 : SlAt W (.slice ya xb2.length yc) (u8s xb2) := HY.out.2.1
        rw [← HYN.out] at h1
        exact h1.kept ((HP5.out.old.trans HN6.out.row.kept).trans k67) (fun _ _ x => x)) (hxa.kept k67 (fun _ _ x => x)) HY.out.2.2 HY.out.2.2)
      rw [show decide ((⟨xk2, xh2, xb2⟩ : Tl) = ⟨xk2, xh2, xb2⟩) = true from decide_eq_true rfl] at HSM
      have HKS6 := Lib.hid hk6
      clear hxt hxa hn6 hw7 hq12 k67 hk6
      have qB : (B != B) = false := by simp
      go_upto_region 31 with fail
      rw [← HW7.out.1, ← HW7.out.2]
      obtain ⟨z0, z1, z2⟩ := HB12.out.c
      obtain ⟨x0, x1, x2⟩ := HY7.out.c
      go_wp2_with fail
      refine HSM.out.mono ?_
      rintro e w8 ⟨rfl, k8⟩
      have HK68 := Lib.hid (HK67.out.trans k8)
      have HN8 := Lib.hid (HN6.out.kept HK68.out)
      have HD8 := Lib.hid (HD6.out.on HK68.out)
      have ha8 : AB w8 q6 xkind xi xk ack hv (.slice ma ml mc) := k8.same HA7.out (fun x => x)
      clear k8 z0 z1 z2 x0 x1 x2 c60 c61 c62 c63 c64 c65
      obtain ⟨c60, c61, c62, c63, c64, c65⟩ := ha8.c
      clear ha8 qB
      cases B with
      | false =>
        have htl : takeL L xi = L := by unfold takeL; rw [if_neg (by rw [HBL.out]; decide)]
        rw [htl] at HN8
        have HPX := Lib.hid (HP5.out.again (HKS6.out.trans (HK68.out.mono (fun _ _ x => x.elim))) HN8.out)
        clear htl
        go_wp2
        go_meet
        case rel => exact ⟨L, M, ao, cp, HPX.out, by have := HN.out; omega⟩
      | true =>
        have hi2 := of_decide_eq_true HB.out.symm
        obtain ⟨j, rfl⟩ : ∃ j : Nat, xi = (j : Int) := ⟨xi.toNat, by omega⟩
        have hj : j < n := by have := HN.out.1; omega
        have htl : takeL L (j : Int) = L.eraseIdx j := by unfold takeL; rw [if_pos HBL.out, Int.toNat_natCast]
        rw [htl] at HN8
        have hcm := HD8.out.capM
        have HWO := Lib.hid (without_any da n dc M j w8 hcm.2.symm (HD8.out.at_ cfM) hj hcm.1 (by have := HN.out; omega))
        have HSE : Hid ((L.eraseIdx j).map Mg.t = (M.eraseIdx j).map Mg.t ∧ (L.eraseIdx j).length ≤ i + 1) := Lib.hid ⟨by rw [erase_map, erase_map, HP5.out.same], by have := List.length_eraseIdx_le L j; have := HN.out; omega⟩
        clear hi2 hj htl hcm
        go_wp2_with fail
        refine HWO.out.mono ?_
        rintro e w9 ⟨v9, rfl, hm9⟩
        have HPX := Lib.hid (HP5.out.anew HN8.out HSE.out.1 (fun m hm => List.mem_of_mem_eraseIdx hm) hm9)
        clear hm9
        go_wp2
        go_meet
        case rel => exact ⟨L.eraseIdx j, M.eraseIdx j, ao, cp, HPX.out, HSE.out.2⟩
    · have p1 : (xkind == (1 : Int)) = false := beqF k1
      by_cases k2 : xkind = 2
      · have p2 : (xkind == (2 : Int)) = true := beqT k2
        clear k0 k1 k2
        have HTK := Lib.hid (netDouble_any w1 nb L ao cp xi w5 HP5.out.ns (by have := HN.out; omega))
        unfold DoubleTo at HTK
        have hdb : doubleB L xi = B := by unfold doubleB; rw [HBL.out, decide_eq_true (show L.length < 4096 by have := HN.out; omega), Bool.and_true]
        rw [hdb, HLT.out] at HTK
        have qB : (B != B) = false := by simp
        clear hdb
        go_wp2_with fail
        refine HTK.out.mono ?_
        rintro e w6 ⟨rfl, hbad, hgood⟩
        have HBAD := Lib.hid hbad
        have HGOOD := Lib.hid hgood
        clear hbad hgood
        cases B with
        | false =>
          have HPX := Lib.hid (HP5.out.kept (HBAD.out rfl))
          go_wp2
          go_meet
          case rel => exact ⟨L, M, ao, cp, HPX.out, by have := HN.out; omega⟩
        | true =>
          have hgr := HGOOD.out rfl
          have hkk : Kept (fun j => j = nb ∨ (Value.slice ao L.length cp).ownBlock = some j) w5 w6 := by obtain ⟨_, _, _, _, _, _, hk, _⟩ := hgr; exact hk
          obtain ⟨m, ao', cp', hn6, hd6, hs6, hap6, _, _⟩ := HP5.out.grew (x := ⟨yk, yh, ya, yc, yb⟩) (Kept.refl _ w5) hgr ⟨rfl, HY.out.2.1, HY.out.2.2⟩
          have HN6 := Lib.hid hn6
          have HD6 := Lib.hid hd6
          have HS6 := Lib.hid (And.intro hs6 hap6)
          have HY6 := Lib.hid (HP5.out.msg HYB.out HROW.out hkk)
          have HA6 := Lib.hid (HP5.out.act HA5.out hkk)
          obtain ⟨x0, x1, x2⟩ := HY6.out.c
          have HDA := Lib.hid (hd6.on ((Kept.refl (fun _ => False) w6).alloc (.cells #[.bool yk, .int .i64 yh, .slice ya yn yc] 29)))
          have HSR : Hid (Src Try.prog 3 26 (.slice (some ⟨w6.heap.size, 0, none⟩) 1 1) 1 (flatG cellsM [⟨yk, yh, ya, yc, yb⟩]) (w6.alloc (.cells #[.bool yk, .int .i64 yh, .slice ya yn yc] 29))) := Lib.hid (by have := src_oneG (P := Try.prog) cfM Try.underlying26 w6 (⟨yk, yh, ya, yc, yb⟩ : Mg); rw [flatG_one']; rw [HYN.out]; exact this)
          clear hgr hkk hn6 hd6 hs6 hap6
          go_upto_region 39 with fail
          go_wp2_with (at_builtin; refine wpList_mineM rfl (.tmp 136) (.tmp 138) rfl w1 _ M rfl HDA.out _ [⟨yk, yh, ya, yc, yb⟩] 1 rfl rfl HSR.out (by have := HN.out; omega) ?_)
          intro v7 w7 hm7 hk7 hat7
          have HPX := Lib.hid (PL.listed HN6.out HD6.out HS6.out.1 HS6.out.2 HP5.out.base ⟨HY.out.2.1, HY.out.2.2⟩ HP5.out.old hm7 hk7 (by rw [show (w6.alloc (.cells #[.bool yk, .int .i64 yh, .slice ya yn yc] 29)).heap.size = w6.heap.size + 1 from Array.size_push ..]; exact hat7))
          clear hm7 hk7 hat7
          go_wp2
          go_meet
          case rel => exact ⟨L ++ [m], M ++ [⟨yk, yh, ya, yc, yb⟩], ao', cp', HPX.out, by rw [List.length_append]; have := HN.out; simp; omega⟩
      · have p2 : (xkind == (2 : Int)) = false := beqF k2
        by_cases k3 : xkind = 3
        · have p3 : (xkind == (3 : Int)) = true := beqT k3
          clear k0 k1 k2 k3
          go_upto_region 41 with fail
          obtain ⟨C, hC⟩ : ∃ C, C = hasB M xk := ⟨_, rfl⟩
          have HC := Lib.hid hC
          have HCL : Hid (hasB L xk = C) := Lib.hid (by rw [HP5.out.has, hC])
          go_cut [14] from 141 to 248 (fun s14 wc => s14 = .bool (B && C) ∧ w5 = wc)
          case first =>
            cases B with
            | false =>
              clear hC
              go_wp2
              go_meet
              case rel => exact ⟨rfl, rfl⟩
            | true =>
              by_cases h0 : 0 ≤ xk
              · have r0 : decide ((0 : Int) ≤ xk) = true := decide_eq_true h0
                by_cases h1 : xk < (n : Int)
                · have HZ : Hid (C = true) := Lib.hid (by rw [hC]; exact decide_eq_true ⟨h0, by rw [HN.out.1]; exact h1⟩)
                  have r1 : decide (xk < (n : Int)) = true := decide_eq_true h1
                  clear hC
                  go_wp2
                  go_meet
                  case rel => exact ⟨by rw [HZ.out]; rfl, rfl⟩
                · have HZ : Hid (C = false) := Lib.hid (by rw [hC]; exact decide_eq_false (fun e => h1 (by have := e.2; rw [HN.out.1] at this; exact this)))
                  have r1 : decide (xk < (n : Int)) = false := decide_eq_false h1
                  clear hC
                  go_wp2
                  go_meet
                  case rel => exact ⟨by rw [HZ.out]; rfl, rfl⟩
              · have HZ : Hid (C = false) := Lib.hid (by rw [hC]; exact decide_eq_false (fun e => h0 e.1))
                have r0 : decide ((0 : Int) ≤ xk) = false := decide_eq_false h0
                clear hC
                go_wp2
                go_meet
                case rel => exact ⟨by rw [HZ.out]; rfl, rfl⟩
          case rest =>
            obtain ⟨rfl, rfl⟩ := hcut
            clear hC
            have HTK := Lib.hid (netTurn_any w1 nb L ao cp xi xk w5 HP5.out.ns)
            unfold TurnTo at HTK
            rw [HBL.out, HCL.out] at HTK
            obtain ⟨D, hD⟩ : ∃ D, D = (B && C) := ⟨_, rfl⟩
            rw [← hD] at HTK ⊢
            have HDD := Lib.hid hD
            have qD : (D != D) = false := by simp
            clear hD
            go_wp2_with fail
            refine HTK.out.mono ?_
            rintro e w6 ⟨rfl, hn6, hk6⟩
            have HN6 := Lib.hid hn6
            have hk6' : Kept (fun j => j = nb ∨ (Value.slice ao L.length cp).ownBlock = some j) w5 w6 := hk6.mono (fun _ _ x => Or.inr x)
            have HKS6 := Lib.hid hk6'
            have HD6 := Lib.hid (HP5.out.docK hk6')
            have ha6 := HP5.out.act HA5.out hk6'
            clear hn6 hk6 hk6' c60 c61 c62 c63 c64 c65
            obtain ⟨c60, c61, c62, c63, c64, c65⟩ := ha6.c
            clear ha6
            cases D with
            | false =>
              have htl : turnL L xi xk = L := by
                unfold turnL
                rw [if_neg (fun e => by
                  have h1 := HDD.out
                  rw [← HBL.out, ← HCL.out, e.1, e.2] at h1
                  cases h1)]
              rw [htl] at HN6
              have HPX := Lib.hid (HP5.out.again HKS6.out HN6.out)
              clear htl
              go_wp2
              go_meet
              case rel => exact ⟨L, M, ao, cp, HPX.out, by have := HN.out; omega⟩
            | true =>
              have hbc : B = true ∧ C = true := by have := HDD.out; revert this; cases B <;> cases C <;> simp
              have hi2 := of_decide_eq_true (show hasB M xi = true by rw [← HB.out]; exact hbc.1)
              have hk2 := of_decide_eq_true (show hasB M xk = true by rw [← HC.out]; exact hbc.2)
              have htl : turnL L xi xk = swapL L xi.toNat xk.toNat := by unfold turnL; rw [if_pos ⟨by rw [HBL.out]; exact hbc.1, by rw [HCL.out]; exact hbc.2⟩]
              rw [htl] at HN6
              obtain ⟨j, rfl⟩ : ∃ j : Nat, xi = (j : Int) := ⟨xi.toNat, by omega⟩
              obtain ⟨l, rfl⟩ : ∃ j : Nat, xk = (j : Int) := ⟨xk.toNat, by omega⟩
              rw [Int.toNat_natCast, Int.toNat_natCast] at HN6
              have hcm := HD6.out.capM
              have HWO := Lib.hid (turned_any da n dc M j l w6 hcm.2.symm (HD6.out.at_ cfM) (by have := HN.out.1; omega) (by have := HN.out.1; omega) (by have := HN.out; omega))
              have HSE : Hid ((swapL L j l).map Mg.t = (swapL M j l).map Mg.t ∧ (swapL L j l).length ≤ i + 1) := Lib.hid ⟨by rw [swapL_map, swapL_map, HP5.out.same], by rw [swapL_len]; have := HN.out; omega⟩
              have HN6' : Hid (NS w1 w6 nb (swapL L j l) ao cp) := HN6
              clear hbc hi2 hk2 htl hcm
              go_wp2_with fail
              refine HWO.out.mono ?_
              rintro e w9 ⟨v9, rfl, hm9⟩
              have HPX := Lib.hid (HP5.out.anew HN6'.out HSE.out.1 (fun m hm => mem_swap hm) hm9)
              clear hm9
              go_wp2
              go_meet
              case rel => exact ⟨swapL L j l, swapL M j l, ao, cp, HPX.out, HSE.out.2⟩
        · have p3 : (xkind == (3 : Int)) = false := beqF k3
          by_cases k4 : xkind = 4
          · have p4 : (xkind == (4 : Int)) = true := beqT k4
            clear k0 k1 k2 k3 k4
            have HTK := Lib.hid (netLook_any w1 nb L ao cp xi w5 HP5.out.ns)
            unfold LookTo at HTK
            rw [HBL.out] at HTK
            have qB : (B != B) = false := by simp
            go_wp2_with fail
            refine HTK.out.mono ?_
            rintro e w6 ⟨⟨xk2, xh2, xa2, xc2, xb2⟩, rfl, hxt, hxm⟩
            dsimp only at hxm ⊢
            obtain ⟨xn2, hxn2⟩ : ∃ n, n = xb2.length := ⟨_, rfl⟩
            have hxl : xn2 ≤ 1000000 := by
              rw [hxn2]
              unfold Mg.t at hxt
              rw [HLT.out] at hxt
              injection hxt with _ _ e3
              have e3 : xb2 = yb := e3
              rw [e3]
              unfold lookT at HLT
              have h1 := HLT.out
              split at h1
              · rename_i hh
                have h2 := of_decide_eq_true hh
                have hjl : xi.toNat < L.length := by omega
                have h3 := (HP5.out.ns.byte (L[xi.toNat]'hjl) (List.getElem_mem hjl)).2
                rw [List.getD_eq_getElem?_getD, List.getElem?_eq_getElem hjl] at h1
                have h4 := right_len h3
                have h5 : (L[xi.toNat]'hjl).t = ⟨yk, yh, yb⟩ := h1
                rw [h5] at h4
                dsimp only at h4
                omega
              · injection h1 with _ _ e4
                rw [← e4]
                simp
            rw [← hxn2] at hxm ⊢
            obtain ⟨w7, hw7⟩ : ∃ w', w' = w6.alloc (.cells #[.bool xk2, .int .i64 xh2, .slice xa2 xn2 xc2] 29) := ⟨_, rfl⟩
            obtain ⟨q15, hq15⟩ : ∃ q, q = w6.heap.size := ⟨_, rfl⟩
            have k67 : Kept (fun _ => False) w6 w7 := by rw [hw7]; exact (Kept.refl _ _).alloc _
            have HB15 : Hid (MB w7 q15 xk2 xh2 (.slice xa2 xn2 xc2)) := Lib.hid (by rw [hw7, hq15]; exact heap_alloc_new w6 _)
            have HW7 := Lib.hid (And.intro hw7 hq15)
            have HK57 := Lib.hid (hxm.kept.trans k67)
            have hown : w7.ownsRow w5.heap.size 5 1 (.slice xa2 xn2 xc2) xn2 (u8s xb2) := by
              have h1 := hxm.own
              have e2 : (u8s xb2).length = xn2 := by rw [hxn2]; simp
              rw [e2] at h1
              exact k67.owns h1 (fun _ _ x => x)
            have HOW := Lib.hid hown
            have HXL := Lib.hid (And.intro hxl hxn2)
            have HA7 : Hid (AB w7 q6 xkind xi xk ack hv (.slice ma ml mc)) := Lib.hid (HK57.out.same HA5.out (fun x => x))
            clear hxt hxm hxn2 hxl hw7 hq15 k67 hown
            go_upto_region 48 with fail
            rw [← HW7.out.1, ← HW7.out.2]
            go_upto_region 49 with fail
            go_loopg [17] xn2 (fun G s17 wr => ∃ k : Nat, k ≤ xn2 ∧ G = xn2 - k ∧ s17 = .int .i64 k ∧ ∃ xs : List Int, xs.length = xn2 ∧ wr.ownsRow w5.heap.size 5 1 (.slice xa2 xn2 xc2) xn2 (u8s xs) ∧ Kept (fun j => (Value.slice xa2 xn2 xc2).ownBlock = some j) w7 wr)
            case atStart => exact ⟨0, Nat.zero_le _, rfl, rfl, xb2, HXL.out.2.symm, HOW.out, Kept.refl _ _⟩
            case round =>
              obtain ⟨k, hkn, rfl, rfl, xs, hxs, how, hkr⟩ := hrel
              have HOR := Lib.hid how
              have HKR := Lib.hid hkr
              have HXS := Lib.hid hxs
              have HBR : Hid (MB wr q15 xk2 xh2 (.slice xa2 xn2 xc2)) := Lib.hid (hkr.same HB15.out (own_ne_box HOW.out HB15.out (by decide)))
              have HAR : Hid (AB wr q6 xkind xi xk ack hv (.slice ma ml mc)) := Lib.hid (hkr.same HA7.out (own_ne_box HOW.out HA7.out (by decide)))
              clear how hkr hxs c60 c61 c62 c63 c64 c65
              obtain ⟨x0, x1, x2⟩ := HBR.out.c
              by_cases hk : k < xn2
              · have hki : (k : Int) < (xn2 : Int) := by omega
                have hk0 : (0 : Int) ≤ (k : Int) := by omega
                have HKD := Lib.hid hk
                have wk : IntKind.i64.wrap ((k : Int) + 1) = ((k + 1 : Nat) : Int) := by rw [IntWalk.i64_in _ ⟨by omega, by have := HXL.out; omega⟩]; omega
                obtain ⟨gq, hxa⟩ : ∃ gq, xa2 = some ⟨gq, 0, none⟩ := by
                  rcases HOR.out.2 with ⟨_, h0⟩ | ⟨gq, cap', cur, e0, _⟩
                  · omega
                  · injection e0 with e0; exact ⟨gq, e0⟩
                subst hxa
                obtain ⟨z, hz⟩ : ∃ z, z = xs[k]'(by have := HXS.out; omega) := ⟨_, rfl⟩
                have hcz : wr.cell? ⟨gq, k, none⟩ = some (.int .u8 z) := by
                  have := HOR.out.cells (g := gq) rfl k (.int .u8 z) (by unfold u8s; rw [List.getElem?_map, List.getElem?_eq_getElem (by have := HXS.out; omega), ← hz]; rfl)
                  rwa [addr_add0] at this
                have hfz := (own_some HOR.out k (by omega)).2
                have HST : Hid (∀ u : Int, (wr.setCell ⟨gq, k, none⟩ (.int .u8 u)).ownsRow w5.heap.size 5 1 (.slice (some ⟨gq, 0, none⟩) xn2 xc2) xn2 (u8s (xs.set k u)) ∧ Kept (fun j => (Value.slice (some ⟨gq, 0, none⟩) xn2 xc2).ownBlock = some j) w7 (wr.setCell ⟨gq, k, none⟩ (.int .u8 u))) := Lib.hid (fun u => ⟨by rw [u8s_set]; exact owns_setM HOR.out k _, HKR.out.setCell (p := ⟨gq, k, none⟩) (fun _ => rfl) _⟩)
                clear hk hkn hz
                go_upto_region 51 with fail
                go_region
                go_wp2
                go_roundg (xn2 - (k + 1))
                case measure => have := HKD.out; omega
                case rel =>
                  refine ⟨k + 1, HKD.out, rfl, rfl, xs.set k _, by rw [List.length_set]; exact HXS.out, Kept.owns (Kept.drew (Kept.refl (fun _ => False) _)) (HST.out _).1 (fun _ _ x => x), (HST.out _).2.trans ((Kept.drew (Kept.refl (fun _ => False) _)).mono (fun _ _ x => x.elim))⟩
              · have hki : ¬ (k : Int) < (xn2 : Int) := by omega
                have hki' : decide (k < xn2) = false := decide_eq_false hk
                have HPX := Lib.hid (HP5.out.newer (((HK57.out.mono (fun _ _ x => x.elim)).trans HKR.out)) (fun j e => (ownsRow_lt HOW.out e).2))
                clear hk hkn
                go_wp2
                go_meet
                case rel => exact ⟨L, M, ao, cp, HPX.out, by have := HN.out; omega⟩
          · have p4 : (xkind == (4 : Int)) = false := beqF k4
            clear k0 k1 k2 k3 k4
            go_wp2
            go_meet
            case rel => exact ⟨L, M, ao, cp, HP5.out, by have := HN.out; omega⟩
end Go.Proofs.Ytkidbbmdlmnokaa
