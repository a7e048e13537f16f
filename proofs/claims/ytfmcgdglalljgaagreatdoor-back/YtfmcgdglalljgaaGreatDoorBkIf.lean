/-
  The law Back: its if.
-/
import Derived.Test.YtfmcgdglalljgaaGreatDoorLawBa
import Derived.Deep.CutRange
namespace Go.Proofs.YtfmcgdglalljgaaGreatDoor
open Go.RowKit

attribute [local go_sem] Go.World.cell?_alloc_some
set_option maxRecDepth 100000 in
/-- What is asked of all that may stand behind the if. -/
def AftIf (K : Act → World → Prop) (w14 : World) (s : ByteArray) : Prop := ∀ (fy0 fy1 fy2 fy3 fy4 fy6 fy7 fy8 fy9 fy10 fy11 fy12 fy13 fy14 fy15 fy16 fy17 fy18 fy19 fy20 fy21 fy22 fy23 fy24 fy25 fy26 fy27 fy28 fy29 fy30 fy31 fy32 fy33 fy34 fy35 fy36 fy37 fy38 fy39 fy40 fy41 fy42 fy43 fy44 fy45 fy46 fy47 fy48 fy49 fy50 fy51 fy52 fy53 fy54 fy55 fy56 fy57 fy58 fy59 fy60 fy61 fy62 fy63 fy64 fy65 fy66 fy67 fy68 fy69 fy70 fy71 fy72 fy73 fy74 fy75 fy76 fy77 fy78 fy79 fy80 fy81 fy82 fy83 fy84 fy85 fy86 fy87 fy88 fy89 fy90 fy91 fy92 fy93 fy94 fy95 fy96 fy97 fy98 fy99 fy100 fy101 fy102 fy103 fy104 fy105 fy106 fy107 fy108 fy109 fy110 fy111 fy112 fy113 fy114 fy115 fy116 fy117 fy118 fy119 fy120 fy121 fy122 fy123 fy124 fy125 fy126 fy127 fy128 fy129 fy130 fy131 fy132 fy133 fy134 fy135 fy136 fy137 fy138 fy139 fy140 fy141 fy142 fy143 fy144 fy145 fy146 fy147 fy148 fy149 fy150 fy151 fy152 fy153 fy154 fy155 fy156 fy157 fy158 fy159 fy160 fy161 fy162 fy163 fy164 fy165 fy166 fy167 fy168 fy169 fy170 fy171 fy172 fy173 fy174 fy175 fy176 fy177 fy178 fy179 fy180 fy181 fy182 fy183 fy184 fy185 fy186 fy187 fy188 fy189 fy190 fy191 fy192 fy193 fy194 fy195 fy196 fy197 fy198 fy199 fy200 fy201 fy202 fy203 fy204 fy205 fy206 fy207 fy208 fy209 fy210 fy211 fy212 fy213 fy214 fy215 fy216 fy217 fy218 fy219 fy220 fy221 fy222 fy223 fy224 fy225 fy226 fy227 fy228 fy229 fy230 fy231 fy232 fy233 fy234 fy235 fy236 fy237 fy238 fy239 fy240 fy241 fy242 fy243 fy244 fy245 fy246 fy247 fy248 fy249 fy250 fy251 fy252 fy253 fy254 fy255 fy256 fy257 fy258 fy259 fy260 fy261 fy262 fy263 fy264 fy265 fy266 fy267 fy268 fy269 fy270 fy271 fy272 fy273 fy274 : Value) (wx : World), Ext w14 wx → K ⟨#[fy0, fy1, fy2, fy3, fy4, .string s, fy6, fy7, fy8, fy9, fy10, fy11, fy12, fy13, fy14, fy15, fy16, fy17, fy18, fy19, fy20, fy21, fy22, fy23, fy24, fy25, fy26, fy27, fy28, fy29, fy30, fy31, fy32, fy33, fy34, fy35, fy36, fy37, fy38, fy39, fy40, fy41, fy42, fy43, fy44, fy45, fy46, fy47, fy48, fy49, fy50, fy51, fy52, fy53, fy54, fy55, fy56, fy57, fy58, fy59, fy60, fy61, fy62, fy63, fy64, fy65, fy66, fy67, fy68, fy69, fy70, fy71, fy72, fy73, fy74, fy75, fy76, fy77, fy78, fy79, fy80, fy81, fy82, fy83, fy84, fy85, fy86, fy87, fy88, fy89, fy90, fy91, fy92, fy93, fy94, fy95, fy96, fy97, fy98, fy99, fy100, fy101, fy102, fy103, fy104, fy105, fy106, fy107, fy108, fy109, fy110, fy111, fy112, fy113, fy114, fy115, fy116, fy117, fy118, fy119, fy120, fy121, fy122, fy123, fy124, fy125, fy126, fy127, fy128, fy129, fy130, fy131, fy132, fy133, fy134, fy135, fy136, fy137, fy138, fy139, fy140, fy141, fy142, fy143, fy144, fy145, fy146, fy147, fy148, fy149, fy150, fy151, fy152, fy153, fy154, fy155, fy156, fy157, fy158, fy159, fy160, fy161, fy162, fy163, fy164, fy165, fy166, fy167, fy168, fy169, fy170, fy171, fy172, fy173, fy174, fy175, fy176, fy177, fy178, fy179, fy180, fy181, fy182, fy183, fy184, fy185, fy186, fy187, fy188, fy189, fy190, fy191, fy192, fy193, fy194, fy195, fy196, fy197, fy198, fy199, fy200, fy201, fy202, fy203, fy204, fy205, fy206, fy207, fy208, fy209, fy210, fy211, fy212, fy213, fy214, fy215, fy216, fy217, fy218, fy219, fy220, fy221, fy222, fy223, fy224, fy225, fy226, fy227, fy228, fy229, fy230, fy231, fy232, fy233, fy234, fy235, fy236, fy237, fy238, fy239, fy240, fy241, fy242, fy243, fy244, fy245, fy246, fy247, fy248, fy249, fy250, fy251, fy252, fy253, fy254, fy255, fy256, fy257, fy258, fy259, fy260, fy261, fy262, fy263, fy264, fy265, fy266, fy267, fy268, fy269, fy270, fy271, fy272, fy273, fy274], []⟩ wx
set_option maxRecDepth 100000 in
set_option maxHeartbeats 6400000 in
theorem backIfP (r : Recd) (a2 a3 : Option Addr) (p2 p3 : Nat) (ia ib : Int) (s : ByteArray) (rb : Nat) (w14 : World) (hr : Hid (ResV w14 (.slice a2 r.res.attrs.length p2) (.slice a3 r.res.after.length p3) r.res)) (RC14 : Hid (w14.heap[rb]? = some (.cells #[.int .i64 r.kind, .int .i64 r.epoch, .int .i64 r.number, .int .i64 r.op, .string r.res.id.kind, .string r.res.id.name, .slice a2 r.res.attrs.length p2, .slice a3 r.res.after.length p3] 33 (0, 0)))) (ha : Hid (-9223372036854775808 ≤ ia ∧ ia ≤ 9223372036854775807)) (hb : Hid (-9223372036854775808 ≤ ib ∧ ib ≤ 9223372036854775807)) (K : Act → World → Prop) (w : World)
    {fr0 fr1 fr2 fr7 fr8 fr9 fr10 fr11 fr12 fr13 fr14 fr15 fr16 fr17 fr18 fr19 fr20 fr21 fr22 fr23 fr24 fr25 fr26 fr27 fr28 fr29 fr30 fr31 fr32 fr34 fr35 fr36 fr37 fr38 fr39 fr40 fr41 fr42 fr43 fr44 fr45 fr46 fr47 fr48 fr49 fr50 fr51 fr52 fr53 fr54 fr55 fr56 fr57 fr58 fr59 fr60 fr61 fr62 fr63 fr64 fr65 fr66 fr67 fr68 fr69 fr70 fr71 fr72 fr73 fr74 fr75 fr76 fr77 fr78 fr79 fr80 fr81 fr82 fr83 fr84 fr85 fr86 fr87 fr88 fr89 fr90 fr91 fr92 fr93 fr94 fr95 fr96 fr97 fr98 fr99 fr100 fr101 fr102 fr103 fr104 fr105 fr106 fr107 fr108 fr109 fr110 fr111 fr112 fr113 fr114 fr115 fr116 fr117 fr118 fr119 fr120 fr121 fr122 fr123 fr124 fr125 fr126 fr127 fr128 fr129 fr130 fr131 fr132 fr133 fr134 fr135 fr136 fr137 fr138 fr139 fr140 fr141 fr142 fr143 fr144 fr145 fr146 fr148 fr149 fr150 fr151 fr152 fr153 fr154 fr155 fr156 fr157 fr158 fr159 fr160 fr161 fr162 fr163 fr164 fr165 fr166 fr167 fr168 fr169 fr170 fr171 fr172 fr173 fr174 fr175 fr176 fr177 fr178 fr179 fr180 fr181 fr182 fr183 fr184 fr185 fr186 fr187 fr188 fr189 fr190 fr191 fr192 fr193 fr194 fr195 fr196 fr197 fr198 fr199 fr200 fr201 fr202 fr203 fr204 fr205 fr206 fr207 fr208 fr209 fr210 fr211 fr212 fr213 fr214 fr215 fr216 fr217 fr218 fr219 fr220 fr221 fr222 fr223 fr224 fr225 fr226 fr227 fr228 fr229 fr230 fr231 fr232 fr233 fr234 fr235 fr236 fr237 fr238 fr239 fr240 fr241 fr242 fr243 fr244 fr245 fr246 fr247 fr248 fr249 fr250 fr251 fr252 fr253 fr254 fr255 fr256 fr257 fr258 fr259 fr260 fr261 fr262 fr263 fr264 fr265 fr266 fr267 fr268 fr269 fr270 fr271 fr272 fr273 fr274 : Value}
    (hQ : AftIf K w14 s) :
    Code.wp Tryz.prog backIf (Exit.then K (bodyPost Tryz.prog Tryz.f3 fun e w' => e = .returned (.bool true) ∧ Ext w w')) ⟨#[fr0, fr1, fr2, .int .i64 ia, .int .i64 ib, .string s, .pointer (some ⟨rb, 0, none⟩), fr7, fr8, fr9, fr10, fr11, fr12, fr13, fr14, fr15, fr16, fr17, fr18, fr19, fr20, fr21, fr22, fr23, fr24, fr25, fr26, fr27, fr28, fr29, fr30, fr31, fr32, .string (encS r), fr34, fr35, fr36, fr37, fr38, fr39, fr40, fr41, fr42, fr43, fr44, fr45, fr46, fr47, fr48, fr49, fr50, fr51, fr52, fr53, fr54, fr55, fr56, fr57, fr58, fr59, fr60, fr61, fr62, fr63, fr64, fr65, fr66, fr67, fr68, fr69, fr70, fr71, fr72, fr73, fr74, fr75, fr76, fr77, fr78, fr79, fr80, fr81, fr82, fr83, fr84, fr85, fr86, fr87, fr88, fr89, fr90, fr91, fr92, fr93, fr94, fr95, fr96, fr97, fr98, fr99, fr100, fr101, fr102, fr103, fr104, fr105, fr106, fr107, fr108, fr109, fr110, fr111, fr112, fr113, fr114, fr115, fr116, fr117, fr118, fr119, fr120, fr121, fr122, fr123, fr124, fr125, fr126, fr127, fr128, fr129, fr130, fr131, fr132, fr133, fr134, fr135, fr136, fr137, fr138, fr139, fr140, fr141, fr142, fr143, fr144, fr145, fr146, .bool (recB r), fr148, fr149, fr150, fr151, fr152, fr153, fr154, fr155, fr156, fr157, fr158, fr159, fr160, fr161, fr162, fr163, fr164, fr165, fr166, fr167, fr168, fr169, fr170, fr171, fr172, fr173, fr174, fr175, fr176, fr177, fr178, fr179, fr180, fr181, fr182, fr183, fr184, fr185, fr186, fr187, fr188, fr189, fr190, fr191, fr192, fr193, fr194, fr195, fr196, fr197, fr198, fr199, fr200, fr201, fr202, fr203, fr204, fr205, fr206, fr207, fr208, fr209, fr210, fr211, fr212, fr213, fr214, fr215, fr216, fr217, fr218, fr219, fr220, fr221, fr222, fr223, fr224, fr225, fr226, fr227, fr228, fr229, fr230, fr231, fr232, fr233, fr234, fr235, fr236, fr237, fr238, fr239, fr240, fr241, fr242, fr243, fr244, fr245, fr246, fr247, fr248, fr249, fr250, fr251, fr252, fr253, fr254, fr255, fr256, fr257, fr258, fr259, fr260, fr261, fr262, fr263, fr264, fr265, fr266, fr267, fr268, fr269, fr270, fr271, fr272, fr273, fr274], []⟩ w14 := by
  have eS : Hid (recB r = true → encS r = ⟨(recL r).toArray⟩) := fun h => by unfold encS; rw [if_pos h]
  have eL : Hid (recB r = true → (recL r).length ≤ 8011) := fun h => rec_few h
  have hcv := hide fun (w : World) (s : ByteArray) => Lib.run_convert_string_bytes (P := Tryz.prog) w 9 45 5 s Tryz.underlying9 Tryz.underlying45 Tryz.underlying5
  conv => arg 2; whnf
  cases hrb : recB r with
  | false =>
    go_wp2_with fail
    exact hQ _ _ _ _ _ _ _ _ _ _ _ _ _ _ _ _ _ _ _ _ _ _ _ _ _ _ _ _ _ _ _ _ _ _ _ _ _ _ _ _ _ _ _ _ _ _ _ _ _ _ _ _ _ _ _ _ _ _ _ _ _ _ _ _ _ _ _ _ _ _ _ _ _ _ _ _ _ _ _ _ _ _ _ _ _ _ _ _ _ _ _ _ _ _ _ _ _ _ _ _ _ _ _ _ _ _ _ _ _ _ _ _ _ _ _ _ _ _ _ _ _ _ _ _ _ _ _ _ _ _ _ _ _ _ _ _ _ _ _ _ _ _ _ _ _ _ _ _ _ _ _ _ _ _ _ _ _ _ _ _ _ _ _ _ _ _ _ _ _ _ _ _ _ _ _ _ _ _ _ _ _ _ _ _ _ _ _ _ _ _ _ _ _ _ _ _ _ _ _ _ _ _ _ _ _ _ _ _ _ _ _ _ _ _ _ _ _ _ _ _ _ _ _ _ _ _ _ _ _ _ _ _ _ _ _ _ _ _ _ _ _ _ _ _ _ _ _ _ _ _ _ _ _ _ _ _ _ _ _ _ _ _ _ _ _ _ _ _ _ _ _ _ _ _ w14 (Ext.refl _)
  | true =>
    have hu8 := eL.out hrb
    obtain ⟨U, hU⟩ : ∃ U : ByteArray, U = encS r := ⟨_, rfl⟩
    have lU : Hid (U.data.toList = recL r) := by show _ = _; rw [hU, eS.out hrb]
    have sU : U.size = (recL r).length := by rw [hU, eS.out hrb]; rfl
    have u0 : U.size ≤ 8011 := by rw [sU]; exact hu8
    have u1 : 7 ≤ U.size := by rw [sU]; exact rec_one
    replace hu8 := hide hu8; replace sU := hide sU
    replace hrb := hide hrb
    rw [← hU]
    replace hU := hide hU
    go_wp2_with fail
    refine (decode U w14 (Nat.le_trans u0 (by decide))).mono ?_
    rintro e15 w15 ⟨q, qa2, qa3, cap2, cap3, en, rfl, hde, hqk, hqo, X15⟩
    have h15 := hde.out
    rw [lU.out, rdRec_inv hrb.out, show decOf r (recL r) = (r, 0) by unfold decOf; rw [if_pos ⟨hrb.out, rfl⟩]] at h15
    simp only [Prod.mk.injEq] at h15
    obtain ⟨rfl, rfl⟩ := h15
    have rq15 := hide (hqo.out.resV hqk.out)
    replace hde := hide hde; replace hqk := hide hqk; replace hqo := hide hqo; replace X15 := hide X15.out
    have RC15 := hide (ext_heap X15.out RC14.out)
    have X015 := hide X15.out
    have E15 := (Ext.refl w15).alloc (.cells #[.int .i64 r.kind, .int .i64 r.epoch, .int .i64 r.number, .int .i64 r.op, .string r.res.id.kind, .string r.res.id.name, .slice qa2 r.res.attrs.length cap2, .slice qa3 r.res.after.length cap3] 33)
    obtain ⟨q0, q1, q2, q3, q4, q5, q6, q7⟩ := ecells (ext_heap E15 RC15.out)
    replace E15 := hide E15
    go_wp2_with fail
    refine (sameRecord r _ _ _ _ _ (rq15.out.ext E15.out) (hr.out.ext (X015.out.trans E15.out))).mono ?_
    rintro e16 w16 ⟨rfl, X16⟩
    replace X16 := hide X16
    clear q0 q1 q2 q3 q4 q5 q6 q7
    go_wp2_with fail
    refine (sum U w16 (Nat.le_trans u0 (by decide))).mono ?_
    rintro e17 w17 ⟨rfl, X17⟩
    replace X17 := hide X17
    obtain ⟨cS, hcS⟩ : ∃ cS : Int, cS = sumL U.data.toList := ⟨_, rfl⟩
    have hcb := sum_bd U.data.toList
    rw [← hcS] at hcb
    rw [← hcS]
    obtain ⟨hc0, hc1⟩ := hcb
    obtain ⟨x0, x1, x2, x3, x4, x5, hx, y0, y1, y2, y3, y4, y5⟩ := six_is (n := U.size) (c := cS) (Nat.lt_of_le_of_lt u0 (by decide)) hc0 hc1
    have hc6 := conv_six w17 x0 x1 x2 x3 x4 x5 _ _ _ _ _ _ y0 y1 y2 y3 y4 y5
    have E18 := (Ext.refl w17).alloc (.cells #[.int .u8 ((U.size : Int) / 256), .int .u8 ((U.size : Int) % 256), .int .u8 (cS / 16777216), .int .u8 (cS / 65536 % 256), .int .u8 (cS / 256 % 256), .int .u8 (cS % 256)] 5)
    obtain ⟨Hd, hHd⟩ : ∃ Hd : ByteArray, Hd = ⟨[x0, x1, x2, x3, x4, x5].toArray⟩ := ⟨_, rfl⟩
    rw [← hHd] at hc6
    have sH : Hd.size = 6 := by rw [hHd]; rfl
    obtain ⟨O, hO⟩ : ∃ O : ByteArray, O = Hd ++ U := ⟨_, rfl⟩
    have lO : Hid (O.data.toList = oneB (recL r)) := by
      show _ = _
      rw [hO, show (Hd ++ U).data.toList = Hd.data.toList ++ U.data.toList by simp, hHd, lU.out]
      unfold oneB
      have hx2 := hx
      rw [hcS, lU.out, sU.out] at hx2
      rw [← List.append_assoc, ← hx2]
    have sO : O.size = 6 + U.size := by rw [← ba_len, lO.out, oneB_len, sU.out]
    have o1 : (9223372036854775807 < Hd.size + U.size) = False := farL (by rw [sH]; exact Nat.le_trans (Nat.add_le_add_left u0 6) (by decide))
    replace hcS := hide hcS; replace hx := hide hx; replace hHd := hide hHd; replace E18 := hide E18
    clear y0 y1 y2 y3 y4 y5
    go_upto_region 22 with fail
    go_cut [37] (fun ov wx => ov = .string O ∧ Hid (Ext w17 wx))
    case first =>
      go_wp2_with fail
      go_meet
      exact ⟨by rw [hO], E18⟩
    case rest =>
      obtain ⟨rfl, X18⟩ := hcut
      obtain ⟨w18, rfl⟩ : ∃ w18 : World, w18 = wc := ⟨_, rfl⟩
      clear hc6 o1
      have o0 : O.size ≤ 8017 := by rw [sO]; exact Nat.add_le_add_left u0 6
      have o7 : 13 ≤ O.size := by rw [sO]; exact Nat.add_le_add_left u1 6
      have hc7 := hcv.out w18 O
      have BR := byteRow_new w18 O
      have X19 := Ext.bytes w18 5 O
      generalize Lib.bytesWorld w18 5 O = w19 at *
      generalize grownCap w18 O.size 0 5 = cd at *
      obtain ⟨M, hM⟩ : ∃ M : Nat, M = O.size - 2 := ⟨_, rfl⟩
      have o2 : IntKind.i64.wrap ((O.size : Int) - 2) = (M : Int) := wrapSub hM (Nat.le_trans (by decide) o7) (Nat.le_trans o0 (by decide))
      obtain ⟨hM0, hM1⟩ := sub2 hM o7 o0
      replace hO := hide hO; replace BR := hide BR; replace X19 := hide X19; replace sO := hide sO; replace hM := hide hM
      go_wp2_with fail
      refine (pickL ia M _ ha.out hM0 hM1).mono ?_
      rintro e20 w19 ⟨y, rfl, hy, rfl⟩
      obtain ⟨j, hj⟩ : ∃ j : Nat, j = 2 + y := ⟨_, rfl⟩
      obtain ⟨hj2, hjO, hyO⟩ := sub2lt hM.out hy hj
      have o3 : IntKind.i64.wrap (2 + (y : Int)) = (j : Int) := wrapAdd2 hj (Nat.le_trans hyO (Nat.le_trans o0 (by decide)))
      obtain ⟨cc, hcc⟩ := some_of_lt (l := O.data.toList) (k := j) (by rw [ba_len]; exact hjO)
      have p7 := BR.out.cell j cc hcc
      have g7 := BR.out.free j (by rw [ba_len]; exact hjO)
      have m2 : (j : Int) < (O.size : Int) := intLt hjO
      have m4 : (0 : Int) ≤ (j : Int) := intNn j
      replace hj := hide hj; replace hcc := hide hcc
      clear hc7
      go_upto_region 25 with fail
      go_cut [] (fun wx => Hid (∃ d : UInt8, d ≠ cc ∧ ByteRow wx w18.heap.size (O.data.toList.set j d)) ∧ Hid (Ext w18 wx))
      case first =>
        go_region_with (go_at_call 6; refine (pickL ib 255 _ hb.out (by decide) (by decide)).mono ?_; rintro e9 _ ⟨y9, rfl, hy9, rfl⟩; go_must (have g1 : IntKind.i64.wrap (1 + (y9 : Int)) = 1 + (y9 : Int) := wrapOne hy9; have g2 : IntKind.u8.wrap (1 + (y9 : Int)) = 1 + (y9 : Int) := wrapOne8 hy9; obtain ⟨dd, hdd, g3⟩ := turnOne (c := cc) hy9))
        all_goals
          have B9 : ByteRow ((w19.drew).setCell ⟨w18.heap.size, j, none⟩ (.int .u8 (dd.toNat : Int))) w18.heap.size (O.data.toList.set j dd) := (BR.out.ext (Ext.refl w19).drew (World.block_lt_of_cell? _ _ p7)).set hcc.out
          have E9 : Ext w18 ((w19.drew).setCell ⟨w18.heap.size, j, none⟩ (.int .u8 (dd.toNat : Int))) := (X19.out.drew).setCell (Nat.le_refl _) _
          replace B9 := hide B9; replace E9 := hide E9
          go_wp2_with fail
          go_meet
          exact ⟨⟨dd, hdd, B9.out⟩, E9⟩
      case rest =>
        obtain ⟨⟨dd, hdd, B9⟩, X20⟩ := hcut
        obtain ⟨w20, rfl⟩ : ∃ w20 : World, w20 = wc := ⟨_, rfl⟩
        have hv9 := B9.conv (n := O.size) (cap := cd) (by rw [List.length_set]; exact ba_len O)
        obtain ⟨Dd, hDd⟩ : ∃ Dd : ByteArray, Dd = ⟨(O.data.toList.set j dd).toArray⟩ := ⟨_, rfl⟩
        rw [← hDd] at hv9
        have lD : Hid (Dd.data.toList = (oneB (recL r)).set j dd) := by show _ = _; rw [hDd, ← lO.out]
        have sD : Dd.size = O.size := by rw [← ba_len, lD.out, List.length_set, ← lO.out, ba_len]
        replace hDd := hide hDd; replace B9 := hide B9
        clear p7 g7
        have n1 : (9223372036854775807 < O.size + O.size) = False := farL (Nat.le_trans (Nat.add_le_add o0 o0) (by decide))
        have n2 : (9223372036854775807 < O.size + O.size + Dd.size) = False := farL (by rw [sD]; exact Nat.le_trans (Nat.add_le_add (Nat.add_le_add o0 o0) o0) (by decide))
        have n3 : (9223372036854775807 < O.size + O.size + Dd.size + O.size) = False := farL (by rw [sD]; exact Nat.le_trans (Nat.add_le_add (Nat.add_le_add (Nat.add_le_add o0 o0) o0) o0) (by decide))
        replace sD := hide sD
        obtain ⟨S1, hS1⟩ : ∃ S1 : ByteArray, S1 = O ++ O ++ Dd ++ O := ⟨_, rfl⟩
        have lS1 : Hid (S1.data.toList = oneB (recL r) ++ (oneB (recL r) ++ ((oneB (recL r)).set j dd ++ oneB (recL r)))) := by
          show _ = _
          rw [hS1, show (O ++ O ++ Dd ++ O).data.toList = O.data.toList ++ O.data.toList ++ Dd.data.toList ++ O.data.toList by simp, lO.out, lD.out]
          simp only [List.append_assoc]
        have sS1 : S1.size ≤ 1048576 := by rw [hS1, show (O ++ O ++ Dd ++ O).size = O.size + O.size + Dd.size + O.size by simp, sD.out]; exact Nat.le_trans (Nat.add_le_add (Nat.add_le_add (Nat.add_le_add o0 o0) o0) o0) (by decide)
        go_wp2_with fail
        rw [← hS1]
        replace hS1 := hide hS1
        refine (scan S1 w20 sS1).mono ?_
        rintro e21 w21 ⟨ps1, pb1, cb1, k1, rfl, hsc, hp1, hrs1, X21⟩
        have h21 := hsc.out
        rw [lS1.out, scan_two hrb.out (Nat.lt_of_le_of_lt hu8.out (by decide)) hj2 (by rw [← lO.out]; exact hcc.out) hdd] at h21
        simp only [Prod.mk.injEq] at h21
        obtain ⟨h22, rfl⟩ := h21
        obtain ⟨pp1, pp2, rfl⟩ : ∃ a b, ps1 = [a, b] := by
          have h23 := congrArg List.length h22
          rw [List.length_map] at h23
          match ps1, h23 with
          | [a, b], _ => exact ⟨a, b, rfl⟩
        have lenO : Hid ((oneB (recL r)).length = O.size) := by show _ = _; rw [← lO.out, ba_len]
        rw [lenO.out]
        replace hsc := hide hsc; replace h22 := hide h22; replace hrs1 := hide hrs1; replace X21 := hide X21.out
        clear hv9 n1 n2 n3
        obtain ⟨O1, hO1⟩ : ∃ O1 : ByteArray, O1 = O.extract 0 (O.size - 1) := ⟨_, rfl⟩
        have lO1 : Hid (O1.data.toList = (oneB (recL r)).take ((oneB (recL r)).length - 1)) := by
          show _ = _
          rw [hO1, ByteArray.data_extract, Array.toList_extract, lO.out, lenO.out]; simp [List.extract_eq_take_drop]
        have sO1 : Hid (O1.size ≤ O.size) := by show _ ≤ _; rw [← ba_len, lO1.out, ← lenO.out]; exact List.length_take_le' _ _
        obtain ⟨S2, hS2⟩ : ∃ S2 : ByteArray, S2 = O ++ O1 := ⟨_, rfl⟩
        have lS2 : Hid (S2.data.toList = oneB (recL r) ++ (oneB (recL r)).take ((oneB (recL r)).length - 1)) := by
          show _ = _
          rw [hS2, show (O ++ O1).data.toList = O.data.toList ++ O1.data.toList by simp, lO.out, lO1.out]
        have sS2 : S2.size ≤ 1048576 := by rw [hS2, show (O ++ O1).size = O.size + O1.size by simp]; exact Nat.le_trans (Nat.add_le_add o0 (Nat.le_trans sO1.out o0)) (by decide)
        have n4 : IntKind.i64.wrap ((O.size : Int) - 1) = (O.size : Int) - 1 := wrapSub1 (Nat.le_trans o0 (by decide))
        have n5 : (0 : Int) ≤ (O.size : Int) - 1 := predNn (Nat.le_trans (by decide) o7)
        have n6 : (O.size : Int) - 1 ≤ (O.size : Int) := predLe _
        have n7 : (9223372036854775807 < O.size + (O.extract 0 (O.size - 1)).size) = False := farL (by rw [← hO1]; exact Nat.le_trans (Nat.add_le_add o0 (Nat.le_trans sO1.out o0)) (by decide))
        have n8 : (9223372036854775807 < O.size + (O.size - 1)) = False := farL (Nat.le_trans (Nat.add_le_add o0 (Nat.le_trans (Nat.sub_le _ _) o0)) (by decide))
        have n9 : IntKind.i64.wrap (2 * (O.size : Int)) = 2 * (O.size : Int) := wrapTwo (Nat.le_trans o0 (by decide))
        go_wp2_with fail
        rw [← hO1, ← hS2]
        replace hS2 := hide hS2; replace hO1 := hide hO1
        refine (scan S2 w21 sS2).mono ?_
        rintro e22 w22 ⟨ps2, pb2, cb2, k2, rfl, hsc2, hp2, hrs2, X22⟩
        have h24 := hsc2.out
        rw [lS2.out, scan_cut hrb.out (Nat.lt_of_le_of_lt hu8.out (by decide)) (Nat.le_trans (by decide) rec_one)] at h24
        simp only [Prod.mk.injEq] at h24
        obtain ⟨h25, rfl⟩ := h24
        obtain ⟨pp3, rfl⟩ : ∃ a, ps2 = [a] := by
          have h26 := congrArg List.length h25
          rw [List.length_map] at h26
          match ps2, h26 with
          | [a], _ => exact ⟨a, rfl⟩
        rw [lenO.out]
        replace hsc2 := hide hsc2; replace h25 := hide h25; replace hrs2 := hide hrs2; replace X22 := hide X22.out
        clear n4 n5 n6 n7 n8
        go_wp2_with fail
        exact hQ _ _ _ _ _ _ _ _ _ _ _ _ _ _ _ _ _ _ _ _ _ _ _ _ _ _ _ _ _ _ _ _ _ _ _ _ _ _ _ _ _ _ _ _ _ _ _ _ _ _ _ _ _ _ _ _ _ _ _ _ _ _ _ _ _ _ _ _ _ _ _ _ _ _ _ _ _ _ _ _ _ _ _ _ _ _ _ _ _ _ _ _ _ _ _ _ _ _ _ _ _ _ _ _ _ _ _ _ _ _ _ _ _ _ _ _ _ _ _ _ _ _ _ _ _ _ _ _ _ _ _ _ _ _ _ _ _ _ _ _ _ _ _ _ _ _ _ _ _ _ _ _ _ _ _ _ _ _ _ _ _ _ _ _ _ _ _ _ _ _ _ _ _ _ _ _ _ _ _ _ _ _ _ _ _ _ _ _ _ _ _ _ _ _ _ _ _ _ _ _ _ _ _ _ _ _ _ _ _ _ _ _ _ _ _ _ _ _ _ _ _ _ _ _ _ _ _ _ _ _ _ _ _ _ _ _ _ _ _ _ _ _ _ _ _ _ _ _ _ _ _ _ _ _ _ _ _ _ _ _ _ _ _ _ _ _ _ _ _ _ _ _ _ _ w22 ((((((X15.out.trans E15.out).trans X16.out).trans X17.out).trans X18.out).trans X20.out).trans (X21.out.trans X22.out))
end Go.Proofs.YtfmcgdglalljgaaGreatDoor
