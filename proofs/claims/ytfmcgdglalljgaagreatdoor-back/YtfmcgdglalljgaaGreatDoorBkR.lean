/-
  The law Back: what stands behind its if.
-/
import Derived.Test.YtfmcgdglalljgaaGreatDoorLawBa
namespace Go.Proofs.YtfmcgdglalljgaaGreatDoor
open Go.RowKit

attribute [local go_sem] Go.World.cell?_alloc_some
set_option maxRecDepth 100000 in
set_option maxHeartbeats 6400000 in
theorem backRestP (s : ByteArray) (hs : s.size ≤ 9223372036854775807) (w wx : World) (hx : Ext w wx)
    {fy0 fy1 fy2 fy3 fy4 fy6 fy7 fy8 fy9 fy10 fy11 fy12 fy13 fy14 fy15 fy16 fy17 fy18 fy19 fy20 fy21 fy22 fy23 fy24 fy25 fy26 fy27 fy28 fy29 fy30 fy31 fy32 fy33 fy34 fy35 fy36 fy37 fy38 fy39 fy40 fy41 fy42 fy43 fy44 fy45 fy46 fy47 fy48 fy49 fy50 fy51 fy52 fy53 fy54 fy55 fy56 fy57 fy58 fy59 fy60 fy61 fy62 fy63 fy64 fy65 fy66 fy67 fy68 fy69 fy70 fy71 fy72 fy73 fy74 fy75 fy76 fy77 fy78 fy79 fy80 fy81 fy82 fy83 fy84 fy85 fy86 fy87 fy88 fy89 fy90 fy91 fy92 fy93 fy94 fy95 fy96 fy97 fy98 fy99 fy100 fy101 fy102 fy103 fy104 fy105 fy106 fy107 fy108 fy109 fy110 fy111 fy112 fy113 fy114 fy115 fy116 fy117 fy118 fy119 fy120 fy121 fy122 fy123 fy124 fy125 fy126 fy127 fy128 fy129 fy130 fy131 fy132 fy133 fy134 fy135 fy136 fy137 fy138 fy139 fy140 fy141 fy142 fy143 fy144 fy145 fy146 fy147 fy148 fy149 fy150 fy151 fy152 fy153 fy154 fy155 fy156 fy157 fy158 fy159 fy160 fy161 fy162 fy163 fy164 fy165 fy166 fy167 fy168 fy169 fy170 fy171 fy172 fy173 fy174 fy175 fy176 fy177 fy178 fy179 fy180 fy181 fy182 fy183 fy184 fy185 fy186 fy187 fy188 fy189 fy190 fy191 fy192 fy193 fy194 fy195 fy196 fy197 fy198 fy199 fy200 fy201 fy202 fy203 fy204 fy205 fy206 fy207 fy208 fy209 fy210 fy211 fy212 fy213 fy214 fy215 fy216 fy217 fy218 fy219 fy220 fy221 fy222 fy223 fy224 fy225 fy226 fy227 fy228 fy229 fy230 fy231 fy232 fy233 fy234 fy235 fy236 fy237 fy238 fy239 fy240 fy241 fy242 fy243 fy244 fy245 fy246 fy247 fy248 fy249 fy250 fy251 fy252 fy253 fy254 fy255 fy256 fy257 fy258 fy259 fy260 fy261 fy262 fy263 fy264 fy265 fy266 fy267 fy268 fy269 fy270 fy271 fy272 fy273 fy274 : Value} :
    Code.wp Tryz.prog backRest (bodyPost Tryz.prog Tryz.f3 fun e w' => e = .returned (.bool true) ∧ Ext w w') ⟨#[fy0, fy1, fy2, fy3, fy4, .string s, fy6, fy7, fy8, fy9, fy10, fy11, fy12, fy13, fy14, fy15, fy16, fy17, fy18, fy19, fy20, fy21, fy22, fy23, fy24, fy25, fy26, fy27, fy28, fy29, fy30, fy31, fy32, fy33, fy34, fy35, fy36, fy37, fy38, fy39, fy40, fy41, fy42, fy43, fy44, fy45, fy46, fy47, fy48, fy49, fy50, fy51, fy52, fy53, fy54, fy55, fy56, fy57, fy58, fy59, fy60, fy61, fy62, fy63, fy64, fy65, fy66, fy67, fy68, fy69, fy70, fy71, fy72, fy73, fy74, fy75, fy76, fy77, fy78, fy79, fy80, fy81, fy82, fy83, fy84, fy85, fy86, fy87, fy88, fy89, fy90, fy91, fy92, fy93, fy94, fy95, fy96, fy97, fy98, fy99, fy100, fy101, fy102, fy103, fy104, fy105, fy106, fy107, fy108, fy109, fy110, fy111, fy112, fy113, fy114, fy115, fy116, fy117, fy118, fy119, fy120, fy121, fy122, fy123, fy124, fy125, fy126, fy127, fy128, fy129, fy130, fy131, fy132, fy133, fy134, fy135, fy136, fy137, fy138, fy139, fy140, fy141, fy142, fy143, fy144, fy145, fy146, fy147, fy148, fy149, fy150, fy151, fy152, fy153, fy154, fy155, fy156, fy157, fy158, fy159, fy160, fy161, fy162, fy163, fy164, fy165, fy166, fy167, fy168, fy169, fy170, fy171, fy172, fy173, fy174, fy175, fy176, fy177, fy178, fy179, fy180, fy181, fy182, fy183, fy184, fy185, fy186, fy187, fy188, fy189, fy190, fy191, fy192, fy193, fy194, fy195, fy196, fy197, fy198, fy199, fy200, fy201, fy202, fy203, fy204, fy205, fy206, fy207, fy208, fy209, fy210, fy211, fy212, fy213, fy214, fy215, fy216, fy217, fy218, fy219, fy220, fy221, fy222, fy223, fy224, fy225, fy226, fy227, fy228, fy229, fy230, fy231, fy232, fy233, fy234, fy235, fy236, fy237, fy238, fy239, fy240, fy241, fy242, fy243, fy244, fy245, fy246, fy247, fy248, fy249, fy250, fy251, fy252, fy253, fy254, fy255, fy256, fy257, fy258, fy259, fy260, fy261, fy262, fy263, fy264, fy265, fy266, fy267, fy268, fy269, fy270, fy271, fy272, fy273, fy274], []⟩ wx := by
  conv => arg 2; whnf
  replace hx := hide hx
  go_wp2_with fail
  refine (decode s wx hs).mono ?_
  rintro e1 w1 ⟨q, qa2, qa3, cap2, cap3, en, rfl, hde, hqk, hqo, X1⟩
  have hd := dec_ways hde.out
  have rq := hide (hqo.out.resV hqk.out)
  have E1 := (Ext.refl w1).alloc (.cells #[.int .i64 q.kind, .int .i64 q.epoch, .int .i64 q.number, .int .i64 q.op, .string q.res.id.kind, .string q.res.id.name, .slice qa2 q.res.attrs.length cap2, .slice qa3 q.res.after.length cap3] 33)
  replace hde := hide hde; replace hqk := hide hqk; replace hqo := hide hqo; replace X1 := hide X1.out
  replace E1 := hide E1
  rcases hd with ⟨rfl, hb, hl⟩ | rfl
  · have e1 : encS q = s := by unfold encS; rw [if_pos hb, hl]
    have e2 : encE q = 0 := by unfold encE; rw [if_pos hb]
    replace hb := hide hb; replace hl := hide hl; replace e1 := hide e1; replace e2 := hide e2
    go_wp2_with fail
    refine (encode q _ _ _ (rq.out.ext E1.out)).mono ?_
    rintro e3 w3 ⟨rfl, X3⟩
    rw [e1.out, e2.out]
    replace X3 := hide X3
    go_wp2_with fail
    go_ret
    exact ⟨by simp, ((hx.out.trans X1.out).trans E1.out).trans X3.out⟩
  · go_wp2_with fail
    go_ret
    exact ⟨rfl, (hx.out.trans X1.out).trans E1.out⟩
end Go.Proofs.YtfmcgdglalljgaaGreatDoor
