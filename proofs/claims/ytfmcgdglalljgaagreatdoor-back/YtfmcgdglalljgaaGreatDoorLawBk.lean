/-
  The law Back: it answers true.
-/
import Derived.Test.YtfmcgdglalljgaaGreatDoorBkIf
import Derived.Test.YtfmcgdglalljgaaGreatDoorBkR
namespace Go.Proofs.YtfmcgdglalljgaaGreatDoor
open Go.RowKit

attribute [local go_sem] Go.World.cell?_alloc_some
set_option maxRecDepth 100000 in
set_option maxHeartbeats 6400000 in
theorem backLaw (r : Recd) (c2 c3 v : Value) (rl : List Int) (ep ia ib : Int) (s : ByteArray) (w : World) (hr : ResV w c2 c3 r.res) (hv : IntsV w v rl) (he : -9223372036854775808 ≤ ep ∧ ep ≤ 9223372036854775807) (ha : -9223372036854775808 ≤ ia ∧ ia ≤ 9223372036854775807) (hb : -9223372036854775808 ≤ ib ∧ ib ≤ 9223372036854775807) (hs : s.size ≤ 9223372036854775807) (ht : TabP w) :
    Calls Tryz.prog 3 #[.agg #[.int .i64 r.kind, .int .i64 r.epoch, .int .i64 r.number, .int .i64 r.op, .string r.res.id.kind, .string r.res.id.name, c2, c3], v, .int .i64 ep, .int .i64 ia, .int .i64 ib, .string s] w fun e w' => e = .returned (.bool true) ∧ Ext w w' := by
  obtain ⟨a2, p2, rfl⟩ := hr.attrs.form
  obtain ⟨a3, p3, rfl⟩ := hr.after.form
  obtain ⟨vpa, vcap, rfl, -⟩ := hv.shape
  have RC := heap_alloc_new w (.cells #[.int .i64 r.kind, .int .i64 r.epoch, .int .i64 r.number, .int .i64 r.op, .string r.res.id.kind, .string r.res.id.name, .slice a2 r.res.attrs.length p2, .slice a3 r.res.after.length p3] 33)
  have X0 := (Ext.refl w).alloc (.cells #[.int .i64 r.kind, .int .i64 r.epoch, .int .i64 r.number, .int .i64 r.op, .string r.res.id.kind, .string r.res.id.name, .slice a2 r.res.attrs.length p2, .slice a3 r.res.after.length p3] 33)
  replace hr := hide hr; replace hv := hide hv; replace ht := hide ht; replace he := hide he; replace ha := hide ha; replace hb := hide hb
  go_enter Tryz.func3, Tryz.ntmps3
  have hcv := hide fun (w : World) (s : ByteArray) => Lib.run_convert_string_bytes (P := Tryz.prog) w 9 45 5 s Tryz.underlying9 Tryz.underlying45 Tryz.underlying5
  go_wp2_with fail
  generalize w.alloc (.cells #[.int .i64 r.kind, .int .i64 r.epoch, .int .i64 r.number, .int .i64 r.op, .string r.res.id.kind, .string r.res.id.name, .slice a2 r.res.attrs.length p2, .slice a3 r.res.after.length p3] 33) = w0 at *
  replace RC := hide RC; replace X0 := hide X0
  refine (readsP w0 (ht.out.ext X0.out)).mono ?_
  rintro e1 w1 ⟨rfl, X1⟩
  replace X1 := hide X1
  go_wp2_with fail
  refine (tamedL _ rl w1 (hv.out.ext (X0.out.trans X1.out))).mono ?_
  rintro e2 w2 ⟨qa, pa, ca, rfl, ra, ja, fa, na, X2⟩
  replace ra := hide ra.out; replace ja := hide ja.out; replace fa := hide fa.out; replace X2 := hide X2.out
  have va := hide (ressV_own ra.out (by omega) ja.out)
  obtain ⟨l, hl⟩ : ∃ l, l = qa.map ResC.x := ⟨_, rfl⟩
  rw [← hl] at fa va
  replace hl := hide hl
  go_wp2_with fail
  refine (pickL ep 1000000 _ he.out (by omega) (by omega)).mono ?_
  rintro e3 w2 ⟨z, rfl, hz, rfl⟩
  have d1 : IntKind.i64.wrap (1 + (z : Int)) = 1 + (z : Int) := by rw [IntKind.wrap_i64]; omega
  have hok := hide (st_ok hz fa.out)
  go_wp2_with fail
  refine (stateP (1 + (z : Int)) _ l w2 va.out).mono ?_
  rintro e4 w4 ⟨rfl, X4⟩
  replace X4 := hide X4
  have hS : stS (1 + (z : Int)) l = ⟨(stateL (1 + (z : Int)) l).toArray⟩ := by unfold stS; rw [if_pos hok.out]
  have hE : stE (1 + (z : Int)) l = 0 := by unfold stE; rw [if_pos hok.out]
  rw [hS, hE]
  obtain ⟨T, hT⟩ : ∃ T : ByteArray, T = ⟨(stateL (1 + (z : Int)) l).toArray⟩ := ⟨_, rfl⟩
  rw [← hT]
  have hTl : Hid (T.data.toList = stateL (1 + (z : Int)) l) := by show _ = _; rw [hT]
  have hTs : T.size = (stateL (1 + (z : Int)) l).length := by rw [hT]; rfl
  have hTz := stateL_size hok.out
  have t0 : 12 ≤ T.size := by omega
  have t1 : T.size ≤ 97004 := by omega
  clear hS hE
  replace hT := hide hT; replace hTs := hide hTs; replace hTz := hide hTz
  go_wp2_with fail
  refine (loadP T w4 (by omega)).mono ?_
  rintro e5 w5 ⟨ps, pk, ck, n', en, rfl, hld, hps, -, hat, X5⟩
  have h5 := hld.out
  rw [hTl.out, ld_back hok.out] at h5
  simp only [Prod.mk.injEq] at h5
  obtain ⟨rfl, h6, rfl⟩ := h5
  have vk := hide (hat.out.ressV (by omega))
  rw [← h6] at vk
  replace h6 := hide h6; replace hld := hide hld; replace hat := hide hat; replace X5 := hide X5.out
  go_wp2_with fail
  refine (sameRess _ _ l w5 vk.out (va.out.ext (X4.out.trans X5.out))).mono ?_
  rintro e6 w6 ⟨rfl, X6⟩
  replace X6 := hide X6
  have hc7 := hcv.out w6 T
  have BR := byteRow_new w6 T
  have X7 := Ext.bytes w6 5 T
  generalize Lib.bytesWorld w6 5 T = w7 at *
  generalize grownCap w6 T.size 0 5 = cb at *
  replace BR := hide BR; replace X7 := hide X7
  go_wp2_with fail
  refine (pickL ia T.size _ ha.out (by omega) (by omega)).mono ?_
  rintro e8 w7 ⟨i, rfl, hi, rfl⟩
  have hTlen : T.data.toList.length = T.size := Array.length_toList
  obtain ⟨c, hc⟩ := some_of_lt (l := T.data.toList) (k := i) (by omega)
  have q7 := BR.out.cell i c hc
  have f7 := BR.out.free i (by omega)
  have k2 : (i : Int) < (T.size : Int) := by omega
  have k4 : (0 : Int) ≤ (i : Int) := by omega
  replace hTlen := hide hTlen; replace hc := hide hc
  go_upto_region 11 with fail
  go_cut [] (fun wx => Hid (∃ d : UInt8, d ≠ c ∧ ByteRow wx w6.heap.size (T.data.toList.set i d)) ∧ Hid (Ext w6 wx))
  case first =>
    go_region_with (go_at_call 6; refine (pickL ib 255 _ hb.out (by omega) (by omega)).mono ?_; rintro e9 _ ⟨y, rfl, hy, rfl⟩; go_must (have g1 : IntKind.i64.wrap (1 + (y : Int)) = 1 + (y : Int) := (by rw [IntKind.wrap_i64]; omega); have g2 : IntKind.u8.wrap (1 + (y : Int)) = 1 + (y : Int) := (by rw [IntKind.wrap_u8]; omega); obtain ⟨d, hd, hx⟩ := byte_turn (c := c) (k := 1 + y) (by omega) (by omega); have g3 : bits .xor .u8 (c.toNat : Int) (1 + (y : Int)) = (d.toNat : Int) := (by rw [← hx]; simp); replace hx := hide hx))
    all_goals
      have B8 : ByteRow ((w7.drew).setCell ⟨w6.heap.size, i, none⟩ (.int .u8 (d.toNat : Int))) w6.heap.size (T.data.toList.set i d) := (BR.out.ext (Ext.refl w7).drew (World.block_lt_of_cell? _ _ q7)).set hc.out
      have E8 : Ext w6 ((w7.drew).setCell ⟨w6.heap.size, i, none⟩ (.int .u8 (d.toNat : Int))) := (X7.out.drew).setCell (Nat.le_refl _) _
      replace B8 := hide B8; replace E8 := hide E8
      go_wp2_with fail
      go_meet
      exact ⟨⟨d, hd, B8.out⟩, E8⟩
  case rest =>
    obtain ⟨⟨d, hd, B8⟩, X8⟩ := hcut
    obtain ⟨w8, rfl⟩ : ∃ w8 : World, w8 = wc := ⟨_, rfl⟩
    have hv8 := B8.conv (n := T.size) (cap := cb) (by rw [List.length_set]; exact hTlen.out)
    obtain ⟨T1, hT1⟩ : ∃ T1 : ByteArray, T1 = ⟨(T.data.toList.set i d).toArray⟩ := ⟨_, rfl⟩
    rw [← hT1] at hv8
    have l1 : Hid (T1.data.toList = (stateL (1 + (z : Int)) l).set i d) := by show _ = _; rw [hT1, ← hTl.out]
    have s1 : T1.size ≤ 97004 := by
      rw [hT1]; show (T.data.toList.set i d).length ≤ _; rw [List.length_set, hTlen.out]; exact t1
    have bad1 : Hid (ldOf (rdEp T1.data.toList) (rdSt T1.data.toList) T1.data.toList = (0, [], 16)) := by
      show _ = _
      have hc' := hc.out
      rw [hTl.out] at hc'
      rw [l1.out]; exact ld_turn hc' hd
    replace hT1 := hide hT1; replace B8 := hide B8
    clear q7 f7 hc7
    go_wp2_with fail
    refine (loadP T1 w8 (by omega)).mono ?_
    intro e10 w10 h10
    obtain ⟨rfl, X10⟩ := h10.bad bad1.out
    replace h10 := hide h10; replace X10 := hide X10.out
    clear hv8
    have d3 : IntKind.i64.wrap ((T.size : Int) - 1) = (T.size : Int) - 1 := by rw [IntKind.wrap_i64]; omega
    have d4 : (0 : Int) ≤ (T.size : Int) - 1 := by omega
    have d5 : (T.size : Int) - 1 ≤ (T.size : Int) := by omega
    obtain ⟨T2, hT2⟩ : ∃ T2 : ByteArray, T2 = T.extract 0 (T.size - 1) := ⟨_, rfl⟩
    have l2 : Hid (T2.data.toList = (stateL (1 + (z : Int)) l).take ((stateL (1 + (z : Int)) l).length - 1)) := by
      show _ = _
      rw [hT2, ByteArray.data_extract, Array.toList_extract, hTl.out, hTs.out]; simp [List.extract_eq_take_drop]
    have s2 : T2.size ≤ 97004 := by
      rw [← ba_len, l2.out, List.length_take]; have := hTz.out; omega
    have bad2 : Hid (ldOf (rdEp T2.data.toList) (rdSt T2.data.toList) T2.data.toList = (0, [], 16)) := by
      show _ = _
      rw [l2.out]; exact ld_cut hok.out
    obtain ⟨T3, hT3⟩ : ∃ T3 : ByteArray, T3 = T ++ ⟨#[120]⟩ := ⟨_, rfl⟩
    have l3 : Hid (T3.data.toList = stateL (1 + (z : Int)) l ++ [120]) := by
      show _ = _
      rw [hT3, ByteArray.data_append, Array.toList_append, hTl.out]
    have s3 : T3.size ≤ 97005 := by
      rw [← ba_len, l3.out, List.length_append]; have := hTz.out; simp; omega
    have bad3 : Hid (ldOf (rdEp T3.data.toList) (rdSt T3.data.toList) T3.data.toList = (0, [], 16)) := by
      show _ = _
      rw [l3.out]; exact ld_more hok.out
    have d6 : (9223372036854775807 < T.size + 1) = False := by simp; omega
    have d7 : (9223372036854775807 < T.size + (⟨#[120]⟩ : ByteArray).size) = False := by rw [show (⟨#[120]⟩ : ByteArray).size = 1 from rfl]; exact d6
    go_wp2_with fail
    rw [← hT2]
    replace hT2 := hide hT2
    refine (loadP T2 w10 (by omega)).mono ?_
    intro e11 w11 h11
    obtain ⟨rfl, X11⟩ := h11.bad bad2.out
    replace h11 := hide h11; replace X11 := hide X11.out
    go_wp2_with fail
    rw [← hT3]
    replace hT3 := hide hT3
    refine (loadP T3 w11 (by omega)).mono ?_
    intro e12 w12 h12
    obtain ⟨rfl, X12⟩ := h12.bad bad3.out
    replace h12 := hide h12; replace X12 := hide X12.out
    have X012 := hide ((((((((X1.out.trans X2.out).trans X4.out).trans X5.out).trans X6.out).trans X8.out).trans X10.out).trans X11.out).trans X12.out)
    have RC12 := ext_heap X012.out RC.out
    obtain ⟨q0, q1, q2, q3, q4, q5, q6, q7⟩ := ecells RC12
    replace RC12 := hide RC12
    clear d3 d4 d5 d6 d7
    go_wp2_with fail
    refine (encode r _ _ w12 (hr.out.ext (X0.out.trans X012.out))).mono ?_
    rintro e13 w13 ⟨rfl, X13⟩
    have X013 := hide (X012.out.trans X13)
    have RC13 := hide (ext_heap X13 RC12.out)
    replace X13 := hide X13
    clear q0 q1 q2 q3 q4 q5 q6 q7
    have eS : Hid (recB r = true → encS r = ⟨(recL r).toArray⟩) := fun h => by unfold encS; rw [if_pos h]
    have eT : Hid (recB r = true → encE r = 0) := fun h => by unfold encE; rw [if_pos h]
    have eF : Hid (recB r = false → encE r = 11) := fun h => by unfold encE; rw [if_neg (by rw [h]; decide)]
    have eL : Hid (recB r = true → (recL r).length ≤ 8011) := fun h => rec_few h
    go_upto_region 18 with fail
    go_cut [147] (fun bv wx => bv = .bool (recB r) ∧ Hid (Ext w13 wx))
    case first =>
      cases hrb : recB r with
      | true =>
        have hE0 : (encE r == 0) = true := by rw [eT.out hrb]; rfl
        have hlt : decide (((encS r).size : Int) < 65536) = true := by
          have h := eL.out hrb
          rw [eS.out hrb, show (⟨(recL r).toArray⟩ : ByteArray).size = (recL r).length from rfl]
          simp; omega
        replace hrb := hide hrb
        go_wp2_with fail
        go_meet
        exact ⟨by rw [hrb.out], Ext.refl _⟩
      | false =>
        have hE0 : (encE r == 0) = false := by rw [eF.out hrb]; rfl
        replace hrb := hide hrb
        go_wp2_with fail
        go_meet
        exact ⟨by rw [hrb.out], Ext.refl _⟩
    case rest =>
      obtain ⟨rfl, E14⟩ := hcut
      obtain ⟨w14, rfl⟩ : ∃ w14 : World, w14 = wc := ⟨_, rfl⟩
      have RC14 := hide (ext_heap E14.out RC13.out)
      have X014 := hide (X013.out.trans E14.out)
      go_upto_if 147 with fail
      rename_i K hK

      refine backIfP r a2 a3 p2 p3 ia ib s w.heap.size w14 (hr.out.ext (X0.out.trans X014.out)) RC14 ha hb K w ?_
      intro y0 y1 y2 y3 y4 y6 y7 y8 y9 y10 y11 y12 y13 y14 y15 y16 y17 y18 y19 y20 y21 y22 y23 y24 y25 y26 y27 y28 y29 y30 y31 y32 y33 y34 y35 y36 y37 y38 y39 y40 y41 y42 y43 y44 y45 y46 y47 y48 y49 y50 y51 y52 y53 y54 y55 y56 y57 y58 y59 y60 y61 y62 y63 y64 y65 y66 y67 y68 y69 y70 y71 y72 y73 y74 y75 y76 y77 y78 y79 y80 y81 y82 y83 y84 y85 y86 y87 y88 y89 y90 y91 y92 y93 y94 y95 y96 y97 y98 y99 y100 y101 y102 y103 y104 y105 y106 y107 y108 y109 y110 y111 y112 y113 y114 y115 y116 y117 y118 y119 y120 y121 y122 y123 y124 y125 y126 y127 y128 y129 y130 y131 y132 y133 y134 y135 y136 y137 y138 y139 y140 y141 y142 y143 y144 y145 y146 y147 y148 y149 y150 y151 y152 y153 y154 y155 y156 y157 y158 y159 y160 y161 y162 y163 y164 y165 y166 y167 y168 y169 y170 y171 y172 y173 y174 y175 y176 y177 y178 y179 y180 y181 y182 y183 y184 y185 y186 y187 y188 y189 y190 y191 y192 y193 y194 y195 y196 y197 y198 y199 y200 y201 y202 y203 y204 y205 y206 y207 y208 y209 y210 y211 y212 y213 y214 y215 y216 y217 y218 y219 y220 y221 y222 y223 y224 y225 y226 y227 y228 y229 y230 y231 y232 y233 y234 y235 y236 y237 y238 y239 y240 y241 y242 y243 y244 y245 y246 y247 y248 y249 y250 y251 y252 y253 y254 y255 y256 y257 y258 y259 y260 y261 y262 y263 y264 y265 y266 y267 y268 y269 y270 y271 y272 y273 y274 wx hx
      exact hK _ _ (backRestP s hs w wx ((X0.out.trans X014.out).trans hx))
end Go.Proofs.YtfmcgdglalljgaaGreatDoor
