/-
  A resource written into a builder: what the function does.
-/
import Derived.Test.YtjebmabffocobaaDoorBuild
import Derived.Test.YtjebmabffocobaaDoorMays
import Derived.Test.YtjebmabffocobaaDoorWords
namespace Go.Proofs.YtjebmabffocobaaDoor
open Go.RowKit

/-- How long the parts of a resource that may be are. -/
structure Small (x : Resd) : Prop where
  id : x.id.kind.size ≤ 12 ∧ x.id.name.size ≤ 12
  many : x.attrs.length ≤ 6 ∧ x.after.length ≤ 6
  attrs : ∀ a ∈ x.attrs, (attrP a).length ≤ 100 ∧ a.name.size ≤ 12 ∧ (valueL a).length ≤ 60 ∧ a.text.size ≤ 20
  after : (refsL x.after).length ≤ 400

theorem flat_take {l : List Attrd} {k : Nat} {x : Attrd} (h : l[k]? = some x) : (l.take (k + 1)).flatMap attrP = (l.take k).flatMap attrP ++ attrP x := by
  have hk : k < l.length := (List.getElem?_eq_some_iff.1 h).1
  have hx : l[k] = x := (List.getElem?_eq_some_iff.1 h).2
  rw [List.take_succ_eq_append_getElem hk, List.flatMap_append, List.flatMap_cons, List.flatMap_nil, List.append_nil, hx]

set_option maxRecDepth 100000 in
set_option maxHeartbeats 3200000 in
theorem printRes (w0 : World) (acc : List UInt8) (c2 c3 : Value) (x : Resd) (w : World) (hb : Blds w0 acc w) (hr : ResV w0 c2 c3 x) (ht : TabP w0) (hsm : Small x) (hacc : acc.length ≤ 50000000) :
    Calls Tryd.prog 10 #[.pointer (some ⟨w0.heap.size, 0, none⟩), .agg #[.string x.id.kind, .string x.id.name, c2, c3]] w fun e w' => e = .returned (.tuple #[]) ∧ Blds w0 (acc ++ resL x) w' := by
  obtain ⟨hI, hA, hF⟩ := hr
  obtain ⟨a2, p2, rfl⟩ := hA.form
  obtain ⟨a3, p3, rfl⟩ := hF.form
  obtain ⟨⟨s1, s2⟩, ⟨n1, n2⟩, hsa, hsf⟩ := hsm
  have hlt := hb.lt
  replace hI := hide hI; replace hA := hide hA; replace hF := hide hF; replace hb := hide hb; replace ht := hide ht; replace hsa := hide hsa
  go_enter Tryd.func10, Tryd.ntmps10
  go_wp2_with fail
  refine (write (hb.out.go ((Ext.refl _).alloc _)) _ (by omega) ?_).mono ?_
  · simp [ByteArray.size_append, go_sem]; omega
  rintro e w1 ⟨rfl, hb1, hk1⟩
  have hR := kept_block (k := w.heap.size) hk1 (heap_alloc_new w _) (by omega) (by decide)
  have r2 := (block_cell hR 2).trans rfl
  have r3 := (block_cell hR 3).trans rfl
  have H1 : Hid (Blds w0 (acc ++ headL x.id) w1) := by
    have e : (({ data := #[114, 101, 115, 111, 117, 114, 99, 101, 32] } : ByteArray) ++ x.id.kind ++ { data := #[32] } ++ x.id.name ++ { data := #[32, 123, 10] }).data.toList = headL x.id := by
      simp only [ba_list]; rfl
    rw [e] at hb1; exact hb1
  clear hb1 hk1
  replace hR := hide hR
  go_wp2_with fail
  go_loopw [21] (fun i wr => ∃ (k : Nat) (ac : List UInt8), k ≤ x.attrs.length ∧ i = .int .i64 k ∧ ac.length ≤ acc.length + 100 + 100 * k ∧ Hid (ac = acc ++ headL x.id ++ (x.attrs.take k).flatMap attrP) ∧ Blds w0 ac wr ∧ wr.heap[w.heap.size]? = some (.cells #[.string x.id.kind, .string x.id.name, .slice a2 x.attrs.length p2, .slice a3 x.after.length p3] 38)) (fun i _ => x.attrs.length - (intOf i).toNat)
  case atStart =>
    refine ⟨0, acc ++ headL x.id, Nat.zero_le _, rfl, ?_, by simp [Hid], H1.out, hR.out⟩
    simp only [headL, resW, List.length_append, List.length_cons, List.length_nil, size_toList]
    omega
  case round =>
    obtain ⟨k, ac, hk, rfl, hal, hac, hbl, hbox⟩ := hrel
    have hE := hbl.ext
    have hA2 := hA.out.ext hE
    replace hE := hide hE
    by_cases hlt2 : k < x.attrs.length
    · obtain ⟨⟨a, cap, hav, hcap, hmax, hs⟩, hfew, hok⟩ := hA2
      obtain ⟨rfl, rfl⟩ : a = a2 ∧ cap = p2 := by simpa using hav.symm
      clear hav
      rcases hs with hs | ⟨b, off, rfl, hin⟩
      · rw [hs] at hlt2; simp at hlt2
      obtain ⟨y, hy⟩ := some_of_lt hlt2
      obtain ⟨g0, g1, g2, g3⟩ := hin k y hy
      have hoky := hide (hok y (List.mem_of_getElem? hy))
      obtain ⟨l1, l2, l3, l4⟩ := hsa.out y (List.mem_of_getElem? hy)
      have Ht := hide (flat_take hy)
      have hwlt := hbl.lt
      have hwlt2 : w.heap.size < wr.heap.size := (Array.getElem?_eq_some_iff.1 hbox).1
      have hstr : (({ data := #[32, 32] } : ByteArray) ++ y.name ++ { data := #[32, 61, 32] } ++ { data := (valueL y).toArray } ++ { data := #[10] }).size ≤ 100000000 := by
        simp [ByteArray.size_append, go_sem]; omega
      have Hstr : Hid ((({ data := #[32, 32] } : ByteArray) ++ y.name ++ { data := #[32, 61, 32] } ++ { data := (valueL y).toArray } ++ { data := #[10] }).data.toList = attrP y) := by
        show _ = _; simp only [ba_list]; rfl
      have hac1 : ac.length ≤ 100000000 := by omega
      have hn1 : ({ data := #[32, 32] } : ByteArray).size + y.name.size ≤ 1000 := by simp [go_sem]; omega
      replace hin := hide hin; replace hok := hide hok; replace hy := hide hy; replace hbl := hide hbl; replace hbox := hide hbox
      replace hstr := hide hstr
      generalize hvl : (valueL y).toArray = vl at *
      have hvs : vl.size ≤ 60 := by rw [← hvl]; simpa using l3
      replace hvl := hide hvl
      have t1 : (9223372036854775807 < 2 + y.name.size) = False := eq_false (by omega)
      have t2 : (9223372036854775807 < 2 + y.name.size + 3) = False := eq_false (by omega)
      have t3 : (9223372036854775807 < 2 + y.name.size + 3 + vl.size) = False := eq_false (by omega)
      have t4 : (9223372036854775807 < 2 + y.name.size + 3 + vl.size + 1) = False := eq_false (by omega)
      go_wp2_with fail
      go_region_held3 (fun w' => w'.cell? ⟨wr.heap.size, 0, none⟩ = some (.string y.name) ∧ w'.cell? ⟨wr.heap.size, 1, none⟩ = some (.bool y.isText) ∧ w'.cell? ⟨wr.heap.size, 2, none⟩ = some (.string y.text) ∧ w'.cell? ⟨wr.heap.size, 3, none⟩ = some (.int .i64 y.number)) (go_keep)
        (first
          | (go_at_call 23; refine (valueText y _ hoky.out (by omega) (ht.out.ext (hE.out.alloc _).drew)).mono ?_; rintro e wv ⟨rfl, hev⟩; rw [unhide hvl]; have q0 := hev.cells (p := ⟨wr.heap.size, 0, none⟩) (v := .string y.name) (by simp [go_sem]); have q1 := hev.cells (p := ⟨wr.heap.size, 1, none⟩) (v := .bool y.isText) (by simp [go_sem]); have q2 := hev.cells (p := ⟨wr.heap.size, 2, none⟩) (v := .string y.text) (by simp [go_sem]); have q3 := hev.cells (p := ⟨wr.heap.size, 3, none⟩) (v := .int .i64 y.number) (by simp [go_sem]); have hV := ext_block (k := wr.heap.size) hev (heap_alloc_new wr _); replace hV := hide hV; replace hev := hide hev)
          | (go_at_call 22; refine (write (hbl.out.go (((Ext.refl wr).alloc _).drew.trans hev.out)) _ hac1 hstr.out).mono ?_; rintro e w2 ⟨rfl, hb2, hk2⟩; have hV2 := kept_block hk2 hV.out (by omega) (by decide); have q0 := (block_cell hV2 0).trans rfl; have q1 := (block_cell hV2 1).trans rfl; have q2 := (block_cell hV2 2).trans rfl; have q3 := (block_cell hV2 3).trans rfl; clear hV2; replace hb2 := hide hb2; replace hk2 := hide hk2))
      go_wp2
      go_roundw
      case rel =>
        refine ⟨k + 1, ac ++ attrP y, by omega, by go_num, by rw [List.length_append]; omega, ?_, ?_, ?_⟩
        · rw [unhide Ht, hac.out]; simp [Hid]
        · rw [← unhide Hstr]; exact hb2.out
        · exact kept_block hk2.out (ext_block (((Ext.refl wr).alloc _).drew.trans hev.out) hbox.out) (by omega) (by decide)
      case measure => simp [intOf]; omega
    · have Hl : Hid (x.attrs.take k = x.attrs) := List.take_of_length_le (by omega)
      have hac2 : Hid (ac = acc ++ headL x.id ++ x.attrs.flatMap attrP) := by rw [unhide Hl] at hac; exact hac.out
      have b3 := (block_cell hbox 3).trans rfl
      have hac1 : ac.length ≤ 100000000 := by omega
      clear hA2
      replace hbl := hide hbl; replace hbox := hide hbox
      by_cases h0 : x.after.length = 0
      · have hz : ¬ (0 : Int) < (x.after.length : Int) := by omega
        have hz' : decide (0 < x.after.length) = false := decide_eq_false (by omega)
        have hz'' : decide ((0 : Int) < (x.after.length : Int)) = false := decide_eq_false (by omega)
        have Hf : Hid (afterP x.after = []) := by have := List.eq_nil_of_length_eq_zero h0; show _ = _; rw [this]; rfl
        replace h0 := hide h0
        go_wp2_with fail
        refine (write hbl.out _ hac1 ?_).mono ?_
        · decide
        rintro e w2 ⟨rfl, hb2, hk2⟩
        replace hb2 := hide hb2; replace hk2 := hide hk2
        go_wp2
        go_end0
        refine ⟨rfl, ?_⟩
        have := hb2.out
        rw [hac2.out] at this
        simpa [resL, unhide Hf] using this
      · have hz : (0 : Int) < (x.after.length : Int) := by omega
        have hz' : 0 < x.after.length := by omega
        have Hf : Hid (afterP x.after = [32, 32, 97, 102, 116, 101, 114, 32, 61, 32, 91] ++ refsL x.after ++ [93, 10]) := by
          have : x.after.isEmpty = false := by cases h : x.after with
            | nil => rw [h] at h0; simp at h0
            | cons _ _ => rfl
          show _ = _; simp [afterP, this]
        replace h0 := hide h0
        go_wp2_with fail
        refine (refsText _ x.after _ (hF.out.ext hE.out) hz' n2 (by omega)).mono ?_
        rintro e w2 ⟨rfl, he2⟩
        replace he2 := hide he2
        have hrl : (refsL x.after).toArray.size ≤ 400 := by simpa using hsf
        generalize hrf : (refsL x.after).toArray = rf at *
        replace hrf := hide hrf
        go_wp2_with fail
        refine (write (hbl.out.go he2.out) _ hac1 ?_).mono ?_
        · simp [ByteArray.size_append, go_sem]; omega
        rintro e w3 ⟨rfl, hb3, hk3⟩
        have Hb : Hid (Blds w0 (ac ++ afterP x.after) w3) := by
          show Blds _ _ _
          rw [unhide Hf]
          have e1 : (({ data := #[32, 32, 97, 102, 116, 101, 114, 32, 61, 32, 91] } : ByteArray) ++ { data := rf } ++ { data := #[93, 10] }).data.toList = [32, 32, 97, 102, 116, 101, 114, 32, 61, 32, 91] ++ refsL x.after ++ [93, 10] := by
            rw [← unhide hrf]; simp only [ba_list]
          rw [e1] at hb3; exact hb3
        clear hb3 hk3
        have hac3 : (ac ++ afterP x.after).length ≤ 100000000 := by
          rw [unhide Hf]; simp only [List.length_append, List.length_cons, List.length_nil]; omega
        go_wp2_with fail
        refine (write Hb.out _ hac3 ?_).mono ?_
        · decide
        rintro e w4 ⟨rfl, hb4, hk4⟩
        replace hb4 := hide hb4; replace hk4 := hide hk4
        go_wp2
        go_end0
        refine ⟨rfl, ?_⟩
        have := hb4.out
        rw [hac2.out] at this
        simpa [resL] using this
end Go.Proofs.YtjebmabffocobaaDoor
