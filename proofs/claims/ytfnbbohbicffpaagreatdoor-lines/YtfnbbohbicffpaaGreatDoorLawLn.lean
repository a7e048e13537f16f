/-
  The law Lines: it answers true.
-/
import Derived.Test.YtfnbbohbicffpaaGreatDoorJ32
import Derived.Test.YtfnbbohbicffpaaGreatDoorJ12
import Derived.Test.YtfnbbohbicffpaaGreatDoorJ10
import Derived.Test.YtfnbbohbicffpaaGreatDoorJ31
import Derived.Deep.DeepCutAuto
namespace Go.Proofs.YtfnbbohbicffpaaGreatDoor
open Go.RowKit

theorem refsF_code {es : List EntD} : ∀ (rf : List (IDd × Nat)), (refsF es rf).1 = 0 ∨ (refsF es rf).1 = 9
  | [] => .inl rfl
  | r :: rf => by
    unfold refsF
    split
    · exact refsF_code rf
    · exact .inr rfl
theorem circF_code {l : List Resd} : ∀ (es : List EntD), (circF l es).1 = 0 ∨ (circF l es).1 = 10
  | [] => .inl rfl
  | e :: es => by
    unfold circF
    split
    · exact .inr rfl
    · exact circF_code es

set_option maxRecDepth 100000 in
set_option maxHeartbeats 1600000 in
theorem sameNo (u v : Value) (l m : List Resd) (w : World) (hu : RessV w u l) (hv : RessV w v m) (hn : l.length ≠ m.length) :
    Calls Tryz.prog 7 #[u, v] w fun e w' => e = .returned (.bool false) ∧ Ext w w' := by
  obtain ⟨⟨a, cap, rfl, hcap, hmax, hs⟩, hfew⟩ := hu
  obtain ⟨⟨a', cap', rfl, hcap', hmax', hs'⟩, hfew'⟩ := hv
  have hb : ((l.length : Int) != (m.length : Int)) = true := by simp; omega
  replace hs := hide hs; replace hs' := hide hs'; replace hn := hide hn
  go_enter Tryz.func7, Tryz.ntmps7
  go_wp2_with fail
  go_ret
  exact ⟨rfl, Ext.refl _⟩
/-- What is told of nothing, and of a list. -/
theorem sameNone (u v : Value) (l : List Resd) (w : World) (hu : RessV w u []) (hv : RessV w v l) :
    Calls Tryz.prog 7 #[u, v] w fun e w' => ∃ b : Bool, e = .returned (.bool b) ∧ Ext w w' := by
  cases l with
  | nil => exact (sameRess u v [] w hu hv).mono fun _ _ h => ⟨true, h⟩
  | cons x l => exact (sameNo u v [] (x :: l) w hu hv (by simp)).mono fun _ _ h => ⟨false, h⟩

set_option maxRecDepth 100000 in
set_option maxHeartbeats 1600000 in
theorem netP (w : World) :
    Calls Tryz.prog 9 #[] w fun e w' => e = .returned (.agg #[.string ⟨#[110, 101, 116]⟩, .string ⟨#[98]⟩, .slice none 0 0, .slice none 0 0]) ∧ Ext w w' := by
  go_enter Tryz.func9, Tryz.ntmps9
  go_wp2
  refine bodyPost_ret (v := .agg #[.string ⟨#[110, 101, 116]⟩, .string ⟨#[98]⟩, .slice none 0 0, .slice none 0 0]) (by simp [results, Tryz.results9, go_sem]) rfl ?_
  exact ⟨rfl, (Ext.refl w).alloc _⟩

theorem conv_xy (w : World) :
    (convert 39 9 (.slice (some ⟨w.heap.size, 0, none⟩) 3 3)).run Tryz.prog (w.alloc (.cells #[.int .u8 120, .int .u8 10, .int .u8 121] 5)) = .ok (.string ⟨#[120, 10, 121]⟩) (w.alloc (.cells #[.int .u8 120, .int .u8 10, .int .u8 121] 5)) := by
  refine conv_bytes _ _ 0 3 3 [120, 10, 121] rfl ?_
  intro j hj
  have : j = 0 ∨ j = 1 ∨ j = 2 := by simp at hj; omega
  rcases this with rfl | rfl | rfl <;> simp [go_sem]
set_option maxRecDepth 100000 in
set_option maxHeartbeats 1600000 in
theorem vmP (w : World) :
    Calls Tryz.prog 10 #[] w fun e w' => ∃ p2 p3 : Nat, e = .returned (.agg #[.string ⟨#[118, 109]⟩, .string ⟨#[97]⟩, .slice (some ⟨p2, 0, none⟩) 2 2, .slice (some ⟨p3, 0, none⟩) 1 1]) ∧ Hid (ResV w' (.slice (some ⟨p2, 0, none⟩) 2 2) (.slice (some ⟨p3, 0, none⟩) 1 1) exVm) ∧ Hid (Ext w w') := by
  have hcv := conv_xy (w.alloc (.cells #[.string ⟨#[]⟩, .string ⟨#[]⟩, .slice none 0 0, .slice none 0 0] 37))
  rw [show (w.alloc (.cells #[.string ⟨#[]⟩, .string ⟨#[]⟩, .slice none 0 0, .slice none 0 0] 37)).heap.size = w.heap.size + 1 by simp] at hcv
  go_enter Tryz.func10, Tryz.ntmps10
  go_wp2
  refine bodyPost_ret (v := .agg #[.string ⟨#[118, 109]⟩, .string ⟨#[97]⟩, .slice (some ⟨w.heap.size + 1 + 1, 0, none⟩) 2 2, .slice (some ⟨w.heap.size + 1 + 1 + 1, 0, none⟩) 1 1]) (by simp [results, Tryz.results10, go_sem]) rfl ?_
  refine ⟨w.heap.size + 1 + 1, w.heap.size + 1 + 1 + 1, rfl, ?_, ((((Ext.refl w).alloc _).alloc _).alloc _).alloc _⟩
  refine ⟨⟨by decide, by decide⟩, ⟨⟨some ⟨w.heap.size + 1 + 1, 0, none⟩, 2, rfl, Nat.le_refl _, by decide, .inr ⟨_, 0, rfl, ?_⟩⟩, by decide, ?_⟩, ⟨⟨some ⟨w.heap.size + 1 + 1 + 1, 0, none⟩, 1, rfl, Nat.le_refl _, by decide, .inr ⟨_, 0, rfl, ?_⟩⟩, by decide, ?_⟩⟩
  · intro i x hx
    have hi := (List.getElem?_eq_some_iff.1 hx).1
    have : i = 0 ∨ i = 1 := by simp [exVm] at hi; omega
    rcases this with rfl | rfl
    · simp [exVm] at hx; subst hx; simp [go_sem, wName, wXy]
    · simp [exVm] at hx; subst hx; simp [go_sem, wSize]
  · intro x hx
    simp only [exVm, List.mem_cons, List.not_mem_nil, or_false] at hx
    rcases hx with rfl | rfl
    · exact ⟨by decide, by decide, by decide, by decide⟩
    · exact ⟨by decide, by decide, by decide, by decide⟩
  · intro i x hx
    have hi := (List.getElem?_eq_some_iff.1 hx).1
    have : i = 0 := by simp [exVm] at hi; omega
    subst this
    simp [exVm] at hx; subst hx; simp [go_sem, wNet, wB]
  · intro x hx
    simp only [exVm, List.mem_cons, List.not_mem_nil, or_false] at hx
    subst hx
    exact ⟨by decide, by decide⟩
set_option maxRecDepth 100000 in
set_option maxHeartbeats 1600000 in
theorem exampleP (w : World) :
    Calls Tryz.prog 8 #[] w fun e w' => e = .returned (.string ⟨exB.toArray⟩) ∧ Ext w w' := by
  go_enter Tryz.func8, Tryz.ntmps8
  go_wp2
  go_ret
  exact ⟨by simp [exB], Ext.refl w⟩
theorem netV (w : World) : ResV w (.slice none 0 0) (.slice none 0 0) exNet := ⟨⟨by decide, by decide⟩, ⟨⟨none, 0, rfl, Nat.le_refl _, by decide, .inl rfl⟩, by decide, fun x hx => (by cases hx)⟩, ⟨⟨none, 0, rfl, Nat.le_refl _, by decide, .inl rfl⟩, by decide, fun x hx => (by cases hx)⟩⟩
/-- A row of resources that was just made. -/
theorem ressV_made {w : World} {b : Nat} {cs : Array Value} {t : TypeId} {fz : Nat × Nat} (h : w.heap[b]? = some (.cells cs t fz)) {l : List Resd} {n : Nat} (hn : l.length = n) (h20 : n ≤ 20) (hc : ∀ (i : Nat) x, l[i]? = some x → cs[i * 4]? = some (.string x.id.kind) ∧ cs[i * 4 + 1]? = some (.string x.id.name) ∧ ∃ c2 c3, cs[i * 4 + 2]? = some c2 ∧ cs[i * 4 + 3]? = some c3 ∧ ResV w c2 c3 x) : RessV w (.slice (some ⟨b, 0, none⟩) n n) l := by
  subst hn
  refine ⟨⟨some ⟨b, 0, none⟩, l.length, rfl, Nat.le_refl _, by omega, .inr ⟨b, 0, rfl, ?_⟩⟩, by omega⟩
  intro i x hx
  obtain ⟨h0, h1, c2, c3, h2, h3, h4⟩ := hc i x hx
  have key : ∀ j, w.cell? ⟨b, 0 + j, none⟩ = cs[j]? := fun j => by rw [Nat.zero_add]; simp [World.cell?, h]
  refine ⟨?_, ?_, c2, c3, ?_, ?_, h4⟩
  · rw [key]; exact h0
  · rw [Nat.add_assoc, key]; exact h1
  · rw [Nat.add_assoc, key]; exact h2
  · rw [Nat.add_assoc, key]; exact h3
theorem ex_print : printS [exNet] = ⟨#[114, 101, 115, 111, 117, 114, 99, 101, 32, 110, 101, 116, 32, 98, 32, 123, 10, 125, 10]⟩ ∧ printE [exNet] = 0 := by
  have hm : mayAllB [exNet] = true := by decide
  unfold printS printE
  rw [hm]
  exact ⟨rfl, rfl⟩

set_option maxRecDepth 100000 in
set_option maxHeartbeats 1600000 in
theorem readsP (w : World) (ht : TabP w) :
    Calls Tryz.prog 4 #[] w fun e w' => e = .returned (.bool true) ∧ Ext w w' := by
  have hex := hide (exampleP w)
  replace ht := hide ht
  go_enter Tryz.func4, Tryz.ntmps4
  go_wp2_with fail
  refine hex.out.mono ?_
  rintro e1 w1 ⟨rfl, he1⟩
  replace he1 := hide he1
  go_wp2_with fail
  refine (parseP ⟨exB.toArray⟩ w1).mono ?_
  rintro e2 w2 ⟨v2, ps, rfl, hx2, hr2, -, he2⟩
  have hxe : Hid (parseS (⟨exB.toArray⟩ : ByteArray).data.toList = ([exNet, exVm], (0, 0))) := ex_parse
  rw [hxe.out] at hx2 ⊢
  dsimp only at hx2 ⊢
  have hps : ps.length = 2 := by have := congrArg List.length hx2.out; rw [List.length_map] at this; exact this
  have hv2 := hide (hr2.out.ressV (by omega))
  rw [hx2.out] at hv2
  obtain ⟨pa2, ca2, hv2e, -⟩ := hv2.out.shape
  subst hv2e
  replace hps := hide hps
  go_wp2_with fail
  refine (netP _).mono ?_
  rintro e3 w3 ⟨rfl, he3⟩
  replace he3 := hide he3
  go_wp2_with fail
  refine (vmP _).mono ?_
  rintro e4 w4 ⟨p2, p3, rfl, hv4, he4⟩
  go_wp2_with fail
  have H5 := heap_alloc_new w4 (.cells #[.string ⟨#[110, 101, 116]⟩, .string ⟨#[98]⟩, .slice none 0 0, .slice none 0 0, .string ⟨#[118, 109]⟩, .string ⟨#[97]⟩, .slice (some ⟨p2, 0, none⟩) 2 2, .slice (some ⟨p3, 0, none⟩) 1 1] 37)
  have hE5 := (Ext.refl w4).alloc (.cells #[.string ⟨#[110, 101, 116]⟩, .string ⟨#[98]⟩, .slice none 0 0, .slice none 0 0, .string ⟨#[118, 109]⟩, .string ⟨#[97]⟩, .slice (some ⟨p2, 0, none⟩) 2 2, .slice (some ⟨p3, 0, none⟩) 1 1] 37)
  have hv5 := hide (ressV_made H5 (l := [exNet, exVm]) (n := 2) rfl (by decide) (fun i x hx => by
    have hi := (List.getElem?_eq_some_iff.1 hx).1
    have : i = 0 ∨ i = 1 := by simp at hi; omega
    rcases this with rfl | rfl
    · simp at hx; subst hx
      exact ⟨rfl, rfl, .slice none 0 0, .slice none 0 0, rfl, rfl, netV _⟩
    · simp at hx; subst hx
      exact ⟨rfl, rfl, .slice (some ⟨p2, 0, none⟩) 2 2, .slice (some ⟨p3, 0, none⟩) 1 1, rfl, rfl, hv4.out.ext hE5⟩))
  have hu5 := hide (((hv2.out.ext he3.out).ext he4.out).ext hE5)
  replace H5 := hide H5; replace hE5 := hide hE5
  refine (sameRess _ _ [exNet, exVm] _ hu5.out hv5.out).mono ?_
  rintro e6 w6 ⟨rfl, he6⟩
  replace he6 := hide he6
  go_wp2_with fail
  refine (netP _).mono ?_
  rintro e7 w7 ⟨rfl, he7⟩
  have H8 := heap_alloc_new w7 (.cells #[.string ⟨#[110, 101, 116]⟩, .string ⟨#[98]⟩, .slice none 0 0, .slice none 0 0] 37)
  have hE8 := (Ext.refl w7).alloc (.cells #[.string ⟨#[110, 101, 116]⟩, .string ⟨#[98]⟩, .slice none 0 0, .slice none 0 0] 37)
  have hv8 := hide (ressV_made H8 (l := [exNet]) (n := 1) rfl (by decide) (fun i x hx => by
    have hi := (List.getElem?_eq_some_iff.1 hx).1
    have : i = 0 := by simp at hi; omega
    subst this
    simp at hx; subst hx
    exact ⟨rfl, rfl, .slice none 0 0, .slice none 0 0, rfl, rfl, netV _⟩))
  have X7 := hide ((((((he1.out.trans he2.out).trans he3.out).trans he4.out).trans hE5.out).trans he6.out).trans he7)
  have ht8 := hide (ht.out.ext (X7.out.trans hE8))
  replace H8 := hide H8; replace hE8 := hide hE8
  clear he7
  go_wp2_with fail
  refine (print _ [exNet] _ hv8.out ht8.out).mono ?_
  rintro e9 w9 ⟨rfl, he9⟩
  replace he9 := hide he9
  rw [ex_print.1, ex_print.2]
  have hcv := conv_one w9 10 (by omega) (by omega)
  have hcv2 := conv_one (w9.alloc (.cells #[.int .u8 10] 5)) 10 (by omega) (by omega)
  rw [show (w9.alloc (.cells #[.int .u8 10] 5)).heap.size = w9.heap.size + 1 by simp] at hcv2
  go_wp2_with fail
  have hcmp : (([114, 101, 115, 111, 117, 114, 99, 101, 32, 110, 101, 116, 32, 98, 32, 123, 10, 125, 10] : List UInt8) == ((⟨#[114, 101, 115, 111, 117, 114, 99, 101, 32, 110, 101, 116, 32, 98, 32, 123]⟩ : ByteArray) ++ ⟨#[10]⟩ ++ ⟨#[125]⟩ ++ ⟨#[10]⟩).toList) = true := by
    rw [ba_app2, ba_app2, ba_app2, ByteArray.toList_eq]; decide
  go_ret
  refine ⟨retB hcmp, ?_⟩
  exact ((((X7.out.trans hE8.out).trans he9.out).alloc _).alloc _)
/-- A list of resources that is nil. -/
theorem nilIs (w : World) : (binOp .eql 22 (.slice none 0 0) (.slice none 0 0)).run Tryz.prog w = .ok (.bool true) w := by
  simp only [binOp]
  simp [run_equal_slice_nil w 22 37 none 0 0 Tryz.underlying22]
theorem printS_list {l : List Resd} (h : mayAllB l = true) : (printS l).data.toList = printL l ∧ (printS l).size = (printL l).length := by
  unfold printS
  rw [if_pos h]
  exact ⟨rfl, by simp [ByteArray.size]⟩

set_option maxRecDepth 100000 in
set_option maxHeartbeats 3200000 in
theorem linesLaw (v : Value) (l : List Resd) (s : ByteArray) (w : World) (hv : RessV w v l) (ht : TabP w) :
    Calls Tryz.prog 3 #[v, .string s] w fun e w' => e = .returned (.bool true) ∧ Ext w w' := by
  have hv0 := hide hv
  obtain ⟨a, cap, rfl, -⟩ := hv.shape
  replace ht := hide ht
  clear hv
  go_enter Tryz.func3, Tryz.ntmps3
  go_wp2_with fail
  refine (readsP w ht.out).mono ?_
  rintro e1 w1 ⟨rfl, he1⟩
  replace he1 := hide he1
  go_wp2_with fail
  refine (print _ l _ (hv0.out.ext he1.out) (ht.out.ext he1.out)).mono ?_
  rintro e2 w2 ⟨rfl, he2⟩
  have X2 := hide (he1.out.trans he2)
  clear he2
  have hps : Hid (mayAllB l = true → (printS l).data.toList = printL l ∧ (printS l).size = (printL l).length) := printS_list
  have hpe : Hid ((mayAllB l = true → printE l = 0) ∧ (mayAllB l = false → printE l = 11)) := ⟨fun h => by unfold printE; rw [if_pos h], fun h => by unfold printE; rw [h]; rfl⟩
  generalize printS l = ts at *
  generalize printE l = te at *
  go_upto_region 3 with fail
  go_cut [35] (fun bv wx => bv = .bool (decide (mayAllB l = true ∧ (printL l).length ≤ 2000)) ∧ Hid (Ext w2 wx))
  case first =>
    by_cases hm : mayAllB l = true
    · have ht0 := hpe.out.1 hm
      have hsz := (hps.out hm).2
      subst ht0
      by_cases hn : (printL l).length ≤ 2000
      · have hdc : Hid (decide (mayAllB l = true ∧ (printL l).length ≤ 2000) = true) := decide_eq_true ⟨hm, hn⟩
        have hi : (ts.size : Int) ≤ 2000 := by omega
        replace hm := hide hm; replace hn := hide hn; replace hsz := hide hsz
        go_wp2_with fail
        go_meet
        exact ⟨by rw [hdc.out], Ext.refl _⟩
      · have hdc : Hid (decide (mayAllB l = true ∧ (printL l).length ≤ 2000) = false) := decide_eq_false (fun h => hn h.2)
        have hi : ¬ (ts.size : Int) ≤ 2000 := by omega
        replace hm := hide hm; replace hn := hide hn; replace hsz := hide hsz
        go_wp2_with fail
        go_meet
        exact ⟨by rw [hdc.out], Ext.refl _⟩
    · have ht0 := hpe.out.2 (by simpa using hm)
      have hdc : Hid (decide (mayAllB l = true ∧ (printL l).length ≤ 2000) = false) := decide_eq_false (fun h => hm h.1)
      subst ht0
      replace hm := hide hm
      go_wp2_with fail
      go_meet
      exact ⟨by rw [hdc.out], Ext.refl _⟩
  case rest =>
    obtain ⟨rfl, he3⟩ := hcut
    obtain ⟨w3, rfl⟩ : ∃ w3 : World, w3 = wc := ⟨_, rfl⟩
    have X3 := hide (X2.out.trans he3.out)
    go_upto_if 35 with fail
    go_cut [] (fun wx => Hid (Ext w3 wx))
    case first =>
      by_cases hD : mayAllB l = true ∧ (printL l).length ≤ 2000
      · have hDb : decide (mayAllB l = true ∧ (printL l).length ≤ 2000) = true := decide_eq_true hD
        have hpp := hide (parse_print hD.1 hD.2)
        have hP : Hid (Calls Tryz.prog 6 #[.string ts] w3 (ParseIs w3 (parseS (printL l)))) := by
          have := parseP ts w3
          rw [(hps.out hD.1).1] at this
          exact this
        replace hD := hide hD
        have hcase : Hid ((∃ c p, (c = 9 ∨ c = 10) ∧ parseS (printL l) = ([], (c, p))) ∨ parseS (printL l) = (l, (0, 0))) := by
          obtain ⟨es, rf, -, -, h⟩ := hpp.out
          rcases h with ⟨h1, h2⟩ | ⟨-, h1, h2⟩ | ⟨-, -, h2⟩
          · exact .inl ⟨_, _, .inl ((refsF_code rf).resolve_left h1), h2⟩
          · exact .inl ⟨_, _, .inr ((circF_code es).resolve_left h1), h2⟩
          · exact .inr h2
        rcases hcase.out with ⟨c, p, hc, hr⟩ | hr
        · rw [hr] at hP
          have hcb : (c == 0) = false ∧ (c != 0) = true := by rcases hc with rfl | rfl <;> decide
          replace hr := hide hr
          go_wp2_with fail
          refine hP.out.mono ?_
          rintro e4 w4 ⟨v4, ps4, rfl, hx4, hr4, -, he4⟩
          dsimp only at hx4
          have hv4 := hide (hr4.out.ressV (by have h1 := congrArg List.length hx4.out; rw [List.length_map] at h1; have h2 : ps4.length = 0 := h1; omega))
          rw [hx4.out] at hv4
          go_wp2_with fail
          refine (sameNone _ _ l _ hv4.out (hv0.out.ext (X3.out.trans he4.out))).mono ?_
          rintro e5 w5 ⟨b5, rfl, he5⟩
          replace he5 := hide he5
          rcases hc with rfl | rfl
          · go_wp2_with fail
            go_meet
            exact he4.out.trans he5.out
          · go_wp2_with fail
            go_meet
            exact he4.out.trans he5.out
        · rw [hr] at hP
          replace hr := hide hr
          go_wp2_with fail
          refine hP.out.mono ?_
          rintro e4 w4 ⟨v4, ps4, rfl, hx4, hr4, -, he4⟩
          dsimp only at hx4
          have hv4 := hide (hr4.out.ressV (by have h1 := congrArg List.length hx4.out; rw [List.length_map] at h1; have h2 := (may_each hD.out.1).1; omega))
          rw [hx4.out] at hv4
          go_wp2_with fail
          refine (sameRess _ _ l _ hv4.out (hv0.out.ext (X3.out.trans he4.out))).mono ?_
          rintro e5 w5 ⟨rfl, he5⟩
          replace he5 := hide he5
          go_wp2_with fail
          go_meet
          exact he4.out.trans he5.out
      · have hDb : decide (mayAllB l = true ∧ (printL l).length ≤ 2000) = false := decide_eq_false hD
        replace hD := hide hD
        go_wp2_with fail
        go_meet
        exact Ext.refl _
    case rest =>
      obtain ⟨w4, rfl⟩ : ∃ w4 : World, w4 = wc := ⟨_, rfl⟩
      have X4 := hide (X3.out.trans hcut.out)
      have hP : Hid (∀ w', Calls Tryz.prog 6 #[.string s] w' (ParseIs w' (parseS s.data.toList))) := fun w' => parseP s w'
      have hpi := hide (parse_is s.data.toList)
      have hsl : s.data.toList.length = s.size := Array.length_toList
      rw [hsl] at hpi
      have hfew := hide (parseS_few s.data.toList)
      generalize parseS s.data.toList = r at *
      obtain ⟨m, c, p⟩ := r
      dsimp only at hpi hfew
      replace hsl := hide hsl
      go_wp2_with fail
      refine (hP.out _).mono ?_
      rintro e5 w5 ⟨v5, ps5, rfl, hx5, hr5, hn5, he5⟩
      dsimp only at hx5 hn5
      have hl5 : ps5.length ≤ 12 := by have h1 := congrArg List.length hx5.out; rw [List.length_map] at h1; have := hfew.out; omega
      have hv5 := hide (hr5.out.ressV (by omega))
      rw [hx5.out] at hv5
      rcases hpi.out with ⟨hm, hc, hp⟩ | ⟨hc, hm, hb⟩
      · have hcb : (c != 0) = true := by simpa using hc
        have hnil := hn5.out hc
        subst hnil
        have hp1 : (0 : Int) ≤ (p : Int) := by omega
        have hp2 : (p : Int) ≤ (s.size : Int) := by omega
        replace hc := hide hc; replace hm := hide hm; replace hp := hide hp
        have hnq := nilIs w5
        go_wp2_with fail
        go_ret
        exact ⟨rfl, X4.out.trans he5.out⟩
      · obtain ⟨rfl, rfl⟩ : c = 0 ∧ p = 0 := by simpa using hc
        obtain ⟨pa5, ca5, hv5e, -⟩ := hv5.out.shape
        subst hv5e
        have hps5 := hide (printS_list hm)
        have hpe5 : Hid (printE m = 0) := by show _ = _; unfold printE; rw [if_pos hm]
        replace hc := hide hc; replace hb := hide hb
        go_wp2_with fail
        refine (print _ m _ hv5.out (ht.out.ext (X4.out.trans he5.out))).mono ?_
        rintro e6 w6 ⟨rfl, he6⟩
        rw [hpe5.out]
        replace he6 := hide he6
        have hpr : Hid (∀ w' v', RessV w' v' m → TabP w' → Calls Tryz.prog 5 #[v'] w' fun e w'' => e = .returned (.tuple #[.string (printS m), .int .i64 0]) ∧ Ext w' w'') := fun w' v' h1 h2 => by have := print v' m w' h1 h2; rw [hpe5.out] at this; exact this
        by_cases hn : (printL m).length ≤ 2000
        · have hP2 : Hid (∀ w', Calls Tryz.prog 6 #[.string (printS m)] w' (ParseIs w' (m, (0, 0)))) := fun w' => by
            have h1 := parseP (printS m) w'
            rw [hps5.out.1, hb.out hn] at h1
            exact h1
          have hi : ¬ (2000 : Int) < ((printS m).size : Int) := by rw [hps5.out.2]; omega
          generalize printS m = tm at *
          replace hn := hide hn; replace hm := hide hm
          go_wp2_with fail
          refine (hP2.out _).mono ?_
          rintro e7 w7 ⟨v7, ps7, rfl, hx7, hr7, -, he7⟩
          dsimp only at hx7
          have hv7 := hide (hr7.out.ressV (by have h1 := congrArg List.length hx7.out; rw [List.length_map] at h1; have := hfew.out; omega))
          rw [hx7.out] at hv7
          obtain ⟨pa7, ca7, hv7e, -⟩ := hv7.out.shape
          subst hv7e
          go_wp2_with fail
          refine (hpr.out _ _ hv7.out (ht.out.ext (((X4.out.trans he5.out).trans he6.out).trans he7.out))).mono ?_
          rintro e8 w8 ⟨rfl, he8⟩
          replace he8 := hide he8
          go_wp2_with fail
          refine (sameRess _ _ m _ (((hv5.out.ext he6.out).ext he7.out).ext he8.out) (hv7.out.ext he8.out)).mono ?_
          rintro e9 w9 ⟨rfl, he9⟩
          replace he9 := hide he9
          go_wp2_with fail
          go_ret
          exact ⟨rfl, ((((X4.out.trans he5.out).trans he6.out).trans he7.out).trans he8.out).trans he9.out⟩
        · have hi : (2000 : Int) < ((printS m).size : Int) := by rw [hps5.out.2]; omega
          generalize printS m = tm at *
          replace hn := hide hn; replace hm := hide hm
          go_wp2_with fail
          go_ret
          exact ⟨rfl, (X4.out.trans he5.out).trans he6.out⟩
end Go.Proofs.YtfnbbohbicffpaaGreatDoor
