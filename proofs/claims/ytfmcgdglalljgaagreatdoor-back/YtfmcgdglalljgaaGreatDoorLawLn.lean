/-
  The law Lines: it answers true.
-/
import Derived.Test.YtfmcgdglalljgaaGreatDoorJ31
import Derived.Test.YtfmcgdglalljgaaGreatDoorJ11
import Derived.Test.YtfmcgdglalljgaaGreatDoorJ10
import Derived.Deep.DeepCutAuto
namespace Go.Proofs.YtfmcgdglalljgaaGreatDoor
open Go.RowKit

set_option maxRecDepth 100000 in
set_option maxHeartbeats 1600000 in
theorem netP (w : World) :
    Calls Tryz.prog 17 #[] w fun e w' => e = .returned (.agg #[.string ⟨#[110, 101, 116]⟩, .string ⟨#[98]⟩, .slice none 0 0, .slice none 0 0]) ∧ Ext w w' := by
  go_enter Tryz.func17, Tryz.ntmps17
  go_wp2
  refine bodyPost_ret (v := .agg #[.string ⟨#[110, 101, 116]⟩, .string ⟨#[98]⟩, .slice none 0 0, .slice none 0 0]) (by simp [results, Tryz.results17, go_sem]) rfl ?_
  exact ⟨rfl, (Ext.refl w).alloc _⟩

theorem conv_xy (w : World) :
    (convert 45 9 (.slice (some ⟨w.heap.size, 0, none⟩) 3 3)).run Tryz.prog (w.alloc (.cells #[.int .u8 120, .int .u8 10, .int .u8 121] 5)) = .ok (.string ⟨#[120, 10, 121]⟩) (w.alloc (.cells #[.int .u8 120, .int .u8 10, .int .u8 121] 5)) := by
  refine conv_bytes _ _ 0 3 3 [120, 10, 121] rfl ?_
  intro j hj
  have : j = 0 ∨ j = 1 ∨ j = 2 := by simp at hj; omega
  rcases this with rfl | rfl | rfl <;> simp [go_sem]
set_option maxRecDepth 100000 in
set_option maxHeartbeats 1600000 in
theorem vmP (w : World) :
    Calls Tryz.prog 18 #[] w fun e w' => ∃ p2 p3 : Nat, e = .returned (.agg #[.string ⟨#[118, 109]⟩, .string ⟨#[97]⟩, .slice (some ⟨p2, 0, none⟩) 2 2, .slice (some ⟨p3, 0, none⟩) 1 1]) ∧ Hid (ResV w' (.slice (some ⟨p2, 0, none⟩) 2 2) (.slice (some ⟨p3, 0, none⟩) 1 1) exVm) ∧ Hid (Ext w w') := by
  have hcv := conv_xy (w.alloc (.cells #[.string ⟨#[]⟩, .string ⟨#[]⟩, .slice none 0 0, .slice none 0 0] 29))
  rw [show (w.alloc (.cells #[.string ⟨#[]⟩, .string ⟨#[]⟩, .slice none 0 0, .slice none 0 0] 29)).heap.size = w.heap.size + 1 by simp] at hcv
  go_enter Tryz.func18, Tryz.ntmps18
  go_wp2
  refine bodyPost_ret (v := .agg #[.string ⟨#[118, 109]⟩, .string ⟨#[97]⟩, .slice (some ⟨w.heap.size + 1 + 1, 0, none⟩) 2 2, .slice (some ⟨w.heap.size + 1 + 1 + 1, 0, none⟩) 1 1]) (by simp [results, Tryz.results18, go_sem]) rfl ?_
  refine ⟨w.heap.size + 1 + 1, w.heap.size + 1 + 1 + 1, rfl, ?_, ((((Ext.refl w).alloc _).alloc _).alloc _).alloc _⟩
  refine ⟨⟨by decide, by decide⟩, ⟨⟨some ⟨w.heap.size + 1 + 1, 0, none⟩, 2, rfl, Nat.le_refl _, by decide, .inr ⟨_, 0, rfl, ?_⟩⟩, by decide, ?_⟩, ⟨⟨some ⟨w.heap.size + 1 + 1 + 1, 0, none⟩, 1, rfl, Nat.le_refl _, by decide, .inr ⟨_, 0, rfl, ?_⟩⟩, by decide, ?_⟩⟩
  · intro i x hx
    have hi := (List.getElem?_eq_some_iff.1 hx).1
    have : i = 0 ∨ i = 1 := by simp [exVm] at hi; omega
    rcases this with rfl | rfl
    · simp [exVm] at hx; subst hx; simp [go_sem, wName, wXy]
    · simp [exVm] at hx; subst hx; simp [go_sem, wSize]
  · intro x hx
    simp only [exVm, List.mem_cons, List.not_mem_nil, or_false] at hx
    rcases hx with rfl | rfl
    · exact ⟨by decide, by decide, by decide, by decide⟩
    · exact ⟨by decide, by decide, by decide, by decide⟩
  · intro i x hx
    have hi := (List.getElem?_eq_some_iff.1 hx).1
    have : i = 0 := by simp [exVm] at hi; omega
    subst this
    simp [exVm] at hx; subst hx; simp [go_sem, wNet, wB]
  · intro x hx
    simp only [exVm, List.mem_cons, List.not_mem_nil, or_false] at hx
    subst hx
    exact ⟨by decide, by decide⟩
set_option maxRecDepth 100000 in
set_option maxHeartbeats 1600000 in
theorem exampleP (w : World) :
    Calls Tryz.prog 16 #[] w fun e w' => e = .returned (.string ⟨exB.toArray⟩) ∧ Ext w w' := by
  go_enter Tryz.func16, Tryz.ntmps16
  go_wp2
  go_ret
  exact ⟨by simp [exB], Ext.refl w⟩
theorem netV (w : World) : ResV w (.slice none 0 0) (.slice none 0 0) exNet := ⟨⟨by decide, by decide⟩, ⟨⟨none, 0, rfl, Nat.le_refl _, by decide, .inl rfl⟩, by decide, fun x hx => (by cases hx)⟩, ⟨⟨none, 0, rfl, Nat.le_refl _, by decide, .inl rfl⟩, by decide, fun x hx => (by cases hx)⟩⟩
/-- A row of resources that was just made. -/
theorem ressV_made {w : World} {b : Nat} {cs : Array Value} {t : TypeId} {fz : Nat × Nat} (h : w.heap[b]? = some (.cells cs t fz)) {l : List Resd} {n : Nat} (hn : l.length = n) (h20 : n ≤ 20) (hc : ∀ (i : Nat) x, l[i]? = some x → cs[i * 4]? = some (.string x.id.kind) ∧ cs[i * 4 + 1]? = some (.string x.id.name) ∧ ∃ c2 c3, cs[i * 4 + 2]? = some c2 ∧ cs[i * 4 + 3]? = some c3 ∧ ResV w c2 c3 x) : RessV w (.slice (some ⟨b, 0, none⟩) n n) l := by
  subst hn
  refine ⟨⟨some ⟨b, 0, none⟩, l.length, rfl, Nat.le_refl _, by omega, .inr ⟨b, 0, rfl, ?_⟩⟩, by omega⟩
  intro i x hx
  obtain ⟨h0, h1, c2, c3, h2, h3, h4⟩ := hc i x hx
  have key : ∀ j, w.cell? ⟨b, 0 + j, none⟩ = cs[j]? := fun j => by rw [Nat.zero_add]; simp [World.cell?, h]
  refine ⟨?_, ?_, c2, c3, ?_, ?_, h4⟩
  · rw [key]; exact h0
  · rw [Nat.add_assoc, key]; exact h1
  · rw [Nat.add_assoc, key]; exact h2
  · rw [Nat.add_assoc, key]; exact h3
theorem ex_print : printS [exNet] = ⟨#[114, 101, 115, 111, 117, 114, 99, 101, 32, 110, 101, 116, 32, 98, 32, 123, 10, 125, 10]⟩ ∧ printE [exNet] = 0 := by
  have hm : mayAllB [exNet] = true := by decide
  unfold printS printE
  rw [hm]
  exact ⟨rfl, rfl⟩

set_option maxRecDepth 100000 in
set_option maxHeartbeats 1600000 in
theorem readsP (w : World) (ht : TabP w) :
    Calls Tryz.prog 4 #[] w fun e w' => e = .returned (.bool true) ∧ Ext w w' := by
  have hex := hide (exampleP w)
  replace ht := hide ht
  go_enter Tryz.func4, Tryz.ntmps4
  go_wp2_with fail
  refine hex.out.mono ?_
  rintro e1 w1 ⟨rfl, he1⟩
  replace he1 := hide he1
  go_wp2_with fail
  refine (parseP ⟨exB.toArray⟩ w1).mono ?_
  rintro e2 w2 ⟨v2, ps, rfl, hx2, hr2, -, he2⟩
  have hxe : Hid (parseS (⟨exB.toArray⟩ : ByteArray).data.toList = ([exNet, exVm], (0, 0))) := ex_parse
  rw [hxe.out] at hx2 ⊢
  dsimp only at hx2 ⊢
  have hps : ps.length = 2 := by have := congrArg List.length hx2.out; rw [List.length_map] at this; exact this
  have hv2 := hide (hr2.out.ressV (by omega))
  rw [hx2.out] at hv2
  obtain ⟨pa2, ca2, hv2e, -⟩ := hv2.out.shape
  subst hv2e
  replace hps := hide hps
  go_wp2_with fail
  refine (netP _).mono ?_
  rintro e3 w3 ⟨rfl, he3⟩
  replace he3 := hide he3
  go_wp2_with fail
  refine (vmP _).mono ?_
  rintro e4 w4 ⟨p2, p3, rfl, hv4, he4⟩
  go_wp2_with fail
  have H5 := heap_alloc_new w4 (.cells #[.string ⟨#[110, 101, 116]⟩, .string ⟨#[98]⟩, .slice none 0 0, .slice none 0 0, .string ⟨#[118, 109]⟩, .string ⟨#[97]⟩, .slice (some ⟨p2, 0, none⟩) 2 2, .slice (some ⟨p3, 0, none⟩) 1 1] 29)
  have hE5 := (Ext.refl w4).alloc (.cells #[.string ⟨#[110, 101, 116]⟩, .string ⟨#[98]⟩, .slice none 0 0, .slice none 0 0, .string ⟨#[118, 109]⟩, .string ⟨#[97]⟩, .slice (some ⟨p2, 0, none⟩) 2 2, .slice (some ⟨p3, 0, none⟩) 1 1] 29)
  have hv5 := hide (ressV_made H5 (l := [exNet, exVm]) (n := 2) rfl (by decide) (fun i x hx => by
    have hi := (List.getElem?_eq_some_iff.1 hx).1
    have : i = 0 ∨ i = 1 := by simp at hi; omega
    rcases this with rfl | rfl
    · simp at hx; subst hx
      exact ⟨rfl, rfl, .slice none 0 0, .slice none 0 0, rfl, rfl, netV _⟩
    · simp at hx; subst hx
      exact ⟨rfl, rfl, .slice (some ⟨p2, 0, none⟩) 2 2, .slice (some ⟨p3, 0, none⟩) 1 1, rfl, rfl, hv4.out.ext hE5⟩))
  have hu5 := hide (((hv2.out.ext he3.out).ext he4.out).ext hE5)
  replace H5 := hide H5; replace hE5 := hide hE5
  refine (sameRess _ _ [exNet, exVm] _ hu5.out hv5.out).mono ?_
  rintro e6 w6 ⟨rfl, he6⟩
  replace he6 := hide he6
  go_wp2_with fail
  refine (netP _).mono ?_
  rintro e7 w7 ⟨rfl, he7⟩
  have H8 := heap_alloc_new w7 (.cells #[.string ⟨#[110, 101, 116]⟩, .string ⟨#[98]⟩, .slice none 0 0, .slice none 0 0] 29)
  have hE8 := (Ext.refl w7).alloc (.cells #[.string ⟨#[110, 101, 116]⟩, .string ⟨#[98]⟩, .slice none 0 0, .slice none 0 0] 29)
  have hv8 := hide (ressV_made H8 (l := [exNet]) (n := 1) rfl (by decide) (fun i x hx => by
    have hi := (List.getElem?_eq_some_iff.1 hx).1
    have : i = 0 := by simp at hi; omega
    subst this
    simp at hx; subst hx
    exact ⟨rfl, rfl, .slice none 0 0, .slice none 0 0, rfl, rfl, netV _⟩))
  have X7 := hide ((((((he1.out.trans he2.out).trans he3.out).trans he4.out).trans hE5.out).trans he6.out).trans he7)
  have ht8 := hide (ht.out.ext (X7.out.trans hE8))
  replace H8 := hide H8; replace hE8 := hide hE8
  clear he7
  go_wp2_with fail
  refine (print _ [exNet] _ hv8.out ht8.out).mono ?_
  rintro e9 w9 ⟨rfl, he9⟩
  replace he9 := hide he9
  rw [ex_print.1, ex_print.2]
  have hcv := conv_one w9 10 (by omega) (by omega)
  have hcv2 := conv_one (w9.alloc (.cells #[.int .u8 10] 5)) 10 (by omega) (by omega)
  rw [show (w9.alloc (.cells #[.int .u8 10] 5)).heap.size = w9.heap.size + 1 by simp] at hcv2
  go_wp2_with fail
  have hcmp : (([114, 101, 115, 111, 117, 114, 99, 101, 32, 110, 101, 116, 32, 98, 32, 123, 10, 125, 10] : List UInt8) == ((⟨#[114, 101, 115, 111, 117, 114, 99, 101, 32, 110, 101, 116, 32, 98, 32, 123]⟩ : ByteArray) ++ ⟨#[10]⟩ ++ ⟨#[125]⟩ ++ ⟨#[10]⟩).toList) = true := by
    rw [ba_app2, ba_app2, ba_app2, ByteArray.toList_eq]; decide
  go_ret
  refine ⟨retB hcmp, ?_⟩
  exact ((((X7.out.trans hE8.out).trans he9.out).alloc _).alloc _)
end Go.Proofs.YtfmcgdglalljgaaGreatDoor
