/-
  The program's Print: what it answers.
-/
import Derived.Test.YtjebmabffocobaaDoorLens
import Derived.Test.YtjebmabffocobaaDoorMays2
namespace Go.Proofs.YtjebmabffocobaaDoor
open Go.RowKit

set_option maxRecDepth 100000 in
set_option maxHeartbeats 1600000 in
theorem print (v : Value) (l : List Resd) (w : World) (hv : RessV w v l) (ht : TabP w) :
    Calls Tryd.prog 5 #[v] w fun e w' => e = .returned (.tuple #[.string (printS l), .int .i64 (printE l)]) ∧ Ext w w' := by
  have hv0 := hide hv
  obtain ⟨⟨a, cap, rfl, hcap, hmax, hs⟩, hfew⟩ := hv
  replace ht := hide ht
  cases hm : mayAllB l
  · have H1 : Hid (printS l = ⟨#[]⟩) := by unfold printS; rw [hm]; rfl
    have H2 : Hid (printE l = 11) := by unfold printE; rw [hm]; rfl
    clear hs
    go_enter Tryd.func5, Tryd.ntmps5
    go_wp2_with fail
    refine (allMayBe _ l _ hv0.out).mono ?_
    rintro e w1 ⟨rfl, he1⟩
    replace he1 := hide he1
    go_wp2
    go_ret2
    exact ⟨by rw [unhide H1, unhide H2]; rfl, he1.out⟩
  · obtain ⟨h12, hall⟩ := may_each hm
    have H1 : Hid (printS l = ⟨(printL l).toArray⟩) := by unfold printS; rw [hm]; rfl
    have H2 : Hid (printE l = 0) := by unfold printE; rw [hm]; rfl
    replace hall := hide hall
    go_enter Tryd.func5, Tryd.ntmps5
    go_wp2_with fail
    refine (allMayBe _ l _ hv0.out).mono ?_
    rintro e w1 ⟨rfl, he1⟩
    replace he1 := hide he1
    have hst := hide (Blds.start w1)
    go_wp2_with fail
    go_loopw [12] (fun i wr => ∃ (k : Nat) (ac : List UInt8), k ≤ l.length ∧ i = .int .i64 k ∧ ac.length ≤ 1500 * k ∧ Hid (ac = printL (l.take k)) ∧ Blds w1 ac wr) (fun i _ => l.length - (intOf i).toNat)
    case atStart => exact ⟨0, [], Nat.zero_le _, rfl, by simp, rfl, hst.out⟩
    case round =>
      obtain ⟨k, ac, hk, rfl, hal, hac, hbl⟩ := hrel
      by_cases hlt : k < l.length
      · rcases hs with rfl | ⟨b, off, rfl, hin⟩
        · simp at hlt
        obtain ⟨x, hx⟩ := some_of_lt hlt
        have hin1 := hin.ext he1.out
        obtain ⟨g0, g1, c2, c3, g2, g3, hres⟩ := (hin1.ext hbl.ext) k x hx
        obtain ⟨_, _, d2, d3, k2, k3, hres1⟩ := hin1 k x hx
        obtain ⟨rfl, rfl⟩ : d2 = c2 ∧ d3 = c3 := by
          have e2 := hbl.ext.cells k2; have e3 := hbl.ext.cells k3
          rw [g2] at e2; rw [g3] at e3
          exact ⟨(Option.some.inj e2).symm, (Option.some.inj e3).symm⟩
        have hres0 := hide hres1
        obtain ⟨a2, p2, rfl⟩ := hres.attrs.form
        obtain ⟨a3, p3, rfl⟩ := hres.after.form
        have hsm := hide (small_of_may (hall.out x (List.mem_of_getElem? hx)))
        have hrl := res_len hsm.out
        have Hp := hide (print_take hx)
        clear hres hres1 k2 k3 hin1
        replace hin := hide hin; replace hx := hide hx; replace hbl := hide hbl
        go_wp2_with fail
        refine (printRes w1 ac _ _ x _ (hbl.out.go ((Ext.refl _).alloc _)) hres0.out (ht.out.ext he1.out) hsm.out (by omega)).mono ?_
        rintro e w2 ⟨rfl, hb2⟩
        replace hb2 := hide hb2
        go_wp2
        go_roundw
        case rel => exact ⟨k + 1, ac ++ resL x, by omega, by go_num, by rw [List.length_append]; omega, by rw [unhide Hp, hac.out]; rfl, hb2.out⟩
        case measure => simp [intOf]; omega
      · have Hl : Hid (ac = printL l) := by rw [hac.out, List.take_of_length_le (by omega)]; rfl
        replace hbl := hide hbl; replace hs := hide hs
        go_wp2_with fail
        refine (told hbl.out).mono ?_
        rintro e w2 ⟨rfl, he2⟩
        replace he2 := hide he2
        go_wp2
        go_ret2
        exact ⟨by rw [unhide H1, unhide H2, unhide Hl]; rfl, he1.out.trans he2.out⟩
end Go.Proofs.YtjebmabffocobaaDoor
