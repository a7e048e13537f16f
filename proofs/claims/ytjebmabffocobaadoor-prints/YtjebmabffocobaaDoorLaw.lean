/-
  The law Prints: it answers true.
-/
import Derived.Test.YtjebmabffocobaaDoorUnspoilt
import Derived.Test.YtjebmabffocobaaDoorPrint
import Derived.Test.YtjebmabffocobaaDoorRefPrint
namespace Go.Proofs.YtjebmabffocobaaDoor
open Go.RowKit

set_option maxRecDepth 100000 in
set_option maxHeartbeats 3200000 in
theorem printsLaw (v : Value) (l : List Resd) (w : World) (hv : RessV w v l) (hl : l.length ≤ 1759218604390) (hok : ∀ x ∈ l, okR x) (ht : TabP w) :
    Calls Tryd.prog 3 #[v] w fun e w' => e = .returned (.bool true) ∧ Ext w w' := by
  have hv0 := hide hv
  obtain ⟨⟨a, cap, rfl, hcap, hmax, hs⟩, hfew⟩ := hv
  replace hs := hide hs; replace hok := hide hok; replace ht := hide ht
  go_enter Tryd.func3, Tryd.ntmps3
  go_wp2_with fail
  refine (lend _ l _ hv0.out hl hok.out).mono ?_
  rintro e w1 ⟨he1, ps, O, L, va, vf, hpl, rfl, hL⟩
  have hps : ps.length = l.length := by rw [← hpl, List.length_map]
  have o0 : w1.cell? ⟨O, 0, none⟩ = some (.slice (some ⟨L, 0, none⟩) (l.length + 8) (l.length + 8)) := (block_cell' hL.o 0).trans rfl
  have rv := hL.ress hps hl
  rw [hpl] at rv
  have i1 : (l.length : Int) ≤ (l.length : Int) + 8 := by omega
  replace hL := hide hL; replace he1 := hide he1; replace hpl := hide hpl; replace hps := hide hps; replace rv := hide rv
  go_wp2_with fail
  refine (print _ l _ rv.out (ht.out.ext he1.out)).mono ?_
  rintro e w2 ⟨rfl, he2⟩
  have X2 : Ext w1 w2 := he2
  replace X2 := hide X2
  clear o0 he2
  go_wp2_with fail
  refine (refPrint _ l _ (hv0.out.ext (he1.out.trans X2.out))).mono ?_
  rintro e w3 ⟨rfl, he3⟩
  replace he3 := hide he3
  go_wp2_with fail
  refine (unspoilt w.heap.size _ l ps O L va vf _ (hv0.out.ext ((he1.out.trans X2.out).trans he3.out)) hl hok.out hpl.out (hL.out.ext (X2.out.trans he3.out))).mono ?_
  rintro e w4 ⟨rfl, he4⟩
  replace he4 := hide he4
  go_wp2
  go_ret
  exact ⟨rfl, Ext.since ((he1.out.trans X2.out).trans he3.out) he4.out (fun _ h => h)⟩
end Go.Proofs.YtjebmabffocobaaDoor
