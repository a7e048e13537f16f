/-
  Lists of IDs and Attrs: what the functions that look through them answer.
-/
import Derived.Test.YtjebmabffocobaaDoorCmp
import Derived.Test.YtjebmabffocobaaDoorMem
namespace Go.Proofs.YtjebmabffocobaaDoor
open Go.RowKit

set_option maxRecDepth 100000 in
set_option maxHeartbeats 800000 in
theorem isID (x : IDd) (w : World) (hok : okI x) :
    Calls Tryd.prog 28 #[.agg #[.string x.kind, .string x.name]] w fun e w' => e = .returned (.bool (idB x)) ∧ Ext w w' := by
  obtain ⟨h1, h2⟩ := hok
  cases hk : wordB x.kind.data.toList
  · have H := hide (show idB x = false by simp [idB, hk])
    go_enter Tryd.func28, Tryd.ntmps28
    go_wp2_with fail
    refine (isWord _ _ (by omega)).mono ?_
    rintro e w1 ⟨rfl, he⟩
    replace he := hide he
    go_wp2_with fail
    go_ret
    exact ⟨retB (by rw [unhide H]), ((Ext.refl _).alloc _).trans he.out⟩
  · have H := hide (show idB x = wordB x.name.data.toList by simp [idB, hk])
    go_enter Tryd.func28, Tryd.ntmps28
    go_wp2_with fail
    refine (isWord _ _ (by omega)).mono ?_
    rintro e w1 ⟨rfl, he⟩
    have c1 : w1.cell? ⟨w.heap.size, 1, none⟩ = some (.string x.name) := he.cells (by simp [go_sem])
    replace he := hide he
    go_wp2_with fail
    refine (isWord _ _ (by omega)).mono ?_
    rintro e w2 ⟨rfl, he2⟩
    replace he2 := hide he2
    go_wp2_with fail
    go_ret
    exact ⟨retB (by rw [unhide H]), (((Ext.refl _).alloc _).trans he.out).trans he2.out⟩

set_option maxRecDepth 100000 in
set_option maxHeartbeats 800000 in
theorem everyID (v : Value) (l : List IDd) (w : World) (hv : IDsV w v l) :
    Calls Tryd.prog 33 #[v, .func (.func 28) #[] #[]] w fun e w' => e = .returned (.bool (l.all idB)) ∧ Ext w w' := by
  obtain ⟨⟨a, cap, rfl, hcap, hmax, hs⟩, hfew, hok⟩ := hv
  go_enter Tryd.func33, Tryd.ntmps33
  go_wp2
  go_loopw [9] (fun i wr => ∃ k : Nat, k ≤ l.length ∧ i = .int .i64 k ∧ Hid ((l.take k).all idB = true) ∧ Ext w wr) (fun i _ => l.length - (intOf i).toNat)
  case atStart => exact ⟨0, Nat.zero_le _, rfl, by simp [Hid], Ext.refl _⟩
  case round =>
    obtain ⟨k, hk, rfl, hall, he⟩ := hrel
    by_cases hlt : k < l.length
    · rcases hs with rfl | ⟨b, off, rfl, hin⟩
      · simp at hlt
      obtain ⟨x, hx⟩ := some_of_lt hlt
      obtain ⟨g0, g1⟩ := (hin.ext he) k x hx
      have hokx := hide (hok x (List.mem_of_getElem? hx))
      have Hs := hide (all_succ (p := idB) hx hall.out)
      have Hf := hide (all_no (p := idB) hx)
      replace hin := hide hin; replace hok := hide hok
      replace he := hide he
      replace hx := hide hx
      go_wp2_with fail
      refine (isID x _ hokx.out).mono ?_
      rintro e w1 ⟨rfl, he1⟩
      replace he1 := hide he1
      cases hb : idB x
      · go_wp2_with fail
        go_ret
        exact ⟨retB (unhide Hf hb).symm, (he.out.alloc _).trans he1.out⟩
      · go_wp2_with fail
        go_roundw
        case rel => exact ⟨k + 1, by omega, by go_num, by rw [unhide Hs]; exact hb, (he.out.alloc _).trans he1.out⟩
        case measure => simp [intOf]; omega
    · have Hl := hide (show l.take k = l from List.take_of_length_le (by omega))
      replace he := hide he
      replace hs := hide hs; replace hok := hide hok
      go_wp2
      go_ret
      exact ⟨retB (by rw [unhide Hl] at hall; exact hall.out.symm), he.out⟩
end Go.Proofs.YtjebmabffocobaaDoor
