/-
  The table E: what a key that is put into it leaves.
-/
/-
  How many keys a table of keys has.
-/
/-
  Resources that are whole: what the program's functions answer.
-/
import Derived.Test.YtfnbbohbicffpaaGreatDoorJ17
import Derived.Test.YtfnbbohbicffpaaGreatDoorJ18
import Derived.Test.YtfnbbohbicffpaaGreatDoorJ21
import Derived.Test.YtfnbbohbicffpaaGreatDoorJ10
import Derived.Test.YtfnbbohbicffpaaGreatDoorJ4
namespace Go.Proofs.YtfnbbohbicffpaaGreatDoor
open Go.RowKit

attribute [local go_sem] Go.World.cell?_alloc_some
/-- Only rows and tables from B on have turned. -/
abbrev WroteTE (B : Nat) (w w' : World) : Prop := Wrote B (fun t => t = 132 ∨ t = 120) w w'
/-- What a key put into a table leaves. -/
def PutIsE (B : Nat) (w : World) (t : Nat) (rs : List RowE) (x : RowE) (e : Ending) (w' : World) : Prop :=
  ∃ (i : Nat) (pa : Option Addr) (cap n : Nat), e = .returned (.tuple #[]) ∧ Hid (StandsG cmpI RowE.key rs x.key i) ∧ Hid (TabAtE B w' t (.slice pa n cap) (insG rs i x)) ∧ Hid (WroteTE B w w')

set_option maxRecDepth 100000 in
set_option maxHeartbeats 3200000 in
theorem tabPutE (B : Nat) (u : Value) (rs : List RowE) (a : IDd) (v : Nat) (t : Nat) (w : World) (ht : TabAtE B w t u rs) (ha : ¬ HasK RowE.key rs a) (hB : B ≤ w.heap.size) (hfew : rs.length + 1 ≤ 1000000) :
    Calls Tryz.prog 107 #[.pointer (some ⟨t, 0, none⟩), .agg #[.string a.kind, .string a.name], .pointer (some ⟨v, 0, none⟩)] w (PutIsE B w t rs ⟨a, v⟩) := by
  obtain ⟨pa, cap, rfl⟩ := ownsRow_form ht.rows
  have XP := hide ((Ext.refl w).alloc (.cells #[.string a.kind, .string a.name] 33))
  have ht3 := hide (ht.ext XP.out)
  have hf := hide (tabFindE B _ rs a t _ ht3.out)
  replace ht := hide ht
  go_enter Tryz.func107, Tryz.ntmps107
  go_wp2_with fail
  refine hf.out.mono ?_
  rintro e w1 ⟨i, b, rfl, hi, hs1, hs2, hs3, he1⟩
  obtain rfl : b = false := by
    cases b
    · rfl
    · exact absurd (hs2.out.1 rfl) ha
  have hk1 := ht3.out.ext he1.out
  have c1 := tabE_c1 hk1.at_
  have f1 := row_frozen hk1.at_
  have k4 := ext_heap he1.out (heap_alloc_new w _)
  have b00 := block_cell' k4 0
  have b01 := block_cell' k4 1
  simp only [List.getElem?_toArray, List.getElem?_cons_zero, List.getElem?_cons_succ] at b00 b01
  replace k4 := hide k4
  have hin := hide (insRowE B _ rs ⟨a, v⟩ i w1.heap.size (w1.drew.alloc (.cells #[.string a.kind, .string a.name, .pointer (some ⟨v, 0, none⟩)] 132)) ((hk1.ext ((Ext.refl w1).drew.alloc _)).rows) (by have := Ext.size XP.out; have := Ext.size he1.out; simp at *; omega) hi (by omega) (heap_alloc_new w1.drew _) (by
    intro e
    rcases hk1.rows.2 with ⟨h, _⟩ | ⟨g, c, cur, h, _, hg, _⟩
    · rw [h] at e; simp [Value.ownBlock] at e
    · rw [h] at e; simp [Value.ownBlock] at e
      have := (Array.getElem?_eq_some_iff.1 hg).1
      omega))
  replace hk1 := hide hk1
  go_wp2_with fail
  go_region_with (go_at_call 121; refine hin.out.mono ?_; rintro e w2 ⟨pa2, cap2, n2, rfl, hn2, hK2, hW2⟩; go_must (have ht2 := Wrote.keeps (hW2.out) (ext_heap ((Ext.refl w1).drew.alloc _) hk1.out.at_) (by decide); have f2 := row_frozen ht2; have d1 := tabE_c1 ht2; replace ht2 := hide ht2))
  all_goals go_wp2
  all_goals
    refine ⟨rfl, .tuple #[], by simp [results, Tryz.results107], ?_⟩
    have hup := ht.out.up
    refine ⟨i, pa2, cap2, n2, rfl, hs1, ⟨tabE_set ht2.out _, ownsRow_set hK2.out ht2.out (by decide) _, hup.insert ordI hs1.out ha, by rw [insG_len hi]; exact hfew, ht.out.base⟩, ?_⟩
    refine Wrote.setCell (p := ⟨t, 1, none⟩) ?_ ht.out.base ht2.out (.inr rfl) _
    exact (((Wrote.ext XP.out).then he1.out).then ((Ext.refl w1).drew.alloc _)).trans (hW2.out.mono (Nat.le_refl _) fun _ h => .inl h)
end Go.Proofs.YtfnbbohbicffpaaGreatDoor

namespace Go.Proofs.YtfnbbohbicffpaaGreatDoor
open Go.RowKit

set_option maxRecDepth 100000 in
set_option maxHeartbeats 800000 in
theorem tabLen (B : Nat) (v : Value) (ks : List IDd) (t : Nat) (w : World) (ht : TabAt B w t v ks) :
    Calls Tryz.prog 138 #[.pointer (some ⟨t, 0, none⟩)] w fun e w' => e = .returned (.int .i64 ks.length) ∧ w' = w := by
  obtain ⟨pa, cap, rfl⟩ := ownsRow_form ht.keys
  have c1 := two_c1 ht.at_
  replace ht := hide ht
  go_enter Tryz.func138, Tryz.ntmps138
  go_wp2
  go_ret
  exact ⟨rfl, rfl⟩
end Go.Proofs.YtfnbbohbicffpaaGreatDoor

namespace Go.Proofs.YtfnbbohbicffpaaGreatDoor
open Go.RowKit

set_option maxRecDepth 100000 in
set_option maxHeartbeats 800000 in
theorem waitsForItself (v : Value) (l : List Resd) (a : IDd) (w : World) (hv : RessV w v l) (hU : (allAfter l).length ≤ 1000) :
    Calls Tryz.prog 43 #[v, .agg #[.string a.kind, .string a.name]] w (CircIs w l a) := by
  have X1 := hide ((Ext.refl w).alloc (.cells #[.string a.kind, .string a.name] 33))
  have hh := hide (waits v l a w.heap.size (w.alloc (.cells #[.string a.kind, .string a.name] 33)) (hv.ext X1.out) (by simp [go_sem]) (by simp [go_sem]) hU)
  obtain ⟨a1, c1, rfl, -, -, -⟩ := hv.shape
  clear hv
  go_enter Tryz.func43, Tryz.ntmps43
  go_wp2_with fail
  refine hh.out.mono ?_
  rintro e w1 ⟨b, rfl, hb, he1⟩
  go_wp2_with fail
  go_ret
  exact ⟨b, rfl, hb, X1.out.trans he1.out⟩

end Go.Proofs.YtfnbbohbicffpaaGreatDoor
