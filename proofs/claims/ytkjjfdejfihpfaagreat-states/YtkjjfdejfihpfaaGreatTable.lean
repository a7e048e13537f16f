/-
  The table of keys: what its methods answer.
-/
import Derived.Test.YtkjjfdejfihpfaaGreatJ14
namespace Go.Proofs.YtkjjfdejfihpfaaGreat
open Go.RowKit

/-- A table of keys lies in memory. -/
structure TabAt (B : Nat) (w : World) (t : Nat) (v : Value) (ks : List IDd) : Prop where
  at_ : w.heap[t]? = some (.cells #[.func (.func 76) #[] #[], v] 151 (0, 0))
  keys : KeysV B w v ks
  up : Up ks
  few : ks.length ≤ 1000000
  base : B ≤ t
theorem two_c0 {w : World} {k : Nat} {a b : Value} {t : TypeId} {fz : Nat × Nat} (hk : w.heap[k]? = some (.cells #[a, b] t fz)) : w.cell? ⟨k, 0, none⟩ = some a := by simp [World.cell?, hk]
theorem two_c1 {w : World} {k : Nat} {a b : Value} {t : TypeId} {fz : Nat × Nat} (hk : w.heap[k]? = some (.cells #[a, b] t fz)) : w.cell? ⟨k, 1, none⟩ = some b := by simp [World.cell?, hk]
theorem TabAt.ext {B : Nat} {w w' : World} {t : Nat} {v : Value} {ks : List IDd} (h : TabAt B w t v ks) (e : Ext w w') : TabAt B w' t v ks :=
  ⟨ext_heap e h.at_, ownsRow_wrote h.keys (Wrote.ext (B := 0) (T := fun _ => False) e) id rfl, h.up, h.few, h.base⟩

set_option maxRecDepth 100000 in
set_option maxHeartbeats 800000 in
theorem tabFind (B : Nat) (v : Value) (ks : List IDd) (a : IDd) (t : Nat) (w : World) (ht : TabAt B w t v ks) :
    Calls Tryz.prog 91 #[.pointer (some ⟨t, 0, none⟩), .agg #[.string a.kind, .string a.name]] w (SrcIs w ks a) := by
  obtain ⟨pa, cap, rfl⟩ := ownsRow_form ht.keys
  have hw : t < w.heap.size := (Array.getElem?_eq_some_iff.1 ht.at_).1
  have X2 := hide (((Ext.refl w).alloc (.cells #[.pointer (some ⟨t, 0, none⟩)] 140)).alloc (.cells #[.string a.kind, .string a.name] 37))
  have ht2 := hide (ht.ext X2.out.drew)
  have c1 := X2.out.cells (two_c1 ht.at_)
  have c0 := hide (X2.out.drew.cells (two_c0 ht.at_))
  replace ht := hide ht
  go_enter Tryz.func91, Tryz.ntmps91
  go_wp2_with fail
  go_region_held3 (fun w' => w'.cell? ⟨w.heap.size, 0, none⟩ = some (.pointer (some ⟨t, 0, none⟩)) ∧ w'.cell? ⟨t, 1, none⟩ = some (.slice pa ks.length cap) ∧ w'.cell? ⟨w.heap.size + 1, 0, none⟩ = some (.string a.kind) ∧ w'.cell? ⟨w.heap.size + 1, 1, none⟩ = some (.string a.name)) (go_keep)
    ((go_at_call 100; refine (search B _ ks a w.heap.size t _ ht2.out.keys ht2.out.up ht2.out.few (by simp [go_sem]) c0.out).mono ?_; rintro e w1 ⟨i, b, rfl, hi, hs1, hs2, hs3, he1⟩; go_must (have q0 := he1.out.cells (p := ⟨w.heap.size, 0, none⟩) (v := .pointer (some ⟨t, 0, none⟩)) (by simp [go_sem]); have q1 := he1.out.cells (p := ⟨t, 1, none⟩) (v := .slice pa ks.length cap) (by simp [c1]); have q2 := he1.out.cells (p := ⟨w.heap.size + 1, 0, none⟩) (v := .string a.kind) (by simp [go_sem]); have q3 := he1.out.cells (p := ⟨w.heap.size + 1, 1, none⟩) (v := .string a.name) (by simp [go_sem]))))
  go_wp2
  go_ret2
  exact ⟨i, b, rfl, hi, hs1, hs2, hs3, X2.out.drew.trans he1.out⟩

set_option maxRecDepth 100000 in
set_option maxHeartbeats 800000 in
theorem tabHas (B : Nat) (v : Value) (ks : List IDd) (a : IDd) (t : Nat) (w : World) (ht : TabAt B w t v ks) :
    Calls Tryz.prog 80 #[.pointer (some ⟨t, 0, none⟩), .agg #[.string a.kind, .string a.name]] w fun e w' => ∃ b : Bool, e = .returned (.bool b) ∧ Hid (b = true ↔ a ∈ ks) ∧ Hid (Ext w w') := by
  have hf := hide (tabFind B v ks a t _ (ht.ext ((Ext.refl w).alloc (.cells #[.string a.kind, .string a.name] 37))))
  replace ht := hide ht
  go_enter Tryz.func80, Tryz.ntmps80
  go_wp2_with fail
  refine hf.out.mono ?_
  rintro e w1 ⟨i, b, rfl, hi, hs1, hs2, hs3, he1⟩
  go_wp2
  go_ret
  exact ⟨b, rfl, hs2, ((Ext.refl w).alloc _).trans he1.out⟩

attribute [local go_sem] Go.World.cell?_alloc_some
theorem two_set1 {w : World} {k : Nat} {a b : Value} {t : TypeId} {fz : Nat × Nat} (hk : w.heap[k]? = some (.cells #[a, b] t fz)) (v : Value) : (w.setCell ⟨k, 1, none⟩ v).heap[k]? = some (.cells #[a, v] t fz) := by
  simp [World.setCell, Array.getElem?_modify, hk]
/-- Only rows of keys and tables from B on have turned. -/
abbrev WroteT (B : Nat) (w w' : World) : Prop := Wrote B (fun t => t = 157 ∨ t = 151) w w'
/-- What a key put into a table leaves. -/
def PutIs (B : Nat) (w : World) (t : Nat) (ks : List IDd) (a : IDd) (e : Ending) (w' : World) : Prop :=
  ∃ (i : Nat) (pa : Option Addr) (cap n : Nat), e = .returned (.tuple #[]) ∧ Hid (Stands ks a i) ∧ Hid (TabAt B w' t (.slice pa n cap) (insL ks i a)) ∧ Hid (WroteT B w w')

set_option maxRecDepth 100000 in
set_option maxHeartbeats 1600000 in
theorem tabPut (B : Nat) (v : Value) (ks : List IDd) (a : IDd) (t : Nat) (w : World) (ht : TabAt B w t v ks) (ha : a ∉ ks) (hB : B ≤ w.heap.size) (hfew : ks.length + 1 ≤ 1000000) :
    Calls Tryz.prog 81 #[.pointer (some ⟨t, 0, none⟩), .agg #[.string a.kind, .string a.name], .agg #[]] w (PutIs B w t ks a) := by
  obtain ⟨pa, cap, rfl⟩ := ownsRow_form ht.keys
  have ht3 := hide (ht.ext (((Ext.refl w).alloc (.cells #[.string a.kind, .string a.name] 37)).alloc (.cells #[] 142)))
  have hf := hide (tabFind B _ ks a t _ ht3.out)
  replace ht := hide ht
  go_enter Tryz.func81, Tryz.ntmps81
  go_wp2_with fail
  refine hf.out.mono ?_
  rintro e w1 ⟨i, b, rfl, hi, hs1, hs2, hs3, he1⟩
  obtain rfl : b = false := by
    cases b
    · rfl
    · exact absurd (hs2.out.1 rfl) ha
  have hk1 := ht3.out.ext he1.out
  have c1 := two_c1 hk1.at_
  have f1 := row_frozen hk1.at_
  have k4 := ext_heap he1.out (ext_heap ((Ext.refl _).alloc _) (heap_alloc_new w _))
  have b0 := two_c0 k4
  have b1 := two_c1 k4
  have hin := hide (insKey B _ ks a i w1.heap.size (w1.drew.alloc (.cells #[.string a.kind, .string a.name] 157)) ((hk1.ext ((Ext.refl w1).drew.alloc _)).keys) (by have := Ext.size he1.out; simp at this ⊢; omega) hi (by omega) (heap_alloc_new w1.drew _) (by
    intro e
    rcases hk1.keys.2 with ⟨h, _⟩ | ⟨g, c, cur, h, _, hg, _⟩
    · rw [h] at e; simp [Value.ownBlock] at e
    · rw [h] at e; simp [Value.ownBlock] at e
      have := (Array.getElem?_eq_some_iff.1 hg).1
      omega))
  have hz0 : ∀ cs : Array Value, Array.foldl (fun (cs : Array Value) (x : Value × Nat) => cs.setIfInBounds (2 + x.snd) x.fst) cs (#[] : Array Value).zipIdx 0 0 = cs := fun cs => rfl
  replace hk1 := hide hk1; replace k4 := hide k4
  go_wp2_with fail
  go_region_with (go_at_call 92; refine hin.out.mono ?_; rintro e w2 ⟨pa2, cap2, n2, rfl, hn2, hK2, hW2⟩; go_must (have ht2 := Wrote.keeps (hW2.out) (ext_heap ((Ext.refl w1).drew.alloc _) hk1.out.at_) (by decide); have f2 := row_frozen ht2; have d1 := two_c1 ht2; replace ht2 := hide ht2))
  all_goals go_wp2
  all_goals
    refine ⟨rfl, .tuple #[], by simp [results, Tryz.results81], ?_⟩
    have hup := ht.out.up
    refine ⟨i, pa2, cap2, n2, rfl, hs1, ⟨two_set1 ht2.out _, ownsRow_set hK2.out ht2.out (by decide) _, hup.insert hs1.out ha, by rw [ins_len hi]; exact hfew, ht.out.base⟩, ?_⟩
    refine Wrote.setCell (p := ⟨t, 1, none⟩) ?_ ht.out.base ht2.out (.inr rfl) _
    exact (((Wrote.ext (((Ext.refl w).alloc _).alloc _)).then he1.out).then ((Ext.refl w1).drew.alloc _)).trans (hW2.out.mono (Nat.le_refl _) fun _ h => .inl h)

set_option maxRecDepth 100000 in
set_option maxHeartbeats 800000 in
theorem tabNew (w : World) :
    Calls Tryz.prog 78 #[.func (.func 76) #[] #[]] w fun e w' => e = .returned (.pointer (some ⟨w.heap.size, 0, none⟩)) ∧ Hid (TabAt w.heap.size w' w.heap.size (.slice none 0 0) []) ∧ Hid (Ext w w') := by
  go_enter Tryz.func78, Tryz.ntmps78
  go_wp2
  go_ret
  exact ⟨rfl, ⟨heap_alloc_new _ _, World.ownsRow_nil _ _ _ _, List.Pairwise.nil, Nat.zero_le _, Nat.le_refl _⟩, (Ext.refl w).alloc _⟩
end Go.Proofs.YtkjjfdejfihpfaaGreat
