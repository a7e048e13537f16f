/-
  The book: what putting the lists of a resource into it does.
-/
import Derived.Test.YtkjjfdejfihpfaaGreatBookI
namespace Go.Proofs.YtkjjfdejfihpfaaGreat
open Go.RowKit

def TurnR (c2 c3 va vi : Value) (O : Nat) (b : Nat) : Prop := some b = c2.ownBlock ∨ some b = c3.ownBlock ∨ some b = va.ownBlock ∨ some b = vi.ownBlock ∨ b = O
def OwnedR (B O : Nat) (w : World) (va vi vn vr vs vc : Value) (ea ei : List (Value × Nat)) (c2 c3 : Value) (e : Ending) (w' : World) : Prop :=
  ∃ (va' vi' : Value) (en em : List (Value × Nat)), e = .returned (.tuple #[]) ∧ Hid (BkAt B w' O va' vi' vn vr vs vc (ea ++ en) (ei ++ em)) ∧ en.length = 4 ∧ em.length = 4 ∧ Hid (∀ x ∈ en, MarkG 42 4 mkA w' x) ∧ Hid (∀ x ∈ em, MarkG 37 2 mkI w' x) ∧ Hid (∀ x ∈ en, ∀ g, x.1.ownBlock = some g → c2.ownBlock = some g ∨ w.heap.size ≤ g) ∧ Hid (∀ x ∈ em, ∀ g, x.1.ownBlock = some g → c3.ownBlock = some g ∨ w.heap.size ≤ g) ∧ Hid (Kept (TurnR c2 c3 va vi O) w w') ∧ Hid (∀ g, va'.ownBlock = some g → va.ownBlock = some g ∨ w.heap.size ≤ g) ∧ Hid (∀ g, vi'.ownBlock = some g → vi.ownBlock = some g ∨ w.heap.size ≤ g)

theorem OwnR.extB {B : Nat} {w w' : World} {c2 c3 : Value} {x : Resd} (h : OwnR B w c2 c3 x) (e : Ext w w') : OwnR B w' c2 c3 x :=
  ⟨h.f2, h.f3, ownsRow_keep h.attrs (e.kept (fun _ => False)) (fun _ _ _ => id), ownsRow_keep h.after (e.kept (fun _ => False)) (fun _ _ _ => id)⟩
theorem res_notA {B O : Nat} {w : World} {va vi vn vr vs vc l : Value} {ea ei : List (Value × Nat)} {n k : Nat} {xs : List Value} {c : Array Value} (hb : BkAt B w O va vi vn vr vs vc ea ei) (hl : w.ownsRow B 42 4 l n xs) (hk : w.heap[k]? = some (.cells c 40 (0, 0))) : ¬ TurnA l va O k := by
  rintro (h | h | h)
  · exact ownsRow_ne hl hk (by decide) h
  · exact ownsRow_ne hb.a hk (by decide) h
  · exact tag_ne hk hb.o (by decide) h
theorem res_notI {B O : Nat} {w : World} {va vi vn vr vs vc l : Value} {ea ei : List (Value × Nat)} {n k : Nat} {xs : List Value} {c : Array Value} (hb : BkAt B w O va vi vn vr vs vc ea ei) (hl : w.ownsRow B 37 2 l n xs) (hk : w.heap[k]? = some (.cells c 40 (0, 0))) : ¬ TurnA l vi O k := by
  rintro (h | h | h)
  · exact ownsRow_ne hl hk (by decide) h
  · exact ownsRow_ne hb.i hk (by decide) h
  · exact tag_ne hk hb.o (by decide) h

theorem id_notA {B O : Nat} {w : World} {va vi vn vr vs vc l : Value} {ea ei : List (Value × Nat)} {n k : Nat} {xs : List Value} {c : Array Value} (hb : BkAt B w O va vi vn vr vs vc ea ei) (hl : w.ownsRow B 42 4 l n xs) (hk : w.heap[k]? = some (.cells c 37 (0, 0))) : ¬ TurnA l va O k := by
  rintro (h | h | h)
  · exact ownsRow_ne hl hk (by decide) h
  · exact ownsRow_ne hb.a hk (by decide) h
  · exact tag_ne hk hb.o (by decide) h
theorem at_notI {B O : Nat} {w : World} {va vi vn vr vs vc l : Value} {ea ei : List (Value × Nat)} {n k : Nat} {xs : List Value} {c : Array Value} (hb : BkAt B w O va vi vn vr vs vc ea ei) (hl : w.ownsRow B 37 2 l n xs) (hk : w.heap[k]? = some (.cells c 42 (0, 0))) : ¬ TurnA l vi O k := by
  rintro (h | h | h)
  · exact ownsRow_ne hl hk (by decide) h
  · exact ownsRow_ne hb.i hk (by decide) h
  · exact tag_ne hk hb.o (by decide) h
theorem Ext.keptT {D : Nat → Prop} {a b c : World} (h : Ext a b) (g : Kept D b c) : Kept D a c := (h.kept (fun _ => False)).trans' g

set_option maxRecDepth 100000 in
set_option maxHeartbeats 3200000 in
theorem ownResource (B O : Nat) (w : World) (va vi vn vr vs vc : Value) (ea ei : List (Value × Nat)) (c2 c3 : Value) (x : Resd) (hb : BkAt B w O va vi vn vr vs vc ea ei) (hB : B ≤ w.heap.size) (hx : OwnR B w c2 c3 x) (h2 : x.attrs.length ≤ 1000) (h3 : x.after.length ≤ 1000) (he : ea.length ≤ 3000000) (hf : ei.length ≤ 3000000) :
    Calls Tryz.prog 50 #[.pointer (some ⟨O, 0, none⟩), .agg #[.string x.id.kind, .string x.id.name, c2, c3]] w (OwnedR B O w va vi vn vr vs vc ea ei c2 c3) := by
  obtain ⟨a2, p2, rfl⟩ := hx.f2
  obtain ⟨a3, p3, rfl⟩ := hx.f3
  replace hb := hide hb; replace hx := hide hx
  go_enter Tryz.func50, Tryz.ntmps50
  go_wp2_with fail
  have X0 : Ext w (w.alloc (.cells #[.string x.id.kind, .string x.id.name, .slice a2 x.attrs.length p2, .slice a3 x.after.length p3] 40)).drew := ((Ext.refl w).alloc _).drew
  have hb0 := hide (hb.out.ext X0)
  have hx0 := hide (hx.out.extB X0)
  have hlO : O < w.heap.size := (Array.getElem?_eq_some_iff.1 hb.out.o).1
  have hR0 : (w.alloc (.cells #[.string x.id.kind, .string x.id.name, .slice a2 x.attrs.length p2, .slice a3 x.after.length p3] 40)).drew.heap[w.heap.size]? = some (.cells #[.string x.id.kind, .string x.id.name, .slice a2 x.attrs.length p2, .slice a3 x.after.length p3] 40 (0, 0)) := heap_alloc_new w _
  have hB0 : B ≤ (w.alloc (.cells #[.string x.id.kind, .string x.id.name, .slice a2 x.attrs.length p2, .slice a3 x.after.length p3] 40)).drew.heap.size := Nat.le_trans hB X0.size
  replace X0 := hide X0; replace hR0 := hide hR0; replace hB0 := hide hB0
  go_region_held3 (fun w' => w'.cell? ⟨w.heap.size, 2, none⟩ = some (.slice a2 x.attrs.length p2)) (go_keep)
    ((go_at_call 68; refine (ownAttrs B O _ va vi vn vr vs vc ea ei _ _ _ hb0.out hB0.out hx0.out.attrs h2 he).mono ?_; rintro e w1 ⟨va1, en, rfl, hb1, hen, hm1, hl1, hk1, hq1⟩; go_must (have hR1 := hk1.out.heap hR0.out (res_notA hb0.out hx0.out.attrs hR0.out); obtain ⟨q0, q1, q2, q3⟩ := four_cells hR1; replace hR1 := hide hR1)))
  have hf1 := hide (ownsRow_keep hx0.out.after hk1.out (fun g c hg => id_notA hb0.out hx0.out.attrs hg))
  have X1 : Ext w1 w1.drew := (Ext.refl w1).drew
  have hb1' := hide (hb1.out.ext X1)
  have hf1' := hide (ownsRow_keep hf1.out (X1.kept (fun _ => False)) (fun _ _ _ => id))
  have hR1' : w1.drew.heap[w.heap.size]? = some (.cells #[.string x.id.kind, .string x.id.name, .slice a2 x.attrs.length p2, .slice a3 x.after.length p3] 40 (0, 0)) := ext_heap X1 hR1.out
  have hB1 : B ≤ w1.drew.heap.size := Nat.le_trans (Nat.le_trans hB0.out hk1.out.size) X1.size
  rename_i hHeld
  clear hHeld q0 q1 q2
  replace hB1 := hide hB1; replace hR1' := hide hR1'; replace X1 := hide X1
  go_wp2_with fail
  go_region_held3 (fun w' => w'.cell? ⟨w.heap.size, 3, none⟩ = some (.slice a3 x.after.length p3)) (go_keep)
    ((go_at_call 69; refine (ownIds B O _ vi va1 vn vr vs vc ei (ea ++ en) _ _ _ hb1'.out hB1.out hf1'.out h3 hf).mono ?_; rintro e w2 ⟨vi2, em, rfl, hb2, hem, hm2, hl2, hk2, hq2⟩; go_must (have hR2 := hk2.out.heap hR1'.out (res_notI hb1'.out hf1'.out hR1'.out); clear q3; obtain ⟨q0, q1, q2, q3⟩ := four_cells hR2; replace hR2 := hide hR2)))
  go_wp2_with fail
  refine ⟨rfl, .tuple #[], by simp [results, Tryz.results50], ?_⟩
  have K2 : Kept (TurnA (.slice a3 x.after.length p3) vi O) w1 w2 := X1.out.keptT hk2.out
  have hsz1 : w.heap.size ≤ w1.drew.heap.size := Nat.le_trans (Nat.le_trans X0.out.size hk1.out.size) X1.out.size
  refine ⟨va1, vi2, en, em, rfl, hb2, hen, hem, fun y hy => (hm1.out y hy).kept (fun g c _ hg => K2.heap hg (at_notI hb1.out hf1.out hg)), hm2, fun y hy g hg => (hl1.out y hy g hg).imp id (Nat.le_trans X0.out.size), fun y hy g hg => (hl2.out y hy g hg).imp id (Nat.le_trans hsz1), ?_, fun g hg => (hq1.out g hg).imp id (Nat.le_trans X0.out.size), fun g hg => (hq2.out g hg).imp id (Nat.le_trans hsz1)⟩
  refine ((X0.out.kept (fun _ => False)).trans' (hk1.out.mono (D' := TurnR (.slice a2 x.attrs.length p2) (.slice a3 x.after.length p3) va vi O) ?_)).trans K2 ?_
  · rintro b _ (h | h | h)
    · exact .inl h
    · exact .inr (.inr (.inl h))
    · exact .inr (.inr (.inr (.inr h)))
  · rintro b _ (h | h | h)
    · exact .inr (.inl h)
    · exact .inr (.inr (.inr (.inl h)))
    · exact .inr (.inr (.inr (.inr h)))
theorem own_row {w : World} {B : Nat} {T : TypeId} {sz : Nat} {v : Value} {n g : Nat} {xs : List Value} (h : w.ownsRow B T sz v n xs) (hg : v.ownBlock = some g) : ∃ c, w.heap[g]? = some (.cells c T (0, 0)) := by
  rcases h.2 with ⟨rfl, _⟩ | ⟨g', cap, cur, rfl, _, hh, _⟩
  · simp [Value.ownBlock] at hg
  · obtain rfl : g' = g := by simpa [Value.ownBlock] using hg
    exact ⟨cur, hh⟩
theorem rec_notR {B O : Nat} {w : World} {va vi vn vr vs vc c2 c3 : Value} {ea ei : List (Value × Nat)} {x : Resd} {k : Nat} {c : Array Value} (hb : BkAt B w O va vi vn vr vs vc ea ei) (hx : OwnR B w c2 c3 x) (hk : w.heap[k]? = some (.cells c 108 (0, 0))) : ¬ TurnR c2 c3 va vi O k := by
  rintro (h | h | h | h | h)
  · exact ownsRow_ne hx.attrs hk (by decide) h
  · exact ownsRow_ne hx.after hk (by decide) h
  · exact ownsRow_ne hb.a hk (by decide) h
  · exact ownsRow_ne hb.i hk (by decide) h
  · exact tag_ne hk hb.o (by decide) h
theorem at_notR {B O : Nat} {w : World} {va vi vn vr vs vc c2 c3 : Value} {ea ei : List (Value × Nat)} {x : Resd} {k : Nat} {c : Array Value} (hb : BkAt B w O va vi vn vr vs vc ea ei) (hx : OwnR B w c2 c3 x) (hk : w.heap[k]? = some (.cells c 42 (0, 0))) (hn : c2.ownBlock = some k → False) : ¬ TurnR c2 c3 va vi O k := by
  rintro (h | h | h | h | h)
  · exact hn h.symm
  · exact ownsRow_ne hx.after hk (by decide) h
  · exact ownsRow_ne hb.a hk (by decide) h
  · exact ownsRow_ne hb.i hk (by decide) h
  · exact tag_ne hk hb.o (by decide) h
theorem id_notR {B O : Nat} {w : World} {va vi vn vr vs vc c2 c3 : Value} {ea ei : List (Value × Nat)} {x : Resd} {k : Nat} {c : Array Value} (hb : BkAt B w O va vi vn vr vs vc ea ei) (hx : OwnR B w c2 c3 x) (hk : w.heap[k]? = some (.cells c 37 (0, 0))) (hn : c3.ownBlock = some k → False) : ¬ TurnR c2 c3 va vi O k := by
  rintro (h | h | h | h | h)
  · exact ownsRow_ne hx.attrs hk (by decide) h
  · exact hn h.symm
  · exact ownsRow_ne hb.a hk (by decide) h
  · exact ownsRow_ne hb.i hk (by decide) h
  · exact tag_ne hk hb.o (by decide) h
theorem turn_low {B O : Nat} {w : World} {va vi vn vr vs vc c2 c3 : Value} {ea ei : List (Value × Nat)} {x : Resd} {k : Nat} (hb : BkAt B w O va vi vn vr vs vc ea ei) (hx : OwnR B w c2 c3 x) (h : TurnR c2 c3 va vi O k) : B ≤ k := by
  rcases h with h | h | h | h | h
  · exact (hx.attrs.lt k h.symm).1
  · exact (hx.after.lt k h.symm).1
  · exact (hb.a.lt k h.symm).1
  · exact (hb.i.lt k h.symm).1
  · subst h; exact hb.low
end Go.Proofs.YtkjjfdejfihpfaaGreat
