/-
  A change of names is done to a table of files.
-/
import Derived.Test.YtpkhmgonkbpjjaaFilF
namespace Go.Proofs.Ytpkhmgonkbpjjaa
open Go.RowKit

attribute [local go_sem] Go.World.cell?_alloc_some
/-- What a change leaves. -/
def DoIsF (B : Nat) (u : Value) (w : World) (t : Nat) (l : List RowF) (e : Ending) (w' : World) : Prop :=
  ∃ (rs' : List RowF) (pa : Option Addr) (cap n : Nat), e = .returned (.tuple #[]) ∧ Hid (rs'.Perm l) ∧ Hid (TabAtF B w' t (.slice pa n cap) rs') ∧ Hid (Kept (fun k => k = t ∨ u.ownBlock = some k) w w' ∧ ∀ g, (Value.slice pa n cap).ownBlock = some g → u.ownBlock = some g ∨ w.heap.size ≤ g)
theorem three_at {w : World} {k : Nat} {a b c : Value} {t : TypeId} {fz : Nat × Nat} (hk : w.heap[k]? = some (.cells #[a, b, c] t fz)) :
    w.cell? ⟨k, 0, none⟩ = some a ∧ w.cell? ⟨k, 1, none⟩ = some b ∧ w.cell? ⟨k, 2, none⟩ = some c := by
  refine ⟨?_, ?_, ?_⟩ <;> simp [World.cell?, hk]

set_option maxRecDepth 100000 in
set_option maxHeartbeats 800000 in
theorem doNone (B : Nat) (u : Value) (rs : List RowF) (gone name : ByteArray) (t : Nat) (w : World) (ht : TabAtF B w t u rs) :
    Calls Try.prog 81 #[.agg #[.string gone, .string name, .pointer none], .pointer (some ⟨t, 0, none⟩)] w (DoIsF B u w t (dropK RowF.key gone rs)) := by
  have X0 := (Ext.refl w).alloc (.cells #[.string gone, .string name, .pointer none] 147)
  have bx := heap_alloc_new w (.cells #[.string gone, .string name, .pointer none] 147)
  have ht0 := hide (ht.ext X0)
  have hlt := ht.lt
  replace ht := hide ht; replace X0 := hide X0; replace bx := hide bx; replace hlt := hide hlt
  go_enter Try.func81, Try.ntmps81
  go_wp2_with fail
  refine (tabTakeF B u rs gone t _ ht0.out).mono ?_
  rintro e w1 ⟨p, b, rs', pa, cap, n, rfl, h1, h2, h3⟩
  have bx1 := h3.out.1.heap bx.out (fun h => h.elim (fun h => by have := hlt.out.1; omega) (fun h => by have := hlt.out.2 _ h; omega))
  obtain ⟨q0, q1, q2⟩ := three_at bx1
  replace bx1 := hide bx1
  go_wp2_with fail
  refine ⟨rfl, .tuple #[], by simp [results, Try.results81], rs', pa, cap, n, rfl, h1, h2, (X0.out.kept _).trans h3.out.1 (fun _ _ h => h), fun g hg => (h3.out.2 g hg).imp id fun h => Nat.le_trans (Ext.size X0.out) h⟩

set_option maxRecDepth 100000 in
set_option maxHeartbeats 800000 in
theorem doSome (B : Nat) (u : Value) (rs : List RowF) (gone name : ByteArray) (v : Nat) (t : Nat) (w : World) (ht : TabAtF B w t u rs) (hB : B ≤ w.heap.size) (hfew : rs.length + 1 ≤ 2000000000000) :
    Calls Try.prog 81 #[.agg #[.string gone, .string name, .pointer (some ⟨v, 0, none⟩)], .pointer (some ⟨t, 0, none⟩)] w (DoIsF B u w t (dropK RowF.key name (dropK RowF.key gone rs) ++ [⟨name, v⟩])) := by
  have X0 := (Ext.refl w).alloc (.cells #[.string gone, .string name, .pointer (some ⟨v, 0, none⟩)] 147)
  have bx := heap_alloc_new w (.cells #[.string gone, .string name, .pointer (some ⟨v, 0, none⟩)] 147)
  have ht0 := hide (ht.ext X0)
  have hlt := ht.lt
  replace ht := hide ht; replace X0 := hide X0; replace bx := hide bx; replace hlt := hide hlt
  go_enter Try.func81, Try.ntmps81
  go_wp2_with fail
  refine (tabTakeF B u rs gone t _ ht0.out).mono ?_
  rintro e w1 ⟨p, b, rs', pa, cap, n, rfl, h1, h2, h3⟩
  have bx1 := h3.out.1.heap bx.out (fun h => h.elim (fun h => by have := hlt.out.1; omega) (fun h => by have := hlt.out.2 _ h; omega))
  obtain ⟨q0, q1, q2⟩ := three_at bx1
  have hle : rs'.length ≤ rs.length := by rw [h1.out.length_eq]; exact (dropK_sub gone rs).length_le
  replace bx1 := hide bx1; replace hle := hide hle
  go_wp2_with fail
  refine (tabPutF B _ rs' name v t _ h2.out (Nat.le_trans hB (Nat.le_trans (Ext.size X0.out) h3.out.1.size)) (by have := hle.out; omega)).mono ?_
  rintro e w2 ⟨rs2, pa2, cap2, n2, rfl, k1, k2, k3⟩
  go_wp2_with fail
  refine ⟨rfl, .tuple #[], by simp [results, Try.results81], rs2, pa2, cap2, n2, rfl, ?_, k2, ?_, fun g hg => ?_⟩
  · exact k1.out.trans ((dropK_perm h1.out).append_right _)
  · have K1 := (X0.out.kept _).trans h3.out.1 (fun _ _ h => h)
    refine K1.trans k3.out.1 (fun k hk h => ?_)
    rcases h with h | h
    · exact .inl h
    · rcases h3.out.2 k h with h' | h'
      · exact .inr h'
      · have := Ext.size X0.out; omega
  · rcases k3.out.2 g hg with h | h
    · exact (h3.out.2 g h).imp id fun h' => Nat.le_trans (Ext.size X0.out) h'
    · exact .inr (Nat.le_trans (Ext.size X0.out) (Nat.le_trans h3.out.1.size h))

/-- A name's row. -/
def rowN (fs : List Nat) (x : NmS) : RowF := ⟨x.1, fs.getD x.2 0⟩
/-- What a change is made of, in memory. -/
def chgC (fs : List Nat) : ChgS → ByteArray × ByteArray × Option Addr
  | .wr n f => (n, n, some ⟨fs.getD f 0, 0, none⟩)
  | .rn a b f => (a, b, some ⟨fs.getD f 0, 0, none⟩)
  | .rm a => (a, ⟨#[]⟩, none)
theorem dropK_rowN (fs : List Nat) (a : ByteArray) (l : List NmS) : dropK RowF.key a (l.map (rowN fs)) = (dropN a l).map (rowN fs) := dropK_map (rowN fs) (fun _ => rfl) a l
theorem doP (B : Nat) (u : Value) (rs : List RowF) (fs : List Nat) (l : List NmS) (c : ChgS) (t : Nat) (w : World) (ht : TabAtF B w t u rs) (hB : B ≤ w.heap.size) (hfew : rs.length + 1 ≤ 2000000000000) (hp : rs.Perm (l.map (rowN fs))) :
    Calls Try.prog 81 #[.agg #[.string (chgC fs c).1, .string (chgC fs c).2.1, .pointer (chgC fs c).2.2], .pointer (some ⟨t, 0, none⟩)] w (DoIsF B u w t ((stepN l c).map (rowN fs))) := by
  cases c with
  | wr n f =>
    refine (doSome B u rs n n (fs.getD f 0) t w ht hB hfew).mono ?_
    rintro e w1 ⟨rs', pa, cap, m, rfl, h1, h2, h3⟩
    refine ⟨rs', pa, cap, m, rfl, ?_, h2, h3⟩
    show List.Perm _ _
    rw [stepN, List.map_append, ← dropK_rowN]
    refine h1.out.trans ?_
    rw [dropK_self (dropK_gone n rs)]
    exact (dropK_perm hp).append_right _
  | rn a b f =>
    refine (doSome B u rs a b (fs.getD f 0) t w ht hB hfew).mono ?_
    rintro e w1 ⟨rs', pa, cap, m, rfl, h1, h2, h3⟩
    refine ⟨rs', pa, cap, m, rfl, ?_, h2, h3⟩
    show List.Perm _ _
    rw [stepN, List.map_append, ← dropK_rowN, ← dropK_rowN]
    exact h1.out.trans ((dropK_perm (dropK_perm hp)).append_right _)
  | rm a =>
    refine (doNone B u rs a ⟨#[]⟩ t w ht).mono ?_
    rintro e w1 ⟨rs', pa, cap, m, rfl, h1, h2, h3⟩
    refine ⟨rs', pa, cap, m, rfl, ?_, h2, h3⟩
    show List.Perm _ _
    rw [stepN, ← dropK_rowN]
    exact h1.out.trans (dropK_perm hp)
end Go.Proofs.Ytpkhmgonkbpjjaa
