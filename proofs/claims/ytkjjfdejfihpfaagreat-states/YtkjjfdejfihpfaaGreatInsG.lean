/-
  Rows that are put into their places: what is the same for all tables.
-/
import Derived.Test.YtkjjfdejfihpfaaGreatJ10
import Derived.Test.YtkjjfdejfihpfaaGreatJ2
import Derived.Test.YtkjjfdejfihpfaaGreatJ8
import Derived.Shelf.Spec.SlicesInsertGrow
namespace Go.Proofs.YtkjjfdejfihpfaaGreat
open Go.RowKit

/-- copy into a row of our own, from a place on. -/
theorem run_copy_into {P : Program} (w : World) (dT sT ty elem : TypeId) (g o dLen dCap : Nat) (a : Addr) (sLen sCap sz : Nat) (cur : Array Value) (t : TypeId) (cs : List Value)
    (hu : P.underlying dT = some (.slice elem)) (hs : (P.info? elem).map (·.size) = some sz)
    (hg : w.heap[g]? = some (.cells cur t (0, 0))) (hn : cs.length = Nat.min sLen dLen * sz)
    (hsrc : ∀ j v, cs[j]? = some v → w.cell? (a.add j) = some v) (hfit : o + cs.length ≤ cur.size) (h1 : ∀ v ∈ cs, v.oneCell' = true) :
    (Builtin.copy_ #[dT, sT] ty #[.slice (some ⟨g, o, none⟩) dLen dCap, .slice (some a) sLen sCap]).run P w =
      .ok (goInt (Nat.min sLen dLen)) (w.setRow g (cur.toList.take o ++ cs ++ cur.toList.drop (o + cs.length)).toArray) := by
  have hl := run_loadCells_list (P := P) w a cs hsrc
  have hst := run_storeCells_at P g o t cs 0 cur w hg (by simpa using hfit) h1
  simp only [Nat.add_zero] at hst
  cases hq : P.info? elem with
  | none => simp [hq] at hs
  | some i =>
    have hi : i.size = sz := by simpa [hq] using hs
    simp [Builtin.copy_, run_underlying hu, Builtin.lenOf, Builtin.firstCells, sizeOf, typeInfo, hq, hi, ← hn, hl, hst]

theorem ins_rowsG {α : Type} (C vs : List α) (k m z : Nat) (hk : k ≤ m) (hm : m + z ≤ C.length) (hv : vs.length = z) :
    (((C.take (k + z) ++ (C.take m).drop k ++ C.drop (k + z + ((C.take m).drop k).length)).take k ++ vs ++ (C.take (k + z) ++ (C.take m).drop k ++ C.drop (k + z + ((C.take m).drop k).length)).drop (k + z)).take (m + z)) = (C.take m).take k ++ vs ++ (C.take m).drop k := by
  have e1 : (C.take (k + z) ++ (C.take m).drop k ++ C.drop (k + z + ((C.take m).drop k).length)).take k = (C.take m).take k := by
    rw [List.append_assoc, List.take_append_of_le_length (by simp; omega), List.take_take, List.take_take]
    congr 1; omega
  have e2 : (C.take (k + z) ++ (C.take m).drop k ++ C.drop (k + z + ((C.take m).drop k).length)).drop (k + z) = (C.take m).drop k ++ C.drop (k + z + ((C.take m).drop k).length) := by
    rw [List.append_assoc, List.drop_left' (by simp; omega)]
  rw [e1, e2, ← List.append_assoc]
  rw [List.take_left' (by simp; omega)]
theorem arr_appG (l : List Value) (A B : Array Value) : l.toArray ++ A ++ B = (l ++ (A ++ B).toList).toArray := by apply Array.toList_inj.1; simp
theorem grow_rowsG {α : Type} (xs vs Z : List α) (k m z : Nat) (hk : k ≤ m) (hx : xs.length = m) (hv : vs.length = z) :
    ((((xs.take k ++ Z).take k ++ vs ++ (xs.take k ++ Z).drop (k + z)).take (k + z) ++ xs.drop k ++ ((xs.take k ++ Z).take k ++ vs ++ (xs.take k ++ Z).drop (k + z)).drop (k + z + (xs.drop k).length)).take (m + z)) = xs.take k ++ vs ++ xs.drop k := by
  have e1 : (xs.take k ++ Z).take k = xs.take k := List.take_left' (by simp; omega)
  rw [e1]
  have e2 : (xs.take k ++ vs ++ (xs.take k ++ Z).drop (k + z)).take (k + z) = xs.take k ++ vs := List.take_left' (by simp; omega)
  rw [e2]
  exact List.take_left' (by simp; omega)
theorem Wrote.keptG {g B : Nat} {T : TypeId → Prop} {w w' : World} {c : Array Value} {t : TypeId} {fz : Nat × Nat} (h : Kept (· = g) w w') (hg : w.heap[g]? = some (.cells c t fz)) (ht : T t) (hb : B ≤ g) : Wrote B T w w' :=
  ⟨h.os, h.tape, h.output, h.size, fun k hk hd => h.block k hk (fun e => by
    subst e
    rcases hd with hd | hd
    · omega
    · exact hd _ _ _ hg ht)⟩
end Go.Proofs.YtkjjfdejfihpfaaGreat
