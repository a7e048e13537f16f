/-
  Rows of our own of whose frozen stretch nothing lies within them: those that a conversion has made too.
-/
import Derived.Test.YtmgpjbhhlbjahaaBytes
import Derived.Test.YtmgpjbhhlbjahaaWrote
import Derived.Test.YtmgpjbhhlbjahaaRows2
import Derived.ArgAppend
import Derived.Lib.AppendStr
namespace Go.Proofs.Ytmgpjbhhlbjahaa
open Go.RowKit

/-- A row of our own; what is frozen of it lies behind its end. -/
def OwnX (w : World) (base : Nat) (e : TypeId) (size : Nat) (v : Value) (n : Nat) (xs : List Value) : Prop :=
  xs.length = n * size ∧ ((v = .slice none 0 0 ∧ n = 0) ∨ ∃ (g cap : Nat) (cur : Array Value) (fz : Nat × Nat), v = .slice (some ⟨g, 0, none⟩) n cap ∧ base ≤ g ∧ w.heap[g]? = some (.cells cur e fz) ∧ (fz.2 = 0 ∨ cur.size ≤ fz.1) ∧ n ≤ cap ∧ cap ≤ maxLen ∧ cur.size = cap * size ∧ cur.toList.take (n * size) = xs)
theorem ownX_of {w : World} {base : Nat} {e : TypeId} {size : Nat} {v : Value} {n : Nat} {xs : List Value} (h : w.ownsRow base e size v n xs) : OwnX w base e size v n xs := by
  refine ⟨h.1, ?_⟩
  rcases h.2 with h | ⟨g, cap, cur, h1, h2, h3, h4⟩
  · exact .inl h
  · exact .inr ⟨g, cap, cur, (0, 0), h1, h2, h3, .inl rfl, h4⟩
theorem OwnX.form {w : World} {base : Nat} {e : TypeId} {size : Nat} {v : Value} {n : Nat} {xs : List Value} (h : OwnX w base e size v n xs) : ∃ pa cap, v = .slice pa n cap := by
  rcases h.2 with ⟨rfl, rfl⟩ | ⟨g, cap, cur, fz, rfl, _⟩
  · exact ⟨none, 0, rfl⟩
  · exact ⟨_, cap, rfl⟩
theorem OwnX.wrote {w w' : World} {B : Nat} {T : TypeId → Prop} {base : Nat} {e : TypeId} {size : Nat} {v : Value} {n : Nat} {xs : List Value} (h : OwnX w base e size v n xs) (k : Wrote B T w w') (ht : ¬ T e) : OwnX w' base e size v n xs := by
  refine ⟨h.1, ?_⟩
  rcases h.2 with h | ⟨g, cap, cur, fz, h1, h2, h3, h4⟩
  · exact .inl h
  · exact .inr ⟨g, cap, cur, fz, h1, h2, k.keeps h3 ht, h4⟩
theorem OwnX.ext {w w' : World} {base : Nat} {e : TypeId} {size : Nat} {v : Value} {n : Nat} {xs : List Value} (h : OwnX w base e size v n xs) (k : Ext w w') : OwnX w' base e size v n xs :=
  h.wrote (Wrote.ext (B := 0) (T := fun _ => False) k) id
theorem OwnX.cells {w : World} {base : Nat} {e : TypeId} {size : Nat} {v : Value} {n : Nat} {xs : List Value} (h : OwnX w base e size v n xs) {g : Nat} (hg : v.ownBlock = some g) : ∀ j u, xs[j]? = some u → w.cell? ((⟨g, 0, none⟩ : Addr).add j) = some u := by
  intro j u hu
  rcases h.2 with ⟨rfl, _⟩ | ⟨g', cap, cur, fz, rfl, _, hgg, _, _, _, _, htake⟩
  · simp [Value.ownBlock] at hg
  · simp [Value.ownBlock] at hg
    subst hg
    rw [add_eq, Nat.zero_add]
    rw [← htake, List.getElem?_take] at hu
    split at hu
    · simp only [World.cell?, hgg]; simpa using hu
    · cases hu
theorem setCells_row (g : Nat) (t : TypeId) (fz : Nat × Nat) : ∀ (vs : List Value) (o : Nat) (cur : Array Value) (w : World), w.heap[g]? = some (.cells cur t fz) → o + vs.length ≤ cur.size → (w.setCells g o vs).heap[g]? = some (.cells (cur.toList.take o ++ vs ++ cur.toList.drop (o + vs.length)).toArray t fz)
  | [], o, cur, w, h, _ => by simpa [World.setCells] using h
  | v :: vs, o, cur, w, h, hl => by
    have h2 : (w.setCell ⟨g, o, none⟩ v).heap[g]? = some (.cells (cur.setIfInBounds o v) t fz) := by simp [World.setCell, Array.getElem?_modify, h]
    have ih := setCells_row g t fz vs (o + 1) (cur.setIfInBounds o v) _ h2 (by simp at hl ⊢; omega)
    show ((w.setCell ⟨g, o, none⟩ v).setCells g (o + 1) vs).heap[g]? = _
    rw [ih]
    simp only [Array.toList_setIfInBounds]
    have hlt : o < cur.toList.length := by simp at hl ⊢; omega
    congr 3
    have e1 : (List.take o cur.toList ++ [cur.toList[o]]).set o v = List.take o cur.toList ++ [v] := by
      have h3 : (List.take o cur.toList).length = o := by rw [List.length_take]; omega
      rw [List.set_append]
      simp [h3]
    rw [List.take_set, List.drop_set_of_lt (by omega), List.take_succ_eq_append_getElem hlt, e1]
    simp
    congr 1; omega
theorem setCells_kept (g : Nat) : ∀ (vs : List Value) (o : Nat) (w : World), Kept (· = g) w (w.setCells g o vs)
  | [], _, w => Kept.refl _ w
  | v :: vs, o, w => (kept_setCell w ⟨g, o, none⟩ v).trans (setCells_kept g vs (o + 1) _) fun _ _ h => h
theorem OwnX.room {w : World} {base : Nat} {e : TypeId} {size n m g cap : Nat} {xs news : List Value} {cur : Array Value} {fz : Nat × Nat} (hx : xs.length = n * size) (hb : base ≤ g) (hg : w.heap[g]? = some (.cells cur e fz)) (hf : fz.2 = 0 ∨ cur.size ≤ fz.1) (hcm : cap ≤ maxLen) (hcs : cur.size = cap * size) (ht : cur.toList.take (n * size) = xs) (hl : news.length = m * size) (hroom : n + m ≤ cap) :
    OwnX (w.setCells g (n * size) news) base e size (.slice (some ⟨g, 0, none⟩) (n + m) cap) (n + m) (xs ++ news) := by
  have hfit : n * size + news.length ≤ cur.size := by rw [hl, hcs, ← Nat.add_mul]; exact Nat.mul_le_mul_right _ hroom
  have hlen : (xs ++ news).length = (n + m) * size := by rw [List.length_append, hx, hl, Nat.add_mul]
  refine ⟨hlen, .inr ⟨g, cap, _, fz, rfl, hb, setCells_row g e fz news _ cur w hg hfit, ?_, hroom, hcm, ?_, ?_⟩⟩
  · refine hf.imp id fun h => ?_
    simp; omega
  · simp; omega
  · simp only [List.append_assoc]
    rw [ht, ← List.append_assoc, ← hlen]; exact List.take_left
/-- What []byte(s) gives. -/
theorem ownX_bytes (w : World) (e : TypeId) (s : ByteArray) (hs : s.size ≤ maxLen) : OwnX (Lib.bytesWorld w e s) w.heap.size e 1 (.slice (some ⟨w.heap.size, 0, none⟩) s.size (grownCap w s.size 0 e)) s.size (cellsB s.data.toList) := by
  have hge := grownCap_ge w s.size 0 e
  have hl : s.data.toList.length = s.size := Array.length_toList
  have hsz : (Lib.bytesCells w e s).size = grownCap w s.size 0 e * 1 := by
    have : s.data.size = s.size := rfl
    simp [Lib.bytesCells]; omega
  refine ⟨by rw [cellsB_length, hl, Nat.mul_one], .inr ⟨w.heap.size, _, _, _, rfl, Nat.le_refl _, Lib.bytesWorld_at_new w e s, .inr (Nat.le_refl _), hge, grownCap_le_maxLen w s.size 0 e hs, hsz, ?_⟩⟩
  have : s.data.size = s.size := rfl
  simp only [Lib.bytesCells, Array.toList_append, Array.toList_map]
  rw [List.take_left' (by simp)]
  simp [cellsB]
theorem OwnX.conv {w : World} {B g n cap : Nat} {l : List UInt8} (hn : l.length = n) (h : OwnX w B 5 1 (.slice (some ⟨g, 0, none⟩) n cap) n (cellsB l)) :
    (convert 53 9 (.slice (some ⟨g, 0, none⟩) n cap)).run Try.prog w = .ok (.string ⟨l.toArray⟩) w := by
  refine conv_bytes w g 0 n cap l hn fun j hj => ?_
  have := h.cells (g := g) rfl j (.int .u8 ((l[j]?.getD 0).toNat : Int)) (by simp [cellsB, hj])
  rw [add_eq] at this
  exact this
theorem Wrote.grownX {B : Nat} {T : TypeId → Prop} {w w1 w2 : World} {e : TypeId} {size : Nat} {v : Value} {n : Nat} {xs : List Value} (h : Wrote B T w w1) (hown : OwnX w1 B e size v n xs) (ht : T e) (hg : w1.grownBy w2 v.ownBlock) : Wrote B T w w2 := by
  refine h.trans ⟨hg.os, hg.tape, hg.output, hg.size, fun k hk hd => hg.block k hk ?_⟩
  rintro hv
  rcases hown.2 with ⟨rfl, _⟩ | ⟨g, cap, cur, fz, rfl, hb, hh, _⟩
  · simp [Value.ownBlock] at hv
  · simp [Value.ownBlock] at hv
    subst hv
    rcases hd with hd | hd
    · omega
    · exact hd _ _ _ hh ht
end Go.Proofs.Ytmgpjbhhlbjahaa
