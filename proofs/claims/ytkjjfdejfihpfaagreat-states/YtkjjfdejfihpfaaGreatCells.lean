/-
  Cells of IDs, Attrs and resources; rows that are kept.
-/
import Derived.Test.YtkjjfdejfihpfaaGreatRows2
import Derived.Test.YtkjjfdejfihpfaaGreatJ4
import Derived.Test.YtkjjfdejfihpfaaGreatJ7
namespace Go.Proofs.YtkjjfdejfihpfaaGreat
open Go.RowKit

def cA (x : Attrd) : List Value := [.string x.name, .bool x.isText, .string x.text, .int .i64 x.number]
def cI (x : IDd) : List Value := [.string x.kind, .string x.name]
def cellsA (l : List Attrd) : List Value := l.flatMap cA
def cellsI (l : List IDd) : List Value := l.flatMap cI
def markA : Attrd := ⟨⟨#[]⟩, false, ⟨#[]⟩, -77⟩
def markI : IDd := ⟨⟨#[98, 101, 121, 111, 110, 100]⟩, ⟨#[]⟩⟩
def markR : Resd := ⟨⟨textD 77, ⟨#[]⟩⟩, [], []⟩

theorem flat_get {α β : Type} {f : α → List β} {n : Nat} (hf : ∀ x, (f x).length = n) : ∀ {l : List α} {i : Nat} {x : α} {r : Nat}, l[i]? = some x → r < n → (l.flatMap f)[i * n + r]? = (f x)[r]?
  | [], _, _, _, h, _ => by simp at h
  | y :: l, 0, x, r, h, hr => by
    simp at h; subst h
    rw [List.flatMap_cons, Nat.zero_mul, Nat.zero_add, List.getElem?_append_left (by rw [hf]; exact hr)]
  | y :: l, i + 1, x, r, h, hr => by
    have ih := flat_get hf (l := l) (i := i) (x := x) (r := r) (by simpa using h) hr
    rw [List.flatMap_cons, List.getElem?_append_right (by rw [hf, Nat.succ_mul]; omega), hf, ← ih]
    congr 1
    rw [Nat.succ_mul]; omega
theorem flat_length {α β : Type} {f : α → List β} {n : Nat} (hf : ∀ x, (f x).length = n) : ∀ l : List α, (l.flatMap f).length = l.length * n
  | [] => by simp
  | y :: l => by rw [List.flatMap_cons, List.length_append, hf, flat_length hf l, List.length_cons, Nat.succ_mul]; omega
theorem flat_mem {α β : Type} {f : α → List β} {n : Nat} (hf : ∀ x, (f x).length = n) (hn : 0 < n) {l : List α} {j : Nat} {v : β} (h : (l.flatMap f)[j]? = some v) : ∃ x, l[j / n]? = some x ∧ (f x)[j % n]? = some v := by
  have hlt : j < l.length * n := by rw [← flat_length hf l]; exact (List.getElem?_eq_some_iff.1 h).1
  have hi : j / n < l.length := Nat.div_lt_of_lt_mul (by rw [Nat.mul_comm]; exact hlt)
  refine ⟨l[j / n], List.getElem?_eq_getElem hi, ?_⟩
  rw [← flat_get hf (List.getElem?_eq_getElem hi) (Nat.mod_lt _ hn), Nat.div_add_mod']
  exact h
theorem cA_len (x : Attrd) : (cA x).length = 4 := rfl
theorem cI_len (x : IDd) : (cI x).length = 2 := rfl
theorem cellsA_len (l : List Attrd) : (cellsA l).length = l.length * 4 := flat_length cA_len l
theorem cellsI_len (l : List IDd) : (cellsI l).length = l.length * 2 := flat_length cI_len l
theorem cellsA_one (l : List Attrd) : ∀ v ∈ cellsA l, v.oneCell' = true := by
  intro v hv
  obtain ⟨x, _, hx⟩ := List.mem_flatMap.1 hv
  simp [cA] at hx
  rcases hx with rfl | rfl | rfl | rfl <;> rfl
theorem cellsI_one (l : List IDd) : ∀ v ∈ cellsI l, v.oneCell' = true := by
  intro v hv
  obtain ⟨x, _, hx⟩ := List.mem_flatMap.1 hv
  simp [cI] at hx
  rcases hx with rfl | rfl <;> rfl
/-- The cells of Attrs that lie there. -/
theorem AttrsIn.src {w : World} {b off : Nat} {l : List Attrd} (h : AttrsIn w b off l) : ∀ j v, (cellsA l)[j]? = some v → w.cell? ⟨b, off + j, none⟩ = some v := by
  intro j v hj
  obtain ⟨x, hx, hv⟩ := flat_mem cA_len (by omega) hj
  obtain ⟨h0, h1, h2, h3⟩ := h _ x hx
  have hr : j % 4 = 0 ∨ j % 4 = 1 ∨ j % 4 = 2 ∨ j % 4 = 3 := by omega
  have hj' : j = j / 4 * 4 + j % 4 := by omega
  rcases hr with e | e | e | e <;> rw [e] at hv <;> simp [cA] at hv <;> subst hv
  · rw [show off + j = off + j / 4 * 4 by omega]; exact h0
  · rw [show off + j = off + j / 4 * 4 + 1 by omega]; exact h1
  · rw [show off + j = off + j / 4 * 4 + 2 by omega]; exact h2
  · rw [show off + j = off + j / 4 * 4 + 3 by omega]; exact h3
theorem IDsIn.src {w : World} {b off : Nat} {l : List IDd} (h : IDsIn w b off l) : ∀ j v, (cellsI l)[j]? = some v → w.cell? ⟨b, off + j, none⟩ = some v := by
  intro j v hj
  obtain ⟨x, hx, hv⟩ := flat_mem cI_len (by omega) hj
  obtain ⟨h0, h1⟩ := h _ x hx
  have hr : j % 2 = 0 ∨ j % 2 = 1 := by omega
  rcases hr with e | e <;> rw [e] at hv <;> simp [cI] at hv <;> subst hv
  · rw [show off + j = off + j / 2 * 2 by omega]; exact h0
  · rw [show off + j = off + j / 2 * 2 + 1 by omega]; exact h1
theorem blk_cell {w : World} {b : Nat} {cs : List Value} {t : TypeId} {fz : Nat × Nat} (h : w.heap[b]? = some (.cells cs.toArray t fz)) (j : Nat) : w.cell? ⟨b, j, none⟩ = cs[j]? := by simp [World.cell?, h]
theorem blk_frozen {w : World} {b : Nat} {cs : Array Value} {t : TypeId} (h : w.heap[b]? = some (.cells cs t (0, 0))) (j : Nat) : w.frozen? ⟨b, j, none⟩ = false := by simp [World.frozen?, h]
theorem block_cell' {w : World} {k : Nat} {c : Array Value} {t : TypeId} {fz : Nat × Nat} (h : w.heap[k]? = some (.cells c t fz)) (j : Nat) : w.cell? ⟨k, j, none⟩ = c[j]? := by simp [World.cell?, h]
theorem attrsIn_of {w : World} {b : Nat} {l : List Attrd} {rest : List Value} {t : TypeId} {fz : Nat × Nat} (h : w.heap[b]? = some (.cells (cellsA l ++ rest).toArray t fz)) : AttrsIn w b 0 l := by
  intro i x hx
  have hlt : i < l.length := (List.getElem?_eq_some_iff.1 hx).1
  have key : ∀ r, r < 4 → w.cell? ⟨b, i * 4 + r, none⟩ = (cA x)[r]? := by
    intro r hr
    rw [blk_cell h, List.getElem?_append_left (by rw [cellsA_len]; omega)]
    exact flat_get cA_len hx hr
  refine ⟨?_, ?_, ?_, ?_⟩
  · rw [show 0 + i * 4 = i * 4 + 0 by omega]; exact key 0 (by omega)
  · rw [show 0 + i * 4 + 1 = i * 4 + 1 by omega]; exact key 1 (by omega)
  · rw [show 0 + i * 4 + 2 = i * 4 + 2 by omega]; exact key 2 (by omega)
  · rw [show 0 + i * 4 + 3 = i * 4 + 3 by omega]; exact key 3 (by omega)
theorem idsIn_of {w : World} {b : Nat} {l : List IDd} {rest : List Value} {t : TypeId} {fz : Nat × Nat} (h : w.heap[b]? = some (.cells (cellsI l ++ rest).toArray t fz)) : IDsIn w b 0 l := by
  intro i x hx
  have hlt : i < l.length := (List.getElem?_eq_some_iff.1 hx).1
  have key : ∀ r, r < 2 → w.cell? ⟨b, i * 2 + r, none⟩ = (cI x)[r]? := by
    intro r hr
    rw [blk_cell h, List.getElem?_append_left (by rw [cellsI_len]; omega)]
    exact flat_get cI_len hx hr
  refine ⟨?_, ?_⟩
  · rw [show 0 + i * 2 = i * 2 + 0 by omega]; exact key 0 (by omega)
  · rw [show 0 + i * 2 + 1 = i * 2 + 1 by omega]; exact key 1 (by omega)
/-- Four cells are stored into a row. -/
theorem set4_blk {w : World} {b : Nat} {pre post : List Value} {z0 z1 z2 z3 v0 v1 v2 v3 : Value} {t : TypeId} {fz : Nat × Nat} {o : Nat} (ho : pre.length = o)
    (h : w.heap[b]? = some (.cells (pre ++ z0 :: z1 :: z2 :: z3 :: post).toArray t fz)) :
    ((((w.setCell ⟨b, o, none⟩ v0).setCell ⟨b, o + 1, none⟩ v1).setCell ⟨b, o + 2, none⟩ v2).setCell ⟨b, o + 3, none⟩ v3).heap[b]? = some (.cells (pre ++ v0 :: v1 :: v2 :: v3 :: post).toArray t fz) := by
  subst ho
  simp only [World.setCell, Array.getElem?_modify, if_true, h, Option.map_some]
  simp [List.setIfInBounds_toArray]
theorem set2_blk {w : World} {b : Nat} {pre post : List Value} {z0 z1 v0 v1 : Value} {t : TypeId} {fz : Nat × Nat} {o : Nat} (ho : pre.length = o)
    (h : w.heap[b]? = some (.cells (pre ++ z0 :: z1 :: post).toArray t fz)) :
    ((w.setCell ⟨b, o, none⟩ v0).setCell ⟨b, o + 1, none⟩ v1).heap[b]? = some (.cells (pre ++ v0 :: v1 :: post).toArray t fz) := by
  subst ho
  simp only [World.setCell, Array.getElem?_modify, if_true, h, Option.map_some]
  simp [List.setIfInBounds_toArray]
theorem kept4 (w : World) (b o : Nat) (v0 v1 v2 v3 : Value) : Kept (· = b) w ((((w.setCell ⟨b, o, none⟩ v0).setCell ⟨b, o + 1, none⟩ v1).setCell ⟨b, o + 2, none⟩ v2).setCell ⟨b, o + 3, none⟩ v3) :=
  (((kept_setCell w ⟨b, o, none⟩ v0).trans (kept_setCell _ ⟨b, o + 1, none⟩ v1) fun _ _ h => h).trans (kept_setCell _ ⟨b, o + 2, none⟩ v2) fun _ _ h => h).trans (kept_setCell _ ⟨b, o + 3, none⟩ v3) fun _ _ h => h
theorem kept2 (w : World) (b o : Nat) (v0 v1 : Value) : Kept (· = b) w ((w.setCell ⟨b, o, none⟩ v0).setCell ⟨b, o + 1, none⟩ v1) :=
  (kept_setCell w ⟨b, o, none⟩ v0).trans (kept_setCell _ ⟨b, o + 1, none⟩ v1) fun _ _ h => h
theorem size4 (w : World) (b o : Nat) (v0 v1 v2 v3 : Value) : ((((w.setCell ⟨b, o, none⟩ v0).setCell ⟨b, o + 1, none⟩ v1).setCell ⟨b, o + 2, none⟩ v2).setCell ⟨b, o + 3, none⟩ v3).heap.size = w.heap.size := by simp [World.setCell]
theorem size2 (w : World) (b o : Nat) (v0 v1 : Value) : ((w.setCell ⟨b, o, none⟩ v0).setCell ⟨b, o + 1, none⟩ v1).heap.size = w.heap.size := by simp [World.setCell]

theorem cellsA_snoc (l : List Attrd) (q : Nat) (r : List Value) : cellsA (l ++ List.replicate (q + 1) markA) ++ r = cellsA (l ++ List.replicate q markA) ++ Value.string ⟨#[]⟩ :: Value.bool false :: Value.string ⟨#[]⟩ :: Value.int .i64 (-77) :: r := by
  rw [List.replicate_succ', ← List.append_assoc]
  simp [cellsA, List.flatMap_append, cA, markA]
theorem cellsI_snoc (l : List IDd) (q : Nat) (r : List Value) : cellsI (l ++ List.replicate (q + 1) markI) ++ r = cellsI (l ++ List.replicate q markI) ++ Value.string ⟨#[98, 101, 121, 111, 110, 100]⟩ :: Value.string ⟨#[]⟩ :: r := by
  rw [List.replicate_succ', ← List.append_assoc]
  simp [cellsI, List.flatMap_append, cI, markI]
def okR (x : Resd) : Prop := okI x.id ∧ (∀ a ∈ x.attrs, okA a) ∧ (∀ i ∈ x.after, okI i) ∧ x.attrs.length ≤ 2932031007317 ∧ x.after.length ≤ 4398046510976
theorem ownsRow_keep {D : Nat → Prop} {w w' : World} {base : Nat} {e : TypeId} {size : Nat} {v : Value} {n : Nat} {xs : List Value} (h : w.ownsRow base e size v n xs) (k : Kept D w w') (hd : ∀ g c, w.heap[g]? = some (.cells c e (0, 0)) → ¬ D g) : w'.ownsRow base e size v n xs := by
  obtain ⟨h1, h2⟩ := h
  refine ⟨h1, ?_⟩
  rcases h2 with h2 | ⟨g, cap, cur, hv, hg, hh, r⟩
  · exact .inl h2
  · exact .inr ⟨g, cap, cur, hv, hg, k.heap hh (hd g cur hh), r⟩
theorem make_rows {P : Program} {T E : TypeId} {z : Value} {sz bytes : Nat} (ht : P.underlying T = some (.slice E)) (h : (P.info? E).map (fun i => (i.zero, i.size, i.bytes)) = some (some z, sz, bytes)) (k : Nat) (hk : k ≤ 4398046511104) (hb : bytes * (k + 8) ≤ 281474976710656) :
    ∃ zs : List Value, zs.length = (k + 8) * sz ∧ ∀ w : World, (Instr.makeSlice T (.int .i64 ((k : Int) + 8)) (.int .i64 ((k : Int) + 8))).run P w = .ok (.slice (some ⟨w.heap.size, 0, none⟩) (k + 8) (k + 8)) (w.alloc (.cells zs.toArray E)) := by
  obtain ⟨i, hi, z0, z1, z2⟩ : ∃ i, P.info? E = some i ∧ i.zero = some z ∧ i.size = sz ∧ i.bytes = bytes := by
    cases hi : P.info? E with
    | none => rw [hi] at h; cases h
    | some i => rw [hi] at h; simp at h; exact ⟨i, rfl, h.1, h.2.1, h.2.2⟩
  refine ⟨(madeCells z.cells ((k + 8) * sz)).toList, by rw [Array.length_toList, size_madeCells], fun w => ?_⟩
  have hby : (i.bytes : Int) * ((k : Int) + 8) ≤ 281474976710656 := by
    rw [z2]
    have := hb
    have h2 : ((bytes * (k + 8) : Nat) : Int) ≤ 281474976710656 := by omega
    simpa using h2
  have := run_make (P := P) w T E i z ht hi z0 .i64 .i64 ((k : Int) + 8) ((k : Int) + 8) (by omega) (by omega) hby (by omega)
  rw [this, show ((k : Int) + 8).toNat = k + 8 by omega, z1]
theorem ownsRow_form {w : World} {base : Nat} {e : TypeId} {size : Nat} {v : Value} {n : Nat} {xs : List Value} (h : w.ownsRow base e size v n xs) : ∃ pa cap, v = .slice pa n cap := by
  rcases h.2 with ⟨rfl, rfl⟩ | ⟨g, cap, cur, rfl, _⟩
  · exact ⟨none, 0, rfl⟩
  · exact ⟨_, cap, rfl⟩
theorem ownsRow_ne {w : World} {base : Nat} {e : TypeId} {size : Nat} {v : Value} {n : Nat} {xs : List Value} (h : w.ownsRow base e size v n xs) {k : Nat} {c : Array Value} {t : TypeId} {fz : Nat × Nat} (hk : w.heap[k]? = some (.cells c t fz)) (ht : t ≠ e) : some k ≠ v.ownBlock := by
  intro hv
  rcases h.2 with ⟨rfl, _⟩ | ⟨g, cap, cur, rfl, _, hg, _⟩
  · simp [Value.ownBlock] at hv
  · simp [Value.ownBlock] at hv
    subst hv
    rw [hg] at hk
    cases hk; exact ht rfl
theorem grown_kept {w w' : World} {o : Obj} {row : Option Nat} (h : (w.alloc o).grownBy w' row) : Kept (fun k => some k = row) w w' :=
  ⟨h.os, h.tape, h.output, by have := h.size; simp at this; omega, fun k hk hn => (h.block k (by simp; omega) hn).trans (Below.heap_alloc w o k hk)⟩
theorem setc1 {w : World} {b : Nat} {x y z : Value} {t : TypeId} {fz : Nat × Nat} (h : w.heap[b]? = some (.cells #[x, y, z] t fz)) (v : Value) : (w.setCell ⟨b, 1, none⟩ v).heap[b]? = some (.cells #[x, v, z] t fz) := by
  simp [World.setCell, Array.getElem?_modify, h]
theorem setc2 {w : World} {b : Nat} {x y z : Value} {t : TypeId} {fz : Nat × Nat} (h : w.heap[b]? = some (.cells #[x, y, z] t fz)) (v : Value) : (w.setCell ⟨b, 2, none⟩ v).heap[b]? = some (.cells #[x, y, v] t fz) := by
  simp [World.setCell, Array.getElem?_modify, h]
theorem tag_ne {w : World} {b b' : Nat} {c c' : Array Value} {t t' : TypeId} {f f' : Nat × Nat} (h : w.heap[b]? = some (.cells c t f)) (h' : w.heap[b']? = some (.cells c' t' f')) (ht : t ≠ t') : b ≠ b' := by
  rintro rfl; rw [h] at h'; cases h'; exact ht rfl
theorem row_cell {w : World} {b o : Nat} {pre post : List Value} {t : TypeId} {fz : Nat × Nat} (h : w.heap[b]? = some (.cells (pre ++ post).toArray t fz)) (ho : pre.length = o) (r : Nat) : w.cell? ⟨b, o + r, none⟩ = post[r]? := by
  rw [blk_cell h, ← ho, List.getElem?_append_right (by omega)]; congr 1; omega
theorem infoAttr : (Tryz.prog.info? 42).map (fun i => (i.zero, i.size, i.bytes)) = some (some (.agg #[.string ⟨#[]⟩, .bool false, .string ⟨#[]⟩, .int .i64 0]), 4, 48) := by kernel_rfl
theorem infoID : (Tryz.prog.info? 37).map (fun i => (i.zero, i.size, i.bytes)) = some (some (.agg #[.string ⟨#[]⟩, .string ⟨#[]⟩]), 2, 32) := by kernel_rfl
theorem infoRes : (Tryz.prog.info? 40).map (fun i => (i.zero, i.size, i.bytes)) = some (some (.agg #[.string ⟨#[]⟩, .string ⟨#[]⟩, .slice none 0 0, .slice none 0 0]), 4, 80) := by kernel_rfl
theorem infoAttrs : (Tryz.prog.info? 35).map (fun i => (i.zero, i.size, i.bytes)) = some (some (.slice none 0 0), 1, 24) := by kernel_rfl
theorem infoIDs : (Tryz.prog.info? 38).map (fun i => (i.zero, i.size, i.bytes)) = some (some (.slice none 0 0), 1, 24) := by kernel_rfl
end Go.Proofs.YtkjjfdejfihpfaaGreat
