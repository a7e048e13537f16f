/-
  Cells of IDs, Attrs and resources; rows that are kept.
-/
/-
  Resources that may be: what the program's functions answer of a list.
-/
import Derived.Test.YtodhhjlemmmjcaaGreatJ6
import Derived.Test.YtodhhjlemmmjcaaGreatJ9
namespace Go.Proofs.YtodhhjlemmmjcaaGreat
open Go.RowKit

def cA (x : Attrd) : List Value := [.string x.name, .bool x.isText, .string x.text, .int .i64 x.number]
def cI (x : IDd) : List Value := [.string x.kind, .string x.name]
def cellsA (l : List Attrd) : List Value := l.flatMap cA
def cellsI (l : List IDd) : List Value := l.flatMap cI
def markA : Attrd := ⟨⟨#[]⟩, false, ⟨#[]⟩, -77⟩
def markI : IDd := ⟨⟨#[98, 101, 121, 111, 110, 100]⟩, ⟨#[]⟩⟩
def markR : Resd := ⟨⟨textD 77, ⟨#[]⟩⟩, [], []⟩

theorem flat_get {α β : Type} {f : α → List β} {n : Nat} (hf : ∀ x, (f x).length = n) : ∀ {l : List α} {i : Nat} {x : α} {r : Nat}, l[i]? = some x → r < n → (l.flatMap f)[i * n + r]? = (f x)[r]?
  | [], _, _, _, h, _ => by simp at h
  | y :: l, 0, x, r, h, hr => by
    simp at h; subst h
    rw [List.flatMap_cons, Nat.zero_mul, Nat.zero_add, List.getElem?_append_left (by rw [hf]; exact hr)]
  | y :: l, i + 1, x, r, h, hr => by
    have ih := flat_get hf (l := l) (i := i) (x := x) (r := r) (by simpa using h) hr
    rw [List.flatMap_cons, List.getElem?_append_right (by rw [hf, Nat.succ_mul]; omega), hf, ← ih]
    congr 1
    rw [Nat.succ_mul]; omega
theorem flat_length {α β : Type} {f : α → List β} {n : Nat} (hf : ∀ x, (f x).length = n) : ∀ l : List α, (l.flatMap f).length = l.length * n
  | [] => by simp
  | y :: l => by rw [List.flatMap_cons, List.length_append, hf, flat_length hf l, List.length_cons, Nat.succ_mul]; omega
theorem flat_mem {α β : Type} {f : α → List β} {n : Nat} (hf : ∀ x, (f x).length = n) (hn : 0 < n) {l : List α} {j : Nat} {v : β} (h : (l.flatMap f)[j]? = some v) : ∃ x, l[j / n]? = some x ∧ (f x)[j % n]? = some v := by
  have hlt : j < l.length * n := by rw [← flat_length hf l]; exact (List.getElem?_eq_some_iff.1 h).1
  have hi : j / n < l.length := Nat.div_lt_of_lt_mul (by rw [Nat.mul_comm]; exact hlt)
  refine ⟨l[j / n], List.getElem?_eq_getElem hi, ?_⟩
  rw [← flat_get hf (List.getElem?_eq_getElem hi) (Nat.mod_lt _ hn), Nat.div_add_mod']
  exact h
theorem cA_len (x : Attrd) : (cA x).length = 4 := rfl
theorem cI_len (x : IDd) : (cI x).length = 2 := rfl
theorem cellsA_len (l : List Attrd) : (cellsA l).length = l.length * 4 := flat_length cA_len l
theorem cellsI_len (l : List IDd) : (cellsI l).length = l.length * 2 := flat_length cI_len l
theorem cellsA_one (l : List Attrd) : ∀ v ∈ cellsA l, v.oneCell' = true := by
  intro v hv
  obtain ⟨x, _, hx⟩ := List.mem_flatMap.1 hv
  simp [cA] at hx
  rcases hx with rfl | rfl | rfl | rfl <;> rfl
theorem cellsI_one (l : List IDd) : ∀ v ∈ cellsI l, v.oneCell' = true := by
  intro v hv
  obtain ⟨x, _, hx⟩ := List.mem_flatMap.1 hv
  simp [cI] at hx
  rcases hx with rfl | rfl <;> rfl
/-- The cells of Attrs that lie there. -/
theorem AttrsIn.src {w : World} {b off : Nat} {l : List Attrd} (h : AttrsIn w b off l) : ∀ j v, (cellsA l)[j]? = some v → w.cell? ⟨b, off + j, none⟩ = some v := by
  intro j v hj
  obtain ⟨x, hx, hv⟩ := flat_mem cA_len (by omega) hj
  obtain ⟨h0, h1, h2, h3⟩ := h _ x hx
  have hr : j % 4 = 0 ∨ j % 4 = 1 ∨ j % 4 = 2 ∨ j % 4 = 3 := by omega
  have hj' : j = j / 4 * 4 + j % 4 := by omega
  rcases hr with e | e | e | e <;> rw [e] at hv <;> simp [cA] at hv <;> subst hv
  · rw [show off + j = off + j / 4 * 4 by omega]; exact h0
  · rw [show off + j = off + j / 4 * 4 + 1 by omega]; exact h1
  · rw [show off + j = off + j / 4 * 4 + 2 by omega]; exact h2
  · rw [show off + j = off + j / 4 * 4 + 3 by omega]; exact h3
theorem IDsIn.src {w : World} {b off : Nat} {l : List IDd} (h : IDsIn w b off l) : ∀ j v, (cellsI l)[j]? = some v → w.cell? ⟨b, off + j, none⟩ = some v := by
  intro j v hj
  obtain ⟨x, hx, hv⟩ := flat_mem cI_len (by omega) hj
  obtain ⟨h0, h1⟩ := h _ x hx
  have hr : j % 2 = 0 ∨ j % 2 = 1 := by omega
  rcases hr with e | e <;> rw [e] at hv <;> simp [cI] at hv <;> subst hv
  · rw [show off + j = off + j / 2 * 2 by omega]; exact h0
  · rw [show off + j = off + j / 2 * 2 + 1 by omega]; exact h1
theorem blk_cell {w : World} {b : Nat} {cs : List Value} {t : TypeId} {fz : Nat × Nat} (h : w.heap[b]? = some (.cells cs.toArray t fz)) (j : Nat) : w.cell? ⟨b, j, none⟩ = cs[j]? := by simp [World.cell?, h]
theorem blk_frozen {w : World} {b : Nat} {cs : Array Value} {t : TypeId} (h : w.heap[b]? = some (.cells cs t (0, 0))) (j : Nat) : w.frozen? ⟨b, j, none⟩ = false := by simp [World.frozen?, h]
theorem block_cell' {w : World} {k : Nat} {c : Array Value} {t : TypeId} {fz : Nat × Nat} (h : w.heap[k]? = some (.cells c t fz)) (j : Nat) : w.cell? ⟨k, j, none⟩ = c[j]? := by simp [World.cell?, h]
theorem attrsIn_of {w : World} {b : Nat} {l : List Attrd} {rest : List Value} {t : TypeId} {fz : Nat × Nat} (h : w.heap[b]? = some (.cells (cellsA l ++ rest).toArray t fz)) : AttrsIn w b 0 l := by
  intro i x hx
  have hlt : i < l.length := (List.getElem?_eq_some_iff.1 hx).1
  have key : ∀ r, r < 4 → w.cell? ⟨b, i * 4 + r, none⟩ = (cA x)[r]? := by
    intro r hr
    rw [blk_cell h, List.getElem?_append_left (by rw [cellsA_len]; omega)]
    exact flat_get cA_len hx hr
  refine ⟨?_, ?_, ?_, ?_⟩
  · rw [show 0 + i * 4 = i * 4 + 0 by omega]; exact key 0 (by omega)
  · rw [show 0 + i * 4 + 1 = i * 4 + 1 by omega]; exact key 1 (by omega)
  · rw [show 0 + i * 4 + 2 = i * 4 + 2 by omega]; exact key 2 (by omega)
  · rw [show 0 + i * 4 + 3 = i * 4 + 3 by omega]; exact key 3 (by omega)
theorem idsIn_of {w : World} {b : Nat} {l : List IDd} {rest : List Value} {t : TypeId} {fz : Nat × Nat} (h : w.heap[b]? = some (.cells (cellsI l ++ rest).toArray t fz)) : IDsIn w b 0 l := by
  intro i x hx
  have hlt : i < l.length := (List.getElem?_eq_some_iff.1 hx).1
  have key : ∀ r, r < 2 → w.cell? ⟨b, i * 2 + r, none⟩ = (cI x)[r]? := by
    intro r hr
    rw [blk_cell h, List.getElem?_append_left (by rw [cellsI_len]; omega)]
    exact flat_get cI_len hx hr
  refine ⟨?_, ?_⟩
  · rw [show 0 + i * 2 = i * 2 + 0 by omega]; exact key 0 (by omega)
  · rw [show 0 + i * 2 + 1 = i * 2 + 1 by omega]; exact key 1 (by omega)
/-- Four cells are stored into a row. -/
theorem set4_blk {w : World} {b : Nat} {pre post : List Value} {z0 z1 z2 z3 v0 v1 v2 v3 : Value} {t : TypeId} {fz : Nat × Nat} {o : Nat} (ho : pre.length = o)
    (h : w.heap[b]? = some (.cells (pre ++ z0 :: z1 :: z2 :: z3 :: post).toArray t fz)) :
    ((((w.setCell ⟨b, o, none⟩ v0).setCell ⟨b, o + 1, none⟩ v1).setCell ⟨b, o + 2, none⟩ v2).setCell ⟨b, o + 3, none⟩ v3).heap[b]? = some (.cells (pre ++ v0 :: v1 :: v2 :: v3 :: post).toArray t fz) := by
  subst ho
  simp only [World.setCell, Array.getElem?_modify, if_true, h, Option.map_some]
  simp [List.setIfInBounds_toArray]
theorem set2_blk {w : World} {b : Nat} {pre post : List Value} {z0 z1 v0 v1 : Value} {t : TypeId} {fz : Nat × Nat} {o : Nat} (ho : pre.length = o)
    (h : w.heap[b]? = some (.cells (pre ++ z0 :: z1 :: post).toArray t fz)) :
    ((w.setCell ⟨b, o, none⟩ v0).setCell ⟨b, o + 1, none⟩ v1).heap[b]? = some (.cells (pre ++ v0 :: v1 :: post).toArray t fz) := by
  subst ho
  simp only [World.setCell, Array.getElem?_modify, if_true, h, Option.map_some]
  simp [List.setIfInBounds_toArray]
theorem kept4 (w : World) (b o : Nat) (v0 v1 v2 v3 : Value) : Kept (· = b) w ((((w.setCell ⟨b, o, none⟩ v0).setCell ⟨b, o + 1, none⟩ v1).setCell ⟨b, o + 2, none⟩ v2).setCell ⟨b, o + 3, none⟩ v3) :=
  (((kept_setCell w ⟨b, o, none⟩ v0).trans (kept_setCell _ ⟨b, o + 1, none⟩ v1) fun _ _ h => h).trans (kept_setCell _ ⟨b, o + 2, none⟩ v2) fun _ _ h => h).trans (kept_setCell _ ⟨b, o + 3, none⟩ v3) fun _ _ h => h
theorem kept2 (w : World) (b o : Nat) (v0 v1 : Value) : Kept (· = b) w ((w.setCell ⟨b, o, none⟩ v0).setCell ⟨b, o + 1, none⟩ v1) :=
  (kept_setCell w ⟨b, o, none⟩ v0).trans (kept_setCell _ ⟨b, o + 1, none⟩ v1) fun _ _ h => h
theorem size4 (w : World) (b o : Nat) (v0 v1 v2 v3 : Value) : ((((w.setCell ⟨b, o, none⟩ v0).setCell ⟨b, o + 1, none⟩ v1).setCell ⟨b, o + 2, none⟩ v2).setCell ⟨b, o + 3, none⟩ v3).heap.size = w.heap.size := by simp [World.setCell]
theorem size2 (w : World) (b o : Nat) (v0 v1 : Value) : ((w.setCell ⟨b, o, none⟩ v0).setCell ⟨b, o + 1, none⟩ v1).heap.size = w.heap.size := by simp [World.setCell]

theorem cellsA_snoc (l : List Attrd) (q : Nat) (r : List Value) : cellsA (l ++ List.replicate (q + 1) markA) ++ r = cellsA (l ++ List.replicate q markA) ++ Value.string ⟨#[]⟩ :: Value.bool false :: Value.string ⟨#[]⟩ :: Value.int .i64 (-77) :: r := by
  rw [List.replicate_succ', ← List.append_assoc]
  simp [cellsA, List.flatMap_append, cA, markA]
theorem cellsI_snoc (l : List IDd) (q : Nat) (r : List Value) : cellsI (l ++ List.replicate (q + 1) markI) ++ r = cellsI (l ++ List.replicate q markI) ++ Value.string ⟨#[98, 101, 121, 111, 110, 100]⟩ :: Value.string ⟨#[]⟩ :: r := by
  rw [List.replicate_succ', ← List.append_assoc]
  simp [cellsI, List.flatMap_append, cI, markI]
def okR (x : Resd) : Prop := okI x.id ∧ (∀ a ∈ x.attrs, okA a) ∧ (∀ i ∈ x.after, okI i) ∧ x.attrs.length ≤ 2932031007317 ∧ x.after.length ≤ 4398046510976
theorem ownsRow_keep {D : Nat → Prop} {w w' : World} {base : Nat} {e : TypeId} {size : Nat} {v : Value} {n : Nat} {xs : List Value} (h : w.ownsRow base e size v n xs) (k : Kept D w w') (hd : ∀ g c, w.heap[g]? = some (.cells c e (0, 0)) → ¬ D g) : w'.ownsRow base e size v n xs := by
  obtain ⟨h1, h2⟩ := h
  refine ⟨h1, ?_⟩
  rcases h2 with h2 | ⟨g, cap, cur, hv, hg, hh, r⟩
  · exact .inl h2
  · exact .inr ⟨g, cap, cur, hv, hg, k.heap hh (hd g cur hh), r⟩
theorem make_rows {P : Program} {T E : TypeId} {z : Value} {sz bytes : Nat} (ht : P.underlying T = some (.slice E)) (h : (P.info? E).map (fun i => (i.zero, i.size, i.bytes)) = some (some z, sz, bytes)) (k : Nat) (hk : k ≤ 4398046511104) (hb : bytes * (k + 8) ≤ 281474976710656) :
    ∃ zs : List Value, zs.length = (k + 8) * sz ∧ ∀ w : World, (Instr.makeSlice T (.int .i64 ((k : Int) + 8)) (.int .i64 ((k : Int) + 8))).run P w = .ok (.slice (some ⟨w.heap.size, 0, none⟩) (k + 8) (k + 8)) (w.alloc (.cells zs.toArray E)) := by
  obtain ⟨i, hi, z0, z1, z2⟩ : ∃ i, P.info? E = some i ∧ i.zero = some z ∧ i.size = sz ∧ i.bytes = bytes := by
    cases hi : P.info? E with
    | none => rw [hi] at h; cases h
    | some i => rw [hi] at h; simp at h; exact ⟨i, rfl, h.1, h.2.1, h.2.2⟩
  refine ⟨(madeCells z.cells ((k + 8) * sz)).toList, by rw [Array.length_toList, size_madeCells], fun w => ?_⟩
  have hby : (i.bytes : Int) * ((k : Int) + 8) ≤ 281474976710656 := by
    rw [z2]
    have := hb
    have h2 : ((bytes * (k + 8) : Nat) : Int) ≤ 281474976710656 := by omega
    simpa using h2
  have := run_make (P := P) w T E i z ht hi z0 .i64 .i64 ((k : Int) + 8) ((k : Int) + 8) (by omega) (by omega) hby (by omega)
  rw [this, show ((k : Int) + 8).toNat = k + 8 by omega, z1]
theorem ownsRow_form {w : World} {base : Nat} {e : TypeId} {size : Nat} {v : Value} {n : Nat} {xs : List Value} (h : w.ownsRow base e size v n xs) : ∃ pa cap, v = .slice pa n cap := by
  rcases h.2 with ⟨rfl, rfl⟩ | ⟨g, cap, cur, rfl, _⟩
  · exact ⟨none, 0, rfl⟩
  · exact ⟨_, cap, rfl⟩
theorem ownsRow_ne {w : World} {base : Nat} {e : TypeId} {size : Nat} {v : Value} {n : Nat} {xs : List Value} (h : w.ownsRow base e size v n xs) {k : Nat} {c : Array Value} {t : TypeId} {fz : Nat × Nat} (hk : w.heap[k]? = some (.cells c t fz)) (ht : t ≠ e) : some k ≠ v.ownBlock := by
  intro hv
  rcases h.2 with ⟨rfl, _⟩ | ⟨g, cap, cur, rfl, _, hg, _⟩
  · simp [Value.ownBlock] at hv
  · simp [Value.ownBlock] at hv
    subst hv
    rw [hg] at hk
    cases hk; exact ht rfl
theorem grown_kept {w w' : World} {o : Obj} {row : Option Nat} (h : (w.alloc o).grownBy w' row) : Kept (fun k => some k = row) w w' :=
  ⟨h.os, h.tape, h.output, by have := h.size; simp at this; omega, fun k hk hn => (h.block k (by simp; omega) hn).trans (Below.heap_alloc w o k hk)⟩
theorem setc1 {w : World} {b : Nat} {x y z : Value} {t : TypeId} {fz : Nat × Nat} (h : w.heap[b]? = some (.cells #[x, y, z] t fz)) (v : Value) : (w.setCell ⟨b, 1, none⟩ v).heap[b]? = some (.cells #[x, v, z] t fz) := by
  simp [World.setCell, Array.getElem?_modify, h]
theorem setc2 {w : World} {b : Nat} {x y z : Value} {t : TypeId} {fz : Nat × Nat} (h : w.heap[b]? = some (.cells #[x, y, z] t fz)) (v : Value) : (w.setCell ⟨b, 2, none⟩ v).heap[b]? = some (.cells #[x, y, v] t fz) := by
  simp [World.setCell, Array.getElem?_modify, h]
theorem tag_ne {w : World} {b b' : Nat} {c c' : Array Value} {t t' : TypeId} {f f' : Nat × Nat} (h : w.heap[b]? = some (.cells c t f)) (h' : w.heap[b']? = some (.cells c' t' f')) (ht : t ≠ t') : b ≠ b' := by
  rintro rfl; rw [h] at h'; cases h'; exact ht rfl
theorem row_cell {w : World} {b o : Nat} {pre post : List Value} {t : TypeId} {fz : Nat × Nat} (h : w.heap[b]? = some (.cells (pre ++ post).toArray t fz)) (ho : pre.length = o) (r : Nat) : w.cell? ⟨b, o + r, none⟩ = post[r]? := by
  rw [blk_cell h, ← ho, List.getElem?_append_right (by omega)]; congr 1; omega
theorem infoAttr : (Tryz.prog.info? 62).map (fun i => (i.zero, i.size, i.bytes)) = some (some (.agg #[.string ⟨#[]⟩, .bool false, .string ⟨#[]⟩, .int .i64 0]), 4, 48) := by kernel_rfl
theorem infoID : (Tryz.prog.info? 52).map (fun i => (i.zero, i.size, i.bytes)) = some (some (.agg #[.string ⟨#[]⟩, .string ⟨#[]⟩]), 2, 32) := by kernel_rfl
theorem infoRes : (Tryz.prog.info? 56).map (fun i => (i.zero, i.size, i.bytes)) = some (some (.agg #[.string ⟨#[]⟩, .string ⟨#[]⟩, .slice none 0 0, .slice none 0 0]), 4, 80) := by kernel_rfl
theorem infoAttrs : (Tryz.prog.info? 53).map (fun i => (i.zero, i.size, i.bytes)) = some (some (.slice none 0 0), 1, 24) := by kernel_rfl
theorem infoIDs : (Tryz.prog.info? 54).map (fun i => (i.zero, i.size, i.bytes)) = some (some (.slice none 0 0), 1, 24) := by kernel_rfl
end Go.Proofs.YtodhhjlemmmjcaaGreat

namespace Go.Proofs.YtodhhjlemmmjcaaGreat
open Go.RowKit

set_option maxRecDepth 100000 in
set_option maxHeartbeats 800000 in
theorem everyRes (v : Value) (l : List Resd) (w : World) (hv : RessV w v l) :
    Calls Tryz.prog 38 #[v, .func (.func 65) #[] #[]] w fun e w' => e = .returned (.bool (l.all mayB)) ∧ Ext w w' := by
  obtain ⟨⟨a, cap, rfl, hcap, hmax, hs⟩, hfew⟩ := hv
  go_enter Tryz.func38, Tryz.ntmps38
  go_wp2
  go_loopw [9] (fun i wr => ∃ k : Nat, k ≤ l.length ∧ i = .int .i64 k ∧ Hid ((l.take k).all mayB = true) ∧ Ext w wr) (fun i _ => l.length - (intOf i).toNat)
  case atStart => exact ⟨0, Nat.zero_le _, rfl, by simp [Hid], Ext.refl _⟩
  case round =>
    obtain ⟨k, hk, rfl, hall, he⟩ := hrel
    by_cases hlt : k < l.length
    · rcases hs with rfl | ⟨b, off, rfl, hin⟩
      · simp at hlt
      obtain ⟨x, hx⟩ := some_of_lt hlt
      obtain ⟨g0, g1, c2, c3, g2, g3, hres⟩ := (hin.ext he) k x hx
      have hres0 := hide hres
      obtain ⟨a2, p2, rfl⟩ := hres.attrs.form
      obtain ⟨a3, p3, rfl⟩ := hres.after.form
      clear hres
      have Hs := hide (all_succ (p := mayB) hx hall.out)
      have Hf := hide (all_no (p := mayB) hx)
      replace hin := hide hin
      replace he := hide he
      replace hx := hide hx
      go_wp2_with fail
      refine (mayBe _ _ x _ (hres0.out.ext ((Ext.refl _).alloc _))).mono ?_
      rintro e w1 ⟨rfl, he1⟩
      replace he1 := hide he1
      cases hb : mayB x
      · go_wp2_with fail
        go_ret
        exact ⟨retB (unhide Hf hb).symm, (he.out.alloc _).trans he1.out⟩
      · go_wp2_with fail
        go_roundw
        case rel => exact ⟨k + 1, by omega, by go_num, by rw [unhide Hs]; exact hb, (he.out.alloc _).trans he1.out⟩
        case measure => simp [intOf]; omega
    · have Hl := hide (show l.take k = l from List.take_of_length_le (by omega))
      replace he := hide he
      replace hs := hide hs
      go_wp2
      go_ret
      exact ⟨retB (by rw [unhide Hl] at hall; exact hall.out.symm), he.out⟩

set_option maxRecDepth 100000 in
set_option maxHeartbeats 800000 in
theorem compareRes (i j : IDd) (a2 a3 b2 b3 : Option Addr) (n2 n3 m2 m3 p2 p3 q2 q3 : Nat) (w : World) :
    Calls Tryz.prog 67 #[.agg #[.string i.kind, .string i.name, .slice a2 n2 p2, .slice a3 n3 p3], .agg #[.string j.kind, .string j.name, .slice b2 m2 q2, .slice b3 m3 q3]] w fun e w' => e = .returned (.int .i64 (cmpI i j)) ∧ Ext w w' := by
  go_enter Tryz.func67, Tryz.ntmps67
  go_wp2_with fail
  refine (compareIDs i j _).mono ?_
  rintro e w1 ⟨rfl, he1⟩
  replace he1 := hide he1
  go_wp2_with fail
  go_ret
  exact ⟨rfl, (((Ext.refl _).alloc _).alloc _).trans he1.out⟩

set_option maxRecDepth 100000 in
set_option maxHeartbeats 3200000 in
theorem risesRes (v : Value) (l : List Resd) (w : World) (hv : RessV w v l) :
    Calls Tryz.prog 66 #[v, .func (.func 67) #[] #[]] w fun e w' => e = .returned (.bool (risesB lessR l)) ∧ Ext w w' := by
  obtain ⟨⟨a, cap, rfl, hcap, hmax, hs⟩, hfew⟩ := hv
  go_enter Tryz.func66, Tryz.ntmps66
  go_wp2
  go_loopw [5] (fun i wr => ∃ m : Nat, 1 ≤ m ∧ (m ≤ l.length ∨ m = 1) ∧ i = .int .i64 m ∧ Hid (risesB lessR (l.take m) = true) ∧ Ext w wr) (fun i _ => l.length - (intOf i).toNat)
  case atStart => exact ⟨1, Nat.le_refl _, .inr rfl, rfl, rises_one _, Ext.refl _⟩
  case round =>
    obtain ⟨m, hm1, hk, rfl, hall, he⟩ := hrel
    obtain ⟨k, hkm⟩ : ∃ k, m = k + 1 := ⟨m - 1, by omega⟩
    by_cases hlt : m < l.length
    · rcases hs with rfl | ⟨b, off, rfl, hin⟩
      · simp at hlt
      obtain ⟨x, hx⟩ := some_of_lt (show k < l.length by omega)
      obtain ⟨y, hy⟩ := some_of_lt hlt
      obtain ⟨g0, g1, c2, c3, g2, g3, hres⟩ := (hin.ext he) k x hx
      obtain ⟨k0, k1, d2, d3, k2, k3, hres'⟩ := (hin.ext he) m y hy
      obtain ⟨a2, p2, rfl⟩ := hres.attrs.form
      obtain ⟨a3, p3, rfl⟩ := hres.after.form
      obtain ⟨b2, q2, rfl⟩ := hres'.attrs.form
      obtain ⟨b3, q3, rfl⟩ := hres'.after.form
      clear hres hres'
      have Hs : Hid (risesB lessR (l.take (m + 1)) = (risesB lessR (l.take m) && lessR x y)) := by subst hkm; exact rises_take (lt := lessR) hx hy
      have Hf : Hid (lessR x y = false → risesB lessR l = false) := by subst hkm; exact rises_no (lt := lessR) hx hy
      have i1 : (0 : Int) ≤ (k : Int) := by omega
      have i2 : (m : Int) < (l.length : Int) := by omega
      have i3 : (k : Int) < (l.length : Int) := by omega
      have i4 : (0 : Int) ≤ (m : Int) := by omega
      have e1 : IntKind.i64.wrap ((m : Int) - 1) = (k : Int) := by rw [IntKind.wrap_i64]; omega
      replace hin := hide hin
      replace he := hide he
      replace hx := hide hx
      replace hy := hide hy
      replace hk := hide hk
      replace hkm := hide hkm
      generalize x.attrs.length = n2 at *
      generalize x.after.length = n3 at *
      generalize y.attrs.length = m2 at *
      generalize y.after.length = m3 at *
      go_wp2_with fail
      go_region_held3 (fun w' => w'.cell? ⟨b, off + k * 4, none⟩ = some (.string x.id.kind) ∧ w'.cell? ⟨b, off + k * 4 + 1, none⟩ = some (.string x.id.name) ∧ w'.cell? ⟨b, off + k * 4 + 2, none⟩ = some (.slice a2 n2 p2) ∧ w'.cell? ⟨b, off + k * 4 + 3, none⟩ = some (.slice a3 n3 p3) ∧ w'.cell? ⟨b, off + m * 4, none⟩ = some (.string y.id.kind) ∧ w'.cell? ⟨b, off + m * 4 + 1, none⟩ = some (.string y.id.name) ∧ w'.cell? ⟨b, off + m * 4 + 2, none⟩ = some (.slice b2 m2 q2) ∧ w'.cell? ⟨b, off + m * 4 + 3, none⟩ = some (.slice b3 m3 q3)) (go_keep)
        ((go_at_call 67; refine (compareRes x.id y.id _ _ _ _ _ _ _ _ _ _ _ _ _).mono ?_; rintro e w1 ⟨rfl, he1⟩; have q0 := he1.cells (p := ⟨b, off + k * 4, none⟩) (v := .string x.id.kind) (by simpa using g0); have q1 := he1.cells (p := ⟨b, off + k * 4 + 1, none⟩) (v := .string x.id.name) (by simpa using g1); have q4 := he1.cells (p := ⟨b, off + k * 4 + 2, none⟩) (v := .slice a2 n2 p2) (by simpa using g2); have q5 := he1.cells (p := ⟨b, off + k * 4 + 3, none⟩) (v := .slice a3 n3 p3) (by simpa using g3); have r0 := he1.cells (p := ⟨b, off + m * 4, none⟩) (v := .string y.id.kind) (by simpa using k0); have r1 := he1.cells (p := ⟨b, off + m * 4 + 1, none⟩) (v := .string y.id.name) (by simpa using k1); have r4 := he1.cells (p := ⟨b, off + m * 4 + 2, none⟩) (v := .slice b2 m2 q2) (by simpa using k2); have r5 := he1.cells (p := ⟨b, off + m * 4 + 3, none⟩) (v := .slice b3 m3 q3) (by simpa using k3); replace he1 := hide he1))
      by_cases hb : 0 ≤ cmpI x.id y.id
      · have Hb := hide (show lessR x y = false by simp [lessR, lessI]; omega)
        go_wp2
        go_ret
        exact ⟨retB (unhide Hf (unhide Hb)).symm, he.out.drew.trans he1.out⟩
      · have hd : decide (0 ≤ cmpI x.id y.id) = false := by simpa using hb
        have Hb := hide (show lessR x y = true by simp [lessR, lessI]; omega)
        go_wp2
        go_roundw
        case rel => exact ⟨m + 1, by omega, .inl (by omega), by go_num, by rw [unhide Hs]; simp [Hid, hall.out, unhide Hb], he.out.drew.trans he1.out⟩
        case measure => simp [intOf]; omega
    · have Hl : Hid (l.take m = l) := List.take_of_length_le (by omega)
      replace he := hide he
      replace hs := hide hs
      replace hkm := hide hkm
      go_wp2
      go_ret
      exact ⟨retB (by rw [unhide Hl] at hall; exact hall.out.symm), he.out⟩

set_option maxRecDepth 100000 in
set_option maxHeartbeats 800000 in
theorem allMayBe (v : Value) (l : List Resd) (w : World) (hv : RessV w v l) :
    Calls Tryz.prog 37 #[v] w fun e w' => e = .returned (.bool (mayAllB l)) ∧ Ext w w' := by
  have hv0 := hide hv
  obtain ⟨⟨a, cap, rfl, hcap, hmax, hs⟩, hfew⟩ := hv
  clear hs
  by_cases h12 : 12 < l.length
  · have H := hide (show mayAllB l = false by simp [mayAllB]; omega)
    have h' : decide ((l.length : Int) ≤ 12) = false := by simp; omega
    go_enter Tryz.func37, Tryz.ntmps37
    go_wp2_with fail
    go_ret
    exact ⟨retB (by rw [unhide H]), Ext.refl _⟩
  have h' : (l.length : Int) ≤ 12 := by omega
  have H := hide (show mayAllB l = (l.all mayB && risesB lessR l) by simp only [mayAllB]; rw [decide_eq_true (show l.length ≤ 12 by omega)]; simp)
  go_enter Tryz.func37, Tryz.ntmps37
  go_wp2_with fail
  refine (everyRes _ l _ hv0.out).mono ?_
  rintro e w1 ⟨rfl, he1⟩
  replace he1 := hide he1
  cases h1 : l.all mayB
  · go_wp2_with fail
    go_ret
    exact ⟨retB (by rw [unhide H, h1]; rfl), he1.out⟩
  go_wp2_with fail
  refine (risesRes _ l _ (hv0.out.ext he1.out)).mono ?_
  rintro e w2 ⟨rfl, he2⟩
  replace he2 := hide he2
  go_wp2_with fail
  go_ret
  exact ⟨retB (by rw [unhide H, h1]; simp), he1.out.trans he2.out⟩
end Go.Proofs.YtodhhjlemmmjcaaGreat
