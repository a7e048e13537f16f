/-
  Cells of IDs, Attrs and resources; rows that are kept.
-/
/-
  Resources that may be: what the program's functions answer of a list.
-/
/-
  Resources that may be: what the reference's function answers of a list.
-/
/-
  Records that may be: what the program's functions answer.
-/
/-
  Records that may be: what the reference's functions answer.
-/
/-
  The two orders of keys.
-/
/-
  Two lists of resources that are the same: what the functions that compare them answer.
-/
/-
  Two lists of resources that are the same.
-/
/-
  Records that are the same.
-/
import Derived.Test.YtfmcgdglalljgaaGreatDoorJ1
import Derived.Test.YtfmcgdglalljgaaGreatDoorJ3
import Derived.Test.YtfmcgdglalljgaaGreatDoorJ6
import Derived.Deep.QuietTactic
import Derived.BigQuiet
import Derived.Test.YtfmcgdglalljgaaGreatDoorSame
namespace Go.Proofs.YtfmcgdglalljgaaGreatDoor
open Go.RowKit

def cA (x : Attrd) : List Value := [.string x.name, .bool x.isText, .string x.text, .int .i64 x.number]
def cI (x : IDd) : List Value := [.string x.kind, .string x.name]
def cellsA (l : List Attrd) : List Value := l.flatMap cA
def cellsI (l : List IDd) : List Value := l.flatMap cI
def markA : Attrd := ⟨⟨#[]⟩, false, ⟨#[]⟩, -77⟩
def markI : IDd := ⟨⟨#[98, 101, 121, 111, 110, 100]⟩, ⟨#[]⟩⟩
def markR : Resd := ⟨⟨textD 77, ⟨#[]⟩⟩, [], []⟩

theorem flat_get {α β : Type} {f : α → List β} {n : Nat} (hf : ∀ x, (f x).length = n) : ∀ {l : List α} {i : Nat} {x : α} {r : Nat}, l[i]? = some x → r < n → (l.flatMap f)[i * n + r]? = (f x)[r]?
  | [], _, _, _, h, _ => by simp at h
  | y :: l, 0, x, r, h, hr => by
    simp at h; subst h
    rw [List.flatMap_cons, Nat.zero_mul, Nat.zero_add, List.getElem?_append_left (by rw [hf]; exact hr)]
  | y :: l, i + 1, x, r, h, hr => by
    have ih := flat_get hf (l := l) (i := i) (x := x) (r := r) (by simpa using h) hr
    rw [List.flatMap_cons, List.getElem?_append_right (by rw [hf, Nat.succ_mul]; omega), hf, ← ih]
    congr 1
    rw [Nat.succ_mul]; omega
theorem flat_length {α β : Type} {f : α → List β} {n : Nat} (hf : ∀ x, (f x).length = n) : ∀ l : List α, (l.flatMap f).length = l.length * n
  | [] => by simp
  | y :: l => by rw [List.flatMap_cons, List.length_append, hf, flat_length hf l, List.length_cons, Nat.succ_mul]; omega
theorem flat_mem {α β : Type} {f : α → List β} {n : Nat} (hf : ∀ x, (f x).length = n) (hn : 0 < n) {l : List α} {j : Nat} {v : β} (h : (l.flatMap f)[j]? = some v) : ∃ x, l[j / n]? = some x ∧ (f x)[j % n]? = some v := by
  have hlt : j < l.length * n := by rw [← flat_length hf l]; exact (List.getElem?_eq_some_iff.1 h).1
  have hi : j / n < l.length := Nat.div_lt_of_lt_mul (by rw [Nat.mul_comm]; exact hlt)
  refine ⟨l[j / n], List.getElem?_eq_getElem hi, ?_⟩
  rw [← flat_get hf (List.getElem?_eq_getElem hi) (Nat.mod_lt _ hn), Nat.div_add_mod']
  exact h
theorem cA_len (x : Attrd) : (cA x).length = 4 := rfl
theorem cI_len (x : IDd) : (cI x).length = 2 := rfl
theorem cellsA_len (l : List Attrd) : (cellsA l).length = l.length * 4 := flat_length cA_len l
theorem cellsI_len (l : List IDd) : (cellsI l).length = l.length * 2 := flat_length cI_len l
theorem cellsI_one (l : List IDd) : ∀ v ∈ cellsI l, v.oneCell' = true := by
  intro v hv
  obtain ⟨x, _, hx⟩ := List.mem_flatMap.1 hv
  simp [cI] at hx
  rcases hx with rfl | rfl <;> rfl
/-- The cells of Attrs that lie there. -/
theorem AttrsIn.src {w : World} {b off : Nat} {l : List Attrd} (h : AttrsIn w b off l) : ∀ j v, (cellsA l)[j]? = some v → w.cell? ⟨b, off + j, none⟩ = some v := by
  intro j v hj
  obtain ⟨x, hx, hv⟩ := flat_mem cA_len (by omega) hj
  obtain ⟨h0, h1, h2, h3⟩ := h _ x hx
  have hr : j % 4 = 0 ∨ j % 4 = 1 ∨ j % 4 = 2 ∨ j % 4 = 3 := by omega
  have hj' : j = j / 4 * 4 + j % 4 := by omega
  rcases hr with e | e | e | e <;> rw [e] at hv <;> simp [cA] at hv <;> subst hv
  · rw [show off + j = off + j / 4 * 4 by omega]; exact h0
  · rw [show off + j = off + j / 4 * 4 + 1 by omega]; exact h1
  · rw [show off + j = off + j / 4 * 4 + 2 by omega]; exact h2
  · rw [show off + j = off + j / 4 * 4 + 3 by omega]; exact h3
theorem IDsIn.src {w : World} {b off : Nat} {l : List IDd} (h : IDsIn w b off l) : ∀ j v, (cellsI l)[j]? = some v → w.cell? ⟨b, off + j, none⟩ = some v := by
  intro j v hj
  obtain ⟨x, hx, hv⟩ := flat_mem cI_len (by omega) hj
  obtain ⟨h0, h1⟩ := h _ x hx
  have hr : j % 2 = 0 ∨ j % 2 = 1 := by omega
  rcases hr with e | e <;> rw [e] at hv <;> simp [cI] at hv <;> subst hv
  · rw [show off + j = off + j / 2 * 2 by omega]; exact h0
  · rw [show off + j = off + j / 2 * 2 + 1 by omega]; exact h1
theorem blk_cell {w : World} {b : Nat} {cs : List Value} {t : TypeId} {fz : Nat × Nat} (h : w.heap[b]? = some (.cells cs.toArray t fz)) (j : Nat) : w.cell? ⟨b, j, none⟩ = cs[j]? := by simp [World.cell?, h]
theorem block_cell' {w : World} {k : Nat} {c : Array Value} {t : TypeId} {fz : Nat × Nat} (h : w.heap[k]? = some (.cells c t fz)) (j : Nat) : w.cell? ⟨k, j, none⟩ = c[j]? := by simp [World.cell?, h]
theorem attrsIn_of {w : World} {b : Nat} {l : List Attrd} {rest : List Value} {t : TypeId} {fz : Nat × Nat} (h : w.heap[b]? = some (.cells (cellsA l ++ rest).toArray t fz)) : AttrsIn w b 0 l := by
  intro i x hx
  have hlt : i < l.length := (List.getElem?_eq_some_iff.1 hx).1
  have key : ∀ r, r < 4 → w.cell? ⟨b, i * 4 + r, none⟩ = (cA x)[r]? := by
    intro r hr
    rw [blk_cell h, List.getElem?_append_left (by rw [cellsA_len]; omega)]
    exact flat_get cA_len hx hr
  refine ⟨?_, ?_, ?_, ?_⟩
  · rw [show 0 + i * 4 = i * 4 + 0 by omega]; exact key 0 (by omega)
  · rw [show 0 + i * 4 + 1 = i * 4 + 1 by omega]; exact key 1 (by omega)
  · rw [show 0 + i * 4 + 2 = i * 4 + 2 by omega]; exact key 2 (by omega)
  · rw [show 0 + i * 4 + 3 = i * 4 + 3 by omega]; exact key 3 (by omega)
theorem idsIn_of {w : World} {b : Nat} {l : List IDd} {rest : List Value} {t : TypeId} {fz : Nat × Nat} (h : w.heap[b]? = some (.cells (cellsI l ++ rest).toArray t fz)) : IDsIn w b 0 l := by
  intro i x hx
  have hlt : i < l.length := (List.getElem?_eq_some_iff.1 hx).1
  have key : ∀ r, r < 2 → w.cell? ⟨b, i * 2 + r, none⟩ = (cI x)[r]? := by
    intro r hr
    rw [blk_cell h, List.getElem?_append_left (by rw [cellsI_len]; omega)]
    exact flat_get cI_len hx hr
  refine ⟨?_, ?_⟩
  · rw [show 0 + i * 2 = i * 2 + 0 by omega]; exact key 0 (by omega)
  · rw [show 0 + i * 2 + 1 = i * 2 + 1 by omega]; exact key 1 (by omega)
def okR (x : Resd) : Prop := okI x.id ∧ (∀ a ∈ x.attrs, okA a) ∧ (∀ i ∈ x.after, okI i) ∧ x.attrs.length ≤ 9223372036854775807 ∧ x.after.length ≤ 9223372036854775807
theorem ownsRow_keep {D : Nat → Prop} {w w' : World} {base : Nat} {e : TypeId} {size : Nat} {v : Value} {n : Nat} {xs : List Value} (h : w.ownsRow base e size v n xs) (k : Kept D w w') (hd : ∀ g c, w.heap[g]? = some (.cells c e (0, 0)) → ¬ D g) : w'.ownsRow base e size v n xs := by
  obtain ⟨h1, h2⟩ := h
  refine ⟨h1, ?_⟩
  rcases h2 with h2 | ⟨g, cap, cur, hv, hg, hh, r⟩
  · exact .inl h2
  · exact .inr ⟨g, cap, cur, hv, hg, k.heap hh (hd g cur hh), r⟩
theorem ownsRow_form {w : World} {base : Nat} {e : TypeId} {size : Nat} {v : Value} {n : Nat} {xs : List Value} (h : w.ownsRow base e size v n xs) : ∃ pa cap, v = .slice pa n cap := by
  rcases h.2 with ⟨rfl, rfl⟩ | ⟨g, cap, cur, rfl, _⟩
  · exact ⟨none, 0, rfl⟩
  · exact ⟨_, cap, rfl⟩
theorem ownsRow_ne {w : World} {base : Nat} {e : TypeId} {size : Nat} {v : Value} {n : Nat} {xs : List Value} (h : w.ownsRow base e size v n xs) {k : Nat} {c : Array Value} {t : TypeId} {fz : Nat × Nat} (hk : w.heap[k]? = some (.cells c t fz)) (ht : t ≠ e) : some k ≠ v.ownBlock := by
  intro hv
  rcases h.2 with ⟨rfl, _⟩ | ⟨g, cap, cur, rfl, _, hg, _⟩
  · simp [Value.ownBlock] at hv
  · simp [Value.ownBlock] at hv
    subst hv
    rw [hg] at hk
    cases hk; exact ht rfl
theorem grown_kept {w w' : World} {o : Obj} {row : Option Nat} (h : (w.alloc o).grownBy w' row) : Kept (fun k => some k = row) w w' :=
  ⟨h.os, h.tape, h.output, by have := h.size; simp at this; omega, fun k hk hn => (h.block k (by simp; omega) hn).trans (Below.heap_alloc w o k hk)⟩
theorem infoAttr : (Tryz.prog.info? 66).map (fun i => (i.zero, i.size, i.bytes)) = some (some (.agg #[.string ⟨#[]⟩, .bool false, .string ⟨#[]⟩, .int .i64 0]), 4, 48) := by kernel_rfl
theorem infoID : (Tryz.prog.info? 25).map (fun i => (i.zero, i.size, i.bytes)) = some (some (.agg #[.string ⟨#[]⟩, .string ⟨#[]⟩]), 2, 32) := by kernel_rfl
theorem infoRes : (Tryz.prog.info? 29).map (fun i => (i.zero, i.size, i.bytes)) = some (some (.agg #[.string ⟨#[]⟩, .string ⟨#[]⟩, .slice none 0 0, .slice none 0 0]), 4, 80) := by kernel_rfl
end Go.Proofs.YtfmcgdglalljgaaGreatDoor

namespace Go.Proofs.YtfmcgdglalljgaaGreatDoor
open Go.RowKit

set_option maxRecDepth 100000 in
set_option maxHeartbeats 800000 in
theorem everyRes (v : Value) (l : List Resd) (w : World) (hv : RessV w v l) :
    Calls Tryz.prog 49 #[v, .func (.func 79) #[] #[]] w fun e w' => e = .returned (.bool (l.all mayB)) ∧ Ext w w' := by
  obtain ⟨⟨a, cap, rfl, hcap, hmax, hs⟩, hfew⟩ := hv
  go_enter Tryz.func49, Tryz.ntmps49
  go_wp2
  go_loopw [9] (fun i wr => ∃ k : Nat, k ≤ l.length ∧ i = .int .i64 k ∧ Hid ((l.take k).all mayB = true) ∧ Ext w wr) (fun i _ => l.length - (intOf i).toNat)
  case atStart => exact ⟨0, Nat.zero_le _, rfl, by simp [Hid], Ext.refl _⟩
  case round =>
    obtain ⟨k, hk, rfl, hall, he⟩ := hrel
    by_cases hlt : k < l.length
    · rcases hs with rfl | ⟨b, off, rfl, hin⟩
      · simp at hlt
      obtain ⟨x, hx⟩ := some_of_lt hlt
      obtain ⟨g0, g1, c2, c3, g2, g3, hres⟩ := (hin.ext he) k x hx
      have hres0 := hide hres
      obtain ⟨a2, p2, rfl⟩ := hres.attrs.form
      obtain ⟨a3, p3, rfl⟩ := hres.after.form
      clear hres
      have Hs := hide (all_succ (p := mayB) hx hall.out)
      have Hf := hide (all_no (p := mayB) hx)
      replace hin := hide hin
      replace he := hide he
      replace hx := hide hx
      go_wp2_with fail
      refine (mayBe _ _ x _ (hres0.out.ext ((Ext.refl _).alloc _))).mono ?_
      rintro e w1 ⟨rfl, he1⟩
      replace he1 := hide he1
      cases hb : mayB x
      · go_wp2_with fail
        go_ret
        exact ⟨retB (unhide Hf hb).symm, (he.out.alloc _).trans he1.out⟩
      · go_wp2_with fail
        go_roundw
        case rel => exact ⟨k + 1, by omega, by go_num, by rw [unhide Hs]; exact hb, (he.out.alloc _).trans he1.out⟩
        case measure => simp [intOf]; omega
    · have Hl := hide (show l.take k = l from List.take_of_length_le (by omega))
      replace he := hide he
      replace hs := hide hs
      go_wp2
      go_ret
      exact ⟨retB (by rw [unhide Hl] at hall; exact hall.out.symm), he.out⟩

set_option maxRecDepth 100000 in
set_option maxHeartbeats 800000 in
theorem compareRes (i j : IDd) (a2 a3 b2 b3 : Option Addr) (n2 n3 m2 m3 p2 p3 q2 q3 : Nat) (w : World) :
    Calls Tryz.prog 81 #[.agg #[.string i.kind, .string i.name, .slice a2 n2 p2, .slice a3 n3 p3], .agg #[.string j.kind, .string j.name, .slice b2 m2 q2, .slice b3 m3 q3]] w fun e w' => e = .returned (.int .i64 (cmpI i j)) ∧ Ext w w' := by
  go_enter Tryz.func81, Tryz.ntmps81
  go_wp2_with fail
  refine (compareIDs i j _).mono ?_
  rintro e w1 ⟨rfl, he1⟩
  replace he1 := hide he1
  go_wp2_with fail
  go_ret
  exact ⟨rfl, (((Ext.refl _).alloc _).alloc _).trans he1.out⟩

set_option maxRecDepth 100000 in
set_option maxHeartbeats 3200000 in
theorem risesRes (v : Value) (l : List Resd) (w : World) (hv : RessV w v l) :
    Calls Tryz.prog 80 #[v, .func (.func 81) #[] #[]] w fun e w' => e = .returned (.bool (risesB lessR l)) ∧ Ext w w' := by
  obtain ⟨⟨a, cap, rfl, hcap, hmax, hs⟩, hfew⟩ := hv
  go_enter Tryz.func80, Tryz.ntmps80
  go_wp2
  go_loopw [5] (fun i wr => ∃ m : Nat, 1 ≤ m ∧ (m ≤ l.length ∨ m = 1) ∧ i = .int .i64 m ∧ Hid (risesB lessR (l.take m) = true) ∧ Ext w wr) (fun i _ => l.length - (intOf i).toNat)
  case atStart => exact ⟨1, Nat.le_refl _, .inr rfl, rfl, rises_one _, Ext.refl _⟩
  case round =>
    obtain ⟨m, hm1, hk, rfl, hall, he⟩ := hrel
    obtain ⟨k, hkm⟩ : ∃ k, m = k + 1 := ⟨m - 1, by omega⟩
    by_cases hlt : m < l.length
    · rcases hs with rfl | ⟨b, off, rfl, hin⟩
      · simp at hlt
      obtain ⟨x, hx⟩ := some_of_lt (show k < l.length by omega)
      obtain ⟨y, hy⟩ := some_of_lt hlt
      obtain ⟨g0, g1, c2, c3, g2, g3, hres⟩ := (hin.ext he) k x hx
      obtain ⟨k0, k1, d2, d3, k2, k3, hres'⟩ := (hin.ext he) m y hy
      obtain ⟨a2, p2, rfl⟩ := hres.attrs.form
      obtain ⟨a3, p3, rfl⟩ := hres.after.form
      obtain ⟨b2, q2, rfl⟩ := hres'.attrs.form
      obtain ⟨b3, q3, rfl⟩ := hres'.after.form
      clear hres hres'
      have Hs : Hid (risesB lessR (l.take (m + 1)) = (risesB lessR (l.take m) && lessR x y)) := by subst hkm; exact rises_take (lt := lessR) hx hy
      have Hf : Hid (lessR x y = false → risesB lessR l = false) := by subst hkm; exact rises_no (lt := lessR) hx hy
      have i1 : (0 : Int) ≤ (k : Int) := by omega
      have i2 : (m : Int) < (l.length : Int) := by omega
      have i3 : (k : Int) < (l.length : Int) := by omega
      have i4 : (0 : Int) ≤ (m : Int) := by omega
      have e1 : IntKind.i64.wrap ((m : Int) - 1) = (k : Int) := by rw [IntKind.wrap_i64]; omega
      replace hin := hide hin
      replace he := hide he
      replace hx := hide hx
      replace hy := hide hy
      replace hk := hide hk
      replace hkm := hide hkm
      generalize x.attrs.length = n2 at *
      generalize x.after.length = n3 at *
      generalize y.attrs.length = m2 at *
      generalize y.after.length = m3 at *
      go_wp2_with fail
      go_region_held3 (fun w' => w'.cell? ⟨b, off + k * 4, none⟩ = some (.string x.id.kind) ∧ w'.cell? ⟨b, off + k * 4 + 1, none⟩ = some (.string x.id.name) ∧ w'.cell? ⟨b, off + k * 4 + 2, none⟩ = some (.slice a2 n2 p2) ∧ w'.cell? ⟨b, off + k * 4 + 3, none⟩ = some (.slice a3 n3 p3) ∧ w'.cell? ⟨b, off + m * 4, none⟩ = some (.string y.id.kind) ∧ w'.cell? ⟨b, off + m * 4 + 1, none⟩ = some (.string y.id.name) ∧ w'.cell? ⟨b, off + m * 4 + 2, none⟩ = some (.slice b2 m2 q2) ∧ w'.cell? ⟨b, off + m * 4 + 3, none⟩ = some (.slice b3 m3 q3)) (go_keep)
        ((go_at_call 81; refine (compareRes x.id y.id _ _ _ _ _ _ _ _ _ _ _ _ _).mono ?_; rintro e w1 ⟨rfl, he1⟩; have q0 := he1.cells (p := ⟨b, off + k * 4, none⟩) (v := .string x.id.kind) (by simpa using g0); have q1 := he1.cells (p := ⟨b, off + k * 4 + 1, none⟩) (v := .string x.id.name) (by simpa using g1); have q4 := he1.cells (p := ⟨b, off + k * 4 + 2, none⟩) (v := .slice a2 n2 p2) (by simpa using g2); have q5 := he1.cells (p := ⟨b, off + k * 4 + 3, none⟩) (v := .slice a3 n3 p3) (by simpa using g3); have r0 := he1.cells (p := ⟨b, off + m * 4, none⟩) (v := .string y.id.kind) (by simpa using k0); have r1 := he1.cells (p := ⟨b, off + m * 4 + 1, none⟩) (v := .string y.id.name) (by simpa using k1); have r4 := he1.cells (p := ⟨b, off + m * 4 + 2, none⟩) (v := .slice b2 m2 q2) (by simpa using k2); have r5 := he1.cells (p := ⟨b, off + m * 4 + 3, none⟩) (v := .slice b3 m3 q3) (by simpa using k3); replace he1 := hide he1))
      by_cases hb : 0 ≤ cmpI x.id y.id
      · have Hb := hide (show lessR x y = false by simp [lessR, lessI]; omega)
        go_wp2
        go_ret
        exact ⟨retB (unhide Hf (unhide Hb)).symm, he.out.drew.trans he1.out⟩
      · have hd : decide (0 ≤ cmpI x.id y.id) = false := by simpa using hb
        have Hb := hide (show lessR x y = true by simp [lessR, lessI]; omega)
        go_wp2
        go_roundw
        case rel => exact ⟨m + 1, by omega, .inl (by omega), by go_num, by rw [unhide Hs]; simp [Hid, hall.out, unhide Hb], he.out.drew.trans he1.out⟩
        case measure => simp [intOf]; omega
    · have Hl : Hid (l.take m = l) := List.take_of_length_le (by omega)
      replace he := hide he
      replace hs := hide hs
      replace hkm := hide hkm
      go_wp2
      go_ret
      exact ⟨retB (by rw [unhide Hl] at hall; exact hall.out.symm), he.out⟩

set_option maxRecDepth 100000 in
set_option maxHeartbeats 800000 in
theorem allMayBe (v : Value) (l : List Resd) (w : World) (hv : RessV w v l) :
    Calls Tryz.prog 45 #[v] w fun e w' => e = .returned (.bool (mayAllB l)) ∧ Ext w w' := by
  have hv0 := hide hv
  obtain ⟨⟨a, cap, rfl, hcap, hmax, hs⟩, hfew⟩ := hv
  clear hs
  by_cases h12 : 12 < l.length
  · have H := hide (show mayAllB l = false by simp [mayAllB]; omega)
    have h' : decide ((l.length : Int) ≤ 12) = false := by simp; omega
    go_enter Tryz.func45, Tryz.ntmps45
    go_wp2_with fail
    go_ret
    exact ⟨retB (by rw [unhide H]), Ext.refl _⟩
  have h' : (l.length : Int) ≤ 12 := by omega
  have H := hide (show mayAllB l = (l.all mayB && risesB lessR l) by simp only [mayAllB]; rw [decide_eq_true (show l.length ≤ 12 by omega)]; simp)
  go_enter Tryz.func45, Tryz.ntmps45
  go_wp2_with fail
  refine (everyRes _ l _ hv0.out).mono ?_
  rintro e w1 ⟨rfl, he1⟩
  replace he1 := hide he1
  cases h1 : l.all mayB
  · go_wp2_with fail
    go_ret
    exact ⟨retB (by rw [unhide H, h1]; rfl), he1.out⟩
  go_wp2_with fail
  refine (risesRes _ l _ (hv0.out.ext he1.out)).mono ?_
  rintro e w2 ⟨rfl, he2⟩
  replace he2 := hide he2
  go_wp2_with fail
  go_ret
  exact ⟨retB (by rw [unhide H, h1]; simp), he1.out.trans he2.out⟩
end Go.Proofs.YtfmcgdglalljgaaGreatDoor

namespace Go.Proofs.YtfmcgdglalljgaaGreatDoor
open Go.RowKit

end Go.Proofs.YtfmcgdglalljgaaGreatDoor

namespace Go.Proofs.YtfmcgdglalljgaaGreatDoor
open Go.RowKit

structure Recd where
  kind : Int
  epoch : Int
  number : Int
  op : Int
  res : Resd
def emptyB (x : Resd) : Bool := x.id.kind.data.toList.isEmpty && x.id.name.data.toList.isEmpty && x.attrs.isEmpty && x.after.isEmpty
def noneB (r : Recd) : Bool := r.op == 0 && emptyB r.res
def stepB (r : Recd) : Bool := decide (1 ≤ r.op) && decide (r.op ≤ 3) && mayB r.res
/-- A record that may be. -/
def recB (r : Recd) : Bool :=
  decide (1 ≤ r.epoch ∧ r.epoch ≤ 1000000 ∧ 0 ≤ r.number ∧ r.number ≤ 1000000) &&
    (if r.kind = 1 then r.number == 0 && noneB r else if r.kind = 2 then stepB r else if r.kind = 3 ∨ r.kind = 4 then noneB r else false)

set_option maxRecDepth 100000 in
set_option maxHeartbeats 400000 in
theorem eqNilA (a : Option Addr) (n cap : Nat) (w : World) (hn : n ≤ 9223372036854775807) :
    Calls Tryz.prog 126 #[.slice a n cap, .slice none 0 0] w fun e w' => e = .returned (.bool (decide (n = 0))) ∧ w' = w := by
  by_cases h0 : n = 0
  · subst h0
    go_enter Tryz.func126, Tryz.ntmps126
    go_wp2
    go_loop [13] (fun i => i = .int .i64 0) (fun _ => 0)
    case atStart => rfl
    case round =>
      subst hrel
      go_wp2
      go_ret
      exact ⟨rfl, rfl⟩
  · have h1 : ((n : Int) != 0) = true := by simp; omega
    have h2 := hide (show decide (n = 0) = false by simp [h0])
    go_enter Tryz.func126, Tryz.ntmps126
    go_wp2
    go_ret
    exact ⟨retB (by rw [h2.out]), rfl⟩

set_option maxRecDepth 100000 in
set_option maxHeartbeats 400000 in
theorem eqNilI (a : Option Addr) (n cap : Nat) (w : World) (hn : n ≤ 9223372036854775807) :
    Calls Tryz.prog 127 #[.slice a n cap, .slice none 0 0] w fun e w' => e = .returned (.bool (decide (n = 0))) ∧ w' = w := by
  by_cases h0 : n = 0
  · subst h0
    go_enter Tryz.func127, Tryz.ntmps127
    go_wp2
    go_loop [13] (fun i => i = .int .i64 0) (fun _ => 0)
    case atStart => rfl
    case round =>
      subst hrel
      go_wp2
      go_ret
      exact ⟨rfl, rfl⟩
  · have h1 : ((n : Int) != 0) = true := by simp; omega
    have h2 := hide (show decide (n = 0) = false by simp [h0])
    go_enter Tryz.func127, Tryz.ntmps127
    go_wp2
    go_ret
    exact ⟨retB (by rw [h2.out]), rfl⟩


set_option maxRecDepth 100000 in
set_option maxHeartbeats 800000 in
theorem sameNoneR (k n : ByteArray) (a2 a3 : Option Addr) (n2 n3 p2 p3 : Nat) (w : World) (h2 : n2 ≤ 9223372036854775807) (h3 : n3 ≤ 9223372036854775807) :
    Calls Tryz.prog 93 #[.agg #[.string k, .string n, .slice a2 n2 p2, .slice a3 n3 p3], .agg #[.string ⟨#[]⟩, .string ⟨#[]⟩, .slice none 0 0, .slice none 0 0]] w fun e w' => e = .returned (.bool (k.data.toList.isEmpty && n.data.toList.isEmpty && decide (n2 = 0) && decide (n3 = 0))) ∧ Ext w w' := by
  go_enter Tryz.func93, Tryz.ntmps93
  go_wp2_with (first
    | (go_at_call 126; refine (eqNilA _ _ _ _ h2).mono ?_; rintro e w' ⟨rfl, rfl⟩)
    | (go_at_call 127; refine (eqNilI _ _ _ _ h3).mono ?_; rintro e w' ⟨rfl, rfl⟩))
  all_goals go_ret
  all_goals refine ⟨retB ?_, ((Ext.refl _).alloc _).alloc _⟩
  all_goals simp_all [ByteArray.toList_eq]

set_option maxRecDepth 100000 in
set_option maxHeartbeats 800000 in
theorem isNoStep (r : Recd) (c2 c3 : Value) (w : World) (hr : ResV w c2 c3 r.res) :
    Calls Tryz.prog 63 #[.agg #[.int .i64 r.op, .string r.res.id.kind, .string r.res.id.name, c2, c3]] w fun e w' => e = .returned (.bool (noneB r)) ∧ Ext w w' := by
  obtain ⟨hI, hA, hF⟩ := hr
  obtain ⟨a2, p2, rfl⟩ := hA.form
  obtain ⟨a3, p3, rfl⟩ := hF.form
  have nA := hA.few
  have nF := hF.few
  replace hA := hide hA; replace hF := hide hF; replace hI := hide hI
  by_cases h0 : r.op = 0
  · have h0' : (r.op == 0) = true := by simpa using h0
    have H := hide (show noneB r = (r.res.id.kind.data.toList.isEmpty && r.res.id.name.data.toList.isEmpty && decide (r.res.attrs.length = 0) && decide (r.res.after.length = 0)) by
      simp [noneB, emptyB, h0, Bool.and_assoc]
      cases r.res.attrs <;> cases r.res.after <;> simp)
    clear h0
    go_enter Tryz.func63, Tryz.ntmps63
    go_wp2_with fail
    refine (sameNoneR _ _ _ _ _ _ _ _ _ nA nF).mono ?_
    rintro e w1 ⟨rfl, he1⟩
    replace he1 := hide he1
    go_wp2_with fail
    go_ret
    exact ⟨retB (by rw [H.out]; simp), ((Ext.refl _).alloc _).trans he1.out⟩
  · have h0' : (r.op == 0) = false := by simpa using h0
    have H := hide (show noneB r = false by simp [noneB, h0'])
    go_enter Tryz.func63, Tryz.ntmps63
    go_wp2_with fail
    go_ret
    exact ⟨retB (by rw [H.out]), (Ext.refl _).alloc _⟩

set_option maxRecDepth 100000 in
set_option maxHeartbeats 800000 in
theorem isStep (r : Recd) (c2 c3 : Value) (w : World) (hr : ResV w c2 c3 r.res) :
    Calls Tryz.prog 64 #[.agg #[.int .i64 r.op, .string r.res.id.kind, .string r.res.id.name, c2, c3]] w fun e w' => e = .returned (.bool (stepB r)) ∧ Ext w w' := by
  have hr0 := hide hr
  obtain ⟨hI, hA, hF⟩ := hr
  obtain ⟨a2, p2, rfl⟩ := hA.form
  obtain ⟨a3, p3, rfl⟩ := hF.form
  replace hA := hide hA; replace hF := hide hF; replace hI := hide hI
  by_cases h1 : 1 ≤ r.op ∧ r.op ≤ 3
  · obtain ⟨h1, h2⟩ := h1
    have H := hide (show stepB r = mayB r.res by simp [stepB, h1, h2])
    go_enter Tryz.func64, Tryz.ntmps64
    go_wp2_with fail
    refine (mayBe _ _ r.res _ (hr0.out.ext ((Ext.refl _).alloc _))).mono ?_
    rintro e w1 ⟨rfl, he1⟩
    replace he1 := hide he1
    go_wp2_with fail
    go_ret
    exact ⟨retB (by rw [H.out]), ((Ext.refl _).alloc _).trans he1.out⟩
  · have H := hide (show stepB r = false by simp [stepB]; omega)
    go_enter Tryz.func64, Tryz.ntmps64
    by_cases h2 : 1 ≤ r.op
    · have h3 : ¬ r.op ≤ 3 := fun h => h1 ⟨h2, h⟩
      have h3' : decide (r.op ≤ 3) = false := by simpa using h3
      clear h1
      go_wp2_with fail
      go_ret
      exact ⟨retB (by rw [H.out]), (Ext.refl _).alloc _⟩
    · have h2' : decide (1 ≤ r.op) = false := by simpa using h2
      clear h1
      go_wp2_with fail
      go_ret
      exact ⟨retB (by rw [H.out]), (Ext.refl _).alloc _⟩

theorem recB_in {r : Recd} (h : 1 ≤ r.epoch ∧ r.epoch ≤ 1000000 ∧ 0 ≤ r.number ∧ r.number ≤ 1000000) : recB r = (if r.kind = 1 then r.number == 0 && noneB r else if r.kind = 2 then stepB r else if r.kind = 3 ∨ r.kind = 4 then noneB r else false) := by
  simp [recB, h]
theorem recB_out {r : Recd} (h : ¬ (1 ≤ r.epoch ∧ r.epoch ≤ 1000000 ∧ 0 ≤ r.number ∧ r.number ≤ 1000000)) : recB r = false := by
  simp only [recB, decide_eq_false h]; rfl

set_option maxRecDepth 100000 in
set_option maxHeartbeats 1600000 in
theorem recMay (r : Recd) (c2 c3 : Value) (w : World) (hr : ResV w c2 c3 r.res) :
    Calls Tryz.prog 34 #[.agg #[.int .i64 r.kind, .int .i64 r.epoch, .int .i64 r.number, .int .i64 r.op, .string r.res.id.kind, .string r.res.id.name, c2, c3]] w fun e w' => e = .returned (.bool (recB r)) ∧ Ext w w' := by
  have hr0 := hide hr
  obtain ⟨hI, hA, hF⟩ := hr
  obtain ⟨a2, p2, rfl⟩ := hA.form
  obtain ⟨a3, p3, rfl⟩ := hF.form
  replace hA := hide hA; replace hF := hide hF; replace hI := hide hI
  go_enter Tryz.func34, Tryz.ntmps34
  have Ho := hide (@recB_out r)
  have Hi := hide (@recB_in r)
  by_cases h1 : r.epoch < 1
  · have h1' : decide (r.epoch < 1) = true := by simpa using h1
    go_wp2_with fail
    go_ret
    exact ⟨retB (by rw [Ho.out (by omega)]), (Ext.refl _).alloc _⟩
  have h1' : decide (r.epoch < 1) = false := by simpa using h1
  by_cases h2 : 1000000 < r.epoch
  · have h2' : decide (1000000 < r.epoch) = true := by simpa using h2
    go_wp2_with fail
    go_ret
    exact ⟨retB (by rw [Ho.out (by omega)]), (Ext.refl _).alloc _⟩
  have h2' : decide (1000000 < r.epoch) = false := by simpa using h2
  by_cases h3 : r.number < 0
  · have h3' : decide (r.number < 0) = true := by simpa using h3
    go_wp2_with fail
    go_ret
    exact ⟨retB (by rw [Ho.out (by omega)]), (Ext.refl _).alloc _⟩
  have h3' : decide (r.number < 0) = false := by simpa using h3
  by_cases h4 : 1000000 < r.number
  · have h4' : decide (1000000 < r.number) = true := by simpa using h4
    go_wp2_with fail
    go_ret
    exact ⟨retB (by rw [Ho.out (by omega)]), (Ext.refl _).alloc _⟩
  have h4' : decide (1000000 < r.number) = false := by simpa using h4
  have HI := hide (Hi.out (by omega))
  clear Ho Hi
  by_cases k1 : r.kind = 1
  · by_cases n0 : r.number = 0
    · have n0' : (r.number == 0) = true := by simpa using n0
      have k1' : (r.kind == 1) = true := by simpa using k1
      have HJ := hide (show recB r = noneB r by rw [HI.out, if_pos k1, n0']; rfl)
      clear n0 k1 h1 h2 h3 h4
      go_wp2_with fail
      refine (isNoStep r _ _ _ (hr0.out.ext ((Ext.refl _).alloc _))).mono ?_
      rintro e w1 ⟨rfl, he1⟩
      replace he1 := hide he1
      go_wp2_with fail
      go_ret
      exact ⟨retB (by rw [HJ.out]), ((Ext.refl _).alloc _).trans he1.out⟩
    · have n0' : (r.number == 0) = false := by simpa using n0
      have k1' : (r.kind == 1) = true := by simpa using k1
      have HJ := hide (show recB r = false by rw [HI.out, if_pos k1, n0']; rfl)
      clear n0 k1 h1 h2 h3 h4
      go_wp2_with fail
      go_ret
      exact ⟨retB (by rw [HJ.out]), (Ext.refl _).alloc _⟩
  have k1' : (r.kind == 1) = false := by simpa using k1
  by_cases k2 : r.kind = 2
  · have HJ := hide (show recB r = stepB r by rw [HI.out, if_neg k1, if_pos k2])
    have k2' : (r.kind == 2) = true := by simpa using k2
    clear k1 k2 h1 h2 h3 h4
    go_wp2_with fail
    refine (isStep r _ _ _ (hr0.out.ext ((Ext.refl _).alloc _))).mono ?_
    rintro e w1 ⟨rfl, he1⟩
    replace he1 := hide he1
    go_wp2_with fail
    go_ret
    exact ⟨retB (by rw [HJ.out]), ((Ext.refl _).alloc _).trans he1.out⟩
  have k2' : (r.kind == 2) = false := by simpa using k2
  by_cases k3 : r.kind = 3
  · have HJ := hide (show recB r = noneB r by rw [HI.out, if_neg k1, if_neg k2, if_pos (.inl k3)])
    have k3' : (r.kind == 3) = true := by simpa using k3
    clear k1 k2 k3 h1 h2 h3 h4
    go_wp2_with fail
    refine (isNoStep r _ _ _ (hr0.out.ext ((Ext.refl _).alloc _))).mono ?_
    rintro e w1 ⟨rfl, he1⟩
    replace he1 := hide he1
    go_wp2_with fail
    go_ret
    exact ⟨retB (by rw [HJ.out]), ((Ext.refl _).alloc _).trans he1.out⟩
  have k3' : (r.kind == 3) = false := by simpa using k3
  by_cases k4 : r.kind = 4
  · have HJ := hide (show recB r = noneB r by rw [HI.out, if_neg k1, if_neg k2, if_pos (.inr k4)])
    have k4' : (r.kind == 4) = true := by simpa using k4
    clear k1 k2 k3 k4 h1 h2 h3 h4
    go_wp2_with fail
    refine (isNoStep r _ _ _ (hr0.out.ext ((Ext.refl _).alloc _))).mono ?_
    rintro e w1 ⟨rfl, he1⟩
    replace he1 := hide he1
    go_wp2_with fail
    go_ret
    exact ⟨retB (by rw [HJ.out]), ((Ext.refl _).alloc _).trans he1.out⟩
  have k4' : (r.kind == 4) = false := by simpa using k4
  have HJ := hide (show recB r = false by rw [HI.out, if_neg k1, if_neg k2, if_neg (by omega)])
  clear k1 k2 k3 k4 h1 h2 h3 h4
  go_wp2_with fail
  go_ret
  exact ⟨retB (by rw [HJ.out]), (Ext.refl _).alloc _⟩
end Go.Proofs.YtfmcgdglalljgaaGreatDoor

namespace Go.Proofs.YtfmcgdglalljgaaGreatDoor
open Go.RowKit

end Go.Proofs.YtfmcgdglalljgaaGreatDoor

namespace Go.Proofs.YtfmcgdglalljgaaGreatDoor
open Go.RowKit

theorem ordI : OrdK cmpI := ⟨cmpI_zero, cmpI_flip, cmpI_trans⟩
theorem ordS : OrdK cmpS := ⟨cmpS_zero, cmpS_flip, cmpS_trans⟩
end Go.Proofs.YtfmcgdglalljgaaGreatDoor

namespace Go.Proofs.YtfmcgdglalljgaaGreatDoor
open Go.RowKit

set_option maxRecDepth 100000 in
set_option maxHeartbeats 1600000 in
theorem sameRes (c2 c3 d2 d3 : Value) (x : Resd) (w : World) (hu : ResV w c2 c3 x) (hv : ResV w d2 d3 x) :
    Calls Tryz.prog 33 #[.agg #[.string x.id.kind, .string x.id.name, c2, c3], .agg #[.string x.id.kind, .string x.id.name, d2, d3]] w fun e w' => e = .returned (.bool true) ∧ Ext w w' := by
  obtain ⟨a2, p2, rfl⟩ := hu.attrs.form
  obtain ⟨a3, p3, rfl⟩ := hu.after.form
  obtain ⟨b2, q2, rfl⟩ := hv.attrs.form
  obtain ⟨b3, q3, rfl⟩ := hv.after.form
  replace hu := hide hu; replace hv := hide hv
  go_enter Tryz.func33, Tryz.ntmps33
  go_wp2_with fail
  have x0 : Ext w ((w.alloc (.cells #[.string x.id.kind, .string x.id.name, .slice a2 x.attrs.length p2, .slice a3 x.after.length p3] 29)).alloc (.cells #[.string x.id.kind, .string x.id.name, .slice b2 x.attrs.length q2, .slice b3 x.after.length q3] 29)) := ((Ext.refl _).alloc _).alloc _
  replace x0 := hide x0
  refine (sameAttrs _ _ x.attrs _ (hu.out.attrs.ext x0.out) (hv.out.attrs.ext x0.out)).mono ?_
  rintro e w1 ⟨rfl, he1⟩
  have x1 := hide (x0.out.trans he1)
  have c0 := he1.cells (p := ⟨w.heap.size, 0, none⟩) (v := .string x.id.kind) (by simp [go_sem, World.cell?_alloc_past])
  have c1 := he1.cells (p := ⟨w.heap.size, 1, none⟩) (v := .string x.id.name) (by simp [go_sem, World.cell?_alloc_past])
  have c3 := he1.cells (p := ⟨w.heap.size, 3, none⟩) (v := .slice a3 x.after.length p3) (by simp [go_sem, World.cell?_alloc_past])
  have d0 := he1.cells (p := ⟨w.heap.size + 1, 0, none⟩) (v := .string x.id.kind) (by simp [go_sem])
  have d1 := he1.cells (p := ⟨w.heap.size + 1, 1, none⟩) (v := .string x.id.name) (by simp [go_sem])
  have d3 := he1.cells (p := ⟨w.heap.size + 1, 3, none⟩) (v := .slice b3 x.after.length q3) (by simp [go_sem])
  clear he1
  have C0 := hide c0; have C1 := hide c1; have D0 := hide d0; have D1 := hide d1
  go_wp2_with fail
  refine (sameIds _ _ x.after _ (hu.out.after.ext x1.out) (hv.out.after.ext x1.out)).mono ?_
  rintro e w2 ⟨rfl, he2⟩
  have x2 := hide (x1.out.trans he2)
  clear c0 c1 c3 d0 d1 d3
  have c0 := he2.cells C0.out; have c1 := he2.cells C1.out; have d0 := he2.cells D0.out; have d1 := he2.cells D1.out
  clear he2
  go_wp2
  go_ret
  exact ⟨rfl, x2.out⟩
end Go.Proofs.YtfmcgdglalljgaaGreatDoor

namespace Go.Proofs.YtfmcgdglalljgaaGreatDoor
open Go.RowKit

set_option maxRecDepth 100000 in
set_option maxHeartbeats 3200000 in
theorem sameRess (u v : Value) (l : List Resd) (w : World) (hu : RessV w u l) (hv : RessV w v l) :
    Calls Tryz.prog 9 #[u, v] w fun e w' => e = .returned (.bool true) ∧ Ext w w' := by
  obtain ⟨⟨a, cap, rfl, hcap, hmax, hs⟩, hfew⟩ := hu
  obtain ⟨⟨a', cap', rfl, hcap', hmax', hs'⟩, hfew'⟩ := hv
  go_enter Tryz.func9, Tryz.ntmps9
  go_wp2
  go_loopw [5] (fun i wr => ∃ k : Nat, k ≤ l.length ∧ i = .int .i64 k ∧ Ext w wr) (fun i _ => l.length - (intOf i).toNat)
  case atStart => exact ⟨0, Nat.zero_le _, rfl, Ext.refl _⟩
  case round =>
    obtain ⟨k, hk, rfl, he⟩ := hrel
    by_cases hlt : k < l.length
    · rcases hs with rfl | ⟨b, off, rfl, hin⟩
      · simp at hlt
      rcases hs' with rfl | ⟨b', off', rfl, hin'⟩
      · simp at hlt
      obtain ⟨x, hx⟩ := some_of_lt hlt
      obtain ⟨g0, g1, c2, c3, g2, g3, hres⟩ := (hin.ext he) k x hx
      obtain ⟨k0, k1, d2, d3, k2, k3, hres'⟩ := (hin'.ext he) k x hx
      have hr := hide hres; have hr' := hide hres'
      obtain ⟨a2, p2, rfl⟩ := hres.attrs.form
      obtain ⟨a3, p3, rfl⟩ := hres.after.form
      obtain ⟨b2, q2, rfl⟩ := hres'.attrs.form
      obtain ⟨b3, q3, rfl⟩ := hres'.after.form
      clear hres hres'
      have i2 : (k : Int) < (l.length : Int) := by omega
      have i4 : (0 : Int) ≤ (k : Int) := by omega
      replace hin := hide hin; replace hin' := hide hin'
      replace he := hide he
      replace hx := hide hx
      go_wp2_with fail
      go_region_held3 (fun w' => w'.cell? ⟨b, off + k * 4, none⟩ = some (.string x.id.kind) ∧ w'.cell? ⟨b, off + k * 4 + 1, none⟩ = some (.string x.id.name) ∧ w'.cell? ⟨b, off + k * 4 + 2, none⟩ = some (.slice a2 x.attrs.length p2) ∧ w'.cell? ⟨b, off + k * 4 + 3, none⟩ = some (.slice a3 x.after.length p3) ∧ w'.cell? ⟨b', off' + k * 4, none⟩ = some (.string x.id.kind) ∧ w'.cell? ⟨b', off' + k * 4 + 1, none⟩ = some (.string x.id.name) ∧ w'.cell? ⟨b', off' + k * 4 + 2, none⟩ = some (.slice b2 x.attrs.length q2) ∧ w'.cell? ⟨b', off' + k * 4 + 3, none⟩ = some (.slice b3 x.after.length q3)) (go_keep)
        ((go_at_call 33; refine (sameRes _ _ _ _ x _ (hr.out.ext (Ext.refl _).drew) (hr'.out.ext (Ext.refl _).drew)).mono ?_; rintro e w1 ⟨rfl, he1⟩; have q0 := he1.cells (p := ⟨b, off + k * 4, none⟩) (v := .string x.id.kind) (by simpa using g0); have q1 := he1.cells (p := ⟨b, off + k * 4 + 1, none⟩) (v := .string x.id.name) (by simpa using g1); have q4 := he1.cells (p := ⟨b, off + k * 4 + 2, none⟩) (v := .slice a2 x.attrs.length p2) (by simpa using g2); have q5 := he1.cells (p := ⟨b, off + k * 4 + 3, none⟩) (v := .slice a3 x.after.length p3) (by simpa using g3); have r0 := he1.cells (p := ⟨b', off' + k * 4, none⟩) (v := .string x.id.kind) (by simpa using k0); have r1 := he1.cells (p := ⟨b', off' + k * 4 + 1, none⟩) (v := .string x.id.name) (by simpa using k1); have r4 := he1.cells (p := ⟨b', off' + k * 4 + 2, none⟩) (v := .slice b2 x.attrs.length q2) (by simpa using k2); have r5 := he1.cells (p := ⟨b', off' + k * 4 + 3, none⟩) (v := .slice b3 x.after.length q3) (by simpa using k3); replace he1 := hide he1))
      go_wp2
      go_roundw
      case rel => exact ⟨k + 1, by omega, by go_num, he.out.drew.trans he1.out⟩
      case measure => simp [intOf]; omega
    · replace he := hide he
      replace hs := hide hs; replace hs' := hide hs'
      go_wp2
      go_ret
      exact ⟨rfl, he.out⟩
end Go.Proofs.YtfmcgdglalljgaaGreatDoor

namespace Go.Proofs.YtfmcgdglalljgaaGreatDoor
open Go.RowKit

set_option maxRecDepth 100000 in
set_option maxHeartbeats 800000 in
theorem sameStep (r : Recd) (c2 c3 d2 d3 : Value) (w : World) (hu : ResV w c2 c3 r.res) (hv : ResV w d2 d3 r.res) :
    Calls Tryz.prog 36 #[.agg #[.int .i64 r.op, .string r.res.id.kind, .string r.res.id.name, c2, c3], .agg #[.int .i64 r.op, .string r.res.id.kind, .string r.res.id.name, d2, d3]] w fun e w' => e = .returned (.bool true) ∧ Ext w w' := by
  obtain ⟨a2, p2, rfl⟩ := hu.attrs.form
  obtain ⟨a3, p3, rfl⟩ := hu.after.form
  obtain ⟨b2, q2, rfl⟩ := hv.attrs.form
  obtain ⟨b3, q3, rfl⟩ := hv.after.form
  replace hu := hide hu; replace hv := hide hv
  go_enter Tryz.func36, Tryz.ntmps36
  go_wp2_with fail
  refine (sameRes _ _ _ _ r.res _ (hu.out.ext (((Ext.refl _).alloc _).alloc _)) (hv.out.ext (((Ext.refl _).alloc _).alloc _))).mono ?_
  rintro e w1 ⟨rfl, he1⟩
  have k0 := he1.cells (p := ⟨w.heap.size, 0, none⟩) (v := .int .i64 r.op) (by simp [go_sem])
  have k1 := he1.cells (p := ⟨w.heap.size + 1, 0, none⟩) (v := .int .i64 r.op) (by simp [go_sem])
  have X1 := hide ((((Ext.refl w).alloc _).alloc _).trans he1)
  clear he1
  go_wp2_with fail
  all_goals go_ret
  all_goals exact ⟨rfl, X1.out⟩

set_option maxRecDepth 100000 in
set_option maxHeartbeats 1600000 in
theorem sameRecord (r : Recd) (c2 c3 d2 d3 : Value) (w : World) (hu : ResV w c2 c3 r.res) (hv : ResV w d2 d3 r.res) :
    Calls Tryz.prog 12 #[.agg #[.int .i64 r.kind, .int .i64 r.epoch, .int .i64 r.number, .int .i64 r.op, .string r.res.id.kind, .string r.res.id.name, c2, c3], .agg #[.int .i64 r.kind, .int .i64 r.epoch, .int .i64 r.number, .int .i64 r.op, .string r.res.id.kind, .string r.res.id.name, d2, d3]] w fun e w' => e = .returned (.bool true) ∧ Ext w w' := by
  obtain ⟨a2, p2, rfl⟩ := hu.attrs.form
  obtain ⟨a3, p3, rfl⟩ := hu.after.form
  obtain ⟨b2, q2, rfl⟩ := hv.attrs.form
  obtain ⟨b3, q3, rfl⟩ := hv.after.form
  replace hu := hide hu; replace hv := hide hv
  go_enter Tryz.func12, Tryz.ntmps12
  go_wp2_with fail
  refine (sameStep r _ _ _ _ _ (hu.out.ext (((Ext.refl _).alloc _).alloc _)) (hv.out.ext (((Ext.refl _).alloc _).alloc _))).mono ?_
  rintro e w1 ⟨rfl, he1⟩
  have k0 := he1.cells (p := ⟨w.heap.size, 0, none⟩) (v := .int .i64 r.kind) (by simp [go_sem])
  have k1 := he1.cells (p := ⟨w.heap.size + 1, 0, none⟩) (v := .int .i64 r.kind) (by simp [go_sem])
  have k2 := he1.cells (p := ⟨w.heap.size, 1, none⟩) (v := .int .i64 r.epoch) (by simp [go_sem])
  have k3 := he1.cells (p := ⟨w.heap.size + 1, 1, none⟩) (v := .int .i64 r.epoch) (by simp [go_sem])
  have k4 := he1.cells (p := ⟨w.heap.size, 2, none⟩) (v := .int .i64 r.number) (by simp [go_sem])
  have k5 := he1.cells (p := ⟨w.heap.size + 1, 2, none⟩) (v := .int .i64 r.number) (by simp [go_sem])
  have X1 := hide ((((Ext.refl w).alloc _).alloc _).trans he1)
  clear he1
  go_wp2_with fail
  all_goals go_ret
  all_goals exact ⟨rfl, X1.out⟩
end Go.Proofs.YtfmcgdglalljgaaGreatDoor
