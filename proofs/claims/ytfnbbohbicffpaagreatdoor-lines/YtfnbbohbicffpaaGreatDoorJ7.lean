/-
  Lists of Attrs: what the functions that look through them answer.
-/
/-
  Resources that may be: what the program's functions answer.
-/
/-
  Cells of IDs, Attrs and resources; rows that are kept.
-/
import Derived.Test.YtfnbbohbicffpaaGreatDoorJ5
import Derived.Test.YtfnbbohbicffpaaGreatDoorJ2
namespace Go.Proofs.YtfnbbohbicffpaaGreatDoor
open Go.RowKit

theorem after_eq (s : ByteArray) : (s.toList = [97, 102, 116, 101, 114]) = (s.data.toList = afterW) := by rw [ByteArray.toList_eq]; rfl
theorem nil_eq (s : ByteArray) : (s.toList = []) = (s.data.toList = []) := by rw [ByteArray.toList_eq]

set_option maxRecDepth 100000 in
set_option maxHeartbeats 1600000 in
theorem isAttr (x : Attrd) (w : World) (hok : okA x) :
    Calls Tryz.prog 48 #[.agg #[.string x.name, .bool x.isText, .string x.text, .int .i64 x.number]] w fun e w' => e = .returned (.bool (attrB x)) ∧ Ext w w' := by
  obtain ⟨n, t, s, m⟩ := x
  obtain ⟨h1, h2, h3, h4⟩ := hok
  dsimp only at h1 h2 h3 h4 ⊢
  cases hk : wordB n.data.toList
  · have H := hide (show attrB ⟨n, t, s, m⟩ = false by simp [attrB, hk])
    go_enter Tryz.func48, Tryz.ntmps48
    go_wp2_with fail
    refine (isWord _ _ (by omega)).mono ?_
    rintro e w1 ⟨rfl, he⟩
    replace he := hide he
    go_wp2_with fail
    go_ret
    exact ⟨retB (by rw [unhide H]), ((Ext.refl _).alloc _).trans he.out⟩
  by_cases ha : n.data.toList = afterW
  · have H := hide (show attrB ⟨n, t, s, m⟩ = false by simp [attrB, ha])
    have ha' : n.toList = [97, 102, 116, 101, 114] := by rw [after_eq]; exact ha
    replace ha := hide ha
    go_enter Tryz.func48, Tryz.ntmps48
    go_wp2_with fail
    refine (isWord _ _ (by omega)).mono ?_
    rintro e w1 ⟨rfl, he⟩
    have c0 : w1.cell? ⟨w.heap.size, 0, none⟩ = some (.string n) := he.cells (by simp [go_sem])
    replace he := hide he
    go_wp2_with fail
    go_ret
    exact ⟨retB (by rw [unhide H]), ((Ext.refl _).alloc _).trans he.out⟩
  have ha' : ¬ n.toList = [97, 102, 116, 101, 114] := by rw [after_eq]; exact ha
  have ha'' : (n.toList == [97, 102, 116, 101, 114]) = false := by simpa using ha'
  have hA : (n.data.toList == afterW) = false := by simpa using ha
  replace ha := hide ha
  cases t
  · have H := hide (show attrB ⟨n, false, s, m⟩ = (s.data.toList.isEmpty && decide (-1000000000 ≤ m ∧ m ≤ 1000000000)) by simp [attrB, hk, hA])
    have Hn := hide (nil_eq s)
    replace hA := hide hA
    go_enter Tryz.func48, Tryz.ntmps48
    go_wp2_with fail
    refine (isWord _ _ (by omega)).mono ?_
    rintro e w1 ⟨rfl, he⟩
    have c0 : w1.cell? ⟨w.heap.size, 0, none⟩ = some (.string n) := he.cells (by simp [go_sem])
    have c1 : w1.cell? ⟨w.heap.size, 1, none⟩ = some (.bool false) := he.cells (by simp [go_sem])
    have c2 : w1.cell? ⟨w.heap.size, 2, none⟩ = some (.string s) := he.cells (by simp [go_sem])
    have c3 : w1.cell? ⟨w.heap.size, 3, none⟩ = some (.int .i64 m) := he.cells (by simp [go_sem])
    replace he := hide he
    go_wp2_with fail
    all_goals go_ret
    all_goals refine ⟨retB ?_, ((Ext.refl _).alloc _).trans he.out⟩
    all_goals rw [unhide H, Bool.eq_iff_iff]
    all_goals have Hn := unhide Hn
    all_goals simp_all
    all_goals omega
  · have H := hide (show attrB ⟨n, true, s, m⟩ = (stringB s.data.toList && m == 0) by simp [attrB, hk, hA])
    replace hA := hide hA
    go_enter Tryz.func48, Tryz.ntmps48
    go_wp2_with fail
    refine (isWord _ _ (by omega)).mono ?_
    rintro e w1 ⟨rfl, he⟩
    have c0 : w1.cell? ⟨w.heap.size, 0, none⟩ = some (.string n) := he.cells (by simp [go_sem])
    have c1 : w1.cell? ⟨w.heap.size, 1, none⟩ = some (.bool true) := he.cells (by simp [go_sem])
    have c2 : w1.cell? ⟨w.heap.size, 2, none⟩ = some (.string s) := he.cells (by simp [go_sem])
    have c3 : w1.cell? ⟨w.heap.size, 3, none⟩ = some (.int .i64 m) := he.cells (by simp [go_sem])
    replace he := hide he
    go_wp2_with fail
    refine (isString _ _ (by omega)).mono ?_
    rintro e w2 ⟨rfl, he2⟩
    have d3 : w2.cell? ⟨w.heap.size, 3, none⟩ = some (.int .i64 m) := he2.cells c3
    replace he2 := hide he2
    cases hb : stringB s.data.toList
    all_goals go_wp2_with fail
    all_goals go_ret
    all_goals refine ⟨retB ?_, (((Ext.refl _).alloc _).trans he.out).trans he2.out⟩
    all_goals rw [unhide H, hb]
    all_goals simp

set_option maxRecDepth 100000 in
set_option maxHeartbeats 800000 in
theorem everyAttr (v : Value) (l : List Attrd) (w : World) (hv : AttrsV w v l) :
    Calls Tryz.prog 47 #[v, .func (.func 48) #[] #[]] w fun e w' => e = .returned (.bool (l.all attrB)) ∧ Ext w w' := by
  obtain ⟨⟨a, cap, rfl, hcap, hmax, hs⟩, hfew, hok⟩ := hv
  go_enter Tryz.func47, Tryz.ntmps47
  go_wp2
  go_loopw [9] (fun i wr => ∃ k : Nat, k ≤ l.length ∧ i = .int .i64 k ∧ Hid ((l.take k).all attrB = true) ∧ Ext w wr) (fun i _ => l.length - (intOf i).toNat)
  case atStart => exact ⟨0, Nat.zero_le _, rfl, by simp [Hid], Ext.refl _⟩
  case round =>
    obtain ⟨k, hk, rfl, hall, he⟩ := hrel
    by_cases hlt : k < l.length
    · rcases hs with rfl | ⟨b, off, rfl, hin⟩
      · simp at hlt
      obtain ⟨x, hx⟩ := some_of_lt hlt
      obtain ⟨g0, g1, g2, g3⟩ := (hin.ext he) k x hx
      have hokx := hide (hok x (List.mem_of_getElem? hx))
      have Hs := hide (all_succ (p := attrB) hx hall.out)
      have Hf := hide (all_no (p := attrB) hx)
      replace hin := hide hin; replace hok := hide hok
      replace he := hide he
      replace hx := hide hx
      go_wp2_with fail
      refine (isAttr x _ hokx.out).mono ?_
      rintro e w1 ⟨rfl, he1⟩
      replace he1 := hide he1
      cases hb : attrB x
      · go_wp2_with fail
        go_ret
        exact ⟨retB (unhide Hf hb).symm, (he.out.alloc _).trans he1.out⟩
      · go_wp2_with fail
        go_roundw
        case rel => exact ⟨k + 1, by omega, by go_num, by rw [unhide Hs]; exact hb, (he.out.alloc _).trans he1.out⟩
        case measure => simp [intOf]; omega
    · have Hl := hide (show l.take k = l from List.take_of_length_le (by omega))
      replace he := hide he
      replace hs := hide hs; replace hok := hide hok
      go_wp2
      go_ret
      exact ⟨retB (by rw [unhide Hl] at hall; exact hall.out.symm), he.out⟩
end Go.Proofs.YtfnbbohbicffpaaGreatDoor

namespace Go.Proofs.YtfnbbohbicffpaaGreatDoor
open Go.RowKit

theorem AttrsV.form {w : World} {v : Value} {l : List Attrd} (h : AttrsV w v l) : ∃ a cap, v = .slice a l.length cap := by
  obtain ⟨⟨a, cap, hv, _⟩, _⟩ := h; exact ⟨a, cap, hv⟩
theorem IDsV.form {w : World} {v : Value} {l : List IDd} (h : IDsV w v l) : ∃ a cap, v = .slice a l.length cap := by
  obtain ⟨⟨a, cap, hv, _⟩, _⟩ := h; exact ⟨a, cap, hv⟩

set_option maxRecDepth 100000 in
set_option maxHeartbeats 3200000 in
theorem mayBe (c2 c3 : Value) (x : Resd) (w : World) (hr : ResV w c2 c3 x) :
    Calls Tryz.prog 23 #[.agg #[.string x.id.kind, .string x.id.name, c2, c3]] w fun e w' => e = .returned (.bool (mayB x)) ∧ Ext w w' := by
  obtain ⟨hI, hA, hF⟩ := hr
  obtain ⟨a2, p2, rfl⟩ := hA.form
  obtain ⟨a3, p3, rfl⟩ := hF.form
  have nA := hA.few
  have nF := hF.few
  by_cases h6 : 6 < x.attrs.length
  · have H := hide (show mayB x = false by simp [mayB]; omega)
    have h6' : (6 : Int) < (x.attrs.length : Int) := by omega
    replace hI := hide hI; replace hA := hide hA; replace hF := hide hF
    go_enter Tryz.func23, Tryz.ntmps23
    go_wp2_with fail
    go_ret
    exact ⟨retB (by rw [unhide H]), (Ext.refl _).alloc _⟩
  have h6' : decide ((6 : Int) < (x.attrs.length : Int)) = false := by simp; omega
  by_cases h7 : 6 < x.after.length
  · have H := hide (show mayB x = false by simp [mayB]; omega)
    have h7' : (6 : Int) < (x.after.length : Int) := by omega
    replace hI := hide hI; replace hA := hide hA; replace hF := hide hF
    go_enter Tryz.func23, Tryz.ntmps23
    go_wp2_with fail
    go_ret
    exact ⟨retB (by rw [unhide H]), (Ext.refl _).alloc _⟩
  have h7' : decide ((6 : Int) < (x.after.length : Int)) = false := by simp; omega
  have H := hide (show mayB x = (idB x.id && x.attrs.all attrB && risesB lessA x.attrs && x.after.all idB && risesB lessI x.after) by
    simp only [mayB]; rw [decide_eq_true (show x.attrs.length ≤ 6 by omega), decide_eq_true (show x.after.length ≤ 6 by omega)]; simp)
  replace hI := hide hI; replace hA := hide hA; replace hF := hide hF
  go_enter Tryz.func23, Tryz.ntmps23
  go_wp2_with fail
  refine (isID x.id _ hI.out).mono ?_
  rintro e w1 ⟨rfl, he1⟩
  have x1 : Ext w w1 := ((Ext.refl _).alloc _).trans he1
  have d2 : w1.cell? ⟨w.heap.size, 2, none⟩ = some (.slice a2 x.attrs.length p2) := he1.cells (by simp [go_sem])
  have d3 : w1.cell? ⟨w.heap.size, 3, none⟩ = some (.slice a3 x.after.length p3) := he1.cells (by simp [go_sem])
  have D2 := hide d2; have D3 := hide d3
  clear he1
  replace x1 := hide x1
  cases h1 : idB x.id
  · go_wp2_with fail
    go_ret
    exact ⟨retB (by rw [unhide H, h1]; rfl), x1.out⟩
  go_wp2_with fail
  refine (everyAttr _ x.attrs _ (hA.out.ext x1.out)).mono ?_
  rintro e w2 ⟨rfl, he2⟩
  clear d2 d3
  have d2 := he2.cells (unhide D2); have d3 := he2.cells (unhide D3); clear D2 D3; have D2 := hide d2; have D3 := hide d3
  have x2 := hide (x1.out.trans he2)
  clear he2
  cases h2 : x.attrs.all attrB
  · go_wp2_with fail
    go_ret
    exact ⟨retB (by rw [unhide H, h1, h2]; rfl), x2.out⟩
  go_wp2_with fail
  refine (risesAttr _ x.attrs _ (hA.out.ext x2.out)).mono ?_
  rintro e w3 ⟨rfl, he3⟩
  clear d2 d3
  have d2 := he3.cells (unhide D2); have d3 := he3.cells (unhide D3); clear D2 D3; have D2 := hide d2; have D3 := hide d3
  have x3 := hide (x2.out.trans he3)
  clear he3
  cases h3 : risesB lessA x.attrs
  · go_wp2_with fail
    go_ret
    exact ⟨retB (by rw [unhide H, h1, h2, h3]; rfl), x3.out⟩
  go_wp2_with fail
  refine (everyID _ x.after _ (hF.out.ext x3.out)).mono ?_
  rintro e w4 ⟨rfl, he4⟩
  clear d2 d3
  have d2 := he4.cells (unhide D2); have d3 := he4.cells (unhide D3); clear D2 D3; have D2 := hide d2; have D3 := hide d3
  have x4 := hide (x3.out.trans he4)
  clear he4
  cases h4 : x.after.all idB
  · go_wp2_with fail
    go_ret
    exact ⟨retB (by rw [unhide H, h1, h2, h3, h4]; rfl), x4.out⟩
  go_wp2_with fail
  refine (risesID _ x.after _ (hF.out.ext x4.out)).mono ?_
  rintro e w5 ⟨rfl, he5⟩
  have x5 := hide (x4.out.trans he5)
  clear he5
  go_wp2_with fail
  go_ret
  exact ⟨retB (by rw [unhide H, h1, h2, h3, h4]; simp), x5.out⟩

end Go.Proofs.YtfnbbohbicffpaaGreatDoor

namespace Go.Proofs.YtfnbbohbicffpaaGreatDoor
open Go.RowKit

def cA (x : Attrd) : List Value := [.string x.name, .bool x.isText, .string x.text, .int .i64 x.number]
def cI (x : IDd) : List Value := [.string x.kind, .string x.name]
def cellsA (l : List Attrd) : List Value := l.flatMap cA
def cellsI (l : List IDd) : List Value := l.flatMap cI
def markA : Attrd := ⟨⟨#[]⟩, false, ⟨#[]⟩, -77⟩
def markI : IDd := ⟨⟨#[98, 101, 121, 111, 110, 100]⟩, ⟨#[]⟩⟩
def markR : Resd := ⟨⟨textD 77, ⟨#[]⟩⟩, [], []⟩

theorem flat_get {α β : Type} {f : α → List β} {n : Nat} (hf : ∀ x, (f x).length = n) : ∀ {l : List α} {i : Nat} {x : α} {r : Nat}, l[i]? = some x → r < n → (l.flatMap f)[i * n + r]? = (f x)[r]?
  | [], _, _, _, h, _ => by simp at h
  | y :: l, 0, x, r, h, hr => by
    simp at h; subst h
    rw [List.flatMap_cons, Nat.zero_mul, Nat.zero_add, List.getElem?_append_left (by rw [hf]; exact hr)]
  | y :: l, i + 1, x, r, h, hr => by
    have ih := flat_get hf (l := l) (i := i) (x := x) (r := r) (by simpa using h) hr
    rw [List.flatMap_cons, List.getElem?_append_right (by rw [hf, Nat.succ_mul]; omega), hf, ← ih]
    congr 1
    rw [Nat.succ_mul]; omega
theorem flat_length {α β : Type} {f : α → List β} {n : Nat} (hf : ∀ x, (f x).length = n) : ∀ l : List α, (l.flatMap f).length = l.length * n
  | [] => by simp
  | y :: l => by rw [List.flatMap_cons, List.length_append, hf, flat_length hf l, List.length_cons, Nat.succ_mul]; omega
theorem flat_mem {α β : Type} {f : α → List β} {n : Nat} (hf : ∀ x, (f x).length = n) (hn : 0 < n) {l : List α} {j : Nat} {v : β} (h : (l.flatMap f)[j]? = some v) : ∃ x, l[j / n]? = some x ∧ (f x)[j % n]? = some v := by
  have hlt : j < l.length * n := by rw [← flat_length hf l]; exact (List.getElem?_eq_some_iff.1 h).1
  have hi : j / n < l.length := Nat.div_lt_of_lt_mul (by rw [Nat.mul_comm]; exact hlt)
  refine ⟨l[j / n], List.getElem?_eq_getElem hi, ?_⟩
  rw [← flat_get hf (List.getElem?_eq_getElem hi) (Nat.mod_lt _ hn), Nat.div_add_mod']
  exact h
theorem cA_len (x : Attrd) : (cA x).length = 4 := rfl
theorem cI_len (x : IDd) : (cI x).length = 2 := rfl
theorem cellsA_len (l : List Attrd) : (cellsA l).length = l.length * 4 := flat_length cA_len l
theorem cellsI_len (l : List IDd) : (cellsI l).length = l.length * 2 := flat_length cI_len l
theorem cellsI_one (l : List IDd) : ∀ v ∈ cellsI l, v.oneCell' = true := by
  intro v hv
  obtain ⟨x, _, hx⟩ := List.mem_flatMap.1 hv
  simp [cI] at hx
  rcases hx with rfl | rfl <;> rfl
/-- The cells of Attrs that lie there. -/
theorem AttrsIn.src {w : World} {b off : Nat} {l : List Attrd} (h : AttrsIn w b off l) : ∀ j v, (cellsA l)[j]? = some v → w.cell? ⟨b, off + j, none⟩ = some v := by
  intro j v hj
  obtain ⟨x, hx, hv⟩ := flat_mem cA_len (by omega) hj
  obtain ⟨h0, h1, h2, h3⟩ := h _ x hx
  have hr : j % 4 = 0 ∨ j % 4 = 1 ∨ j % 4 = 2 ∨ j % 4 = 3 := by omega
  have hj' : j = j / 4 * 4 + j % 4 := by omega
  rcases hr with e | e | e | e <;> rw [e] at hv <;> simp [cA] at hv <;> subst hv
  · rw [show off + j = off + j / 4 * 4 by omega]; exact h0
  · rw [show off + j = off + j / 4 * 4 + 1 by omega]; exact h1
  · rw [show off + j = off + j / 4 * 4 + 2 by omega]; exact h2
  · rw [show off + j = off + j / 4 * 4 + 3 by omega]; exact h3
theorem IDsIn.src {w : World} {b off : Nat} {l : List IDd} (h : IDsIn w b off l) : ∀ j v, (cellsI l)[j]? = some v → w.cell? ⟨b, off + j, none⟩ = some v := by
  intro j v hj
  obtain ⟨x, hx, hv⟩ := flat_mem cI_len (by omega) hj
  obtain ⟨h0, h1⟩ := h _ x hx
  have hr : j % 2 = 0 ∨ j % 2 = 1 := by omega
  rcases hr with e | e <;> rw [e] at hv <;> simp [cI] at hv <;> subst hv
  · rw [show off + j = off + j / 2 * 2 by omega]; exact h0
  · rw [show off + j = off + j / 2 * 2 + 1 by omega]; exact h1
theorem blk_cell {w : World} {b : Nat} {cs : List Value} {t : TypeId} {fz : Nat × Nat} (h : w.heap[b]? = some (.cells cs.toArray t fz)) (j : Nat) : w.cell? ⟨b, j, none⟩ = cs[j]? := by simp [World.cell?, h]
theorem block_cell' {w : World} {k : Nat} {c : Array Value} {t : TypeId} {fz : Nat × Nat} (h : w.heap[k]? = some (.cells c t fz)) (j : Nat) : w.cell? ⟨k, j, none⟩ = c[j]? := by simp [World.cell?, h]
theorem attrsIn_of {w : World} {b : Nat} {l : List Attrd} {rest : List Value} {t : TypeId} {fz : Nat × Nat} (h : w.heap[b]? = some (.cells (cellsA l ++ rest).toArray t fz)) : AttrsIn w b 0 l := by
  intro i x hx
  have hlt : i < l.length := (List.getElem?_eq_some_iff.1 hx).1
  have key : ∀ r, r < 4 → w.cell? ⟨b, i * 4 + r, none⟩ = (cA x)[r]? := by
    intro r hr
    rw [blk_cell h, List.getElem?_append_left (by rw [cellsA_len]; omega)]
    exact flat_get cA_len hx hr
  refine ⟨?_, ?_, ?_, ?_⟩
  · rw [show 0 + i * 4 = i * 4 + 0 by omega]; exact key 0 (by omega)
  · rw [show 0 + i * 4 + 1 = i * 4 + 1 by omega]; exact key 1 (by omega)
  · rw [show 0 + i * 4 + 2 = i * 4 + 2 by omega]; exact key 2 (by omega)
  · rw [show 0 + i * 4 + 3 = i * 4 + 3 by omega]; exact key 3 (by omega)
theorem idsIn_of {w : World} {b : Nat} {l : List IDd} {rest : List Value} {t : TypeId} {fz : Nat × Nat} (h : w.heap[b]? = some (.cells (cellsI l ++ rest).toArray t fz)) : IDsIn w b 0 l := by
  intro i x hx
  have hlt : i < l.length := (List.getElem?_eq_some_iff.1 hx).1
  have key : ∀ r, r < 2 → w.cell? ⟨b, i * 2 + r, none⟩ = (cI x)[r]? := by
    intro r hr
    rw [blk_cell h, List.getElem?_append_left (by rw [cellsI_len]; omega)]
    exact flat_get cI_len hx hr
  refine ⟨?_, ?_⟩
  · rw [show 0 + i * 2 = i * 2 + 0 by omega]; exact key 0 (by omega)
  · rw [show 0 + i * 2 + 1 = i * 2 + 1 by omega]; exact key 1 (by omega)
def okR (x : Resd) : Prop := okI x.id ∧ (∀ a ∈ x.attrs, okA a) ∧ (∀ i ∈ x.after, okI i) ∧ x.attrs.length ≤ 9223372036854775807 ∧ x.after.length ≤ 9223372036854775807
theorem ownsRow_keep {D : Nat → Prop} {w w' : World} {base : Nat} {e : TypeId} {size : Nat} {v : Value} {n : Nat} {xs : List Value} (h : w.ownsRow base e size v n xs) (k : Kept D w w') (hd : ∀ g c, w.heap[g]? = some (.cells c e (0, 0)) → ¬ D g) : w'.ownsRow base e size v n xs := by
  obtain ⟨h1, h2⟩ := h
  refine ⟨h1, ?_⟩
  rcases h2 with h2 | ⟨g, cap, cur, hv, hg, hh, r⟩
  · exact .inl h2
  · exact .inr ⟨g, cap, cur, hv, hg, k.heap hh (hd g cur hh), r⟩
theorem ownsRow_form {w : World} {base : Nat} {e : TypeId} {size : Nat} {v : Value} {n : Nat} {xs : List Value} (h : w.ownsRow base e size v n xs) : ∃ pa cap, v = .slice pa n cap := by
  rcases h.2 with ⟨rfl, rfl⟩ | ⟨g, cap, cur, rfl, _⟩
  · exact ⟨none, 0, rfl⟩
  · exact ⟨_, cap, rfl⟩
theorem ownsRow_ne {w : World} {base : Nat} {e : TypeId} {size : Nat} {v : Value} {n : Nat} {xs : List Value} (h : w.ownsRow base e size v n xs) {k : Nat} {c : Array Value} {t : TypeId} {fz : Nat × Nat} (hk : w.heap[k]? = some (.cells c t fz)) (ht : t ≠ e) : some k ≠ v.ownBlock := by
  intro hv
  rcases h.2 with ⟨rfl, _⟩ | ⟨g, cap, cur, rfl, _, hg, _⟩
  · simp [Value.ownBlock] at hv
  · simp [Value.ownBlock] at hv
    subst hv
    rw [hg] at hk
    cases hk; exact ht rfl
theorem grown_kept {w w' : World} {o : Obj} {row : Option Nat} (h : (w.alloc o).grownBy w' row) : Kept (fun k => some k = row) w w' :=
  ⟨h.os, h.tape, h.output, by have := h.size; simp at this; omega, fun k hk hn => (h.block k (by simp; omega) hn).trans (Below.heap_alloc w o k hk)⟩
theorem infoAttr : (Tryz.prog.info? 57).map (fun i => (i.zero, i.size, i.bytes)) = some (some (.agg #[.string ⟨#[]⟩, .bool false, .string ⟨#[]⟩, .int .i64 0]), 4, 48) := by kernel_rfl
theorem infoID : (Tryz.prog.info? 33).map (fun i => (i.zero, i.size, i.bytes)) = some (some (.agg #[.string ⟨#[]⟩, .string ⟨#[]⟩]), 2, 32) := by kernel_rfl
theorem infoRes : (Tryz.prog.info? 37).map (fun i => (i.zero, i.size, i.bytes)) = some (some (.agg #[.string ⟨#[]⟩, .string ⟨#[]⟩, .slice none 0 0, .slice none 0 0]), 4, 80) := by kernel_rfl
end Go.Proofs.YtfnbbohbicffpaaGreatDoor
