/-
  A disk as plain data: files, changes of names, what lasts, what breaks off.
-/
import Derived.Test.YtpkhmgonkbpjjaaJ1
namespace Go.Proofs.Ytpkhmgonkbpjjaa
open Go.RowKit

/-- A change of names: a file is written, gets another name, loses its name. -/
inductive ChgS where
  | wr (name : ByteArray) (f : Nat)
  | rn (src dst : ByteArray) (f : Nat)
  | rm (name : ByteArray)
/-- Rows without a key. -/
noncomputable def dropK {κ ρ : Type} (key : ρ → κ) (a : κ) (l : List ρ) : List ρ := by
  classical exact l.filter fun x => decide (key x ≠ a)
abbrev NmS := ByteArray × Nat
noncomputable abbrev dropN (a : ByteArray) (l : List NmS) : List NmS := dropK Prod.fst a l
noncomputable def stepN (l : List NmS) : ChgS → List NmS
  | .wr n f => dropN n l ++ [(n, f)]
  | .rn a b f => dropN b (dropN a l) ++ [(b, f)]
  | .rm a => dropN a l
noncomputable def playN (cs : List ChgS) : List NmS := cs.foldl stepN []
noncomputable def lookK {κ ρ : Type} (key : ρ → κ) (a : κ) (l : List ρ) : Option ρ := by
  classical exact l.find? fun x => decide (key x = a)
noncomputable def lookN (a : ByteArray) (l : List NmS) : Option Nat := (lookK Prod.fst a l).map Prod.snd
abbrev FileS := List UInt8 × Nat
def sizeF (fs : List FileS) (i : Nat) : Nat := (fs[i]?.map fun f => f.1.length).getD 0
def usedN (fs : List FileS) (l : List NmS) : Nat := (l.map fun x => sizeF fs x.2).sum
structure DskS where
  room : Nat
  files : List FileS
  chs : List ChgS
  last : Nat
  due : Nat
  keep : Int
  stay : Int
noncomputable def DskS.names (d : DskS) : List NmS := playN d.chs
/-- How many of the first ones: none, if the number is below 0. -/
def atMostS (k : Int) (all : Nat) : Nat := (min (max k 0) (all : Int)).toNat
def cutF (keep : Int) (f : FileS) : FileS := (f.1.take (f.2 + atMostS keep (f.1.length - f.2)), f.2 + atMostS keep (f.1.length - f.2))
def crashF (keep : Int) (is : List Nat) (fs : List FileS) : List FileS := fs.mapIdx fun i f => if i ∈ is then cutF keep f else f
noncomputable def DskS.settle (d : DskS) (n : Nat) : DskS := { d with chs := d.chs.take (d.last + n), last := d.last + n }
noncomputable def DskS.crash (d : DskS) (keep names : Int) : DskS :=
  let e := d.settle (atMostS names (d.chs.length - d.last))
  { e with due := 0, files := crashF keep (e.names.map Prod.snd) e.files }
def DskS.begin (d : DskS) : DskS := { d with due := d.due - 1 }
/-- An act, with what it does. -/
noncomputable def DskS.act (d : DskS) (f : DskS → DskS × Int) : DskS × Int :=
  if d.due = 1 then (((f d.begin).1.crash d.keep d.stay), 14) else f d.begin
noncomputable def DskS.syncAct (d : DskS) (f : DskS → DskS × Int) : DskS × Int :=
  if d.due = 1 then ((d.begin.crash d.keep d.stay), 14) else f d.begin
/-- The file of a name that must have one, or why not. -/
noncomputable def DskS.find (d : DskS) (name : ByteArray) : Sum Nat Int :=
  if wordB name.data.toList = true then
    match lookN name d.names with
    | some i => .inl i
    | none => .inr 12
  else .inr 11
noncomputable def DskS.write1 (name s : ByteArray) (d : DskS) : DskS × Int :=
  if wordB name.data.toList = true then
    if d.room < usedN d.files (dropN name d.names) + s.size then (d, 13)
    else ({ d with files := d.files ++ [(s.data.toList, 0)], chs := d.chs ++ [.wr name d.files.length] }, 0)
  else (d, 11)
noncomputable def DskS.append1 (name s : ByteArray) (d : DskS) : DskS × Int :=
  match d.find name with
  | .inl i => if d.room < usedN d.files d.names + s.size then (d, 13) else ({ d with files := d.files.modify i fun f => (f.1 ++ s.data.toList, f.2) }, 0)
  | .inr e => (d, e)
noncomputable def DskS.sync1 (name : ByteArray) (d : DskS) : DskS × Int :=
  match d.find name with
  | .inl i => ({ d with files := d.files.modify i fun f => (f.1, f.1.length) }, 0)
  | .inr e => (d, e)
noncomputable def DskS.rename1 (src dst : ByteArray) (d : DskS) : DskS × Int :=
  if wordB dst.data.toList = true then
    match d.find src with
    | .inl i => ({ d with chs := d.chs ++ [.rn src dst i] }, 0)
    | .inr e => (d, e)
  else (d, 11)
noncomputable def DskS.remove1 (name : ByteArray) (d : DskS) : DskS × Int :=
  match d.find name with
  | .inl _ => ({ d with chs := d.chs ++ [.rm name] }, 0)
  | .inr e => (d, e)
noncomputable def DskS.syncN1 (d : DskS) : DskS × Int := ({ d with last := d.chs.length }, 0)
noncomputable def DskS.write (d : DskS) (name s : ByteArray) := d.act (DskS.write1 name s)
noncomputable def DskS.append (d : DskS) (name s : ByteArray) := d.act (DskS.append1 name s)
noncomputable def DskS.sync (d : DskS) (name : ByteArray) := d.syncAct (DskS.sync1 name)
noncomputable def DskS.rename (d : DskS) (src dst : ByteArray) := d.act (DskS.rename1 src dst)
noncomputable def DskS.remove (d : DskS) (name : ByteArray) := d.act (DskS.remove1 name)
noncomputable def DskS.syncN (d : DskS) := d.syncAct DskS.syncN1
noncomputable def DskS.read (d : DskS) (name : ByteArray) : List UInt8 × Int :=
  match d.find name with
  | .inl i => ((d.files[i]?.map Prod.fst).getD [], 0)
  | .inr e => ([], e)
def DskS.break (d : DskS) (k keep names : Int) : DskS × Int := if k < 0 then (d, 11) else ({ d with due := k.toNat, keep := keep, stay := names }, 0)
def DskS.new (room : Nat) : DskS := ⟨room, [], [], 0, 0, 0, 0⟩

/-- The names of a change are words, its file is one of so many. -/
def ChgS.okC (n : Nat) : ChgS → Prop
  | .wr a f => wordB a.data.toList = true ∧ f < n
  | .rn a b f => wordB a.data.toList = true ∧ wordB b.data.toList = true ∧ f < n
  | .rm a => wordB a.data.toList = true
structure DskS.Ok (d : DskS) : Prop where
  room0 : 1000 ≤ d.room
  room1 : d.room ≤ 20000
  last : d.last ≤ d.chs.length
  chs : ∀ c ∈ d.chs, c.okC d.files.length
  files : ∀ f ∈ d.files, f.2 ≤ f.1.length ∧ f.1.length ≤ 20000
theorem ChgS.okC.mono {n m : Nat} {c : ChgS} (h : c.okC n) (hm : n ≤ m) : c.okC m := by
  cases c with
  | wr a f => exact ⟨h.1, Nat.lt_of_lt_of_le h.2 hm⟩
  | rn a b f => exact ⟨h.1, h.2.1, Nat.lt_of_lt_of_le h.2.2 hm⟩
  | rm a => exact h

section
variable {κ ρ : Type} {key : ρ → κ}
theorem dropK_mem {a : κ} {l : List ρ} {x : ρ} : x ∈ dropK key a l ↔ x ∈ l ∧ key x ≠ a := by
  unfold dropK; simp
theorem dropK_sub (a : κ) (l : List ρ) : (dropK key a l).Sublist l := by unfold dropK; exact List.filter_sublist
theorem dropK_app (a : κ) (l m : List ρ) : dropK key a (l ++ m) = dropK key a l ++ dropK key a m := by unfold dropK; exact List.filter_append ..
theorem dropK_perm {a : κ} {l m : List ρ} (h : l.Perm m) : (dropK key a l).Perm (dropK key a m) := by unfold dropK; exact h.filter _
theorem dropK_self {a : κ} {l : List ρ} (h : ¬ HasK key l a) : dropK key a l = l := by
  unfold dropK
  rw [List.filter_eq_self]
  intro x hx
  have h1 : key x ≠ a := fun e => h ⟨x, hx, e⟩
  simpa using h1
theorem dropK_gone (a : κ) (l : List ρ) : ¬ HasK key (dropK key a l) a := by
  rintro ⟨x, hx, e⟩; exact (dropK_mem.1 hx).2 e
theorem dropK_map {σ : Type} {key' : σ → κ} (f : ρ → σ) (hf : ∀ x, key' (f x) = key x) (a : κ) (l : List ρ) : dropK key' a (l.map f) = (dropK key a l).map f := by
  unfold dropK
  rw [List.filter_map]
  congr 1
  apply List.filter_congr
  intro x _
  simp [hf]
theorem lookK_some {a : κ} {l : List ρ} {x : ρ} (h : lookK key a l = some x) : x ∈ l ∧ key x = a := by
  unfold lookK at h
  exact ⟨List.mem_of_find?_eq_some h, by simpa using List.find?_some h⟩
theorem lookK_none {a : κ} {l : List ρ} : lookK key a l = none ↔ ¬ HasK key l a := by
  unfold lookK HasK
  rw [List.find?_eq_none]
  simp
theorem lookK_of {a : κ} {l : List ρ} (hn : (l.map key).Nodup) {x : ρ} (hx : x ∈ l) (hk : key x = a) : lookK key a l = some x := by
  cases h : lookK key a l with
  | none => exact absurd ⟨x, hx, hk⟩ (lookK_none.1 h)
  | some y =>
    obtain ⟨hy, hky⟩ := lookK_some h
    congr 1
    rw [List.nodup_iff_pairwise_ne, List.pairwise_map] at hn
    refine Classical.byContradiction fun hne => ?_
    obtain ⟨i, hi, rfl⟩ := List.mem_iff_getElem.1 hx
    obtain ⟨j, hj, rfl⟩ := List.mem_iff_getElem.1 hy
    rcases Nat.lt_trichotomy i j with h1 | h1 | h1
    · exact List.pairwise_iff_getElem.1 hn i j hi hj h1 (hk.trans hky.symm)
    · subst h1; exact hne rfl
    · exact List.pairwise_iff_getElem.1 hn j i hj hi h1 (hky.trans hk.symm)
theorem lookK_perm {a : κ} {l m : List ρ} (hn : (m.map key).Nodup) (h : l.Perm m) : lookK key a l = lookK key a m := by
  cases e : lookK key a m with
  | none => rw [lookK_none] at e ⊢; exact fun ⟨x, hx, hk⟩ => e ⟨x, h.mem_iff.1 hx, hk⟩
  | some x =>
    obtain ⟨hx, hk⟩ := lookK_some e
    exact lookK_of ((h.map key).nodup_iff.2 hn) (h.mem_iff.2 hx) hk
theorem lookK_map {σ : Type} {key' : σ → κ} (f : ρ → σ) (hf : ∀ x, key' (f x) = key x) (a : κ) (l : List ρ) : lookK key' a (l.map f) = (lookK key a l).map f := by
  unfold lookK
  rw [List.find?_map]
  congr 2
  funext x
  simp [hf]
/-- A row out of the others. -/
theorem dropK_split {a : κ} {l : List ρ} (hn : (l.map key).Nodup) {x : ρ} (hx : lookK key a l = some x) : l.Perm (x :: dropK key a l) := by
  classical
  obtain ⟨h1, h2⟩ := lookK_some hx
  obtain ⟨s, t, rfl⟩ := List.append_of_mem h1
  have hs : ¬ HasK key s a ∧ ¬ HasK key t a := by
    rw [List.map_append, List.map_cons, List.nodup_append] at hn
    obtain ⟨-, n2, n3⟩ := hn
    rw [List.nodup_cons] at n2
    constructor
    · rintro ⟨y, hy, e⟩
      exact n3 _ (List.mem_map.2 ⟨y, hy, rfl⟩) _ (List.mem_cons_self) (e.trans h2.symm)
    · rintro ⟨y, hy, e⟩
      exact n2.1 (List.mem_map.2 ⟨y, hy, e.trans h2.symm⟩)
  have e1 : dropK key a (x :: t) = t := by
    have : dropK key a (x :: t) = dropK key a t := by unfold dropK; rw [List.filter_cons]; simp [h2]
    rw [this, dropK_self hs.2]
  rw [dropK_app, dropK_self hs.1, e1]
  exact List.perm_middle
theorem nodup_drop {a : κ} {l : List ρ} (hn : (l.map key).Nodup) : ((dropK key a l).map key).Nodup := hn.sublist ((dropK_sub a l).map key)
theorem nodup_put {l : List ρ} {x : ρ} (hn : (l.map key).Nodup) (hx : ¬ HasK key l (key x)) : ((l ++ [x]).map key).Nodup := by
  rw [List.map_append, List.nodup_append]
  refine ⟨hn, by simp, fun b hb c hc => ?_⟩
  obtain ⟨y, hy, rfl⟩ := List.mem_map.1 hb
  obtain rfl : c = key x := by simpa using hc
  exact fun e => hx ⟨y, hy, e⟩
end
theorem step_nodup {l : List NmS} (h : (l.map Prod.fst).Nodup) : ∀ c, ((stepN l c).map Prod.fst).Nodup
  | .wr n _ => nodup_put (nodup_drop h) (dropK_gone n l)
  | .rn _ b _ => nodup_put (nodup_drop (nodup_drop h)) (dropK_gone b _)
  | .rm _ => nodup_drop h
theorem play_snoc (cs : List ChgS) (c : ChgS) : playN (cs ++ [c]) = stepN (playN cs) c := by unfold playN; rw [List.foldl_append]; rfl
theorem fold_nodup : ∀ (cs : List ChgS) (l : List NmS), (l.map Prod.fst).Nodup → ((cs.foldl stepN l).map Prod.fst).Nodup
  | [], _, h => h
  | c :: cs, l, h => fold_nodup cs (stepN l c) (step_nodup h c)
theorem play_nodup (cs : List ChgS) : ((playN cs).map Prod.fst).Nodup := fold_nodup cs [] (by simp)
/-- A name with its file: a word, and one of so many files. -/
def NmOk (n : Nat) (x : NmS) : Prop := wordB x.1.data.toList = true ∧ x.2 < n
theorem step_ok {n : Nat} {l : List NmS} (h : ∀ x ∈ l, NmOk n x) : ∀ {c : ChgS}, c.okC n → ∀ x ∈ stepN l c, NmOk n x
  | .wr a f, hc, x, hx => by
    rcases List.mem_append.1 hx with hx | hx
    · exact h x (dropK_mem.1 hx).1
    · obtain rfl : x = (a, f) := by simpa using hx
      exact hc
  | .rn a b f, hc, x, hx => by
    rcases List.mem_append.1 hx with hx | hx
    · exact h x (dropK_mem.1 (dropK_mem.1 hx).1).1
    · obtain rfl : x = (b, f) := by simpa using hx
      exact ⟨hc.2.1, hc.2.2⟩
  | .rm a, hc, x, hx => h x (dropK_mem.1 hx).1
theorem fold_ok {n : Nat} : ∀ (cs : List ChgS) (l : List NmS), (∀ c ∈ cs, c.okC n) → (∀ x ∈ l, NmOk n x) → ∀ x ∈ cs.foldl stepN l, NmOk n x
  | [], _, _, h => h
  | c :: cs, l, hc, h => fold_ok cs (stepN l c) (fun c' h' => hc c' (List.mem_cons_of_mem _ h')) (step_ok h (hc c List.mem_cons_self))
theorem play_ok {n : Nat} {cs : List ChgS} (h : ∀ c ∈ cs, c.okC n) : ∀ x ∈ playN cs, NmOk n x := fold_ok cs [] h (by simp)
theorem play_len (cs : List ChgS) : (playN cs).length ≤ cs.length := by
  have : ∀ (cs : List ChgS) (l : List NmS), (cs.foldl stepN l).length ≤ l.length + cs.length := by
    intro cs
    induction cs with
    | nil => intro l; simp
    | cons c cs ih =>
      intro l
      have h1 := ih (stepN l c)
      have h2 : (stepN l c).length ≤ l.length + 1 := by
        cases c with
        | wr a f => have h3 : (dropN a l).length ≤ l.length := (dropK_sub (key := Prod.fst) a l).length_le; simp only [stepN, List.length_append, List.length_singleton]; omega
        | rn a b f => have h3 : (dropN a l).length ≤ l.length := (dropK_sub (key := Prod.fst) a l).length_le; have h4 : (dropN b (dropN a l)).length ≤ (dropN a l).length := (dropK_sub (key := Prod.fst) b (dropN a l)).length_le; simp only [stepN, List.length_append, List.length_singleton]; omega
        | rm a => have h3 : (dropN a l).length ≤ l.length := (dropK_sub (key := Prod.fst) a l).length_le; simp only [stepN]; omega
      simp only [List.foldl_cons, List.length_cons]
      omega
  have h := this cs []
  rw [List.length_nil, Nat.zero_add] at h
  exact h
theorem sum_perm {l m : List Nat} (h : l.Perm m) : l.sum = m.sum := by
  induction h with
  | nil => rfl
  | cons x _ ih => simp [ih]
  | swap x y l => simp; omega
  | trans _ _ a b => exact a.trans b
theorem used_perm {fs : List FileS} {l m : List NmS} (h : l.Perm m) : usedN fs l = usedN fs m := sum_perm (h.map _)
theorem used_drop {fs : List FileS} {l : List NmS} (hn : (l.map Prod.fst).Nodup) (a : ByteArray) : usedN fs l = usedN fs (dropN a l) + (match lookN a l with | some i => sizeF fs i | none => 0) := by
  unfold lookN
  cases e : lookK Prod.fst a l with
  | none => simp [dropN, dropK_self (lookK_none.1 e)]
  | some x =>
    rw [used_perm (dropK_split hn e)]
    simp [usedN, dropN]; omega
theorem sizeF_le {fs : List FileS} (h : ∀ f ∈ fs, f.1.length ≤ 20000) (i : Nat) : sizeF fs i ≤ 20000 := by
  unfold sizeF
  cases e : fs[i]? with
  | none => simp
  | some f => simpa using h f (List.mem_of_getElem? e)
theorem used_le {fs : List FileS} (h : ∀ f ∈ fs, f.1.length ≤ 20000) : ∀ l : List NmS, usedN fs l ≤ l.length * 20000
  | [] => by simp [usedN]
  | x :: l => by
    have h1 := used_le h l
    have h2 := sizeF_le h x.2
    simp only [usedN, List.map_cons, List.sum_cons, List.length_cons] at h1 ⊢
    omega
theorem atMostS_le (k : Int) (n : Nat) : atMostS k n ≤ n := by unfold atMostS; omega
theorem cutF_ok {keep : Int} {f : FileS} (h : f.2 ≤ f.1.length ∧ f.1.length ≤ 20000) : (cutF keep f).2 ≤ (cutF keep f).1.length ∧ (cutF keep f).1.length ≤ 20000 := by
  have := atMostS_le keep (f.1.length - f.2)
  unfold cutF
  simp only [List.length_take]
  omega
theorem cutF_twice {keep : Int} {f : FileS} (h : f.2 ≤ f.1.length) : cutF keep (cutF keep f) = cutF keep f := by
  have h1 := atMostS_le keep (f.1.length - f.2)
  have h2 : (cutF keep f).1.length = (cutF keep f).2 := by unfold cutF; simp only [List.length_take]; omega
  have h3 : atMostS keep 0 = 0 := by unfold atMostS; omega
  generalize cutF keep f = g at *
  unfold cutF
  rw [h2, Nat.sub_self, h3, Nat.add_zero, ← h2, List.take_length]
  exact Prod.ext rfl h2
theorem crashF_len (keep : Int) (is : List Nat) (fs : List FileS) : (crashF keep is fs).length = fs.length := by simp [crashF]
theorem crashF_get {keep : Int} {is : List Nat} {fs : List FileS} {i : Nat} : (crashF keep is fs)[i]? = fs[i]?.map fun f => if i ∈ is then cutF keep f else f := by simp [crashF]
theorem crashF_ok {keep : Int} {is : List Nat} {fs : List FileS} (h : ∀ f ∈ fs, f.2 ≤ f.1.length ∧ f.1.length ≤ 20000) : ∀ f ∈ crashF keep is fs, f.2 ≤ f.1.length ∧ f.1.length ≤ 20000 := fun f hf => by
  obtain ⟨i, hi⟩ := List.mem_iff_getElem?.1 hf
  rw [crashF_get] at hi
  cases e : fs[i]? with
  | none => rw [e] at hi; cases hi
  | some g =>
    rw [e] at hi
    have hg := h g (List.mem_of_getElem? e)
    simp only [Option.map_some, Option.some.injEq] at hi
    subst hi
    split
    · exact cutF_ok hg
    · exact hg
theorem crashF_snoc {keep : Int} {is : List Nat} {i : Nat} {fs : List FileS} (h : ∀ f ∈ fs, f.2 ≤ f.1.length) : crashF keep (is ++ [i]) fs = (crashF keep is fs).modify i (cutF keep) := by
  apply List.ext_getElem?
  intro j
  rw [crashF_get, List.getElem?_modify, crashF_get]
  cases e : fs[j]? with
  | none => rfl
  | some f =>
    have hf := h f (List.mem_of_getElem? e)
    simp only [Option.map_some, List.mem_append, List.mem_singleton]
    by_cases h1 : j ∈ is <;> by_cases h2 : i = j
    · subst h2; simp [h1, cutF_twice hf]
    · simp [h1, h2]
    · subst h2; simp [h1]
    · have : ¬ j = i := fun e => h2 e.symm
      simp [h1, h2, this]
theorem DskS.Ok.begin {d : DskS} (h : d.Ok) : d.begin.Ok := ⟨h.room0, h.room1, h.last, h.chs, h.files⟩
theorem DskS.Ok.crash {d : DskS} (h : d.Ok) (keep names : Int) : (d.crash keep names).Ok := by
  have h1 := atMostS_le names (d.chs.length - d.last)
  have h2 := h.last
  refine ⟨h.room0, h.room1, ?_, fun c hc => ?_, crashF_ok h.files⟩
  · simp [DskS.crash, DskS.settle]; omega
  · simp only [DskS.crash, DskS.settle] at hc ⊢
    rw [crashF_len]
    exact h.chs c (List.mem_of_mem_take hc)
theorem DskS.find_in {d : DskS} (h : d.Ok) {name : ByteArray} {i : Nat} (hf : d.find name = .inl i) : wordB name.data.toList = true ∧ lookN name d.names = some i ∧ i < d.files.length := by
  unfold DskS.find at hf
  split at hf
  · rename_i hw
    refine ⟨hw, ?_⟩
    cases e : lookN name d.names with
    | none => rw [e] at hf; cases hf
    | some j =>
      rw [e] at hf
      obtain rfl : j = i := by simpa using hf
      refine ⟨rfl, ?_⟩
      unfold lookN at e
      cases e1 : lookK Prod.fst name d.names with
      | none => rw [e1] at e; cases e
      | some x =>
        rw [e1] at e
        obtain rfl : x.2 = j := by simpa using e
        exact (play_ok h.chs x (lookK_some e1).1).2
  · cases hf
theorem mem_modify {α : Type} {l : List α} {i : Nat} {g : α → α} {x : α} (h : x ∈ l.modify i g) : x ∈ l ∨ ∃ y, l[i]? = some y ∧ x = g y := by
  obtain ⟨j, hj⟩ := List.mem_iff_getElem?.1 h
  rw [List.getElem?_modify] at hj
  cases e : l[j]? with
  | none => rw [e] at hj; cases hj
  | some y =>
    rw [e] at hj
    by_cases hij : i = j
    · subst hij
      simp at hj
      exact .inr ⟨y, e, hj.symm⟩
    · simp [hij] at hj
      subst hj
      exact .inl (List.mem_of_getElem? e)
theorem used_one {fs : List FileS} {l : List NmS} (hn : (l.map Prod.fst).Nodup) {a : ByteArray} {i : Nat} (h : lookN a l = some i) : sizeF fs i ≤ usedN fs l := by
  have := used_drop (fs := fs) hn a
  rw [h] at this
  simp only at this
  omega
theorem DskS.Ok.write1 {d : DskS} (h : d.Ok) (name s : ByteArray) : (d.write1 name s).1.Ok := by
  unfold DskS.write1
  split
  · rename_i hw
    split
    · exact h
    · rename_i hr
      refine ⟨h.room0, h.room1, ?_, fun c hc => ?_, fun f hf => ?_⟩
      · have := h.last; simp; omega
      · rcases List.mem_append.1 hc with hc | hc
        · exact (h.chs c hc).mono (by simp)
        · obtain rfl : c = .wr name d.files.length := by simpa using hc
          exact ⟨hw, by simp⟩
      · rcases List.mem_append.1 hf with hf | hf
        · exact h.files f hf
        · obtain rfl : f = (s.data.toList, 0) := by simpa using hf
          have h1 := h.room1
          have h2 : s.data.toList.length = s.size := Array.length_toList
          simp only
          omega
  · exact h
theorem DskS.Ok.modify {d : DskS} (h : d.Ok) {i : Nat} {g : FileS → FileS} (hg : ∀ f, d.files[i]? = some f → (g f).2 ≤ (g f).1.length ∧ (g f).1.length ≤ 20000) : ({ d with files := d.files.modify i g } : DskS).Ok :=
  ⟨h.room0, h.room1, h.last, fun c hc => by simpa using h.chs c hc, fun f hf => (mem_modify hf).elim (h.files f) fun ⟨y, hy, e⟩ => e ▸ hg y hy⟩
theorem DskS.Ok.chg {d : DskS} (h : d.Ok) {c : ChgS} (hc : c.okC d.files.length) : ({ d with chs := d.chs ++ [c] } : DskS).Ok := by
  refine ⟨h.room0, h.room1, by have := h.last; simp; omega, fun c' h' => ?_, h.files⟩
  rcases List.mem_append.1 h' with h' | h'
  · exact h.chs c' h'
  · obtain rfl : c' = c := by simpa using h'
    exact hc
theorem DskS.Ok.append1 {d : DskS} (h : d.Ok) (name s : ByteArray) : (d.append1 name s).1.Ok := by
  unfold DskS.append1
  split
  · rename_i i hi
    split
    · exact h
    · rename_i hr
      refine h.modify fun f hf => ?_
      have h1 := used_one (fs := d.files) (play_nodup d.chs) (DskS.find_in h hi).2.1
      have h2 : sizeF d.files i = f.1.length := by simp [sizeF, hf]
      have h3 := h.room1
      have h4 : s.data.toList.length = s.size := Array.length_toList
      have h5 := h.files f (List.mem_of_getElem? hf)
      simp only [List.length_append]
      unfold DskS.names at hr
      omega
  · exact h
theorem DskS.Ok.sync1 {d : DskS} (h : d.Ok) (name : ByteArray) : (d.sync1 name).1.Ok := by
  unfold DskS.sync1
  split
  · exact h.modify fun f hf => ⟨Nat.le_refl _, (h.files f (List.mem_of_getElem? hf)).2⟩
  · exact h
theorem DskS.Ok.rename1 {d : DskS} (h : d.Ok) (src dst : ByteArray) : (d.rename1 src dst).1.Ok := by
  unfold DskS.rename1
  split
  · rename_i hw
    split
    · rename_i i hi
      obtain ⟨h1, -, h2⟩ := DskS.find_in h hi
      exact h.chg ⟨h1, hw, h2⟩
    · exact h
  · exact h
theorem DskS.Ok.remove1 {d : DskS} (h : d.Ok) (name : ByteArray) : (d.remove1 name).1.Ok := by
  unfold DskS.remove1
  split
  · rename_i i hi
    exact h.chg (c := .rm name) (DskS.find_in h hi).1
  · exact h
theorem DskS.Ok.syncN1 {d : DskS} (h : d.Ok) : d.syncN1.1.Ok := ⟨h.room0, h.room1, Nat.le_refl _, h.chs, h.files⟩
theorem DskS.Ok.act {d : DskS} (h : d.Ok) {f : DskS → DskS × Int} (hf : ∀ e : DskS, e.Ok → (f e).1.Ok) : (d.act f).1.Ok := by
  unfold DskS.act
  split
  · exact (hf _ h.begin).crash _ _
  · exact hf _ h.begin
theorem DskS.Ok.syncAct {d : DskS} (h : d.Ok) {f : DskS → DskS × Int} (hf : ∀ e : DskS, e.Ok → (f e).1.Ok) : (d.syncAct f).1.Ok := by
  unfold DskS.syncAct
  split
  · exact h.begin.crash _ _
  · exact hf _ h.begin
theorem DskS.Ok.break {d : DskS} (h : d.Ok) (k keep names : Int) : (d.break k keep names).1.Ok := by
  unfold DskS.break
  split
  · exact h
  · exact ⟨h.room0, h.room1, h.last, h.chs, h.files⟩
theorem DskS.Ok.new {room : Nat} (h0 : 1000 ≤ room) (h1 : room ≤ 20000) : (DskS.new room).Ok := ⟨h0, h1, Nat.le_refl _, by simp [DskS.new], by simp [DskS.new]⟩
end Go.Proofs.Ytpkhmgonkbpjjaa
