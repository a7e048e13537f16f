/-
  A disk in memory: its box, its names, its files.
-/
import Derived.Test.YtpkhmgonkbpjjaaDoF
namespace Go.Proofs.Ytpkhmgonkbpjjaa
open Go.RowKit

/-- Files lie in memory, each apart from the others. -/
structure FilesAt (w : World) (fs gs : List Nat) (files : List FileS) : Prop where
  flen : fs.length = files.length
  glen : gs.length = files.length
  each : ∀ (i : Nat) b g f, fs[i]? = some b → gs[i]? = some g → files[i]? = some f → FileAt w b g f
  fdup : fs.Nodup
  gdup : gs.Nodup
theorem FilesAt.get {w : World} {fs gs : List Nat} {files : List FileS} (h : FilesAt w fs gs files) {i : Nat} (hi : i < files.length) : ∃ b g f, fs[i]? = some b ∧ gs[i]? = some g ∧ files[i]? = some f ∧ FileAt w b g f := by
  obtain ⟨b, hb⟩ : ∃ b, fs[i]? = some b := ⟨_, List.getElem?_eq_getElem (by rw [h.flen]; exact hi)⟩
  obtain ⟨g, hg⟩ : ∃ g, gs[i]? = some g := ⟨_, List.getElem?_eq_getElem (by rw [h.glen]; exact hi)⟩
  obtain ⟨f, hf⟩ : ∃ f, files[i]? = some f := ⟨_, List.getElem?_eq_getElem hi⟩
  exact ⟨b, g, f, hb, hg, hf, h.each i b g f hb hg hf⟩
theorem FilesAt.kept {D : Nat → Prop} {w w' : World} {fs gs : List Nat} {files : List FileS} (h : FilesAt w fs gs files) (k : Kept D w w') (h1 : ∀ b ∈ fs, ¬ D b) (h2 : ∀ g ∈ gs, ¬ D g) : FilesAt w' fs gs files :=
  ⟨h.flen, h.glen, fun i b g f hb hg hf => (h.each i b g f hb hg hf).kept k (h1 b (List.mem_of_getElem? hb)) (h2 g (List.mem_of_getElem? hg)), h.fdup, h.gdup⟩
theorem FilesAt.ext {w w' : World} {fs gs : List Nat} {files : List FileS} (h : FilesAt w fs gs files) (e : Ext w w') : FilesAt w' fs gs files := h.kept (e.kept fun _ => False) (fun _ _ => id) (fun _ _ => id)
theorem FilesAt.fs_at {w : World} {fs gs : List Nat} {files : List FileS} (h : FilesAt w fs gs files) {b : Nat} (hb : b ∈ fs) : ∃ c fz, w.heap[b]? = some (.cells c 113 fz) := by
  obtain ⟨i, hi⟩ := List.mem_iff_getElem?.1 hb
  have hlt := (List.getElem?_eq_some_iff.1 hi).1
  obtain ⟨b', g, f, h1, h2, h3, cap, h4, -⟩ := h.get (i := i) (by rw [← h.flen]; exact hlt)
  rw [hi] at h1
  obtain rfl : b = b' := Option.some.inj h1
  exact ⟨_, _, h4⟩
theorem FilesAt.gs_at {w : World} {fs gs : List Nat} {files : List FileS} (h : FilesAt w fs gs files) {g : Nat} (hg : g ∈ gs) : ∃ c fz, w.heap[g]? = some (.cells c 5 fz) := by
  obtain ⟨i, hi⟩ := List.mem_iff_getElem?.1 hg
  have hlt := (List.getElem?_eq_some_iff.1 hi).1
  obtain ⟨b', g', f, h1, h2, h3, h4⟩ := h.get (i := i) (by rw [← h.glen]; exact hlt)
  rw [hi] at h2
  obtain rfl : g = g' := Option.some.inj h2
  exact h4.cells
theorem FilesAt.push {w w' : World} {fs gs : List Nat} {files : List FileS} (h : FilesAt w fs gs files) (e : Ext w w') {b g : Nat} {f : FileS} (hf : FileAt w' b g f) (hb : w.heap.size ≤ b) (hg : w.heap.size ≤ g) : FilesAt w' (fs ++ [b]) (gs ++ [g]) (files ++ [f]) := by
  have h' := h.ext e
  have hlt : ∀ {k c t fz}, w.heap[k]? = some (.cells c t fz) → k < w.heap.size := fun h => (Array.getElem?_eq_some_iff.1 h).1
  refine ⟨by simp [h.flen], by simp [h.glen], fun i b' g' f' h1 h2 h3 => ?_, ?_, ?_⟩
  · by_cases hi : i < files.length
    · rw [List.getElem?_append_left (by rw [h.flen]; exact hi)] at h1
      rw [List.getElem?_append_left (by rw [h.glen]; exact hi)] at h2
      rw [List.getElem?_append_left hi] at h3
      exact h'.each i b' g' f' h1 h2 h3
    · have hl := (List.getElem?_eq_some_iff.1 h3).1
      obtain rfl : i = files.length := by simp at hl; omega
      rw [← h.flen] at h1
      rw [← h.glen] at h2
      simp at h1 h2 h3
      subst h1 h2 h3
      exact hf
  · rw [List.nodup_append]
    refine ⟨h.fdup, by simp, fun x hx y hy => ?_⟩
    obtain ⟨c, fz, hc⟩ := h.fs_at hx
    have := hlt hc
    simp at hy
    omega
  · rw [List.nodup_append]
    refine ⟨h.gdup, by simp, fun x hx y hy => ?_⟩
    obtain ⟨c, fz, hc⟩ := h.gs_at hx
    have := hlt hc
    simp at hy
    omega
theorem nodup_set {l : List Nat} {i x : Nat} (h : l.Nodup) (hx : x ∉ l) : (l.set i x).Nodup := by
  rw [List.nodup_iff_pairwise_ne, List.pairwise_iff_getElem] at h ⊢
  intro a b ha hb hab
  rw [List.length_set] at ha hb
  rw [List.getElem_set, List.getElem_set]
  split
  · rw [if_neg (by omega)]
    exact fun e => hx (e ▸ List.getElem_mem hb)
  · split
    · exact fun e => hx (e ▸ List.getElem_mem ha)
    · exact h a b ha hb hab
theorem FilesAt.one {w w' : World} {fs gs : List Nat} {files : List FileS} (h : FilesAt w fs gs files) {i b g g' : Nat} {h0 : FileS → FileS} {f : FileS} (hb : fs[i]? = some b) (hg : gs[i]? = some g) (hf : files[i]? = some f) (k : Kept (fun k => k = b ∨ k = g) w w') (hn : FileAt w' b g' (h0 f)) (hgn : g' = g ∨ w.heap.size ≤ g') : FilesAt w' fs (gs.set i g') (files.modify i h0) := by
  have hil := (List.getElem?_eq_some_iff.1 hf).1
  have hlt : ∀ {k c t fz}, w.heap[k]? = some (.cells c t fz) → k < w.heap.size := fun h => (Array.getElem?_eq_some_iff.1 h).1
  refine ⟨by simp [h.flen], by simp [h.glen], fun j b' q f' h1 h2 h3 => ?_, h.fdup, ?_⟩
  · by_cases hij : i = j
    · subst hij
      rw [hb] at h1
      obtain rfl : b = b' := Option.some.inj h1
      rw [List.getElem?_set_self (by rw [h.glen]; exact hil)] at h2
      obtain rfl : g' = q := Option.some.inj h2
      rw [List.getElem?_modify, hf] at h3
      simp at h3
      subst h3
      exact hn
    · rw [List.getElem?_set_ne hij] at h2
      rw [List.getElem?_modify] at h3
      cases e : files[j]? with
      | none => rw [e] at h3; cases h3
      | some f2 =>
        rw [e] at h3
        simp [hij] at h3
        subst h3
        have old := h.each j b' q f2 h1 h2 e
        have t1 := (h.each i b g f hb hg hf).lt
        refine old.kept k ?_ ?_
        · rintro (rfl | rfl)
          · exact hij ((List.getElem_inj h.fdup).1 (((List.getElem?_eq_some_iff.1 hb).2).trans ((List.getElem?_eq_some_iff.1 h1).2.symm)))
          · obtain ⟨c, fz, hc⟩ := h.fs_at (List.mem_of_getElem? h1)
            obtain ⟨c', fz', hc'⟩ := h.gs_at (List.mem_of_getElem? hg)
            exact tells hc hc' (by decide) rfl
        · rintro (rfl | rfl)
          · obtain ⟨c, fz, hc⟩ := h.fs_at (List.mem_of_getElem? hb)
            obtain ⟨c', fz', hc'⟩ := h.gs_at (List.mem_of_getElem? h2)
            exact tells hc hc' (by decide) rfl
          · exact hij ((List.getElem_inj h.gdup).1 (((List.getElem?_eq_some_iff.1 hg).2).trans ((List.getElem?_eq_some_iff.1 h2).2.symm)))
  · rcases hgn with rfl | hnew
    · have e : gs.set i g' = gs := by
        apply List.ext_getElem?
        intro j
        rw [List.getElem?_set]
        split
        · rename_i hij
          subst hij
          rw [if_pos (by rw [h.glen]; exact hil), hg]
        · rfl
      rw [e]; exact h.gdup
    · refine nodup_set h.gdup fun hm => ?_
      obtain ⟨c', fz, hc'⟩ := h.gs_at hm
      have := hlt hc'
      omega

/-- The cells of a change. -/
def cChg (fs : List Nat) (c : ChgS) : List Value := [.string (chgC fs c).1, .string (chgC fs c).2.1, .pointer (chgC fs c).2.2]
theorem cChg_len (fs : List Nat) (c : ChgS) : (cChg fs c).length = 3 := rfl
theorem cChg_one (fs : List Nat) (c : ChgS) : ∀ u ∈ cChg fs c, u.oneCell' = true := by
  intro u hu
  simp [cChg] at hu
  rcases hu with rfl | rfl | rfl <;> rfl
/-- The names in memory. -/
structure NamesIn (w : World) (nm tn tl : Nat) (vn vl vc : Value) (fs : List Nat) (rn rl : List RowF) (chs : List ChgS) (last : Nat) : Prop where
  nbox : w.heap[nm]? = some (.cells #[.pointer (some ⟨tn, 0, none⟩), .pointer (some ⟨tl, 0, none⟩), vc] 100 (0, 0))
  now : TabAtF 0 w tn vn rn
  lst : TabAtF 0 w tl vl rl
  isNow : rn.Perm ((playN chs).map (rowN fs))
  isLst : rl.Perm ((playN (chs.take last)).map (rowN fs))
  rows : w.ownsRow 0 147 3 vc (chs.length - last) (cellsG (cChg fs) (chs.drop last))
  le : last ≤ chs.length
  tt : tn ≠ tl
  tv : ∀ g, vn.ownBlock = some g → vl.ownBlock ≠ some g
/-- The blocks of the names. -/
def NFoot (nm tn tl : Nat) (vn vl vc : Value) (k : Nat) : Prop := k = nm ∨ k = tn ∨ k = tl ∨ vn.ownBlock = some k ∨ vl.ownBlock = some k ∨ vc.ownBlock = some k
def NTy (t : TypeId) : Prop := t = 100 ∨ t = 137 ∨ t = 140 ∨ t = 147
theorem rows_at {w : World} {base : Nat} {e : TypeId} {size : Nat} {v : Value} {n : Nat} {xs : List Value} (h : w.ownsRow base e size v n xs) {g : Nat} (hg : v.ownBlock = some g) : ∃ c fz, w.heap[g]? = some (.cells c e fz) := by
  rcases h.2 with ⟨rfl, _⟩ | ⟨g', cap, cur, rfl, _, h5, _⟩
  · simp [Value.ownBlock] at hg
  · obtain rfl : g' = g := by simpa [Value.ownBlock] using hg
    exact ⟨cur, _, h5⟩
theorem rows_kept {D : Nat → Prop} {w w' : World} {base : Nat} {e : TypeId} {size : Nat} {v : Value} {n : Nat} {xs : List Value} (h : w.ownsRow base e size v n xs) (k : Kept D w w') (hd : ∀ g, v.ownBlock = some g → ¬ D g) : w'.ownsRow base e size v n xs := by
  refine ⟨h.1, ?_⟩
  rcases h.2 with h | ⟨g, cap, cur, rfl, h2, h3, h4⟩
  · exact .inl h
  · exact .inr ⟨g, cap, cur, rfl, h2, k.heap h3 (hd g rfl), h4⟩
theorem NamesIn.at {w : World} {nm tn tl : Nat} {vn vl vc : Value} {fs : List Nat} {rn rl : List RowF} {chs : List ChgS} {last : Nat} (h : NamesIn w nm tn tl vn vl vc fs rn rl chs last) {k : Nat} (hk : NFoot nm tn tl vn vl vc k) : ∃ c t fz, w.heap[k]? = some (.cells c t fz) ∧ NTy t := by
  rcases hk with rfl | rfl | rfl | hk | hk | hk
  · exact ⟨_, _, _, h.nbox, .inl rfl⟩
  · exact ⟨_, _, _, h.now.at_, .inr (.inl rfl)⟩
  · exact ⟨_, _, _, h.lst.at_, .inr (.inl rfl)⟩
  · obtain ⟨c, fz, hc⟩ := rows_at h.now.rows hk
    exact ⟨c, _, fz, hc, .inr (.inr (.inl rfl))⟩
  · obtain ⟨c, fz, hc⟩ := rows_at h.lst.rows hk
    exact ⟨c, _, fz, hc, .inr (.inr (.inl rfl))⟩
  · obtain ⟨c, fz, hc⟩ := rows_at h.rows hk
    exact ⟨c, _, fz, hc, .inr (.inr (.inr rfl))⟩
theorem NamesIn.not {w : World} {nm tn tl : Nat} {vn vl vc : Value} {fs : List Nat} {rn rl : List RowF} {chs : List ChgS} {last : Nat} (h : NamesIn w nm tn tl vn vl vc fs rn rl chs last) {b : Nat} {c : Array Value} {t : TypeId} {fz : Nat × Nat} (hb : w.heap[b]? = some (.cells c t fz)) (ht : ¬ NTy t) : ¬ NFoot nm tn tl vn vl vc b := fun hk => by
  obtain ⟨c', t', fz', h1, h2⟩ := h.at hk
  rw [hb] at h1
  simp only [Option.some.injEq, Obj.cells.injEq] at h1
  exact ht (h1.2.1 ▸ h2)
theorem NamesIn.kept {D : Nat → Prop} {w w' : World} {nm tn tl : Nat} {vn vl vc : Value} {fs : List Nat} {rn rl : List RowF} {chs : List ChgS} {last : Nat} (h : NamesIn w nm tn tl vn vl vc fs rn rl chs last) (k : Kept D w w') (hd : ∀ j, NFoot nm tn tl vn vl vc j → ¬ D j) : NamesIn w' nm tn tl vn vl vc fs rn rl chs last :=
  ⟨k.heap h.nbox (hd _ (.inl rfl)), h.now.kept k (hd _ (.inr (.inl rfl))) fun g hg => hd g (.inr (.inr (.inr (.inl hg)))), h.lst.kept k (hd _ (.inr (.inr (.inl rfl)))) fun g hg => hd g (.inr (.inr (.inr (.inr (.inl hg))))), h.isNow, h.isLst, rows_kept h.rows k fun g hg => hd g (.inr (.inr (.inr (.inr (.inr hg))))), h.le, h.tt, h.tv⟩
theorem NamesIn.ext {w w' : World} {nm tn tl : Nat} {vn vl vc : Value} {fs : List Nat} {rn rl : List RowF} {chs : List ChgS} {last : Nat} (h : NamesIn w nm tn tl vn vl vc fs rn rl chs last) (e : Ext w w') : NamesIn w' nm tn tl vn vl vc fs rn rl chs last := h.kept (e.kept fun _ => False) fun _ _ => id
/-- Files more: the names stay. -/
theorem chgC_more {fs : List Nat} {b n : Nat} {c : ChgS} (h : c.okC n) (hn : n = fs.length) : chgC (fs ++ [b]) c = chgC fs c := by
  subst hn
  have hg : ∀ f, f < fs.length → (fs ++ [b]).getD f 0 = fs.getD f 0 := fun f hf => by
    simp [List.getElem?_append_left hf]
  cases c with
  | wr a f => simp only [chgC]; rw [hg f h.2]
  | rn a d f => simp only [chgC]; rw [hg f h.2.2]
  | rm a => rfl
theorem rowN_more {fs : List Nat} {b : Nat} {l : List NmS} (h : ∀ x ∈ l, NmOk fs.length x) : l.map (rowN (fs ++ [b])) = l.map (rowN fs) := by
  apply List.map_congr_left
  intro x hx
  have := (h x hx).2
  simp [rowN, List.getElem?_append_left this]
theorem NamesIn.more {w : World} {nm tn tl : Nat} {vn vl vc : Value} {fs : List Nat} {rn rl : List RowF} {chs : List ChgS} {last : Nat} (h : NamesIn w nm tn tl vn vl vc fs rn rl chs last) (hok : ∀ c ∈ chs, c.okC fs.length) (b : Nat) : NamesIn w nm tn tl vn vl vc (fs ++ [b]) rn rl chs last := by
  refine ⟨h.nbox, h.now, h.lst, ?_, ?_, ?_, h.le, h.tt, h.tv⟩
  · rw [rowN_more (play_ok hok)]; exact h.isNow
  · rw [rowN_more (play_ok fun c hc => hok c (List.mem_of_mem_take hc))]; exact h.isLst
  · have e : cellsG (cChg (fs ++ [b])) (chs.drop last) = cellsG (cChg fs) (chs.drop last) := by
      unfold cellsG
      rw [List.flatMap_def, List.flatMap_def]
      congr 1
      apply List.map_congr_left
      intro c hc
      unfold cChg
      rw [chgC_more (hok c (List.mem_of_mem_drop hc)) rfl]
    rw [e]; exact h.rows

/-- The blocks of a disk. -/
def DFoot (d nm tn tl : Nat) (vn vl vc : Value) (fs gs : List Nat) (k : Nat) : Prop := k = d ∨ NFoot nm tn tl vn vl vc k ∨ k ∈ fs ∨ k ∈ gs
/-- A disk lies in memory. -/
structure DiskIn (w : World) (d nm tn tl : Nat) (vn vl vc : Value) (kc sc : Int) (fs gs : List Nat) (rn rl : List RowF) (D : DskS) : Prop where
  box : w.heap[d]? = some (.cells #[.int .i64 (D.room : Int), .pointer (some ⟨nm, 0, none⟩), .int .i64 (D.due : Int), .int .i64 kc, .int .i64 sc] 54 (0, 0))
  names : NamesIn w nm tn tl vn vl vc fs rn rl D.chs D.last
  files : FilesAt w fs gs D.files
  ok : D.Ok
  due : D.due ≤ 9223372036854775807
  brk : D.due ≠ 0 → kc = D.keep ∧ sc = D.stay
/-- A disk lies in memory, all of it in blocks of which O speaks. -/
def DiskAt (O : Nat → Prop) (w : World) (d : Nat) (D : DskS) : Prop :=
  ∃ nm tn tl vn vl vc kc sc fs gs rn rl, DiskIn w d nm tn tl vn vl vc kc sc fs gs rn rl D ∧ ∀ k, DFoot d nm tn tl vn vl vc fs gs k → O k
/-- What belongs to it, with what was made since. -/
def Grow (O : Nat → Prop) (w w' : World) (k : Nat) : Prop := O k ∨ (w.heap.size ≤ k ∧ k < w'.heap.size)
theorem five_cells {w : World} {k : Nat} {a b c d f : Value} {t : TypeId} {fz : Nat × Nat} (hk : w.heap[k]? = some (.cells #[a, b, c, d, f] t fz)) :
    w.cell? ⟨k, 0, none⟩ = some a ∧ w.cell? ⟨k, 1, none⟩ = some b ∧ w.cell? ⟨k, 2, none⟩ = some c ∧ w.cell? ⟨k, 3, none⟩ = some d ∧ w.cell? ⟨k, 4, none⟩ = some f := by
  refine ⟨?_, ?_, ?_, ?_, ?_⟩ <;> simp [World.cell?, hk]
end Go.Proofs.Ytpkhmgonkbpjjaa
