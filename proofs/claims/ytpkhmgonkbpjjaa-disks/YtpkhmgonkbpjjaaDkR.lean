/-
  A disk: names of a new one; a name is looked for; how much room is left.
-/
import Derived.Test.YtpkhmgonkbpjjaaRngF
import Derived.Test.YtpkhmgonkbpjjaaJ3
namespace Go.Proofs.Ytpkhmgonkbpjjaa
open Go.RowKit Go.Shelf

attribute [local go_sem] Go.World.cell?_alloc_some
set_option maxRecDepth 100000 in
set_option maxHeartbeats 800000 in
theorem newNamesP (w : World) : Calls Try.prog 9 #[] w fun e w' => ∃ nm tn tl vn vl rn rl, e = .returned (.pointer (some ⟨nm, 0, none⟩)) ∧ Hid (NamesIn w' nm tn tl vn vl (.slice none 0 0) [] rn rl [] 0) ∧ Hid (Ext w w') ∧ Hid (∀ k, NFoot nm tn tl vn vl (.slice none 0 0) k → w.heap.size ≤ k) := by
  go_enter Try.func9, Try.ntmps9
  go_wp2_with fail
  refine (tabNewF w).mono ?_
  rintro e1 w1 ⟨rfl, h1, h1w⟩
  have X1 : Ext w w1 := by rw [h1w.out]; exact (Ext.refl w).alloc _
  replace X1 := hide X1
  go_wp2_with fail
  refine (tabCopyF _ _ _ _ _ h1.out).mono ?_
  rintro e2 w2 ⟨t', v', rfl, h2, X2⟩
  go_wp2_with fail
  go_ret
  have E3 := (Ext.refl w2).alloc (.cells #[.pointer (some ⟨t', 0, none⟩), .pointer (some ⟨w.heap.size, 0, none⟩), .slice none 0 0] 100)
  have s1 := Ext.size X1.out
  have s2 := Ext.size X2.out
  have h1t := h1.out.lt
  have hb := h2.out.base
  have hn : ∀ g, v'.ownBlock = some g → w1.heap.size ≤ g := fun g hg => by
    rcases h2.out.rows.2 with ⟨rfl, _⟩ | ⟨g', cap, cur, rfl, h4, _⟩
    · simp [Value.ownBlock] at hg
    · obtain rfl : g' = g := by simpa [Value.ownBlock] using hg
      exact h4
  refine ⟨w2.heap.size, t', w.heap.size, v', .slice none 0 0, [], [], rfl, ⟨heap_alloc_new w2 _, (h2.out.low (Nat.zero_le _)).ext E3, ((h1.out.low (Nat.zero_le _)).ext X2.out).ext E3, by simp [playN], by simp [playN], World.ownsRow_nil _ _ _ _, Nat.le_refl _, by have := h1t.1; omega, fun g _ hl => by simp [Value.ownBlock] at hl⟩, (X1.out.trans X2.out).trans E3, fun k hk => ?_⟩
  rcases hk with hk | hk | hk | hk | hk | hk
  · omega
  · omega
  · omega
  · have := hn k hk; omega
  · simp [Value.ownBlock] at hk
  · simp [Value.ownBlock] at hk

/-- What a name that is looked for answers. -/
noncomputable def findV (D : DskS) (fs : List Nat) (name : ByteArray) : Value := match D.find name with
  | .inl i => .tuple #[.pointer (some ⟨fs.getD i 0, 0, none⟩), .int .i64 0]
  | .inr e => .tuple #[.pointer none, .int .i64 e]
theorem look_is {rn : List RowF} {fs : List Nat} {l : List NmS} (h : rn.Perm (l.map (rowN fs))) (hn : (l.map Prod.fst).Nodup) (a : ByteArray) : lookK RowF.key a rn = (lookK Prod.fst a l).map (rowN fs) := by
  rw [lookK_perm (by rw [List.map_map]; exact hn) h]
  exact lookK_map (rowN fs) (fun _ => rfl) a l
set_option maxRecDepth 100000 in
set_option maxHeartbeats 800000 in
theorem findP (w : World) (d nm tn tl : Nat) (vn vl vc : Value) (kc sc : Int) (fs gs : List Nat) (rn rl : List RowF) (D : DskS) (name : ByteArray) (hm : name.size ≤ 9223372036854775807) (h : DiskIn w d nm tn tl vn vl vc kc sc fs gs rn rl D) :
    Calls Try.prog 57 #[.pointer (some ⟨d, 0, none⟩), .string name] w fun e w' => e = .returned (findV D fs name) ∧ Hid (Ext w w') := by
  have hl := look_is h.names.isNow (play_nodup D.chs) name
  replace h := hide h; replace hl := hide hl
  go_enter Try.func57, Try.ntmps57
  go_wp2_with fail
  refine (isWord name w hm).mono ?_
  rintro e1 w1 ⟨rfl, X1⟩
  replace X1 := hide X1
  cases hw : wordB name.data.toList with
  | false =>
    have hf : findV D fs name = .tuple #[.pointer none, .int .i64 11] := by unfold findV DskS.find; simp [hw]
    replace hw := hide hw; replace hf := hide hf
    go_wp2_with fail
    go_ret2
    exact ⟨by rw [hf.out]; rfl, X1⟩
  | true =>
    have h1 := h.out
    obtain ⟨c0, c1, c2, c3, c4⟩ := five_cells (ext_heap X1.out h1.box)
    obtain ⟨n0, n1, n2⟩ := three_at (ext_heap X1.out h1.names.nbox)
    replace h1 := hide h1
    replace hw := hide hw
    go_wp2_with fail
    refine (tabGetF 0 vn rn name tn _ (h.out.names.now.ext X1.out)).mono ?_
    rintro e2 w2 ⟨rfl, X2⟩
    unfold ptrF
    rw [hl.out]
    have hf : findV D fs name = match lookK Prod.fst name D.names with
      | some x => .tuple #[.pointer (some ⟨fs.getD x.2 0, 0, none⟩), .int .i64 0]
      | none => .tuple #[.pointer none, .int .i64 12] := by
        unfold findV DskS.find lookN
        rw [if_pos hw.out]
        cases lookK Prod.fst name D.names <;> rfl
    unfold DskS.names at hf
    cases hlk : lookK Prod.fst name (playN D.chs) with
    | none =>
      rw [hlk] at hf
      replace hf := hide hf; replace hlk := hide hlk
      go_wp2_with fail
      go_ret2
      exact ⟨by rw [hf.out]; rfl, X1.out.trans X2.out⟩
    | some x =>
      rw [hlk] at hf
      replace hf := hide hf; replace hlk := hide hlk
      go_wp2_with fail
      go_ret2
      exact ⟨by rw [hf.out]; rfl, X1.out.trans X2.out⟩
end Go.Proofs.Ytpkhmgonkbpjjaa
