/-
  What was printed is read as it was, on plain lists: resources, a text, what Parse answers.
-/
/-
  What is read may be, on plain lists: tokens, entries, resources.
-/
/-
  What is read may be, on plain lists: entries, resources, what Parse answers.
-/
/-
  What is read, printed and read again is the same, on plain lists.
-/
/-
  The document's example: what Parse answers of it.
-/
/-
  At most twelve resources are read.
-/
import Derived.Test.YtfmcgdglalljgaaGreatDoorJ30
import Derived.KernelRfl
namespace Go.Proofs.YtfmcgdglalljgaaGreatDoor
open Go.RowKit

end Go.Proofs.YtfmcgdglalljgaaGreatDoor

namespace Go.Proofs.YtfmcgdglalljgaaGreatDoor
open Go.RowKit

end Go.Proofs.YtfmcgdglalljgaaGreatDoor

namespace Go.Proofs.YtfmcgdglalljgaaGreatDoor
open Go.RowKit

theorem UpG.put {κ ρ : Type} {cmp : κ → κ → Int} {key : ρ → κ} (ho : OrdK cmp) (x : ρ) : ∀ {rs : List ρ}, UpG cmp key rs → ¬ HasK key rs (key x) → UpG cmp key (rs.takeWhile (fun r => decide (cmp (key r) (key x) < 0)) ++ x :: rs.dropWhile (fun r => decide (cmp (key r) (key x) < 0)))
  | [], _, _ => by simp [UpG]
  | r :: rs, hu, hn => by
    obtain ⟨h1, h2⟩ := List.pairwise_cons.1 hu
    have hn' : ¬ HasK key rs (key x) := fun ⟨y, hy, e⟩ => hn ⟨y, List.mem_cons_of_mem _ hy, e⟩
    have hne : cmp (key r) (key x) ≠ 0 := fun e => hn ⟨r, List.mem_cons_self, ho.zero.1 e⟩
    by_cases hp : cmp (key r) (key x) < 0
    · have ih := UpG.put ho x h2 hn'
      simp only [List.takeWhile, List.dropWhile, hp, decide_true, List.cons_append]
      refine List.pairwise_cons.2 ⟨fun y hy => ?_, ih⟩
      rcases List.mem_append.1 hy with hy | hy
      · exact h1 y ((List.takeWhile_sublist _).subset hy)
      · rcases List.mem_cons.1 hy with rfl | hy
        · exact hp
        · exact h1 y ((List.dropWhile_sublist _).subset hy)
    · simp only [List.takeWhile, List.dropWhile, hp, decide_false, List.nil_append]
      have hx : cmp (key x) (key r) < 0 := by rw [ho.flip]; omega
      refine List.pairwise_cons.2 ⟨fun y hy => ?_, hu⟩
      rcases List.mem_cons.1 hy with rfl | hy
      · exact hx
      · exact ho.trans hx (h1 y hy)
structure EntM (n : Nat) (e : EntD) : Prop where
  id : idB e.id = true
  place : e.place ≤ n
  attrs : ∀ r ∈ e.attrs, attrB r.val = true ∧ r.val.name = r.key
  up : UpG cmpS RowA.key e.attrs
  few : e.attrs.length ≤ 6
  after : ∀ a ∈ e.after, idB a = true
  upA : UpG cmpI (fun a : IDd => a) e.after
  fewA : e.after.length ≤ 6
/-- An entry that may be, and its refs among those that were read. -/
def EntR (n : Nat) (e : EntD) (rf : List (IDd × Nat)) : Prop := EntM n e ∧ (∀ r ∈ rf, r.2 ≤ n) ∧ ∀ a ∈ e.after, a ∈ rf.map Prod.fst
/-- What a reading gives. -/
def GivesE (n : Nat) (rf : List (IDd × Nat)) (r : Except Flt (Nat × EntD × List (IDd × Nat))) : Prop := (∀ i' e' rf', r = .ok (i', e', rf') → EntR n e' rf' ∧ ∀ x ∈ rf, x ∈ rf') ∧ ∀ x, r = .error x → x.1 ≠ 0 ∧ x.2 ≤ n
theorem GivesE.ok {n : Nat} {rf : List (IDd × Nat)} {i : Nat} {e : EntD} {rf' : List (IDd × Nat)} (h : EntR n e rf') (hs : ∀ x ∈ rf, x ∈ rf') : GivesE n rf (.ok (i, e, rf')) := ⟨fun _ _ _ h' => by cases h'; exact ⟨h, hs⟩, fun y hy => (by cases hy)⟩
theorem GivesE.mono {n : Nat} {rf rf1 : List (IDd × Nat)} {r : Except Flt (Nat × EntD × List (IDd × Nat))} (h : GivesE n rf1 r) (hs : ∀ x ∈ rf, x ∈ rf1) : GivesE n rf r := ⟨fun i e f hr => ⟨(h.1 i e f hr).1, fun x hx => (h.1 i e f hr).2 x (hs x hx)⟩, h.2⟩
/-- What is known of all that was read. -/
def AllR (n : Nat) (es : List EntD) (rf : List (IDd × Nat)) : Prop := (∀ e ∈ es, EntM n e ∧ ∀ a ∈ e.after, a ∈ rf.map Prod.fst) ∧ (∀ r ∈ rf, r.2 ≤ n) ∧ (es.map EntD.id).Nodup ∧ es.length ≤ 12
theorem AllR.more {n : Nat} {es : List EntD} {rf rf' : List (IDd × Nat)} (h : AllR n es rf) {e : EntD} (he : EntR n e rf') (hs : ∀ x ∈ rf, x ∈ rf') (hno : e.id ∉ es.map EntD.id) (hn : es.length ≠ 12) : AllR n (es ++ [e]) rf' := by
  obtain ⟨h1, h2, h3, h4⟩ := h
  refine ⟨fun x hx => ?_, he.2.1, ?_, by rw [List.length_append, List.length_singleton]; omega⟩
  · rcases List.mem_append.1 hx with hx | hx
    · refine ⟨(h1 x hx).1, fun a ha => ?_⟩
      obtain ⟨r, hr, rfl⟩ := List.mem_map.1 ((h1 x hx).2 a ha)
      exact List.mem_map.2 ⟨r, hs r hr, rfl⟩
    · simp at hx; subst hx; exact ⟨he.1, he.2.2⟩
  · rw [List.map_append]
    refine List.nodup_append.2 ⟨h3, by simp, fun a ha b hb => ?_⟩
    simp at hb
    subst hb
    rintro rfl
    exact hno ha
end Go.Proofs.YtfmcgdglalljgaaGreatDoor

namespace Go.Proofs.YtfmcgdglalljgaaGreatDoor
open Go.RowKit

end Go.Proofs.YtfmcgdglalljgaaGreatDoor

namespace Go.Proofs.YtfmcgdglalljgaaGreatDoor
open Go.RowKit

def exB : List UInt8 := [114, 101, 115, 111, 117, 114, 99, 101, 32, 118, 109, 32, 97, 32, 123, 32, 115, 105, 122, 101, 32, 61, 32, 51, 32, 110, 97, 109, 101, 32, 61, 32, 34, 120, 92, 110, 121, 34, 32, 97, 102, 116, 101, 114, 32, 61, 32, 91, 110, 101, 116, 46, 98, 93, 32, 125, 32, 114, 101, 115, 111, 117, 114, 99, 101, 32, 110, 101, 116, 32, 98, 32, 123, 32, 125]
def exT : List Tok := [⟨1, 0, ⟨#[114, 101, 115, 111, 117, 114, 99, 101]⟩, 0⟩, ⟨1, 9, ⟨#[118, 109]⟩, 0⟩, ⟨1, 12, ⟨#[97]⟩, 0⟩, ⟨4, 14, ⟨#[]⟩, 0⟩, ⟨1, 16, ⟨#[115, 105, 122, 101]⟩, 0⟩, ⟨8, 21, ⟨#[]⟩, 0⟩, ⟨2, 23, ⟨#[]⟩, 3⟩, ⟨1, 25, ⟨#[110, 97, 109, 101]⟩, 0⟩, ⟨8, 30, ⟨#[]⟩, 0⟩, ⟨3, 32, ⟨#[120, 10, 121]⟩, 0⟩, ⟨1, 39, ⟨#[97, 102, 116, 101, 114]⟩, 0⟩, ⟨8, 45, ⟨#[]⟩, 0⟩, ⟨6, 47, ⟨#[]⟩, 0⟩, ⟨1, 48, ⟨#[110, 101, 116]⟩, 0⟩, ⟨10, 51, ⟨#[]⟩, 0⟩, ⟨1, 52, ⟨#[98]⟩, 0⟩, ⟨7, 53, ⟨#[]⟩, 0⟩, ⟨5, 55, ⟨#[]⟩, 0⟩, ⟨1, 57, ⟨#[114, 101, 115, 111, 117, 114, 99, 101]⟩, 0⟩, ⟨1, 66, ⟨#[110, 101, 116]⟩, 0⟩, ⟨1, 70, ⟨#[98]⟩, 0⟩, ⟨4, 72, ⟨#[]⟩, 0⟩, ⟨5, 74, ⟨#[]⟩, 0⟩, ⟨11, 75, ⟨#[]⟩, 0⟩]
def wVm : ByteArray := ⟨#[118, 109]⟩
def wA : ByteArray := ⟨#[97]⟩
def wNet : ByteArray := ⟨#[110, 101, 116]⟩
def wB : ByteArray := ⟨#[98]⟩
def wSize : ByteArray := ⟨#[115, 105, 122, 101]⟩
def wName : ByteArray := ⟨#[110, 97, 109, 101]⟩
def wXy : ByteArray := ⟨#[120, 10, 121]⟩
def exVm : Resd := ⟨⟨wVm, wA⟩, [⟨wName, true, wXy, 0⟩, ⟨wSize, false, ⟨#[]⟩, 3⟩], [⟨wNet, wB⟩]⟩
def exNet : Resd := ⟨⟨wNet, wB⟩, [], []⟩
theorem ex_cut : cutL exB = (exT, (0, 0)) := by kernel_rfl
theorem ex_line1 : lineS exT 4 ⟨⟨wVm, wA⟩, 9, [], false, []⟩ [] = .ok (7, ⟨⟨wVm, wA⟩, 9, [⟨wSize, ⟨wSize, false, ⟨#[]⟩, 3⟩⟩], false, []⟩, []) := by
  have hz : nameS ⟨⟨wVm, wA⟩, 9, [], false, []⟩ wSize = 0 := by
    unfold nameS
    rw [if_neg (fun h => by cases h.2), if_neg (fun h => h.elim (fun h => by cases h.2) (fun ⟨r, hr, _⟩ => by cases hr))]
  unfold lineS
  rw [show takeS exT 4 1 = .ok (⟨1, 16, ⟨#[115, 105, 122, 101]⟩, 0⟩, 5) from rfl]
  dsimp only
  rw [if_neg (fun h => h hz), show takeS exT 5 8 = .ok (⟨8, 21, ⟨#[]⟩, 0⟩, 6) from rfl]
  dsimp only
  rw [if_neg (by decide)]
  rfl
theorem ex_line2 : lineS exT 7 ⟨⟨wVm, wA⟩, 9, [⟨wSize, ⟨wSize, false, ⟨#[]⟩, 3⟩⟩], false, []⟩ [] = .ok (10, ⟨⟨wVm, wA⟩, 9, [⟨wName, ⟨wName, true, wXy, 0⟩⟩, ⟨wSize, ⟨wSize, false, ⟨#[]⟩, 3⟩⟩], false, []⟩, []) := by
  have hz : nameS ⟨⟨wVm, wA⟩, 9, [⟨wSize, ⟨wSize, false, ⟨#[]⟩, 3⟩⟩], false, []⟩ wName = 0 := by
    unfold nameS
    rw [if_neg (fun h => by cases h.2), if_neg (fun h => h.elim (fun h => by cases h.2) (fun ⟨r, hr, he⟩ => by
      obtain rfl := List.mem_singleton.1 hr
      revert he; decide))]
  unfold lineS
  rw [show takeS exT 7 1 = .ok (⟨1, 25, ⟨#[110, 97, 109, 101]⟩, 0⟩, 8) from rfl]
  dsimp only
  rw [if_neg (fun h => h hz), show takeS exT 8 8 = .ok (⟨8, 30, ⟨#[]⟩, 0⟩, 9) from rfl]
  dsimp only
  rw [if_neg (by decide)]
  rfl
theorem ex_refs : refsS exT exT.length 13 ⟨⟨wVm, wA⟩, 9, [⟨wName, ⟨wName, true, wXy, 0⟩⟩, ⟨wSize, ⟨wSize, false, ⟨#[]⟩, 3⟩⟩], true, []⟩ [] = .ok (16, ⟨⟨wVm, wA⟩, 9, [⟨wName, ⟨wName, true, wXy, 0⟩⟩, ⟨wSize, ⟨wSize, false, ⟨#[]⟩, 3⟩⟩], true, [⟨wNet, wB⟩]⟩, [(⟨wNet, wB⟩, 48)]) := by
  have h1 : refS exT 13 ⟨⟨wVm, wA⟩, 9, [⟨wName, ⟨wName, true, wXy, 0⟩⟩, ⟨wSize, ⟨wSize, false, ⟨#[]⟩, 3⟩⟩], true, []⟩ [] = .ok (16, ⟨⟨wVm, wA⟩, 9, [⟨wName, ⟨wName, true, wXy, 0⟩⟩, ⟨wSize, ⟨wSize, false, ⟨#[]⟩, 3⟩⟩], true, [⟨wNet, wB⟩]⟩, [(⟨wNet, wB⟩, 48)]) := by
    unfold refS
    rw [show takeS exT 13 1 = .ok (⟨1, 48, ⟨#[110, 101, 116]⟩, 0⟩, 14) from rfl]
    dsimp only
    rw [show takeS exT 14 10 = .ok (⟨10, 51, ⟨#[]⟩, 0⟩, 15) from rfl]
    dsimp only
    rw [show takeS exT 15 1 = .ok (⟨1, 52, ⟨#[98]⟩, 0⟩, 16) from rfl]
    dsimp only
    rw [if_neg (by decide), if_neg (by simp)]
    rfl
  show refsS exT (23 + 1) 13 _ _ = _
  unfold refsS
  rw [h1]
  dsimp only
  rw [if_neg (by decide)]
theorem ex_line3 : lineS exT 10 ⟨⟨wVm, wA⟩, 9, [⟨wName, ⟨wName, true, wXy, 0⟩⟩, ⟨wSize, ⟨wSize, false, ⟨#[]⟩, 3⟩⟩], false, []⟩ [] = .ok (17, ⟨⟨wVm, wA⟩, 9, [⟨wName, ⟨wName, true, wXy, 0⟩⟩, ⟨wSize, ⟨wSize, false, ⟨#[]⟩, 3⟩⟩], true, [⟨wNet, wB⟩]⟩, [(⟨wNet, wB⟩, 48)]) := by
  have hz : nameS ⟨⟨wVm, wA⟩, 9, [⟨wName, ⟨wName, true, wXy, 0⟩⟩, ⟨wSize, ⟨wSize, false, ⟨#[]⟩, 3⟩⟩], false, []⟩ wAfter = 0 := by
    unfold nameS
    rw [if_neg (fun h => h.1 rfl), if_neg (fun h => h.elim (fun h => by cases h.2) (fun ⟨r, hr, he⟩ => by
      rcases List.mem_cons.1 hr with rfl | hr
      · revert he; decide
      · obtain rfl := List.mem_singleton.1 hr
        revert he; decide))]
  unfold lineS
  rw [show takeS exT 10 1 = .ok (⟨1, 39, ⟨#[97, 102, 116, 101, 114]⟩, 0⟩, 11) from rfl]
  dsimp only
  rw [if_neg (fun h => h hz), show takeS exT 11 8 = .ok (⟨8, 45, ⟨#[]⟩, 0⟩, 12) from rfl]
  dsimp only
  rw [if_pos (show (⟨#[97, 102, 116, 101, 114]⟩ : ByteArray) = wAfter from rfl)]
  unfold listS
  rw [show takeS exT 12 6 = .ok (⟨6, 47, ⟨#[]⟩, 0⟩, 13) from rfl]
  dsimp only
  rw [if_neg (by decide), ex_refs]
  rfl
theorem ex_vm : resS exT 0 [] [] = .ok (18, [⟨⟨wVm, wA⟩, 9, [⟨wName, ⟨wName, true, wXy, 0⟩⟩, ⟨wSize, ⟨wSize, false, ⟨#[]⟩, 3⟩⟩], true, [⟨wNet, wB⟩]⟩], [(⟨wNet, wB⟩, 48)]) := by
  have hh : headS exT 0 [] = .ok (3, ⟨⟨wVm, wA⟩, 9, [], false, []⟩) := by
    unfold headS
    rw [show takeS exT 0 1 = .ok (⟨1, 0, ⟨#[114, 101, 115, 111, 117, 114, 99, 101]⟩, 0⟩, 1) from rfl]
    dsimp only
    rw [if_neg (fun h => h rfl), if_neg (by decide), show takeS exT 1 1 = .ok (⟨1, 9, ⟨#[118, 109]⟩, 0⟩, 2) from rfl]
    dsimp only
    rw [show takeS exT 2 1 = .ok (⟨1, 12, ⟨#[97]⟩, 0⟩, 3) from rfl]
    dsimp only
    rw [if_neg (by simp)]
    rfl
  have hl : linesS exT exT.length 4 ⟨⟨wVm, wA⟩, 9, [], false, []⟩ [] = .ok (17, ⟨⟨wVm, wA⟩, 9, [⟨wName, ⟨wName, true, wXy, 0⟩⟩, ⟨wSize, ⟨wSize, false, ⟨#[]⟩, 3⟩⟩], true, [⟨wNet, wB⟩]⟩, [(⟨wNet, wB⟩, 48)]) := by
    show linesS exT (20 + 1 + 1 + 1 + 1) 4 _ _ = _
    unfold linesS
    rw [if_neg (by decide), ex_line1]
    dsimp only
    unfold linesS
    rw [if_neg (by decide), ex_line2]
    dsimp only
    unfold linesS
    rw [if_neg (by decide), ex_line3]
    dsimp only
    unfold linesS
    rw [if_pos (by decide)]
  unfold resS
  rw [hh]
  dsimp only
  rw [show takeS exT 3 4 = .ok (⟨4, 14, ⟨#[]⟩, 0⟩, 4) from rfl]
  dsimp only
  rw [hl]
  rfl
theorem ex_net : resS exT 18 [⟨⟨wVm, wA⟩, 9, [⟨wName, ⟨wName, true, wXy, 0⟩⟩, ⟨wSize, ⟨wSize, false, ⟨#[]⟩, 3⟩⟩], true, [⟨wNet, wB⟩]⟩] [(⟨wNet, wB⟩, 48)] = .ok (23, [⟨⟨wVm, wA⟩, 9, [⟨wName, ⟨wName, true, wXy, 0⟩⟩, ⟨wSize, ⟨wSize, false, ⟨#[]⟩, 3⟩⟩], true, [⟨wNet, wB⟩]⟩, ⟨⟨wNet, wB⟩, 66, [], false, []⟩], [(⟨wNet, wB⟩, 48)]) := by
  have hh : headS exT 18 [⟨⟨wVm, wA⟩, 9, [⟨wName, ⟨wName, true, wXy, 0⟩⟩, ⟨wSize, ⟨wSize, false, ⟨#[]⟩, 3⟩⟩], true, [⟨wNet, wB⟩]⟩] = .ok (21, ⟨⟨wNet, wB⟩, 66, [], false, []⟩) := by
    unfold headS
    rw [show takeS exT 18 1 = .ok (⟨1, 57, ⟨#[114, 101, 115, 111, 117, 114, 99, 101]⟩, 0⟩, 19) from rfl]
    dsimp only
    rw [if_neg (fun h => h rfl), if_neg (by decide), show takeS exT 19 1 = .ok (⟨1, 66, ⟨#[110, 101, 116]⟩, 0⟩, 20) from rfl]
    dsimp only
    rw [show takeS exT 20 1 = .ok (⟨1, 70, ⟨#[98]⟩, 0⟩, 21) from rfl]
    dsimp only
    rw [if_neg (by simp [wNet, wVm])]
    rfl
  have hl : linesS exT exT.length 22 ⟨⟨wNet, wB⟩, 66, [], false, []⟩ [(⟨wNet, wB⟩, 48)] = .ok (22, ⟨⟨wNet, wB⟩, 66, [], false, []⟩, [(⟨wNet, wB⟩, 48)]) := by
    show linesS exT (23 + 1) 22 _ _ = _
    unfold linesS
    rw [if_pos (by decide)]
  unfold resS
  rw [hh]
  dsimp only
  rw [show takeS exT 21 4 = .ok (⟨4, 72, ⟨#[]⟩, 0⟩, 22) from rfl]
  dsimp only
  rw [hl]
  rfl
theorem ex_text : textS exT exT.length 0 [] [] = .ok ([⟨⟨wVm, wA⟩, 9, [⟨wName, ⟨wName, true, wXy, 0⟩⟩, ⟨wSize, ⟨wSize, false, ⟨#[]⟩, 3⟩⟩], true, [⟨wNet, wB⟩]⟩, ⟨⟨wNet, wB⟩, 66, [], false, []⟩], [(⟨wNet, wB⟩, 48)]) := by
  show textS exT (21 + 1 + 1 + 1) 0 _ _ = _
  unfold textS
  rw [if_neg (by decide), ex_vm]
  dsimp only
  unfold textS
  rw [if_neg (by decide), ex_net]
  dsimp only
  unfold textS
  rw [if_pos (by decide)]
theorem ex_parse : parseS exB = ([exNet, exVm], (0, 0)) := by
  classical
  have h1 : refsF [⟨⟨wVm, wA⟩, 9, [⟨wName, ⟨wName, true, wXy, 0⟩⟩, ⟨wSize, ⟨wSize, false, ⟨#[]⟩, 3⟩⟩], true, [⟨wNet, wB⟩]⟩, ⟨⟨wNet, wB⟩, 66, [], false, []⟩] [(⟨wNet, wB⟩, 48)] = (0, 0) := by
    unfold refsF
    rw [if_pos (by simp)]
    rfl
  have hs : (srtN [⟨⟨wVm, wA⟩, 9, [⟨wName, ⟨wName, true, wXy, 0⟩⟩, ⟨wSize, ⟨wSize, false, ⟨#[]⟩, 3⟩⟩], true, [⟨wNet, wB⟩]⟩, ⟨⟨wNet, wB⟩, 66, [], false, []⟩]).map resOf = [exNet, exVm] := rfl
  have h2 : circF [exNet, exVm] [⟨⟨wVm, wA⟩, 9, [⟨wName, ⟨wName, true, wXy, 0⟩⟩, ⟨wSize, ⟨wSize, false, ⟨#[]⟩, 3⟩⟩], true, [⟨wNet, wB⟩]⟩, ⟨⟨wNet, wB⟩, 66, [], false, []⟩] = (0, 0) := by
    have he : ∀ b c, IdEdge [exNet, exVm] b c → b = ⟨wVm, wA⟩ ∧ c = ⟨wNet, wB⟩ := by
      rintro b c ⟨k, y, h1, h2, h3⟩
      obtain ⟨y', hy', rfl⟩ := place_id h1
      obtain rfl : y = y' := by simpa using h2.symm.trans hy'
      rcases List.mem_cons.1 (List.mem_of_getElem? h2) with rfl | hm
      · cases h3
      · obtain rfl := List.mem_singleton.1 hm
        exact ⟨rfl, List.mem_singleton.1 h3⟩
    have hne : (⟨wNet, wB⟩ : IDd) ≠ ⟨wVm, wA⟩ := by
      intro h
      injection h with h1 _
      revert h1; decide
    have hc : ∀ a, ¬ IdCirc [exNet, exVm] a := by
      rintro a ⟨b, hb, hE⟩
      obtain ⟨rfl, rfl⟩ := he b a hE
      have := hb.closed (S := fun x => x = ⟨wNet, wB⟩) rfl (fun x y hx hxy => absurd (hx.symm.trans (he x y hxy).1) hne)
      exact hne this.symm
    unfold circF
    rw [if_neg (hc _)]
    unfold circF
    rw [if_neg (hc _)]
    rfl
  unfold parseS
  rw [if_neg (by decide), ex_cut]
  dsimp only
  rw [if_neg (by decide), ex_text]
  dsimp only
  rw [h1, if_neg (by decide), hs, h2, if_neg (by decide)]
end Go.Proofs.YtfmcgdglalljgaaGreatDoor

namespace Go.Proofs.YtfmcgdglalljgaaGreatDoor
open Go.RowKit

end Go.Proofs.YtfmcgdglalljgaaGreatDoor
