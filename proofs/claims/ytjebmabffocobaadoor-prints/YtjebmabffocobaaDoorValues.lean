/-
  A value and refs as text: what the functions answer.
-/
import Derived.Test.YtjebmabffocobaaDoorQuote
import Derived.Test.YtjebmabffocobaaDoorMem
import Derived.Test.YtjebmabffocobaaDoorShelf
import Derived.Lib.ItoaNum
import Derived.Lib.AppendIntMem
namespace Go.Proofs.YtjebmabffocobaaDoor
open Go.RowKit

theorem ext_grow (w : World) (k : Nat) (os : Array Obj) : Ext w (Sort.grow (w.drewN k) os) := by
  refine ⟨rfl, rfl, rfl, ?_, fun j hj => ?_⟩
  · show w.heap.size ≤ (w.heap ++ os).size; simp
  · show (w.heap ++ os)[j]? = _; rw [Array.getElem?_append_left hj]
/-- The table of powers of ten lies there. -/
def TabP (w : World) : Prop := Lib.TabIs Tryd.prog w "internal/strconv.uint64pow10" .u64 Lib.pow10Tab
theorem TabP.ext {w w' : World} (h : TabP w) (e : Ext w w') : TabP w' := (Lib.tabBelow_of_tabIs h) w' e

set_option maxRecDepth 100000 in
set_option maxHeartbeats 800000 in
theorem valueText (x : Attrd) (w : World) (hok : okA x) (hsml : x.text.size ≤ 1048576) (htab : TabP w) :
    Calls Tryd.prog 23 #[.agg #[.string x.name, .bool x.isText, .string x.text, .int .i64 x.number]] w fun e w' => e = .returned (.string ⟨(valueL x).toArray⟩) ∧ Ext w w' := by
  obtain ⟨n, t, s, m⟩ := x
  obtain ⟨h1, h2, h3, h4⟩ := hok
  dsimp only at h1 h2 h3 h4 hsml ⊢
  replace htab := hide htab
  cases t
  · have H : Hid (valueL ⟨n, false, s, m⟩ = Lib.itoa m) := rfl
    go_enter Tryd.func23, Tryd.ntmps23
    go_wp2_with fail
    refine (Tryd.strconv_Itoa m h3 h4 _ (htab.out.ext ((Ext.refl _).alloc _))).mono ?_
    rintro e w1 ⟨rfl, k, os, he⟩
    have he1 : Ext (w.alloc (.cells #[.string n, .bool false, .string s, .int .i64 m] 40)) w1 := by rw [he]; exact ext_grow _ _ _
    clear he
    replace he1 := hide he1
    go_wp2
    go_ret
    exact ⟨retS (by rw [unhide H]), ((Ext.refl _).alloc _).trans he1.out⟩
  · have H : Hid (valueL ⟨n, true, s, m⟩ = quoteL s.data.toList) := rfl
    go_enter Tryd.func23, Tryd.ntmps23
    go_wp2_with fail
    refine (quote s _ hsml).mono ?_
    rintro e w1 ⟨rfl, he1⟩
    replace he1 := hide he1
    go_wp2
    go_ret
    exact ⟨retS (by rw [unhide H]), ((Ext.refl _).alloc _).trans he1.out⟩

theorem infoString : (Tryd.prog.info? 9).map (fun i => (i.zero, i.size, i.bytes)) = some (some (.string ⟨#[]⟩), 1, 16) := by kernel_rfl

theorem tail_le {x sep : List UInt8} : ∀ {ls : List (List UInt8)}, x ∈ ls → x.length ≤ (Lib.joinTail sep ls).length
  | [], h => by cases h
  | y :: r, h => by
    have e : Lib.joinTail sep (y :: r) = sep ++ y ++ Lib.joinTail sep r := by simp [Lib.joinTail]
    rw [e, List.length_append, List.length_append]
    rcases List.mem_cons.1 h with rfl | h
    · omega
    · have := tail_le (sep := sep) h
      omega
theorem join_le {x sep : List UInt8} : ∀ {ls : List (List UInt8)}, x ∈ ls → x.length ≤ (Lib.join ls sep).length
  | [], h => by cases h
  | y :: r, h => by
    rw [Lib.join_cons, List.length_append]
    rcases List.mem_cons.1 h with rfl | h
    · omega
    · have := tail_le (sep := sep) h
      omega
theorem ref_le {x : IDd} {l : List IDd} (hx : x ∈ l) : x.kind.size + x.name.size ≤ (refsL l).length := by
  have h := join_le (sep := [44, 32]) (List.mem_map_of_mem (f := fun x : IDd => (refL x).data.toList) hx)
  have e1 : x.kind.data.toList.length = x.kind.size := Array.length_toList
  have e2 : x.name.data.toList.length = x.name.size := Array.length_toList
  simp only [refL, List.length_append, List.length_cons] at h
  unfold refsL
  simp only [refL]
  omega

set_option maxRecDepth 100000 in
set_option maxHeartbeats 1600000 in
theorem refsText (v : Value) (l : List IDd) (w : World) (hv : IDsV w v l) (h0 : 0 < l.length) (h6 : l.length ≤ 6) (hbig : (refsL l).length ≤ 100000000) :
    Calls Tryd.prog 24 #[v] w fun e w' => e = .returned (.string ⟨(refsL l).toArray⟩) ∧ Ext w w' := by
  obtain ⟨i0, hi, hz0, hz1, hz2⟩ := info_of infoString
  replace hi := hide hi
  obtain ⟨⟨a, cap, rfl, hcap, hmax, hs⟩, hfew, hok⟩ := hv
  rcases hs with rfl | ⟨b, off, rfl, hin⟩
  · simp at h0
  go_enter Tryd.func24, Tryd.ntmps24
  go_wp2
  go_loopw [3, 8] (fun u i wr => ∃ k : Nat, k ≤ l.length ∧ i = .int .i64 k ∧ wr.ownsRow w.heap.size 9 1 u k ((l.take k).map fun x => .string (refL x)) ∧ Ext w wr) (fun _ i _ => l.length - (intOf i).toNat)
  case atStart => exact ⟨0, Nat.zero_le _, rfl, World.ownsRow_nil _ _ _ _, Ext.refl _⟩
  case round =>
    obtain ⟨k, hk, rfl, hown, he⟩ := hrel
    by_cases hlt : k < l.length
    · obtain ⟨x, hx⟩ := some_of_lt hlt
      obtain ⟨g0, g1⟩ := (hin.ext he) k x hx
      obtain ⟨o1, o2⟩ := hok x (List.mem_of_getElem? hx)
      have Ht : Hid ((l.take (k + 1)).map (fun x => Value.string (refL x)) = (l.take k).map (fun x => Value.string (refL x)) ++ [Value.string (refL x)]) := by
        have hx' : l[k] = x := (List.getElem?_eq_some_iff.1 hx).2
        show _ = _
        rw [List.take_succ_eq_append_getElem hlt, List.map_append, hx']; rfl
      have Hr : Hid (x.kind ++ ⟨#[46]⟩ ++ x.name = refL x) := by show _ = _; rw [ba_app, ba_app]; simp [refL]
      have hsize : x.kind.size + x.name.size ≤ 100000000 := Nat.le_trans (ref_le (List.mem_of_getElem? hx)) hbig
      replace hin := hide hin; replace hok := hide hok; replace hx := hide hx; replace he := hide he; replace hown := hide hown
      go_wp2_with (at_builtin; refine wpList_append_lies _ rfl (.tmp 12) (.tmp 19) 74 rfl w.heap.size 9 i0 (.string ⟨#[]⟩) 1 16 Tryd.underlying74 hi.out hz0 hz1 hz2 rfl (by omega) _ k ((l.take k).map fun x => .string (refL x)) rfl ((hown.out.alloc _).alloc _) ⟨wr.heap.size + 1, 0, none⟩ 1 1 [.string (x.kind ++ ⟨#[46]⟩ ++ x.name)] rfl rfl ?_ (by simp [Value.oneCell']) (by omega) (by unfold maxLen; omega) (by omega) (by have := he.out.size; simp; omega) (wr.heap.size + 2) (by simp) ?_; (intro j u hu; rw [add_eq]; (match j, hu with | 0, hu => (simp at hu; subst hu; simp [go_sem]) | _ + 1, hu => (simp at hu))); intro g1 cap1 w1 hown1 hgrow1 hat1 hlt1)
      go_roundw
      case rel =>
        refine ⟨k + 1, by omega, by go_num, ?_, ?_⟩
        · rw [unhide Ht, ← unhide Hr]; exact hown1
        · exact Below.grown ((he.out.alloc _).alloc _) hgrow1 (by have := he.out.size; simp; omega) (fun q hq => (hown.out.lt q hq).1)
      case measure => simp [intOf]; omega
    · obtain rfl : k = l.length := by omega
      obtain ⟨g, cp, hcp, rfl⟩ : ∃ g cp, l.length ≤ cp ∧ u3 = .slice (some ⟨g, 0, none⟩) l.length cp := by
        rcases hown.2 with ⟨_, h⟩ | ⟨g, cp, cur, hv, _, _, hle, _⟩
        · omega
        · exact ⟨g, cp, hle, hv⟩
      have hlen : Hid ((l.map refL).length = l.length) := List.length_map _
      have hcl : ∀ (j : Nat) x, (l.map refL)[j]? = some x → wr.cell? ⟨g, 0 + j, none⟩ = some (.string x) := by
        intro j x hj
        have := hown.cells (g := g) rfl j (.string x) (by
          rw [List.take_of_length_le (Nat.le_refl _)]
          simp only [List.getElem?_map, Option.map_eq_some_iff] at hj ⊢
          obtain ⟨y, hy, rfl⟩ := hj
          exact ⟨y, hy, rfl⟩)
        rw [add_eq] at this; exact this
      have hlt := (hown.lt g rfl).2
      have Hj : Hid (Lib.join ((l.map refL).map (·.data.toList)) [44, 32] = refsL l) := by show _ = _; rw [List.map_map]; rfl
      replace hcl := hide hcl; replace hown := hide hown; replace he := hide he; replace hin := hide hin; replace hok := hide hok
      go_wp2_with fail
      rw [← unhide hlen]
      refine (Tryd.strings_Join g 0 cp (l.map refL) ⟨#[44, 32]⟩ wr hcl.out hlt (by rw [unhide hlen]; omega) (by rw [unhide hlen]; exact hcp) ?_).mono ?_
      · show (Lib.join _ [44, 32]).length ≤ _; rw [unhide Hj]; omega
      rintro e w1 ⟨rfl, he1⟩
      replace he1 := hide he1
      go_wp2
      go_ret
      exact ⟨retS (by rw [← unhide Hj, List.map_map]), he.out.trans he1.out⟩
end Go.Proofs.YtjebmabffocobaaDoor
