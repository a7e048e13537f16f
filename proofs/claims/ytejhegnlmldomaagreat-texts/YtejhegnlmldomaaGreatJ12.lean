/-
  The book: what putting the lists of a resource into it does.
-/
/-
  The reference: the string that begins at a place.
-/
import Derived.Test.YtejhegnlmldomaaGreatBookI
import Derived.Test.YtejhegnlmldomaaGreatRfNum
import Derived.Test.YtejhegnlmldomaaGreatJ9
namespace Go.Proofs.YtejhegnlmldomaaGreat
open Go.RowKit

def TurnR (c2 c3 va vi : Value) (O : Nat) (b : Nat) : Prop := some b = c2.ownBlock ∨ some b = c3.ownBlock ∨ some b = va.ownBlock ∨ some b = vi.ownBlock ∨ b = O
def OwnedR (B O : Nat) (w : World) (va vi vn vr vs vc : Value) (ea ei : List (Value × Nat)) (c2 c3 : Value) (e : Ending) (w' : World) : Prop :=
  ∃ (va' vi' : Value) (en em : List (Value × Nat)), e = .returned (.tuple #[]) ∧ Hid (BkAt B w' O va' vi' vn vr vs vc (ea ++ en) (ei ++ em)) ∧ en.length = 4 ∧ em.length = 4 ∧ Hid (∀ x ∈ en, MarkG 129 4 mkA w' x) ∧ Hid (∀ x ∈ em, MarkG 53 2 mkI w' x) ∧ Hid (∀ x ∈ en, ∀ g, x.1.ownBlock = some g → c2.ownBlock = some g ∨ w.heap.size ≤ g) ∧ Hid (∀ x ∈ em, ∀ g, x.1.ownBlock = some g → c3.ownBlock = some g ∨ w.heap.size ≤ g) ∧ Hid (Kept (TurnR c2 c3 va vi O) w w') ∧ Hid (∀ g, va'.ownBlock = some g → va.ownBlock = some g ∨ w.heap.size ≤ g) ∧ Hid (∀ g, vi'.ownBlock = some g → vi.ownBlock = some g ∨ w.heap.size ≤ g)

theorem OwnR.extB {B : Nat} {w w' : World} {c2 c3 : Value} {x : Resd} (h : OwnR B w c2 c3 x) (e : Ext w w') : OwnR B w' c2 c3 x :=
  ⟨h.f2, h.f3, ownsRow_keep h.attrs (e.kept (fun _ => False)) (fun _ _ _ => id), ownsRow_keep h.after (e.kept (fun _ => False)) (fun _ _ _ => id)⟩
theorem res_notA {B O : Nat} {w : World} {va vi vn vr vs vc l : Value} {ea ei : List (Value × Nat)} {n k : Nat} {xs : List Value} {c : Array Value} (hb : BkAt B w O va vi vn vr vs vc ea ei) (hl : w.ownsRow B 129 4 l n xs) (hk : w.heap[k]? = some (.cells c 74 (0, 0))) : ¬ TurnA l va O k := by
  rintro (h | h | h)
  · exact ownsRow_ne hl hk (by decide) h
  · exact ownsRow_ne hb.a hk (by decide) h
  · exact tag_ne hk hb.o (by decide) h
theorem res_notI {B O : Nat} {w : World} {va vi vn vr vs vc l : Value} {ea ei : List (Value × Nat)} {n k : Nat} {xs : List Value} {c : Array Value} (hb : BkAt B w O va vi vn vr vs vc ea ei) (hl : w.ownsRow B 53 2 l n xs) (hk : w.heap[k]? = some (.cells c 74 (0, 0))) : ¬ TurnA l vi O k := by
  rintro (h | h | h)
  · exact ownsRow_ne hl hk (by decide) h
  · exact ownsRow_ne hb.i hk (by decide) h
  · exact tag_ne hk hb.o (by decide) h

theorem id_notA {B O : Nat} {w : World} {va vi vn vr vs vc l : Value} {ea ei : List (Value × Nat)} {n k : Nat} {xs : List Value} {c : Array Value} (hb : BkAt B w O va vi vn vr vs vc ea ei) (hl : w.ownsRow B 129 4 l n xs) (hk : w.heap[k]? = some (.cells c 53 (0, 0))) : ¬ TurnA l va O k := by
  rintro (h | h | h)
  · exact ownsRow_ne hl hk (by decide) h
  · exact ownsRow_ne hb.a hk (by decide) h
  · exact tag_ne hk hb.o (by decide) h
theorem at_notI {B O : Nat} {w : World} {va vi vn vr vs vc l : Value} {ea ei : List (Value × Nat)} {n k : Nat} {xs : List Value} {c : Array Value} (hb : BkAt B w O va vi vn vr vs vc ea ei) (hl : w.ownsRow B 53 2 l n xs) (hk : w.heap[k]? = some (.cells c 129 (0, 0))) : ¬ TurnA l vi O k := by
  rintro (h | h | h)
  · exact ownsRow_ne hl hk (by decide) h
  · exact ownsRow_ne hb.i hk (by decide) h
  · exact tag_ne hk hb.o (by decide) h
theorem Ext.keptT {D : Nat → Prop} {a b c : World} (h : Ext a b) (g : Kept D b c) : Kept D a c := (h.kept (fun _ => False)).trans' g

set_option maxRecDepth 100000 in
set_option maxHeartbeats 3200000 in
theorem ownResource (B O : Nat) (w : World) (va vi vn vr vs vc : Value) (ea ei : List (Value × Nat)) (c2 c3 : Value) (x : Resd) (hb : BkAt B w O va vi vn vr vs vc ea ei) (hB : B ≤ w.heap.size) (hx : OwnR B w c2 c3 x) (h2 : x.attrs.length ≤ 1000) (h3 : x.after.length ≤ 1000) (he : ea.length ≤ 3000000) (hf : ei.length ≤ 3000000) :
    Calls Tryz.prog 23 #[.pointer (some ⟨O, 0, none⟩), .agg #[.string x.id.kind, .string x.id.name, c2, c3]] w (OwnedR B O w va vi vn vr vs vc ea ei c2 c3) := by
  obtain ⟨a2, p2, rfl⟩ := hx.f2
  obtain ⟨a3, p3, rfl⟩ := hx.f3
  replace hb := hide hb; replace hx := hide hx
  go_enter Tryz.func23, Tryz.ntmps23
  go_wp2_with fail
  have X0 : Ext w (w.alloc (.cells #[.string x.id.kind, .string x.id.name, .slice a2 x.attrs.length p2, .slice a3 x.after.length p3] 74)).drew := ((Ext.refl w).alloc _).drew
  have hb0 := hide (hb.out.ext X0)
  have hx0 := hide (hx.out.extB X0)
  have hlO : O < w.heap.size := (Array.getElem?_eq_some_iff.1 hb.out.o).1
  have hR0 : (w.alloc (.cells #[.string x.id.kind, .string x.id.name, .slice a2 x.attrs.length p2, .slice a3 x.after.length p3] 74)).drew.heap[w.heap.size]? = some (.cells #[.string x.id.kind, .string x.id.name, .slice a2 x.attrs.length p2, .slice a3 x.after.length p3] 74 (0, 0)) := heap_alloc_new w _
  have hB0 : B ≤ (w.alloc (.cells #[.string x.id.kind, .string x.id.name, .slice a2 x.attrs.length p2, .slice a3 x.after.length p3] 74)).drew.heap.size := Nat.le_trans hB X0.size
  replace X0 := hide X0; replace hR0 := hide hR0; replace hB0 := hide hB0
  go_region_held3 (fun w' => w'.cell? ⟨w.heap.size, 2, none⟩ = some (.slice a2 x.attrs.length p2)) (go_keep)
    ((go_at_call 52; refine (ownAttrs B O _ va vi vn vr vs vc ea ei _ _ _ hb0.out hB0.out hx0.out.attrs h2 he).mono ?_; rintro e w1 ⟨va1, en, rfl, hb1, hen, hm1, hl1, hk1, hq1⟩; go_must (have hR1 := hk1.out.heap hR0.out (res_notA hb0.out hx0.out.attrs hR0.out); obtain ⟨q0, q1, q2, q3⟩ := four_cells hR1; replace hR1 := hide hR1)))
  have hf1 := hide (ownsRow_keep hx0.out.after hk1.out (fun g c hg => id_notA hb0.out hx0.out.attrs hg))
  have X1 : Ext w1 w1.drew := (Ext.refl w1).drew
  have hb1' := hide (hb1.out.ext X1)
  have hf1' := hide (ownsRow_keep hf1.out (X1.kept (fun _ => False)) (fun _ _ _ => id))
  have hR1' : w1.drew.heap[w.heap.size]? = some (.cells #[.string x.id.kind, .string x.id.name, .slice a2 x.attrs.length p2, .slice a3 x.after.length p3] 74 (0, 0)) := ext_heap X1 hR1.out
  have hB1 : B ≤ w1.drew.heap.size := Nat.le_trans (Nat.le_trans hB0.out hk1.out.size) X1.size
  rename_i hHeld
  clear hHeld q0 q1 q2
  replace hB1 := hide hB1; replace hR1' := hide hR1'; replace X1 := hide X1
  go_wp2_with fail
  go_region_held3 (fun w' => w'.cell? ⟨w.heap.size, 3, none⟩ = some (.slice a3 x.after.length p3)) (go_keep)
    ((go_at_call 53; refine (ownIds B O _ vi va1 vn vr vs vc ei (ea ++ en) _ _ _ hb1'.out hB1.out hf1'.out h3 hf).mono ?_; rintro e w2 ⟨vi2, em, rfl, hb2, hem, hm2, hl2, hk2, hq2⟩; go_must (have hR2 := hk2.out.heap hR1'.out (res_notI hb1'.out hf1'.out hR1'.out); clear q3; obtain ⟨q0, q1, q2, q3⟩ := four_cells hR2; replace hR2 := hide hR2)))
  go_wp2_with fail
  refine ⟨rfl, .tuple #[], by simp [results, Tryz.results23], ?_⟩
  have K2 : Kept (TurnA (.slice a3 x.after.length p3) vi O) w1 w2 := X1.out.keptT hk2.out
  have hsz1 : w.heap.size ≤ w1.drew.heap.size := Nat.le_trans (Nat.le_trans X0.out.size hk1.out.size) X1.out.size
  refine ⟨va1, vi2, en, em, rfl, hb2, hen, hem, fun y hy => (hm1.out y hy).kept (fun g c _ hg => K2.heap hg (at_notI hb1.out hf1.out hg)), hm2, fun y hy g hg => (hl1.out y hy g hg).imp id (Nat.le_trans X0.out.size), fun y hy g hg => (hl2.out y hy g hg).imp id (Nat.le_trans hsz1), ?_, fun g hg => (hq1.out g hg).imp id (Nat.le_trans X0.out.size), fun g hg => (hq2.out g hg).imp id (Nat.le_trans hsz1)⟩
  refine ((X0.out.kept (fun _ => False)).trans' (hk1.out.mono (D' := TurnR (.slice a2 x.attrs.length p2) (.slice a3 x.after.length p3) va vi O) ?_)).trans K2 ?_
  · rintro b _ (h | h | h)
    · exact .inl h
    · exact .inr (.inr (.inl h))
    · exact .inr (.inr (.inr (.inr h)))
  · rintro b _ (h | h | h)
    · exact .inr (.inl h)
    · exact .inr (.inr (.inr (.inl h)))
    · exact .inr (.inr (.inr (.inr h)))
theorem own_row {w : World} {B : Nat} {T : TypeId} {sz : Nat} {v : Value} {n g : Nat} {xs : List Value} (h : w.ownsRow B T sz v n xs) (hg : v.ownBlock = some g) : ∃ c, w.heap[g]? = some (.cells c T (0, 0)) := by
  rcases h.2 with ⟨rfl, _⟩ | ⟨g', cap, cur, rfl, _, hh, _⟩
  · simp [Value.ownBlock] at hg
  · obtain rfl : g' = g := by simpa [Value.ownBlock] using hg
    exact ⟨cur, hh⟩
theorem rec_notR {B O : Nat} {w : World} {va vi vn vr vs vc c2 c3 : Value} {ea ei : List (Value × Nat)} {x : Resd} {k : Nat} {c : Array Value} (hb : BkAt B w O va vi vn vr vs vc ea ei) (hx : OwnR B w c2 c3 x) (hk : w.heap[k]? = some (.cells c 90 (0, 0))) : ¬ TurnR c2 c3 va vi O k := by
  rintro (h | h | h | h | h)
  · exact ownsRow_ne hx.attrs hk (by decide) h
  · exact ownsRow_ne hx.after hk (by decide) h
  · exact ownsRow_ne hb.a hk (by decide) h
  · exact ownsRow_ne hb.i hk (by decide) h
  · exact tag_ne hk hb.o (by decide) h
theorem at_notR {B O : Nat} {w : World} {va vi vn vr vs vc c2 c3 : Value} {ea ei : List (Value × Nat)} {x : Resd} {k : Nat} {c : Array Value} (hb : BkAt B w O va vi vn vr vs vc ea ei) (hx : OwnR B w c2 c3 x) (hk : w.heap[k]? = some (.cells c 129 (0, 0))) (hn : c2.ownBlock = some k → False) : ¬ TurnR c2 c3 va vi O k := by
  rintro (h | h | h | h | h)
  · exact hn h.symm
  · exact ownsRow_ne hx.after hk (by decide) h
  · exact ownsRow_ne hb.a hk (by decide) h
  · exact ownsRow_ne hb.i hk (by decide) h
  · exact tag_ne hk hb.o (by decide) h
theorem id_notR {B O : Nat} {w : World} {va vi vn vr vs vc c2 c3 : Value} {ea ei : List (Value × Nat)} {x : Resd} {k : Nat} {c : Array Value} (hb : BkAt B w O va vi vn vr vs vc ea ei) (hx : OwnR B w c2 c3 x) (hk : w.heap[k]? = some (.cells c 53 (0, 0))) (hn : c3.ownBlock = some k → False) : ¬ TurnR c2 c3 va vi O k := by
  rintro (h | h | h | h | h)
  · exact ownsRow_ne hx.attrs hk (by decide) h
  · exact hn h.symm
  · exact ownsRow_ne hb.a hk (by decide) h
  · exact ownsRow_ne hb.i hk (by decide) h
  · exact tag_ne hk hb.o (by decide) h
theorem turn_low {B O : Nat} {w : World} {va vi vn vr vs vc c2 c3 : Value} {ea ei : List (Value × Nat)} {x : Resd} {k : Nat} (hb : BkAt B w O va vi vn vr vs vc ea ei) (hx : OwnR B w c2 c3 x) (h : TurnR c2 c3 va vi O k) : B ≤ k := by
  rcases h with h | h | h | h | h
  · exact (hx.attrs.lt k h.symm).1
  · exact (hx.after.lt k h.symm).1
  · exact (hb.a.lt k h.symm).1
  · exact (hb.i.lt k h.symm).1
  · subst h; exact hb.low
end Go.Proofs.YtejhegnlmldomaaGreat

namespace Go.Proofs.YtejhegnlmldomaaGreat
open Go.RowKit

/-- What stands ahead of the rest of a string. -/
def addP (p : List UInt8) (r : Option (List UInt8 × Nat)) : Option (List UInt8 × Nat) := r.map fun x => (p ++ x.1, x.2)
theorem addP_nil (r : Option (List UInt8 × Nat)) : addP [] r = r := by cases r <;> rfl
theorem addP_add (p q : List UInt8) (r : Option (List UInt8 × Nat)) : addP p (addP q r) = addP (p ++ q) r := by cases r <;> simp [addP]
theorem str_next {l : List UInt8} {a : Nat} {c : UInt8} (h : l[a]? = some c) (h34 : c ≠ 34) (hu : (signL (l.drop a)).2 ≠ 0) : strL l a = addP [(signL (l.drop a)).1] (strL l (a + (signL (l.drop a)).2)) := by
  rw [str_step h, if_neg h34, if_neg hu]
  cases strL l (a + (signL (l.drop a)).2) <;> rfl
theorem str_no {l : List UInt8} {a : Nat} {c : UInt8} (h : l[a]? = some c) (h34 : c ≠ 34) (hu : (signL (l.drop a)).2 = 0) : strL l a = none := by
  rw [str_step h, if_neg h34, if_pos hu]
theorem drop_two {l : List UInt8} {a : Nat} {c : UInt8} (h : l[a]? = some c) : l.drop a = c :: l.drop (a + 1) := by
  obtain ⟨hlt, rfl⟩ := List.getElem?_eq_some_iff.1 h
  exact List.drop_eq_getElem_cons hlt
/-- What is answered of a string. -/
def strA (r : Option (List UInt8 × Nat)) : List UInt8 × Int := match r with
  | none => ([], -1)
  | some (m, e) => if m.length ≤ 20 then (m, (e : Int) + 1) else ([], -1)
set_option maxRecDepth 100000 in
set_option maxHeartbeats 1600000 in
theorem refQuoted (s : ByteArray) (a : Nat) (w : World) (hs : s.size ≤ 1000000) (ha : a < s.size) :
    Calls Tryz.prog 31 #[.string s, .int .i64 a] w fun e w' => e = .returned (.tuple #[.string (baOf (strA (strL s.data.toList (a + 1))).1), .int .i64 (strA (strL s.data.toList (a + 1))).2]) ∧ Ext w w' := by
  have hlen := hide (show s.data.toList.length = s.size from Array.length_toList)
  go_enter Tryz.func31, Tryz.ntmps31
  go_wp2_with fail
  go_loopw [6, 7] (fun o i wr => ∃ (k : Nat) (p : List UInt8), a + 1 ≤ k ∧ k ≤ s.size ∧ i = .int .i64 k ∧ o = .string ⟨p.toArray⟩ ∧ p.length ≤ k ∧ Hid (strL s.data.toList (a + 1) = addP p (strL s.data.toList k)) ∧ Hid (Ext w wr)) (fun _ i _ => s.size - (intOf i).toNat)
  case atStart => exact ⟨a + 1, [], by omega, by omega, by go_num, rfl, by simp, (addP_nil _).symm, Ext.refl _⟩
  case round =>
    obtain ⟨k, p, hak, hk, rfl, rfl, hpl, hst, he⟩ := hrel
    have hps : (⟨p.toArray⟩ : ByteArray).size = p.length := by simp [ByteArray.size]
    by_cases hlt : k < s.size
    · obtain ⟨c, hc1, hc2⟩ := byteAt hlt
      have hcd := hide (drop_two hc1)
      by_cases h34 : c = 34
      · have hci : (c.toNat : Int) = 34 := by rw [h34]; rfl
        have hsl : Hid (strL s.data.toList (a + 1) = some (p, k)) := by
          show _ = _
          rw [hst.out, str_step hc1, if_pos h34]; simp [addP]
        replace h34 := hide h34; replace hc1 := hide hc1
        by_cases h20 : p.length ≤ 20
        · have h20i : ¬ (20 : Int) < (p.length : Int) := by omega
          replace h20 := hide h20
          go_wp2_with fail
          go_ret2
          exact ⟨by rw [hsl.out]; unfold strA; dsimp only; rw [if_pos h20.out]; rfl, he.out⟩
        · have h20i : (20 : Int) < (p.length : Int) := by omega
          replace h20 := hide h20
          go_wp2_with fail
          go_ret2
          exact ⟨by rw [hsl.out]; unfold strA; dsimp only; rw [if_neg h20.out]; rfl, he.out⟩
      · have hci : ¬ (c.toNat : Int) = 34 := fun h => h34 (UInt8.toNat_inj.1 (by show c.toNat = 34; omega))
        have hcb : ((c.toNat : Int) == 34) = false := by simpa using hci
        have hbd : 0 ≤ (c.toNat : Int) ∧ (c.toNat : Int) ≤ 255 := by have := c.toNat_lt; omega
        by_cases hr : 32 ≤ c.toNat ∧ c.toNat ≤ 126
        · obtain ⟨hr1, hr2⟩ := hr
          have hr3 : ¬ (c.toNat : Int) < 32 := by omega
          have hr4 : ¬ (126 : Int) < (c.toNat : Int) := by omega
          by_cases h92 : c = 92
          · have h92i : (c.toNat : Int) = 92 := by rw [h92]; rfl
            by_cases hk1 : k + 1 < s.size
            · obtain ⟨d, hd1, hd2⟩ := byteAt hk1
              have hk1i : ¬ (k : Int) + 1 = (s.size : Int) := by omega
              have hk1b : ((k : Int) + 1 == (s.size : Int)) = false := by simpa using hk1i
              have hdd := hide (drop_two hd1)
              have hdb : 0 ≤ (d.toNat : Int) ∧ (d.toNat : Int) ≤ 255 := by have := d.toNat_lt; omega
              by_cases hda : d = 92
              · subst hda
                have hsg : Hid (signL (s.data.toList.drop k) = (92, 2)) := by
                  show _ = _
                  rw [hcd.out, hdd.out]; simp [signL, h92]
                have hstep : Hid (strL s.data.toList (a + 1) = addP (p ++ [92]) (strL s.data.toList (k + 2))) := by
                  show _ = _
                  rw [hst.out, str_next hc1 h34 (by rw [hsg.out]; decide), hsg.out, addP_add]
                have hdi : ((92 : UInt8).toNat : Int) = 92 := rfl
                have hcv : ∀ w : World, (convert 149 9 (.slice (some ⟨w.heap.size, 0, none⟩) 1 1)).run Tryz.prog (w.alloc (.cells #[.int .u8 92] 5)) = .ok (.string ⟨#[92]⟩) (w.alloc (.cells #[.int .u8 92] 5)) := fun w => conv_one w 92 (by omega) (by omega)
                replace hc1 := hide hc1; replace hd1 := hide hd1; replace h34 := hide h34; replace h92 := hide h92
                go_wp2_with fail
                go_roundw
                case rel =>
                  refine ⟨k + 2, p ++ [92], by omega, by omega, by go_num, ?_, by simp; omega, hstep, he.out.alloc _⟩
                  rw [ba_app2]
                case measure => simp [intOf]; omega
              · by_cases hdq : d = 34
                · subst hdq
                  have hsg : Hid (signL (s.data.toList.drop k) = (34, 2)) := by
                    show _ = _
                    rw [hcd.out, hdd.out]; simp [signL, h92]
                  have hstep : Hid (strL s.data.toList (a + 1) = addP (p ++ [34]) (strL s.data.toList (k + 2))) := by
                    show _ = _
                    rw [hst.out, str_next hc1 h34 (by rw [hsg.out]; decide), hsg.out, addP_add]
                  have hdi : ((34 : UInt8).toNat : Int) = 34 := rfl
                  have hcv : ∀ w : World, (convert 149 9 (.slice (some ⟨w.heap.size, 0, none⟩) 1 1)).run Tryz.prog (w.alloc (.cells #[.int .u8 34] 5)) = .ok (.string ⟨#[34]⟩) (w.alloc (.cells #[.int .u8 34] 5)) := fun w => conv_one w 34 (by omega) (by omega)
                  replace hc1 := hide hc1; replace hd1 := hide hd1; replace h34 := hide h34; replace h92 := hide h92
                  go_wp2_with fail
                  go_roundw
                  case rel =>
                    refine ⟨k + 2, p ++ [34], by omega, by omega, by go_num, ?_, by simp; omega, hstep, he.out.alloc _⟩
                    rw [ba_app2]
                  case measure => simp [intOf]; omega
                · by_cases hdn : d = 110
                  · subst hdn
                    have hsg : Hid (signL (s.data.toList.drop k) = (10, 2)) := by
                      show _ = _
                      rw [hcd.out, hdd.out]; simp [signL, h92]
                    have hstep : Hid (strL s.data.toList (a + 1) = addP (p ++ [10]) (strL s.data.toList (k + 2))) := by
                      show _ = _
                      rw [hst.out, str_next hc1 h34 (by rw [hsg.out]; decide), hsg.out, addP_add]
                    have hdi : ((110 : UInt8).toNat : Int) = 110 := rfl
                    have hcv : ∀ w : World, (convert 149 9 (.slice (some ⟨w.heap.size, 0, none⟩) 1 1)).run Tryz.prog (w.alloc (.cells #[.int .u8 10] 5)) = .ok (.string ⟨#[10]⟩) (w.alloc (.cells #[.int .u8 10] 5)) := fun w => conv_one w 10 (by omega) (by omega)
                    replace hc1 := hide hc1; replace hd1 := hide hd1; replace h34 := hide h34; replace h92 := hide h92
                    go_wp2_with fail
                    go_roundw
                    case rel =>
                      refine ⟨k + 2, p ++ [10], by omega, by omega, by go_num, ?_, by simp; omega, hstep, he.out.alloc _⟩
                      rw [ba_app2]
                    case measure => simp [intOf]; omega
                  · have hsg : Hid ((signL (s.data.toList.drop k)).2 = 0) := by
                      show _ = _
                      rw [hcd.out, hdd.out]; simp [signL, h92, hda, hdq, hdn]
                    have hfin : Hid (strL s.data.toList (a + 1) = none) := by
                      show _ = _
                      rw [hst.out, str_no hc1 h34 hsg.out]; rfl
                    have n1 : ¬ (d.toNat : Int) = 92 := fun h => hda (UInt8.toNat_inj.1 (by show d.toNat = 92; omega))
                    have n2 : ¬ (d.toNat : Int) = 34 := fun h => hdq (UInt8.toNat_inj.1 (by show d.toNat = 34; omega))
                    have n3 : ¬ (d.toNat : Int) = 110 := fun h => hdn (UInt8.toNat_inj.1 (by show d.toNat = 110; omega))
                    have b1 : ((d.toNat : Int) == 92) = false := by simpa using n1
                    have b2 : ((d.toNat : Int) == 34) = false := by simpa using n2
                    have b3 : ((d.toNat : Int) == 110) = false := by simpa using n3
                    replace hc1 := hide hc1; replace hd1 := hide hd1; replace h34 := hide h34; replace h92 := hide h92; replace hda := hide hda; replace hdq := hide hdq; replace hdn := hide hdn
                    go_wp2_with fail
                    go_ret2
                    exact ⟨by rw [hfin.out]; rfl, he.out⟩
            · have hk1i : (k : Int) + 1 = (s.size : Int) := by omega
              have hk1b : ((k : Int) + 1 == (s.size : Int)) = true := by simpa using hk1i
              have hsg : Hid ((signL (s.data.toList.drop k)).2 = 0) := by
                show _ = _
                have hnil : s.data.toList.drop (k + 1) = [] := List.drop_eq_nil_of_le (by rw [hlen.out]; omega)
                rw [hcd.out, hnil]; simp [signL, h92]
              have hfin : Hid (strL s.data.toList (a + 1) = none) := by
                show _ = _
                rw [hst.out, str_no hc1 h34 hsg.out]; rfl
              replace hc1 := hide hc1; replace h34 := hide h34; replace h92 := hide h92
              go_wp2_with fail
              go_ret2
              exact ⟨by rw [hfin.out]; rfl, he.out⟩
          · have h92i : ¬ (c.toNat : Int) = 92 := fun h => h92 (UInt8.toNat_inj.1 (by show c.toNat = 92; omega))
            have h92b : ((c.toNat : Int) == 92) = false := by simpa using h92i
            have hsg : Hid (signL (s.data.toList.drop k) = (c, 1)) := by
              show _ = _
              rw [hcd.out]; unfold signL; dsimp only; rw [if_neg h92, if_pos (by simp [isPlainB]; omega)]
            have hstep : Hid (strL s.data.toList (a + 1) = addP (p ++ [c]) (strL s.data.toList (k + 1))) := by
              show _ = _
              rw [hst.out, str_next hc1 h34 (by rw [hsg.out]; simp), hsg.out, addP_add]
            have hu8 : UInt8.ofNat (c.toNat : Int).toNat = c := by simp
            have hcv := fun w => conv_one w (c.toNat : Int) hbd.1 hbd.2
            rw [hu8] at hcv
            replace hc1 := hide hc1; replace h34 := hide h34; replace h92 := hide h92
            go_wp2_with fail
            go_roundw
            case rel =>
              refine ⟨k + 1, p ++ [c], by omega, by omega, by go_num, ?_, by simp; omega, hstep, he.out.alloc _⟩
              rw [ba_app2]
            case measure => simp [intOf]; omega
        · have hsg : Hid ((signL (s.data.toList.drop k)).2 = 0) := by
            show _ = _
            rw [hcd.out]; unfold signL; dsimp only
            rw [if_neg (fun h => hr (by rw [h]; decide)), if_neg (by simp [isPlainB]; omega)]
          have hfin : Hid (strL s.data.toList (a + 1) = none) := by
            show _ = _
            rw [hst.out, str_no hc1 h34 hsg.out]; rfl
          replace hc1 := hide hc1; replace h34 := hide h34
          by_cases hr1 : c.toNat < 32
          · have hr3 : (c.toNat : Int) < 32 := by omega
            go_wp2_with fail
            go_ret2
            exact ⟨by rw [hfin.out]; rfl, he.out⟩
          · have hr3 : ¬ (c.toNat : Int) < 32 := by omega
            have hr4 : (126 : Int) < (c.toNat : Int) := by omega
            go_wp2_with fail
            go_ret2
            exact ⟨by rw [hfin.out]; rfl, he.out⟩
    · have hfin : Hid (strL s.data.toList (a + 1) = none) := by
        show _ = _
        rw [hst.out, str_end (by rw [hlen.out]; omega)]; rfl
      go_wp2_with fail
      go_ret2
      exact ⟨by rw [hfin.out]; rfl, he.out⟩
end Go.Proofs.YtejhegnlmldomaaGreat
