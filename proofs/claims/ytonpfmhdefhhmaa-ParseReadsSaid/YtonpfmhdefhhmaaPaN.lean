/-
  What is written of a block: block of the writer, without calling itself.
-/
import Derived.Test.YtonpfmhdefhhmaaPaM
namespace Go.Proofs.Ytonpfmhdefhhmaa
set_option maxRecDepth 100000
set_option linter.unusedVariables false
open Go.RowKit Go.Sort

/-- Kinds that there are. -/
def KOk : Blk → Prop
  | .nil => True
  | .cons k _ _ a b r => k ≤ 8 ∧ KOk a ∧ KOk b ∧ KOk r

/-- A block that is being written: what is left of it, the block behind its else. -/
structure OB where
  ra : Option Addr
  rc : Nat
  rest : Blk
  oa : Option Addr
  oc : Nat
  other : Blk
def obCells (l : List OB) : List Value := l.flatMap fun x => [.slice x.ra x.rest.len x.rc, .slice x.oa x.other.len x.oc]
theorem obCells_snoc (l : List OB) (x : OB) : obCells (l ++ [x]) = obCells l ++ [.slice x.ra x.rest.len x.rc, .slice x.oa x.other.len x.oc] := by simp [obCells]
def ObAt (w : World) (p : Nat) (x : OB) : Prop := RestAt w p (.slice x.ra x.rest.len x.rc) x.rest ∧ RestAt w p (.slice x.oa x.other.len x.oc) x.other ∧ KOk x.rest ∧ KOk x.other
/-- The words that are still to be written. -/
def itemM (x : OB) : List (List UInt8) := innerM x.rest ++ (if x.other.len = 0 then [] else [closeW, elseM, openW] ++ innerM x.other) ++ [closeW]
def remM : List OB → List (List UInt8)
  | [] => []
  | x :: r => remM r ++ itemM x
theorem remM_snoc : ∀ (l : List OB) (x : OB), remM (l ++ [x]) = itemM x ++ remM l
  | [], x => by simp [remM]
  | y :: r, x => by rw [List.cons_append, remM, remM_snoc r x, remM, List.append_assoc]
def wtM : Blk → Nat
  | .nil => 0
  | .cons _ _ _ a b r => wtM a + wtM b + wtM r + 4
def wtO (x : OB) : Nat := wtM x.rest + wtM x.other + (if x.other.len = 0 then 0 else 1) + 2
def wtL (l : List OB) : Nat := (l.map wtO).sum
theorem wtL_snoc (l : List OB) (x : OB) : wtL (l ++ [x]) = wtL l + wtO x := by simp [wtL]
theorem wtL_len : ∀ (l : List OB), l.length ≤ wtL l
  | [] => Nat.le_refl _
  | x :: r => by have := wtL_len r; simp only [wtL, List.map_cons, List.sum_cons, List.length_cons, wtO] at *; omega
theorem wtM_cnt : ∀ (b : Blk), wtM b = 4 * b.cnt
  | .nil => rfl
  | .cons _ _ _ a b r => by rw [wtM, wtM_cnt a, wtM_cnt b, wtM_cnt r, Blk.cnt]; omega

theorem own_set {w : World} {base n g k : Nat} {e : TypeId} {c : Nat} {xs : List Value} (h : w.ownsRow base e 2 (.slice (some ⟨g, 0, none⟩) n c) n xs) (hk : k < n * 2) (u : Value) :
    (w.setCell ⟨g, k, none⟩ u).ownsRow base e 2 (.slice (some ⟨g, 0, none⟩) n c) n (xs.set k u) := by
  refine ⟨by rw [List.length_set]; exact h.1, ?_⟩
  rcases h.2 with ⟨h1, h2⟩ | ⟨g', cap, cur, h1, hb, hg, hc, hm, hsz, ht⟩
  · omega
  · injection h1 with h1 h2 h3
    injection h1 with h1
    injection h1 with h1
    subst h1
    refine .inr ⟨g, cap, cur.setIfInBounds k u, by rw [h3], hb, heap_setCell_same w g k cur e u hg, hc, hm, by simpa using hsz, ?_⟩
    rw [Array.toList_setIfInBounds, ← ht, List.take_set]
theorem set_snoc0 (xs : List Value) (u1 u2 v : Value) (n : Nat) (h : xs.length = n * 2) : (xs ++ [u1, u2]).set (n * 2) v = xs ++ [v, u2] := by
  rw [List.set_append_right _ _ (by omega), h, Nat.sub_self]; rfl
theorem set_snoc1 (xs : List Value) (u1 u2 v : Value) (n : Nat) (h : xs.length = n * 2) : (xs ++ [u1, u2]).set (n * 2 + 1) v = xs ++ [u1, v] := by
  rw [List.set_append_right _ _ (by omega), show n * 2 + 1 - xs.length = 1 by omega]; rfl

/-- What a statement with blocks opens. -/
def pushM (k : Nat) (aa ab : Option Addr) (ca cb : Nat) (A B : Blk) : List OB := if k = 7 then [⟨aa, ca, A, ab, cb, B⟩] else if k = 8 then [⟨aa, ca, A, none, 0, .nil⟩] else []
theorem item_cons (ra : Option Addr) (rc : Nat) (kd pl : Nat) (nm : List UInt8) (A B r : Blk) (oa : Option Addr) (oc : Nat) (ot : Blk) (rb : Option Addr) (rd : Nat) (aa ab : Option Addr) (ca cb : Nat) :
    itemM ⟨ra, rc, .cons kd pl nm A B r, oa, oc, ot⟩ = begW kd nm ++ (remM (pushM kd aa ab ca cb A B) ++ itemM ⟨rb, rd, r, oa, oc, ot⟩) := by
  unfold itemM pushM begW
  simp only [innerM]
  by_cases h7 : kd = 7
  · subst h7; simp [remM, itemM]
  · by_cases h8 : kd = 8
    · subst h8; simp [remM, itemM, Blk.len]
    · simp [h7, h8, remM]
theorem push_cells (k : Nat) (aa ab : Option Addr) (ca cb : Nat) (A B : Blk) : obCells (pushM k aa ab ca cb A B) = begX k (.slice aa A.len ca) (.slice ab B.len cb) ∧ (pushM k aa ab ca cb A B).length = (begX k (.slice aa A.len ca) (.slice ab B.len cb)).length / 2 := by
  unfold pushM begX
  by_cases h7 : k = 7
  · subst h7; simp [obCells]
  · by_cases h8 : k = 8
    · subst h8; simp [obCells, Blk.len]
    · simp [h7, h8, obCells]
theorem push_wt (k : Nat) (aa ab : Option Addr) (ca cb : Nat) (A B : Blk) : wtL (pushM k aa ab ca cb A B) ≤ wtM A + wtM B + 3 := by
  unfold pushM
  split
  · simp only [wtL, List.map_cons, List.map_nil, List.sum_cons, List.sum_nil, wtO]; split <;> omega
  · split
    · simp only [wtL, List.map_cons, List.map_nil, List.sum_cons, List.sum_nil, wtO, wtM, Blk.len]; simp; omega
    · simp [wtL]
theorem obCells_append (l m : List OB) : obCells (l ++ m) = obCells l ++ obCells m := by simp [obCells]
theorem wtL_append (l m : List OB) : wtL (l ++ m) = wtL l + wtL m := by simp [wtL]
theorem remM_append : ∀ (l m : List OB), remM (l ++ m) = remM m ++ remM l
  | [], m => by simp [remM]
  | x :: r, m => by rw [List.cons_append, remM, remM_append r m, remM, List.append_assoc]
theorem RestAt.slice {w : World} {p : Nat} {v : Value} {b : Blk} (h : RestAt w p v b) : ∃ a c, v = .slice a b.len c := by obtain ⟨a, c, h, -⟩ := h; exact ⟨a, c, h⟩

set_option maxHeartbeats 16000000 in
theorem wblock_any (w0 w : World) (p : Nat) (L : List UInt8) (inl : Bool) (v : Value) (b : Blk) (fp : List Nat) (h : BlkAt w v b fp) (hnd : fp.Nodup) (hfp : ∀ k ∈ fp, k < p) (hN : b.cnt ≤ 100000) (hko : KOk b) (hW : WrAt w0 w p L inl) (hL : L.length + (putM inl (wordsB b)).length ≤ 100000000) :
    Calls Try.prog 45 #[.pointer (some ⟨p, 0, none⟩), v] w fun e w' => e = .returned (.tuple #[]) ∧ WrAt w0 w' p (L ++ putM inl (wordsB b)) true ∧ WrN w0 p w w' := by
  have hrest := RowE.rest h hfp
  have hp5 : p < w0.heap.size ∧ w0.heap.size ≤ w.heap.size := by obtain ⟨_, _, _, _, _, _, hp5, hp6⟩ := hW; exact ⟨hp5, hp6⟩
  obtain ⟨hp5, hp6⟩ := hp5
  have hpw : p < w.heap.size := by obtain ⟨_, _, h1, _⟩ := hW; exact h1.lt
  have Hrest := Lib.hid hrest
  have Hko := Lib.hid hko
  have H := Lib.hid (And.intro h hnd)
  have HW := Lib.hid hW
  obtain ⟨a, c, rfl, hc⟩ := h.slice
  clear h hnd hrest hko hW
  go_enter Try.func45, Try.ntmps45
  go_wp2_with fail
  refine (endless_any w _ b fp H.out.1 H.out.2 hN).mono ?_
  rintro e w1 ⟨rfl, hO1⟩
  have HW1 := Lib.hid (HW.out.more hO1)
  have HN1 := Lib.hid (WrN.of (w0 := w0) hp5 hO1 (by simp))
  have hs1 := hO1.size
  clear hO1
  have Hsp : Hid (putM inl (wordsB b) = putM inl [openW] ++ putM true (innerM b ++ [closeW])) := Lib.hid (by
    unfold wordsB
    rw [List.append_assoc, putM_append]
    simp [inlM])
  go_wp2_with fail
  refine (put_new w0 w1 p L inl [openW] HW1.out (by have := Hsp.out; rw [this, List.length_append] at hL; omega) (by simp) 1 rfl _ rfl _ rfl).mono ?_
  rintro e w2 ⟨rfl, hW2, hO2⟩
  rw [show inlM inl [openW] = true from by simp [inlM]] at hW2
  have HW2 := Lib.hid hW2
  have HN2 := Lib.hid (HN1.out.trans hO2.n)
  have hs2 := hO2.size
  clear hW2 hO2 HW1 HN1 HW
  have hOa := (Only.refl [] w2).alloc (.cells #[.slice a b.len c, .slice none 0 0] 117)
  have hqa := IsBlk.made w2 (.cells #[.slice a b.len c, .slice none 0 0] 117)
  have Hown : Hid ((w2.alloc (.cells #[.slice a b.len c, .slice none 0 0] 117)).ownsRow w2.heap.size 117 2 (.slice (some ⟨w2.heap.size, 0, none⟩) 1 1) 1 [.slice a b.len c, .slice none 0 0]) :=
    Lib.hid ⟨rfl, .inr ⟨w2.heap.size, 1, #[.slice a b.len c, .slice none 0 0], rfl, Nat.le_refl _, hqa, Nat.le_refl _, by simp [maxLen], rfl, rfl⟩⟩
  have HW3 := Lib.hid (HW2.out.more hOa)
  have HN3 := Lib.hid (HN2.out.trans (WrN.of hp5 hOa (by simp)))
  have hs3 := hOa.size
  clear hOa hqa HW2 HN2
  go_wp2_with fail
  go_loopg [4] 1000000 (fun gk ov wr => ∃ (items : List OB) (dn : List (List UInt8)), wtL items ≤ gk ∧ wtL items ≤ 500000 ∧ wr.ownsRow w2.heap.size 117 2 ov items.length (obCells items) ∧ (∀ x ∈ items, ObAt w p x) ∧
    WrAt w0 wr p (L ++ putM inl [openW] ++ putM true dn) true ∧ Hid (innerM b ++ [closeW] = dn ++ remM items) ∧ WrN w0 p w wr ∧ w2.heap.size ≤ wr.heap.size)
  case atStart =>
    refine ⟨[⟨a, c, b, none, 0, .nil⟩], [], ?_, ?_, Hown.out, fun x hx => ?_, by simpa [putM] using HW3.out, Lib.hid ?_, HN3.out, hs3⟩
    · have := wtM_cnt b
      simp [wtL, wtO, wtM, Blk.len]; omega
    · have := wtM_cnt b
      simp [wtL, wtO, wtM, Blk.len]; omega
    · simp only [List.mem_singleton] at hx
      subst hx
      exact ⟨Hrest.out, ⟨none, 0, rfl, Nat.le_refl _, fun h => by simp [Blk.len] at h⟩, Hko.out, trivial⟩
    · simp [remM, itemM, Blk.len]
  case round =>
    obtain ⟨items, dn, hgk, hgm, hown, hits, hW, hdn, hN3, hs⟩ := hrel
    have hil := wtL_len items
    obtain ⟨at0, ct, rfl⟩ := owns_slice hown
    have HWr := Lib.hid hW
    have HNr := Lib.hid hN3
    have Hits := Lib.hid hits
    have Hown2 := Lib.hid hown
    clear hW hN3 hits Hown HW3 HN3 H
    have hcase : items = [] ∨ ∃ ini x, items = ini ++ [x] := by
      rcases List.eq_nil_or_concat items with h | ⟨L, y, h⟩
      · exact .inl h
      · exact .inr ⟨L, y, by simpa using h⟩
    rcases hcase with rfl | ⟨ini, x, rfl⟩
    · clear hown
      have Hend : Hid (putM inl (wordsB b) = putM inl [openW] ++ putM true dn) := Lib.hid (by
        rw [Hsp.out, hdn.out]; simp [remM])
      go_wp2
      go_end0
      rw [Hend.out, ← List.append_assoc]
      exact ⟨rfl, HWr.out, HNr.out⟩
    · have hl2 : (obCells ini).length = ini.length * 2 := by have := hown.1; rw [obCells_snoc] at this; simp at this; omega
      have hown' : wr.ownsRow w2.heap.size 117 2 (.slice at0 (ini.length + 1 : Nat) ct) (ini.length + 1) (obCells ini ++ [.slice x.ra x.rest.len x.rc, .slice x.oa x.other.len x.oc]) := by
        have h := hown
        rw [obCells_snoc, List.length_append] at h
        exact h
      obtain ⟨go, rfl, hgb, hgl, hct, c0, c1, hpop⟩ := own_pop hown'
      obtain ⟨hx1, hx2, hx3, hx4⟩ := Hits.out x (by simp)
      have hbk : ∃ cur, IsBlk wr go (.cells cur 117) := by
        have := (owns_type hown' go (mem_ownL.2 rfl)).2
        exact this
      obtain ⟨cur, hbk⟩ := hbk
      have f0 := hbk.notFrozen (ini.length * 2)
      have f1 := hbk.notFrozen (ini.length * 2 + 1)
      have Hown3 := Lib.hid hown'
      have Hpop := Lib.hid hpop
      have Hx := Lib.hid (And.intro hx1 (And.intro hx2 (And.intro hx3 hx4)))
      rw [wtL_snoc] at hgk hgm hil
      have hil0 : ini.length + 1 ≤ 600000 := by simp at hil; omega
      have hcti : (ini.length : Int) + 1 ≤ (ct : Int) := by omega
      have hn1 : ((ini.length : Int) + 1 - 1) = (ini.length : Int) := by omega
      have HS := Lib.hid (HNr.out.same (Nat.le_of_lt hpw))
      have Hdn : Hid (innerM b ++ [closeW] = dn ++ itemM x ++ remM ini) := Lib.hid (by rw [hdn.out, remM_snoc, List.append_assoc])
      have hpr : p < wr.heap.size := Nat.lt_of_lt_of_le hpw HNr.out.size
      clear hown hown' hpop Hown2 hbk hdn hx1 hx2 hx3 hx4
      simp only [List.length_append, List.length_cons, List.length_nil, Nat.zero_add] at *
      obtain ⟨ra, rc, rs, oa, oc, ot⟩ := x
      simp only at *
      have hneg : p < go := by omega
      cases rs with
      | cons kd pl nm A B r =>
        obtain ⟨g, o, c', va, vb, hv, hcc, hgp, hgw, k0, k1, k2, k3, k4, hA, hB, hr⟩ := rest_cons Hx.out.1
        injection hv with hv1 hv2 hv3
        subst hv1
        subst hv3
        obtain ⟨aa, ca, rfl⟩ := hA.slice
        obtain ⟨ab, cb, rfl⟩ := hB.slice
        have hcell : ∀ j, wr.cell? ⟨g, j, none⟩ = w.cell? ⟨g, j, none⟩ := fun j => World.cell?_of_block (HS.out g hgp)
        rw [← hcell] at k0 k1 k2 k3 k4
        unfold encStr at k2
        have hgr : g < wr.heap.size := by omega
        have hgg : ¬ g = go := by omega
        have hgg2 : ¬ go = g := by omega
        obtain ⟨q1, q2, q3, q4⟩ : kd ≤ 8 ∧ KOk A ∧ KOk B ∧ KOk r := Hx.out.2.2.1
        have hot := Hx.out.2.1
        have hotk := Hx.out.2.2.2
        have hrl : (0 : Int) < (r.len : Int) + 1 := by omega
        simp only [Blk.len] at c0 Hown3
        have hic := item_cons (some ⟨g, o, none⟩) rc kd pl nm A B r oa oc ot
        have HR := Lib.hid (And.intro hA (And.intro hB (And.intro hr (And.intro hot (And.intro hotk hic)))))
        have hpw := push_wt kd aa ab ca cb A B
        obtain ⟨hpc, hpl⟩ := push_cells kd aa ab ca cb A B
        have HPC := Lib.hid (And.intro hpc hpl)
        clear hcell hA hB hr hot hotk hic hpc hpl
        have hLen : Hid ((L ++ putM inl [openW] ++ putM true dn).length + (putM true (begW kd nm)).length ≤ 100000000) := Lib.hid (by
          have h1 := Hsp.out
          rw [Hdn.out, HR.out.2.2.2.2.2 none 0 aa ab ca cb, List.append_assoc, List.append_assoc, putM_append dn, show inlM true dn = true from by simp [inlM], putM_append (begW kd nm)] at h1
          rw [h1] at hL
          simp only [List.length_append] at hL ⊢
          omega)
        obtain ⟨nw, hnw, hnr⟩ : ∃ nw, (if rc = 1 then some (⟨g, o, none⟩ : Addr) else some ⟨g, o + 5, none⟩) = nw ∧ RestAt w p (.slice nw r.len (rc - 1 : Nat)) r :=
          ⟨_, rfl, HR.out.2.2.1 _ _ (fun h => by rw [if_neg (by omega)]) (by omega)⟩
        have o1 : Only [go] wr (wr.setCell ⟨go, ini.length * 2, none⟩ (.slice nw r.len (rc - 1 : Nat))) := (Only.refl _ _).setCell (.inl (by simp)) _
        have hOa := o1.alloc (.cells #[.int .i64 kd, .int .i64 pl, .string ⟨nm.toArray⟩, .slice aa A.len ca, .slice ab B.len cb] 96)
        have hst : IsBlk ((wr.setCell ⟨go, ini.length * 2, none⟩ (.slice nw r.len (rc - 1 : Nat))).alloc (.cells #[.int .i64 kd, .int .i64 pl, .string ⟨nm.toArray⟩, .slice aa A.len ca, .slice ab B.len cb] 96)) wr.heap.size (.cells #[.int .i64 kd, .int .i64 pl, .string ⟨nm.toArray⟩, .slice aa A.len ca, .slice ab B.len cb] 96) := by
          have h := IsBlk.made (wr.setCell ⟨go, ini.length * 2, none⟩ (.slice nw r.len (rc - 1 : Nat))) (.cells #[.int .i64 kd, .int .i64 pl, .string ⟨nm.toArray⟩, .slice aa A.len ca, .slice ab B.len cb] 96)
          rwa [show (wr.setCell ⟨go, ini.length * 2, none⟩ (.slice nw r.len (rc - 1 : Nat))).heap.size = wr.heap.size from by simp] at h
        have hown4 := own_set Hown3.out (k := ini.length * 2) (by omega) (.slice nw r.len (rc - 1 : Nat))
        rw [set_snoc0 _ _ _ _ _ hl2] at hown4
        have Hown4 := Lib.hid (owns_keep hown4 ((Only.refl [] _).alloc (.cells #[.int .i64 kd, .int .i64 pl, .string ⟨nm.toArray⟩, .slice aa A.len ca, .slice ab B.len cb] 96)) (by simp))
        have HW4 := Lib.hid (HWr.out.keep2 hOa (fun i hi => by
          simp only [List.mem_singleton] at hi
          subst hi
          obtain ⟨-, cs, hb⟩ := owns_type Hown3.out i (mem_ownL.2 rfl)
          exact ⟨by omega, cs, _, hb, by decide⟩))
        have HN4 := Lib.hid (HNr.out.trans (WrN.of hp5 hOa (by simp; omega)))
        have hsz4 := hOa.size
        have Hst := Lib.hid hst
        clear o1 hOa hst hown4
        have Hnr := Lib.hid hnr
        clear hnr
        go_upto_region 11 with fail
        generalize hW4 : (wr.setCell ⟨go, ini.length * 2, none⟩ (.slice nw r.len (rc - 1 : Nat))).alloc (.cells #[.int .i64 kd, .int .i64 pl, .string ⟨nm.toArray⟩, .slice aa A.len ca, .slice ab B.len cb] 96) = w4 at *
        clear hW4 hnw k0 k1 k2 k3 k4 c0 c1 f0 f1
        generalize hsg : wr.heap.size = sg at *
        have hsl := Hst.out.lt
        have s0 := Hst.out.cell 0
        have s1 := Hst.out.cell 1
        have s2 := Hst.out.cell 2
        have s3 := Hst.out.cell 3
        have s4 := Hst.out.cell 4
        go_wp2_with fail
        refine (begin_any w0 w4 p _ true HW4.out (.slice (some ⟨go, 0, none⟩) (ini.length + 1 : Nat) ct) (ini.length + 1) _ w2.heap.size Hown4.out (by omega) (by omega) (by omega) kd pl nm aa ab A.len ca B.len cb (by omega) hLen.out).mono ?_
        rintro e w5 ⟨ov5, rfl, hW5, hown5, hN5⟩
        obtain ⟨a5, c5, rfl⟩ := owns_slice hown5
        have HW5 := Lib.hid hW5
        have HN5 := Lib.hid (HN4.out.trans hN5)
        have hsz5 := hN5.size
        have Hown5 : Hid (w5.ownsRow w2.heap.size 117 2 (.slice a5 (ini.length + 1 + (begX kd (.slice aa A.len ca) (.slice ab B.len cb)).length / 2 : Nat) c5) ((ini ++ [(⟨nw, rc - 1, r, oa, oc, ot⟩ : OB)]) ++ pushM kd aa ab ca cb A B).length (obCells ((ini ++ [(⟨nw, rc - 1, r, oa, oc, ot⟩ : OB)]) ++ pushM kd aa ab ca cb A B))) := Lib.hid (by
          rw [obCells_append, obCells_snoc, HPC.out.1, List.length_append, List.length_append, HPC.out.2]
          exact hown5)
        clear hW5 hown5 hN5 s0 s1 s2 s3 s4
        go_wp2
        go_roundg (wtL ((ini ++ [(⟨nw, rc - 1, r, oa, oc, ot⟩ : OB)]) ++ pushM kd aa ab ca cb A B))
        case measure =>
          rw [wtL_append, wtL_snoc]
          simp only [wtO, wtM] at hgk ⊢
          omega
        case rel =>
          have hic2 := HR.out.2.2.2.2.2 nw (rc - 1) aa ab ca cb
          refine ⟨(ini ++ [(⟨nw, rc - 1, r, oa, oc, ot⟩ : OB)]) ++ pushM kd aa ab ca cb A B, dn ++ begW kd nm, Nat.le_refl _, ?_, Hown5.out, fun y hy => ?_, ?_, Lib.hid ?_, HN5.out, by omega⟩
          · rw [wtL_append, wtL_snoc]
            simp only [wtO, wtM] at hgm ⊢
            omega
          · rcases List.mem_append.1 hy with hy | hy
            · rcases List.mem_append.1 hy with hy | hy
              · exact Hits.out y (by simp [hy])
              · simp only [List.mem_singleton] at hy
                subst hy
                exact ⟨Hnr.out, HR.out.2.2.2.1, q4, HR.out.2.2.2.2.1⟩
            · unfold pushM at hy
              split at hy
              · simp only [List.mem_singleton] at hy
                subst hy
                exact ⟨HR.out.1, HR.out.2.1, q2, q3⟩
              · split at hy
                · simp only [List.mem_singleton] at hy
                  subst hy
                  exact ⟨HR.out.1, ⟨none, 0, rfl, Nat.le_refl _, fun h => by simp [Blk.len] at h⟩, q2, trivial⟩
                · cases hy
          · rw [putM_append dn, show inlM true dn = true from by simp [inlM], ← List.append_assoc]
            exact HW5.out
          · rw [Hdn.out, hic2, remM_append, remM_snoc]
            simp only [List.append_assoc]
      | nil =>
        simp only [Blk.len] at c0 Hown3
        by_cases hot : ot.len = 0
        · have hoti : ¬ (0 : Int) < (ot.len : Int) := by omega
          have hit : itemM ⟨ra, rc, .nil, oa, oc, ot⟩ = [closeW] := by simp [itemM, innerM, hot]
          have hLen : Hid ((L ++ putM inl [openW] ++ putM true dn).length + (putM true [closeW]).length ≤ 100000000) := Lib.hid (by
            have h1 := Hsp.out
            rw [Hdn.out, hit, List.append_assoc, putM_append dn, show inlM true dn = true from by simp [inlM], putM_append [closeW]] at h1
            rw [h1] at hL
            simp only [List.length_append] at hL ⊢
            omega)
          go_wp2_with fail
          refine (put_new w0 wr p _ true [closeW] HWr.out hLen.out (by simp) 1 rfl _ rfl _ rfl).mono ?_
          rintro e w5 ⟨rfl, hW5, hO5⟩
          have HW5 := Lib.hid hW5
          have HN5 := Lib.hid (HNr.out.trans hO5.n)
          have Hown5 := Lib.hid (owns_wr Hpop.out hO5 (by omega) (by decide))
          have hsz5 := hO5.size
          clear hW5 hO5 c0 c1 f0 f1
          go_wp2
          go_roundg (wtL ini)
          case measure => simp only [wtO] at hgk; omega
          case rel =>
            refine ⟨ini, dn ++ [closeW], Nat.le_refl _, by omega, Hown5.out, fun y hy => Hits.out y (by simp [hy]), ?_, Lib.hid ?_, HN5.out, by omega⟩
            · rw [putM_append dn, show inlM true dn = true from by simp [inlM], ← List.append_assoc]
              exact HW5.out
            · rw [Hdn.out, hit]
        · have hoti : (0 : Int) < (ot.len : Int) := by omega
          have hit : itemM ⟨ra, rc, .nil, oa, oc, ot⟩ = [closeW, elseM, openW] ++ itemM ⟨oa, oc, ot, none, 0, .nil⟩ := by simp [itemM, innerM, hot, Blk.len]
          have hLen : Hid ((L ++ putM inl [openW] ++ putM true dn).length + (putM true [closeW, elseM, openW]).length ≤ 100000000) := Lib.hid (by
            have h1 := Hsp.out
            rw [Hdn.out, hit, List.append_assoc, List.append_assoc, putM_append dn, show inlM true dn = true from by simp [inlM], putM_append [closeW, elseM, openW]] at h1
            rw [h1] at hL
            simp only [List.length_append] at hL ⊢
            omega)
          have hgow : go ≠ p := by omega
          obtain ⟨-, cs5, hb5⟩ := owns_type Hown3.out go (mem_ownL.2 rfl)
          have Hb5 := Lib.hid hb5
          clear hb5
          go_wp2_with fail
          refine (put_new w0 wr p _ true [closeW, elseM, openW] HWr.out hLen.out (by simp) 3 rfl _ rfl _ rfl).mono ?_
          rintro e w5 ⟨rfl, hW5, hO5⟩
          have HW5 := Lib.hid hW5
          have HN5 := Lib.hid (HNr.out.trans hO5.n)
          have hown5 := owns_wr Hown3.out hO5 (by omega) (by decide)
          obtain ⟨g9, hg9, -, hgl9, -, d0, d1, -⟩ := own_pop hown5
          injection hg9 with hg9
          injection hg9 with hg9
          subst hg9
          have hb9 := hO5.blk Hb5.out hgow (by decide)
          have e0 := hb9.notFrozen (ini.length * 2)
          have e1 := hb9.notFrozen (ini.length * 2 + 1)
          have hsz5 := hO5.size
          have o1 : Only [go] w5 ((w5.setCell ⟨go, ini.length * 2, none⟩ (.slice oa ot.len oc)).setCell ⟨go, ini.length * 2 + 1, none⟩ (.slice none 0 0)) := ((Only.refl _ _).setCell (.inl (by simp)) _).setCell (.inl (by simp)) _
          have hown6 := own_set (own_set hown5 (k := ini.length * 2) (by omega) (.slice oa ot.len oc)) (k := ini.length * 2 + 1) (by omega) (.slice none 0 0)
          rw [set_snoc0 _ _ _ _ _ hl2, set_snoc1 _ _ _ _ _ hl2] at hown6
          have HW6 := Lib.hid (hW5.keep2 o1 (fun i hi => by
            simp only [List.mem_singleton] at hi
            subst hi
            exact ⟨hgow, cs5, _, hb9, by decide⟩))
          have HN6 := Lib.hid (HN5.out.trans (WrN.of hp5 o1 (by simp; omega)))
          have Hown6 : Hid (((w5.setCell ⟨go, ini.length * 2, none⟩ (.slice oa ot.len oc)).setCell ⟨go, ini.length * 2 + 1, none⟩ (.slice none 0 0)).ownsRow w2.heap.size 117 2 (.slice (some ⟨go, 0, none⟩) (ini.length + 1 : Nat) ct) (ini ++ [(⟨oa, oc, ot, none, 0, .nil⟩ : OB)]).length (obCells (ini ++ [(⟨oa, oc, ot, none, 0, .nil⟩ : OB)]))) := Lib.hid (by
            rw [obCells_snoc, List.length_append]
            exact hown6)
          have hsz6 := o1.size
          clear hW5 hO5 c0 c1 f0 f1 hown5 hown6 hb9 o1
          go_wp2
          go_roundg (wtL (ini ++ [(⟨oa, oc, ot, none, 0, .nil⟩ : OB)]))
          case measure =>
            rw [wtL_snoc]
            simp only [wtO, wtM, Blk.len, if_neg hot] at hgk ⊢
            simp
            omega
          case rel =>
            refine ⟨ini ++ [(⟨oa, oc, ot, none, 0, .nil⟩ : OB)], dn ++ [closeW, elseM, openW], Nat.le_refl _, ?_, Hown6.out, fun y hy => ?_, ?_, Lib.hid ?_, HN6.out, by omega⟩
            · rw [wtL_snoc]
              simp only [wtO, wtM, Blk.len, if_neg hot] at hgm ⊢
              simp
              omega
            · rcases List.mem_append.1 hy with hy | hy
              · exact Hits.out y (by simp [hy])
              · simp only [List.mem_singleton] at hy
                subst hy
                exact ⟨Hx.out.2.1, ⟨none, 0, rfl, Nat.le_refl _, fun h => by simp [Blk.len] at h⟩, Hx.out.2.2.2, trivial⟩
            · rw [putM_append dn, show inlM true dn = true from by simp [inlM], ← List.append_assoc]
              exact HW6.out
            · rw [Hdn.out, hit, remM_snoc]
              simp only [List.append_assoc]

end Go.Proofs.Ytonpfmhdefhhmaa
