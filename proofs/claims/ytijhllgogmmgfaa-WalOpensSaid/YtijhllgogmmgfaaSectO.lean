/-
  The reference's Bytes, by contracts.
-/
import Derived.Test.YtijhllgogmmgfaaSectK
namespace Go.Proofs.Ytijhllgogmmgfaa
set_option linter.unusedVariables false
set_option maxRecDepth 100000
open Go.RowKit

theorem le_4 (w : World) (base : Nat) (v : Value) (n : Nat) (L : List UInt8) (h : OwnB w base v L) (hb : base ≤ w.heap.size) (hL : L.length ≤ 1000) (hn : n < 4611686018427387904) :
    Calls Try.prog 46 #[v, .int .i64 n, .int .i64 4] w fun e w' => ∃ v', e = .returned v' ∧ OwnB w' base v' (L ++ leB 4 n) ∧ Below base w w' := le_any w base v n 4 L h hb hL hn (by omega)
theorem le_2 (w : World) (base : Nat) (v : Value) (n : Nat) (L : List UInt8) (h : OwnB w base v L) (hb : base ≤ w.heap.size) (hL : L.length ≤ 1000) (hn : n < 4611686018427387904) :
    Calls Try.prog 46 #[v, .int .i64 n, .int .i64 2] w fun e w' => ∃ v', e = .returned v' ∧ OwnB w' base v' (L ++ leB 2 n) ∧ Below base w w' := le_any w base v n 2 L h hb hL hn (by omega)
theorem le_1 (w : World) (base : Nat) (v : Value) (n : Nat) (L : List UInt8) (h : OwnB w base v L) (hb : base ≤ w.heap.size) (hL : L.length ≤ 1000) (hn : n < 4611686018427387904) :
    Calls Try.prog 46 #[v, .int .i64 n, .int .i64 1] w fun e w' => ∃ v', e = .returned v' ∧ OwnB w' base v' (L ++ leB 1 n) ∧ Below base w w' := le_any w base v n 1 L h hb hL hn (by omega)

def four (q : Nat) (g r n o : Int) (W : World) : Prop := W.cell? ⟨q, 0, none⟩ = some (.int .i64 g) ∧ W.cell? ⟨q, 1, none⟩ = some (.int .i64 r) ∧ W.cell? ⟨q, 2, none⟩ = some (.int .i64 n) ∧ W.cell? ⟨q, 3, none⟩ = some (.int .i64 o)
theorem four_below {B q : Nat} {g r n o : Int} {w W : World} (hb : Below B w W) (hq : q < B)
    (h : w.cell? ⟨q, 0, none⟩ = some (.int .i64 g) ∧ w.cell? ⟨q, 1, none⟩ = some (.int .i64 r) ∧ w.cell? ⟨q, 2, none⟩ = some (.int .i64 n) ∧ w.cell? ⟨q, 3, none⟩ = some (.int .i64 o)) :
    W.cell? ⟨q, 0, none⟩ = some (.int .i64 g) ∧ W.cell? ⟨q, 1, none⟩ = some (.int .i64 r) ∧ W.cell? ⟨q, 2, none⟩ = some (.int .i64 n) ∧ W.cell? ⟨q, 3, none⟩ = some (.int .i64 o) :=
  ⟨(hb.cell (p := ⟨q, 0, none⟩) hq).trans h.1, (hb.cell (p := ⟨q, 1, none⟩) hq).trans h.2.1, (hb.cell (p := ⟨q, 2, none⟩) hq).trans h.2.2.1, (hb.cell (p := ⟨q, 3, none⟩) hq).trans h.2.2.2⟩
theorem OwnB.drew {w : World} {base : Nat} {v : Value} {l : List UInt8} (h : OwnB w base v l) : OwnB w.drew base v l := h

theorem Only.belowThen {w0 w w' : World} (h : Only [] w0 w) (hb : Below w0.heap.size w w') : Only [] w0 w' :=
  ⟨hb.os.trans h.os, hb.tape.trans h.tape, hb.output.trans h.output, Nat.le_trans h.size hb.size, fun k hk _ => (hb.block k hk).trans (h.block k hk (by simp))⟩
theorem only_cell {w W : World} {q x : Nat} {v : Value} (h : Only [] w W) (hq : q < w.heap.size) (hc : w.cell? ⟨q, x, none⟩ = some v) : W.cell? ⟨q, x, none⟩ = some v := (h.cell (p := ⟨q, x, none⟩) hq (by simp)).trans hc

/-- What the reference's Bytes leaves where it may. -/
def RefTo (w : World) (p : PartM) (e : Ending) (w' : World) : Prop :=
  ∃ v', e = .returned (.tuple #[v', .int .i64 0]) ∧ OwnB w' w.heap.size v' (bytesB p) ∧ Only [] w w'

set_option maxHeartbeats 8000000 in
theorem refbytes_ok (w : World) (g r n o : Nat) (a : Option Addr) (k cap : Nat) (d : List UInt8) (hm : okB ⟨g, r, n, o, d⟩ = true) (hs : Src w a k d) :
    Calls Try.prog 24 #[.agg #[.int .i64 g, .int .i64 r, .int .i64 n, .int .i64 o, .slice a k cap]] w (RefTo w ⟨g, r, n, o, d⟩) := by
  obtain ⟨⟨h1, h2, h3, h4⟩, h5, h6, h7, h8, h9⟩ := okB_iff.1 hm
  simp only at h1 h2 h3 h4 h5 h6 h7 h8 h9
  have Hd := Lib.hid hs.1
  have h52 : k = 52 := by rw [← hs.1]; exact h9
  subst h52
  clear h9 hm
  have t1 : ¬ (g : Int) < 1 := by omega
  have t2 : ¬ (4294967295 : Int) < g := by omega
  have t3 : ¬ (r : Int) < 0 := by omega
  have t4 : ¬ (65535 : Int) < r := by omega
  have t5 : ¬ (o : Int) < 1 := by omega
  have t6 : ¬ (255 : Int) < o := by omega
  have t7 : ¬ (n : Int) < 0 := by omega
  have t8 : ¬ (o : Int) ≤ n := by omega
  have hOw := (Only.refl [] w).alloc (.cells #[.int .i64 g, .int .i64 r, .int .i64 n, .int .i64 o, .slice a 52 cap] 63)
  have hbox := IsBlk.made w (.cells #[.int .i64 g, .int .i64 r, .int .i64 n, .int .i64 o, .slice a 52 cap] 63)
  have hs1 := hs.more hOw
  have hsz : w.heap.size + 1 = (w.alloc (.cells #[.int .i64 g, .int .i64 r, .int .i64 n, .int .i64 o, .slice a 52 cap] 63)).heap.size := by simp
  have HOw := Lib.hid hOw
  have Hs1 := Lib.hid hs1
  have HS0 := Lib.hid hs
  have Hbox := Lib.hid hbox
  have Hsz := Lib.hid hsz
  clear hs hs1 hOw hbox hsz
  go_enter Try.func24, Try.ntmps24
  go_wp2_with fail
  generalize w.alloc (.cells #[.int .i64 g, .int .i64 r, .int .i64 n, .int .i64 o, .slice a 52 cap] 63) = w1 at *
  have c0 : w1.cell? ⟨w.heap.size, 0, none⟩ = some (.int .i64 g) := IsBlk.cell Hbox.out 0
  have c1 : w1.cell? ⟨w.heap.size, 1, none⟩ = some (.int .i64 r) := IsBlk.cell Hbox.out 1
  have c2 : w1.cell? ⟨w.heap.size, 2, none⟩ = some (.int .i64 n) := IsBlk.cell Hbox.out 2
  have c3 : w1.cell? ⟨w.heap.size, 3, none⟩ = some (.int .i64 o) := IsBlk.cell Hbox.out 3
  have hB : w.heap.size < w1.heap.size := by have := Hsz.out; omega
  have hnil : OwnB w1.drew w1.heap.size (.slice none 0 0) [] := OwnB.nil _ _
  have hbel0 : Below w1.heap.size w1 w1.drew := (Below.refl _ _).drew
  go_region_held3 (fun W => W.cell? ⟨w.heap.size, 0, none⟩ = some (.int .i64 g) ∧ W.cell? ⟨w.heap.size, 1, none⟩ = some (.int .i64 r) ∧ W.cell? ⟨w.heap.size, 2, none⟩ = some (.int .i64 n) ∧ W.cell? ⟨w.heap.size, 3, none⟩ = some (.int .i64 o))
    (first | assumption | exact ⟨c0, c1, c2, c3⟩ | exact four_below (by assumption) hB ⟨c0, c1, c2, c3⟩)
    (first
      | (go_at_call 46
         first
           | (refine Calls.mono (le_1 _ w1.heap.size v1 o _ hv1 (by omega) (by simp [length_leB]) (by omega)) ?_
              rintro e W0 ⟨v0, rfl, hv0, hb0⟩
              have hbel := hbel1.trans hb0
              have hz0 := hbel.size)
           | (refine Calls.mono (le_1 _ w1.heap.size v2 n _ hv2 (by omega) (by simp [length_leB]) (by omega)) ?_
              rintro e W1 ⟨v1, rfl, hv1, hb1⟩
              have hbel1 := hbel2.trans hb1
              have hz1 := hbel1.size)
           | (refine Calls.mono (le_2 _ w1.heap.size v4 r _ hv4 (by omega) (by simp [length_leB]) (by omega)) ?_
              rintro e W2 ⟨v2, rfl, hv2, hb2⟩
              have hbel2 := hbel4.trans hb2
              have hz2 := hbel2.size)
           | (refine Calls.mono (le_4 _ w1.heap.size (.slice none 0 0) g [] hnil (Nat.le_refl _) (by simp) (by omega)) ?_
              rintro e W4 ⟨v4, rfl, hv4, hb4⟩
              have hbel4 := hbel0.trans hb4
              have hz4 := hbel4.size)))
  rename_i hheld
  clear hheld
  have hhead : ((([] ++ leB 4 g) ++ leB 2 r) ++ leB 1 n) ++ leB 1 o = headB ⟨g, r, n, o, d⟩ := by simp [headB]
  rw [hhead] at hv0
  have hh8 := length_headB ⟨g, r, n, o, d⟩
  have c4 : w1.cell? ⟨w.heap.size, 4, none⟩ = some (.slice a 52 cap) := IsBlk.cell Hbox.out 4
  have c4' : W0.cell? ⟨w.heap.size, 4, none⟩ = some (.slice a 52 cap) := (hbel.cell (p := ⟨w.heap.size, 4, none⟩) hB).trans c4
  have hsd : Src W0 a 52 d := Hs1.out.more (only_below hbel)
  have hqW : w.heap.size < W0.heap.size := by omega
  have hOW0 : Only [] w W0 := HOw.out.then (only_below hbel) [] (by simp) (by simp)
  clear c0 c1 c2 c3 c4 hnil hbel0 hv4 hb4 hbel4 hz4 hv2 hb2 hbel2 hz2 hv1 hb1 hbel1 hz1 hb0 hhead
  have hv0' := Lib.hid hv0
  obtain ⟨gx, xcap, cur, hvx, hgx, hbx, hcx, hrx⟩ := hv0.full (by rw [hh8]; omega)
  rw [hh8] at hvx
  subst hvx
  have hsx : Src W0 (some ⟨gx, 0, none⟩) 8 (headB ⟨g, r, n, o, d⟩) := by have := rangeSrc hrx hbx.lt; rwa [hh8] at this
  have hgxl := hbx.lt
  have Hsx := Lib.hid hsx
  have Hsd := Lib.hid hsd
  have Hbel := Lib.hid hbel
  have HOW0 := Lib.hid hOW0
  have Hd52 := Lib.hid Hd.out
  clear hv0 hbx hrx hsx hsd hbel hOW0 Hs1 Hbox HOw
  have hemp : OwnB (W0.alloc (.cells #[] 5)).drew W0.heap.size (.slice (some ⟨W0.heap.size, 0, none⟩) 0 0) [] := (OwnB.empty W0 W0.heap.size (Nat.le_refl _)).drew
  have Hemp := Lib.hid hemp
  clear hemp
  have hOe : Only [] W0 (W0.alloc (.cells #[] 5)).drew := ((Only.refl [] W0).alloc _).drew
  have HOe := Lib.hid hOe
  clear hOe
  go_wp2_with fail
  go_region_held3 (fun W => W.cell? ⟨w.heap.size, 4, none⟩ = some (.slice a 52 cap))
    (first | assumption | exact only_cell hOe6 hqW c4' | exact only_cell hOe5 hqW c4' | exact only_cell HOe.out hqW c4')
    (first
      | (go_at_call 47
         refine Calls.mono (refcrc_any _ _ _ _ _ hs6 (by omega)) ?_
         rintro e w' ⟨rfl, rfl⟩)
      | (rw [if_pos (by rfl)]
         refine wp_append_b _ _ rfl W0.heap.size _ _ rfl h5 a 52 cap d rfl (Hsd.out.more hOe5) (by simp [hh8]) hOe5.size ?_
         intro v6 w6 h6 hb6 hn6
         clear hn6
         have hOe6 : Only [] W0 w6 := hOe5.belowThen hb6
         have e60 : ([] ++ headB ⟨g, r, n, o, d⟩ ++ d).length = 60 := by rw [List.nil_append, List.length_append, hh8, Hd52.out]
         obtain ⟨g6, c6, cur6, hv6, hg6, hb6', hc6, hr6⟩ := h6.full (by rw [e60]; omega)
         rw [e60] at hv6
         subst hv6
         have hs6 : Src w6 (some ⟨g6, 0, none⟩) 60 (headB ⟨g, r, n, o, d⟩ ++ d) := by have := rangeSrc hr6 hb6'.lt; rwa [e60, List.nil_append] at this
         clear e60 h6 hr6)
      | (rw [if_pos (by rfl)]
         refine wp_append_b _ _ rfl W0.heap.size _ [] rfl Hemp.out (some ⟨gx, 0, none⟩) 8 xcap _ rfl (Hsx.out.more HOe.out) (by simp) HOe.out.size ?_
         intro v5 w5 h5 hb5 hn5
         clear hn5
         have hOe5 : Only [] W0 w5 := HOe.out.belowThen hb5))
  rename_i hheld
  have c46 := hheld
  clear hheld
  have hv7 : OwnB w6 w1.heap.size (.slice (some ⟨gx, 0, none⟩) 8 xcap) (headB ⟨g, r, n, o, d⟩) := hv0'.out.more ⟨hOe6.os, hOe6.tape, hOe6.output, hOe6.size, fun k hk => hOe6.block k hk (by simp)⟩
  have hcw := wrap_nat (crcN (headB ⟨g, r, n, o, d⟩ ++ d)) (by have := crcN_lt (headB ⟨g, r, n, o, d⟩ ++ d); omega)
  have hcl := crcN_lt (headB ⟨g, r, n, o, d⟩ ++ d)
  have hO6 : Only [] w w6 := HOW0.out.then hOe6 [] (by simp) (by simp)
  have hsz6 : w1.heap.size ≤ w6.heap.size := by have := hOe6.size; omega
  have hsd6 := Hsd.out.more hOe6
  have HO6 := Lib.hid hO6
  have Hv7 := Lib.hid hv7
  have Hsd6 := Lib.hid hsd6
  have hb0 : Below w1.heap.size w6 w6.drew := (Below.refl _ _).drew
  have Hfin : Hid (headB ⟨g, r, n, o, d⟩ ++ leB 4 (crcN (headB ⟨g, r, n, o, d⟩ ++ d)) ++ d = bytesB ⟨g, r, n, o, d⟩) := Lib.hid rfl
  clear hO6 hv7 hsd6 h5 hb5 hOe5 hb6 hOe6 hb6' hs6 Hemp HOe HOW0 Hsx Hsd hv0' c4'
  generalize crcN (headB ⟨g, r, n, o, d⟩ ++ d) = crc at *
  go_wp2_with fail
  go_region_held3 (fun W => W.cell? ⟨w.heap.size, 4, none⟩ = some (.slice a 52 cap))
    (first | assumption | exact (hb10.cell (p := ⟨w.heap.size, 4, none⟩) hB).trans c46 | exact (hb8.cell (p := ⟨w.heap.size, 4, none⟩) hB).trans c46 | exact c46)
    (first
      | (go_at_call 46
         refine Calls.mono (le_4 _ w1.heap.size _ crc _ Hv7.out.drew hsz6 (by rw [hh8]; omega) (by omega)) ?_
         rintro e w7 ⟨v7, rfl, h7, hb7⟩
         have hb8 : Below w1.heap.size w6 w7 := hb0.trans hb7
         have hO7 : Only [] w w7 := ⟨hb8.os.trans HO6.out.os, hb8.tape.trans HO6.out.tape, hb8.output.trans HO6.out.output, Nat.le_trans HO6.out.size hb8.size, fun k hk _ => (hb8.block k (by omega)).trans (HO6.out.block k hk (by simp))⟩
         have hsz7 := hb8.size
         have hsd7 := HS0.out.more hO7)
      | (rw [if_pos (by rfl)]
         refine wp_append_b _ _ rfl w1.heap.size _ _ rfl h7 a 52 cap d rfl hsd7 (by rw [List.length_append, hh8, length_leB]; omega) (by omega) ?_
         intro v9 w9 h9 hb9 hn9
         clear hn9
         have hb10 := hb8.trans hb9
         have hO9 : Only [] w w9 := ⟨hb10.os.trans HO6.out.os, hb10.tape.trans HO6.out.tape, hb10.output.trans HO6.out.output, Nat.le_trans HO6.out.size hb10.size, fun k hk _ => (hb10.block k (by omega)).trans (HO6.out.block k hk (by simp))⟩))
  rw [Hfin.out] at h9
  go_wp2
  go_ret2
  exact ⟨v9, rfl, h9.lower (by omega), hO9⟩

end Go.Proofs.Ytijhllgogmmgfaa
