/-
  sameBlock of the package parse: two blocks, and all within them, held against each other, without calling itself.
-/
import Derived.Test.YtonpfmhdefhhmaaPaW
namespace Go.Proofs.Ytonpfmhdefhhmaa
set_option maxRecDepth 100000
set_option linter.unusedVariables false
open Go.RowKit Go.Sort

def sameB : Blk → Blk → Bool
  | .nil, .nil => true
  | .cons k _ n a b r, .cons k' _ n' a' b' r' => decide (k = k') && decide (n = n') && sameB a a' && sameB b b' && sameB r r'
  | _, _ => false
theorem sameB_len : ∀ (x y : Blk), x.len ≠ y.len → sameB x y = false
  | .nil, .nil, h => absurd rfl h
  | .nil, .cons _ _ _ _ _ _, _ => rfl
  | .cons _ _ _ _ _ _, .nil, _ => rfl
  | .cons k _ n a b r, .cons k' _ n' a' b' r', h => by
    rw [sameB, sameB_len r r' (fun e => h (by rw [Blk.len, Blk.len, e]))]
    simp
theorem sameB_iff : ∀ (x y : Blk), sameB x y = decide (eraseB x = eraseB y)
  | .nil, .nil => by simp [sameB]
  | .nil, .cons _ _ _ _ _ _ => by simp [sameB, eraseB]
  | .cons _ _ _ _ _ _, .nil => by simp [sameB, eraseB]
  | .cons k _ n a b r, .cons k' _ n' a' b' r' => by
    rw [sameB, sameB_iff a a', sameB_iff b b', sameB_iff r r', eraseB, eraseB]
    simp only [Blk.cons.injEq, true_and, Bool.decide_and, Bool.and_assoc]

/-- Two blocks that are still to be held against each other. -/
structure PB where
  a : Option Addr
  ca : Nat
  A : Blk
  b : Option Addr
  cb : Nat
  B : Blk
def pbCells (l : List PB) : List Value := l.flatMap fun x => [.slice x.a x.A.len x.ca, .slice x.b x.B.len x.cb]
theorem pbCells_snoc (l : List PB) (x : PB) : pbCells (l ++ [x]) = pbCells l ++ [.slice x.a x.A.len x.ca, .slice x.b x.B.len x.cb] := by simp [pbCells]
def PbAt (w : World) (x : PB) : Prop := (∃ fa, BlkAt w (.slice x.a x.A.len x.ca) x.A fa) ∧ (∃ fb, BlkAt w (.slice x.b x.B.len x.cb) x.B fb) ∧ x.A.cnt ≤ 100000 ∧ x.B.cnt ≤ 100000
def ssM (l : List PB) : Bool := l.all fun x => sameB x.A x.B
theorem ssM_snoc (l : List PB) (x : PB) : ssM (l ++ [x]) = (ssM l && sameB x.A x.B) := by simp [ssM]
def pbWt (l : List PB) : Nat := (l.map fun x => 2 * x.A.cnt + 1).sum
theorem pbWt_snoc (l : List PB) (x : PB) : pbWt (l ++ [x]) = pbWt l + (2 * x.A.cnt + 1) := by simp [pbWt]
theorem pbWt_len : ∀ (l : List PB), l.length ≤ pbWt l
  | [] => Nat.le_refl _
  | x :: r => by have := pbWt_len r; simp only [pbWt, List.map_cons, List.sum_cons, List.length_cons] at *; omega
def addP (l : List PB) (x : PB) : List PB := if x.A.len + x.B.len = 0 then l else l ++ [x]
theorem addP_ss (l : List PB) (x : PB) : ssM (addP l x) = (ssM l && sameB x.A x.B) := by
  unfold addP
  split
  · rename_i h
    have h1 := Blk.len_zero x.A (by omega)
    have h2 := Blk.len_zero x.B (by omega)
    rw [h1, h2]
    simp [sameB]
  · exact ssM_snoc l x
theorem addP_wt (l : List PB) (x : PB) : pbWt (addP l x) ≤ pbWt l + (2 * x.A.cnt + 1) := by
  unfold addP
  split
  · omega
  · rw [pbWt_snoc]; omega
theorem mem_addP {l : List PB} {x y : PB} (h : y ∈ addP l x) : y ∈ l ∨ y = x := by
  unfold addP at h
  split at h
  · exact .inl h
  · simpa using h
theorem blk_open {w : World} {a : Option Addr} {c : Nat} {b : Blk} (h : ∃ fp, BlkAt w (.slice a b.len c) b fp) : ∃ xs fq, EncB w b xs fq ∧ (0 < b.len → ∃ g, a = some ⟨g, 0, none⟩ ∧ g < w.heap.size ∧ w.rangeAt g 0 xs) := by
  obtain ⟨fp, h⟩ := h
  rcases h with ⟨h1, h2, h3⟩ | ⟨g, c', fq, xs, h1, hc, hn, h3, ⟨cs, t, hg⟩, hr, he⟩
  · have hb := Blk.len_zero b h2
    subst hb
    exact ⟨[], [], ⟨rfl, rfl⟩, fun h => by simp [Blk.len] at h⟩
  · injection h1 with h4 h5 h6
    exact ⟨xs, fq, he, fun _ => ⟨g, h4, hg.lt, hr⟩⟩

theorem infoPr : (Try.prog.info? 128).map (fun i => (i.zero, i.size, i.bytes)) = some (some (.agg #[.slice none 0 0, .slice none 0 0]), 2, 48) := by kernel_rfl
theorem wpList_append_pr {w : World} {ops : Array Oper} {rest : List Oper} {o : Oper} {a : Act} {Q : Exit → Act → World → Prop} (hgd : o.guard = none) (s x : Operand)
    (ho : o.op = .call { callee := .builtin .append, args := #[s, x], argTypes := #[129, 129] })
    (base : Nat) (v : Value) (n : Nat) (xs : List Value) (hs : a.eval s = v) (hown : w.ownsRow base 128 2 v n xs)
    (q c : Nat) (u1 u2 : Value) (h1 : u1.oneCell' = true) (h2 : u2.oneCell' = true) (hx : a.eval x = .slice (some ⟨q, 0, none⟩) 1 c)
    (hc0 : w.cell? ⟨q, 0, none⟩ = some u1) (hc1 : w.cell? ⟨q, 1, none⟩ = some u2) (hsm : n ≤ 1000000) (hbase : base ≤ w.heap.size)
    (h : ∀ v' w', w'.ownsRow base 128 2 v' (n + 1) (xs ++ [u1, u2]) → Only (ownL v) w w' → (∀ g ∈ ownL v', g ∈ ownL v ∨ w.heap.size ≤ g) → wpList Try.prog ops Q rest (a.put o.dst v') w') : wpList Try.prog ops Q (o :: rest) a w := by
  obtain ⟨i0, hi, hz0, hz1, hz2⟩ := info_parts infoPr
  refine wpList_append_own_at w hgd s x _ ho base _ i0 _ 2 48 Try.underlying129 hi hz0 hz1 hz2 rfl (by decide) v n _ hs hown ⟨q, 0, none⟩ 1 c [u1, u2] hx rfl (fun j u hu => ?_) (fun u hu => ?_) (by unfold maxLen; omega) (by omega) hbase (fun v' w' k2 k3 k4 k5 => h v' w' k2 (grown_only k3) (fun g hg => ?_))
  · rw [Addr.add_mid]
    match j, hu with
    | 0, hu => simp at hu; rw [← hu]; exact hc0
    | 1, hu => simp at hu; rw [← hu]; exact hc1
    | n + 2, hu => simp at hu
  · simp only [List.mem_cons, List.not_mem_nil, or_false] at hu
    rcases hu with rfl | rfl
    · exact h1
    · exact h2
  · have hg' := mem_ownL.1 hg
    rcases k5 with h5 | h5
    · exact .inl (mem_ownL.2 (h5 ▸ hg'))
    · rw [h5] at hg'
      injection hg' with hg'
      exact .inr (by omega)

set_option maxHeartbeats 16000000 in
theorem sameBlock_any (w : World) (va vb : Value) (A0 B0 : Blk) (fa fb : List Nat) (ha : BlkAt w va A0 fa) (hnd : fa.Nodup) (hN : A0.cnt ≤ 100000) (hb : BlkAt w vb B0 fb) (hN2 : B0.cnt ≤ 100000) :
    Calls Try.prog 72 #[va, vb] w fun e w' => e = .returned (.bool (sameB A0 B0)) ∧ Only [] w w' := by
  have HE := Lib.hid (endless_any w va A0 fa ha hnd hN)
  obtain ⟨a0, c0, rfl, -⟩ := ha.slice
  obtain ⟨b0, d0, rfl, -⟩ := hb.slice
  have HA0 := Lib.hid ha
  have HB0 := Lib.hid hb
  clear ha hb hnd
  generalize hR : sameB A0 B0 = R
  have HR := Lib.hid hR
  clear hR
  go_enter Try.func72, Try.ntmps72
  go_wp2_with fail
  refine HE.out.mono ?_
  rintro e w1 ⟨rfl, hO1⟩
  have hOa := (Only.refl [] w1).alloc (.cells #[.slice a0 A0.len c0, .slice b0 B0.len d0] 128)
  have hqa := IsBlk.made w1 (.cells #[.slice a0 A0.len c0, .slice b0 B0.len d0] 128)
  have Hown : Hid ((w1.alloc (.cells #[.slice a0 A0.len c0, .slice b0 B0.len d0] 128)).ownsRow w1.heap.size 128 2 (.slice (some ⟨w1.heap.size, 0, none⟩) 1 1) 1 [.slice a0 A0.len c0, .slice b0 B0.len d0]) :=
    Lib.hid ⟨rfl, .inr ⟨w1.heap.size, 1, #[.slice a0 A0.len c0, .slice b0 B0.len d0], rfl, Nat.le_refl _, hqa, Nat.le_refl _, by simp [maxLen], rfl, rfl⟩⟩
  have HO := Lib.hid (hO1.plus hOa)
  have hs1 := hO1.size
  have hsz := hOa.size
  clear hOa hqa hO1 HE
  go_wp2_with fail
  go_loopg [5] 1000000 (fun gk tv wr => ∃ (items : List PB), pbWt items ≤ gk ∧ pbWt items ≤ 250000 ∧ wr.ownsRow w1.heap.size 128 2 tv items.length (pbCells items) ∧ (∀ x ∈ items, PbAt w x) ∧ Hid (R = ssM items) ∧ Only [] w wr ∧ w1.heap.size ≤ wr.heap.size)
  case atStart =>
    refine ⟨[⟨a0, c0, A0, b0, d0, B0⟩], ?_, ?_, Hown.out, fun x hx => ?_, Lib.hid ?_, HO.out, hsz⟩
    · simp [pbWt]; omega
    · simp [pbWt]; omega
    · simp only [List.mem_singleton] at hx
      subst hx
      exact ⟨⟨fa, HA0.out⟩, ⟨fb, HB0.out⟩, hN, hN2⟩
    · rw [← HR.out]; simp [ssM]
  case round =>
    obtain ⟨items, hgk, hgm, hown, hits, hRi, hO, hs⟩ := hrel
    have hil := pbWt_len items
    obtain ⟨at0, ct, rfl⟩ := owns_slice hown
    have HOr := Lib.hid hO
    have Hits := Lib.hid hits
    clear hO hits Hown HO HA0 HB0
    have hcase : items = [] ∨ ∃ ini x, items = ini ++ [x] := by
      rcases List.eq_nil_or_concat items with h | ⟨L, y, h⟩
      · exact .inl h
      · exact .inr ⟨L, y, by simpa using h⟩
    rcases hcase with rfl | ⟨ini, x, rfl⟩
    · clear hown
      go_wp2
      go_ret
      rw [hRi.out]
      exact ⟨rfl, HOr.out⟩
    · have hl2 : (pbCells ini).length = ini.length * 2 := by have := hown.1; rw [pbCells_snoc] at this; simp at this; omega
      have hown' : wr.ownsRow w1.heap.size 128 2 (.slice at0 (ini.length + 1 : Nat) ct) (ini.length + 1) (pbCells ini ++ [.slice x.a x.A.len x.ca, .slice x.b x.B.len x.cb]) := by
        have h := hown
        rw [pbCells_snoc, List.length_append] at h
        exact h
      obtain ⟨go, rfl, hgb, hgl, hct, k0, k1, hpop⟩ := own_pop hown'
      have Hpop := Lib.hid hpop
      have hx := Hits.out x (by simp)
      have HX := Lib.hid hx
      have HRx : Hid (R = (ssM ini && sameB x.A x.B)) := Lib.hid (by rw [hRi.out, ssM_snoc])
      rw [pbWt_snoc] at hgk hgm hil
      have hil0 : ini.length + 1 ≤ 600000 := by simp at hil; omega
      have hcti : (ini.length : Int) + 1 ≤ (ct : Int) := by omega
      have hn1 : ((ini.length : Int) + 1 - 1) = (ini.length : Int) := by omega
      clear hown hown' hpop hRi hx
      simp only [List.length_append, List.length_cons, List.length_nil, Nat.zero_add] at *
      obtain ⟨xa, xca, XA, xb, xcb, XB⟩ := x
      simp only at *
      have hOa := (Only.refl [] wr).alloc (.cells #[.slice xa XA.len xca, .slice xb XB.len xcb] 128)
      have hv := IsBlk.made wr (.cells #[.slice xa XA.len xca, .slice xb XB.len xcb] 128)
      have Hpop2 := Lib.hid (owns_keep Hpop.out hOa (by simp))
      have HO2 := Lib.hid (HOr.out.plus hOa)
      have hsz2 := hOa.size
      clear Hpop hOa
      go_upto_region 7 with fail
      generalize hW3 : wr.alloc (.cells #[.slice xa XA.len xca, .slice xb XB.len xcb] 128) = w3 at *
      clear hW3
      have v0 := hv.cell 0
      have v1 := hv.cell 1
      have vl := hv.lt
      have Hv := Lib.hid hv
      have hgv1 : w1.heap.size ≤ wr.heap.size := hs
      have hgog : go < wr.heap.size := hgl
      clear hv k0 k1
      generalize wr.heap.size = gv at *
      obtain ⟨xs, fq, hEA, hrA⟩ := blk_open HX.out.1
      obtain ⟨ys, gq, hEB, hrB⟩ := blk_open HX.out.2.1
      obtain ⟨hca, hcb⟩ := HX.out.2.2
      simp only at hca hcb
      simp only at hEA hrA hEB hrB
      have HEA := Lib.hid (And.intro hEA hrA)
      have HEB := Lib.hid (And.intro hEB hrB)
      clear hEA hrA hEB hrB HX
      by_cases hll : XA.len = XB.len
      · have Hll := Lib.hid hll
        have hnb : ((XA.len : Int) != (XB.len : Int)) = false := by simp; omega
        clear hll
        go_wp2_with fail
        clear hnb
        go_loopg [5, 40] 1000000 (fun gj tv iv wz => ∃ (its : List PB) (j : Nat) (rs rs' : Blk) (xr yr : List Value) (fr gr : List Nat), iv = .int .i64 j ∧ rs.len ≤ gj ∧ j + rs.len = XA.len ∧ rs'.len = rs.len ∧ rs.cnt ≤ 100000 ∧ rs'.cnt ≤ 100000 ∧ EncB w rs xr fr ∧ EncB w rs' yr gr ∧
          (0 < rs.len → ∃ gx, xa = some ⟨gx, 0, none⟩ ∧ gx < w.heap.size ∧ w.rangeAt gx (j * 5) xr) ∧ (0 < rs.len → ∃ gy, xb = some ⟨gy, 0, none⟩ ∧ gy < w.heap.size ∧ w.rangeAt gy (j * 5) yr) ∧
          wz.ownsRow w1.heap.size 128 2 tv its.length (pbCells its) ∧ (∀ g ∈ ownL tv, g ≠ gv) ∧ (∀ y ∈ its, PbAt w y) ∧ IsBlk wz gv (.cells #[.slice xa XA.len xca, .slice xb XB.len xcb] 128) ∧
          Hid (R = (ssM its && sameB rs rs')) ∧ Only [] w wz ∧ pbWt its + 2 * rs.cnt + 1 ≤ gk ∧ pbWt its + 2 * rs.cnt ≤ 250000)
        case atStart =>
          refine ⟨ini, 0, XA, XB, xs, ys, fq, gq, rfl, ?_, by omega, Hll.out.symm, hca, hcb, HEA.out.1, HEB.out.1, fun h => ?_, fun h => ?_, Hpop2.out, fun g hg => ?_, fun y hy => Hits.out y (by simp [hy]), Hv.out, HRx, HO2.out, by omega, by omega⟩
          · have := XA.len_cnt; omega
          · obtain ⟨g, p1, p2, p3⟩ := HEA.out.2 h
            exact ⟨g, p1, p2, by rw [Nat.zero_mul]; exact p3⟩
          · obtain ⟨g, p1, p2, p3⟩ := HEB.out.2 (by have := Hll.out; omega)
            exact ⟨g, p1, p2, by rw [Nat.zero_mul]; exact p3⟩
          · have := mem_ownL.1 hg
            simp only [Value.ownBlock, Option.some.injEq] at this
            omega
        case round =>
          obtain ⟨its, j, rs, rs', xr, yr, fr, gr, rfl, hgj, hjl, hll2, hcr, hcr', hE, hF, hra, hrb, hown, hne, hits, hv, hRR, hO, hgk2, hwt2⟩ := hrel
          obtain ⟨av, cv, rfl⟩ := owns_slice hown
          have HOz := Lib.hid hO
          have Hown := Lib.hid hown
          have Hvz := Lib.hid hv
          have Hits2 := Lib.hid hits
          have Hne := Lib.hid hne
          have hvl := hv.lt
          have z0 := hv.cell 0
          have z1 := hv.cell 1
          have hits0 := pbWt_len its
          clear hO hown hv hits hne v0 v1 vl
          cases rs with
          | nil =>
            have hrs' := Blk.len_zero rs' (by rw [hll2]; rfl)
            subst hrs'
            have hji : ¬ (j : Int) < (XA.len : Int) := by simp only [Blk.len] at hjl; omega
            go_wp2
            go_roundg (pbWt its)
            case measure => omega
            case rel =>
              refine ⟨its, Nat.le_refl _, by omega, Hown.out, Hits2.out, Lib.hid ?_, HOz.out, ?_⟩
              · rw [hRR.out]; simp [sameB]
              · omega
          | cons kd pl nm A B rr =>
            cases rs' with
            | nil => simp [Blk.len] at hll2
            | cons kd' pl' nm' A' B' rr' =>
              obtain ⟨va, vb, fa', fb', fr', xr', rfl, rfl, hA, hB, hE'⟩ := hE
              obtain ⟨va', vb', ga', gb', gr', yr', rfl, rfl, hA', hB', hF'⟩ := hF
              obtain ⟨aa, ca, rfl, -⟩ := RowE.slice hA
              obtain ⟨ab, cb, rfl, -⟩ := RowE.slice hB
              obtain ⟨aa', ca', rfl, -⟩ := RowE.slice hA'
              obtain ⟨ab', cb', rfl, -⟩ := RowE.slice hB'
              obtain ⟨gx, hxa, hgx, hrx⟩ := hra (by simp [Blk.len])
              obtain ⟨gy, hxb, hgy, hry⟩ := hrb (by simp [Blk.len])
              subst hxa hxb
              have hcA : A.cnt ≤ 100000 ∧ B.cnt ≤ 100000 ∧ rr.cnt ≤ 100000 ∧ A'.cnt ≤ 100000 ∧ B'.cnt ≤ 100000 ∧ rr'.cnt ≤ 100000 := by simp only [Blk.cnt] at hcr hcr'; omega
              have hjB : j < 1000000 := by have := XA.len_cnt; omega
              have hla := A.len_cnt
              have hlb := B.len_cnt
              have hla' := A'.len_cnt
              have hlb' := B'.len_cnt
              have HPA : Hid (PbAt w ⟨aa, ca, A, aa', ca', A'⟩) := Lib.hid ⟨⟨fa', hA⟩, ⟨ga', hA'⟩, hcA.1, hcA.2.2.2.1⟩
              have HPB : Hid (PbAt w ⟨ab, cb, B, ab', cb', B'⟩) := Lib.hid ⟨⟨fb', hB⟩, ⟨gb', hB'⟩, hcA.2.1, hcA.2.2.2.2.1⟩
              have hrz := rangeAt_only hrx HOz.out hgx (by simp)
              have hry2 := rangeAt_only hry HOz.out hgy (by simp)
              have k0 : wr.cell? ⟨gx, j * 5, none⟩ = some (.int .i64 kd) := hrz 0 _ rfl
              have k1 : wr.cell? ⟨gx, j * 5 + 1, none⟩ = some (.int .i64 pl) := hrz 1 _ rfl
              have k2 : wr.cell? ⟨gx, j * 5 + 2, none⟩ = some (.string ⟨nm.toArray⟩) := hrz 2 _ rfl
              have k3 : wr.cell? ⟨gx, j * 5 + 3, none⟩ = some (.slice aa A.len ca) := hrz 3 _ rfl
              have k4 : wr.cell? ⟨gx, j * 5 + 4, none⟩ = some (.slice ab B.len cb) := hrz 4 _ rfl
              have m0 : wr.cell? ⟨gy, j * 5, none⟩ = some (.int .i64 kd') := hry2 0 _ rfl
              have m1 : wr.cell? ⟨gy, j * 5 + 1, none⟩ = some (.int .i64 pl') := hry2 1 _ rfl
              have m2 : wr.cell? ⟨gy, j * 5 + 2, none⟩ = some (.string ⟨nm'.toArray⟩) := hry2 2 _ rfl
              have m3 : wr.cell? ⟨gy, j * 5 + 3, none⟩ = some (.slice aa' A'.len ca') := hry2 3 _ rfl
              have m4 : wr.cell? ⟨gy, j * 5 + 4, none⟩ = some (.slice ab' B'.len cb') := hry2 4 _ rfl
              have hgxz : gx < wr.heap.size := Nat.lt_of_lt_of_le hgx HOz.out.size
              have hgyz : gy < wr.heap.size := Nat.lt_of_lt_of_le hgy HOz.out.size
              have Hrx := Lib.hid (fun i u (hu : xr'[i]? = some u) => hrx (i + 5) u hu)
              have Hry := Lib.hid (fun i u (hu : yr'[i]? = some u) => hry (i + 5) u hu)
              have HEs := Lib.hid (And.intro hE' hF')
              have hji : (j : Int) < (XA.len : Int) := by simp only [Blk.len] at hjl; omega
              have hjb : (j : Int) < (XB.len : Int) := by have := Hll.out; omega
              have hj0 : (0 : Int) ≤ (j : Int) := by omega
              have hOx := ((Only.refl [] wr).alloc (.cells #[.int .i64 kd, .int .i64 pl, .string ⟨nm.toArray⟩, .slice aa A.len ca, .slice ab B.len cb] 96)).alloc (.cells #[.int .i64 kd', .int .i64 pl', .string ⟨nm'.toArray⟩, .slice aa' A'.len ca', .slice ab' B'.len cb'] 96)
              have hq8 := (IsBlk.made wr (.cells #[.int .i64 kd, .int .i64 pl, .string ⟨nm.toArray⟩, .slice aa A.len ca, .slice ab B.len cb] 96)).alloc (.cells #[.int .i64 kd', .int .i64 pl', .string ⟨nm'.toArray⟩, .slice aa' A'.len ca', .slice ab' B'.len cb'] 96)
              have hq9 := IsBlk.made (wr.alloc (.cells #[.int .i64 kd, .int .i64 pl, .string ⟨nm.toArray⟩, .slice aa A.len ca, .slice ab B.len cb] 96)) (.cells #[.int .i64 kd', .int .i64 pl', .string ⟨nm'.toArray⟩, .slice aa' A'.len ca', .slice ab' B'.len cb'] 96)
              have hs8 : (wr.alloc (.cells #[.int .i64 kd, .int .i64 pl, .string ⟨nm.toArray⟩, .slice aa A.len ca, .slice ab B.len cb] 96)).heap.size = wr.heap.size + 1 := by simp
              rw [hs8] at hq9
              have hot : ∀ g ∈ ownL (.slice av its.length cv), w1.heap.size ≤ g ∧ g < wr.heap.size := fun g hg => World.ownsRow.lt Hown.out g (mem_ownL.1 hg)
              have Hown2 := Lib.hid (owns_keep Hown.out hOx (by simp))
              have Hv2 := Lib.hid (Hvz.out.only hOx (by simp))
              have HOb := Lib.hid (HOz.out.plus hOx)
              have hszb := hOx.size
              clear hA hB hA' hB' hE' hF' hra hrb hrx hry hrz hry2 hOx
              go_upto_region 13 with fail
              generalize hWb : (wr.alloc (.cells #[.int .i64 kd, .int .i64 pl, .string ⟨nm.toArray⟩, .slice aa A.len ca, .slice ab B.len cb] 96)).alloc (.cells #[.int .i64 kd', .int .i64 pl', .string ⟨nm'.toArray⟩, .slice aa' A'.len ca', .slice ab' B'.len cb'] 96) = wb at *
              clear hWb hs8 k0 k1 k2 k3 k4 m0 m1 m2 m3 m4 z0 z1
              have hq9l := hq9.lt
              generalize hq9e : wr.heap.size + 1 = q9 at *
              generalize hq8e : wr.heap.size = q8 at *
              have a0 := hq8.cell 0
              have a2 := hq8.cell 2
              have b0 := hq9.cell 0
              have b2 := hq9.cell 2
              have hq8l := hq8.lt
              have H8 := Lib.hid hq8
              have H9 := Lib.hid hq9
              clear hq8 hq9
              have HRv0 := Lib.hid hRR.out
              clear hRR
              by_cases hk : kd = kd'
              · have hki : ((kd : Int) == (kd' : Int)) = true := by simp; omega
                by_cases hn : nm = nm'
                · subst hk hn
                  have hnb2 : (nm == nm) = true := beq_self_eq_true _
                  have HRv : Hid (R = (ssM its && (sameB A A' && (sameB B B' && sameB rr rr')))) := Lib.hid (by rw [HRv0.out, sameB]; simp [Bool.and_assoc])
                  clear HRv0
                  go_upto_region 15 with fail
                  clear a0 a2 b0 b2
                  have a3 := H8.out.cell 3
                  have b3 := H9.out.cell 3
                  go_cut [69] (fun sb wx => sb = .bool (decide (0 < A.len + A'.len)) ∧ wb = wx)
                  case first =>
                    by_cases hz : 0 < A.len + A'.len
                    · have hzi : (0 : Int) < (A.len : Int) + (A'.len : Int) := by omega
                      have hzd : decide (0 < A.len + A'.len) = true := by simp [hz]
                      have Hzd := Lib.hid hzd
                      clear hz hzd
                      go_wp2_with fail
                      go_meet
                      exact ⟨by rw [Hzd.out], rfl⟩
                    · have hzi : ¬ (0 : Int) < (A.len : Int) + (A'.len : Int) := by omega
                      have hzd : decide (0 < A.len + A'.len) = false := by simp; omega
                      have Hzd := Lib.hid hzd
                      clear hz hzd
                      go_wp2_with fail
                      go_meet
                      exact ⟨by rw [Hzd.out], rfl⟩
                  case rest =>
                  obtain ⟨rfl, rfl⟩ := hcut
                  go_upto_if 69 with fail
                  go_cut [5] (fun tv wx => wx.ownsRow w1.heap.size 128 2 tv (addP its ⟨aa, ca, A, aa', ca', A'⟩).length (pbCells (addP its ⟨aa, ca, A, aa', ca', A'⟩)) ∧ Only (ownL (.slice av its.length cv)) wb wx ∧ ∀ g ∈ ownL tv, g ∈ ownL (.slice av its.length cv) ∨ wb.heap.size ≤ g)
                  case first =>
                    by_cases hz : 0 < A.len + A'.len
                    · have hzd : decide (0 < A.len + A'.len) = true := by simp [hz]
                      rw [hzd]
                      have Hadd : Hid (addP its ⟨aa, ca, A, aa', ca', A'⟩ = its ++ [⟨aa, ca, A, aa', ca', A'⟩]) := Lib.hid (by unfold addP; rw [if_neg (by simp only; omega)])
                      have hOp := (Only.refl [] wb).alloc (.cells #[.slice aa A.len ca, .slice aa' A'.len ca'] 128)
                      have hqp := IsBlk.made wb (.cells #[.slice aa A.len ca, .slice aa' A'.len ca'] 128)
                      have Hp0 := Lib.hid (hqp.cell 0)
                      have Hp1 := Lib.hid (hqp.cell 1)
                      have Hown3 := Lib.hid (owns_keep Hown2.out hOp (by simp))
                      have HOp := Lib.hid hOp
                      have hbs : w1.heap.size ≤ wb.heap.size := by omega
                      have hils : its.length ≤ 1000000 := by omega
                      clear hOp hqp hz hzd
                      go_wp2_with (at_builtin; refine wpList_append_pr rfl _ _ rfl w1.heap.size _ its.length _ rfl Hown3.out wb.heap.size 1 _ _ rfl rfl rfl Hp0.out Hp1.out hils (Nat.le_trans hbs HOp.out.size) ?_; intro v' w6 h5 hg5 hg6)
                      go_meet
                      rw [Hadd.out, pbCells_snoc, List.length_append]
                      exact ⟨h5, HOp.out.then hg5 (ownL (.slice av its.length cv)) (by simp) (fun i hi => .inl hi), fun g hg => by
                        rcases hg6 g hg with h | h
                        · exact .inl h
                        · exact .inr (Nat.le_trans HOp.out.size h)⟩
                    · have hzd : decide (0 < A.len + A'.len) = false := by simp; omega
                      rw [hzd]
                      have Hadd : Hid (addP its ⟨aa, ca, A, aa', ca', A'⟩ = its) := Lib.hid (by unfold addP; rw [if_pos (by simp only; omega)])
                      clear hz hzd
                      go_wp2_with fail
                      go_meet
                      rw [Hadd.out]
                      exact ⟨Hown2.out, Only.refl _ _, fun g hg => .inl hg⟩
                  case rest =>
                  obtain ⟨hown5, hO5, hg5⟩ := hcut
                  generalize wc = w5 at *
                  obtain ⟨a5, c5, rfl⟩ := owns_slice hown5
                  have h85 := H8.out.only hO5 (fun hm => by have := (hot _ hm).2; omega)
                  have h95 := H9.out.only hO5 (fun hm => by have := (hot _ hm).2; omega)
                  have Hv5 := Lib.hid (Hv2.out.only hO5 (fun hm => Hne.out _ hm rfl))
                  have HO5 := Lib.hid (HOb.out.then hO5 [] (by simp) (fun g hg => .inr (by have := (hot g hg).1; omega)))
                  have hsz5 := hO5.size
                  have a4 := h85.cell 4
                  have b4 := h95.cell 4
                  have al := h85.lt
                  have bl := h95.lt
                  have Hown5 := Lib.hid hown5
                  have hot5 : ∀ g ∈ ownL (.slice a5 (addP its ⟨aa, ca, A, aa', ca', A'⟩).length c5), w1.heap.size ≤ g ∧ g ≠ gv := fun g hg => by
                    refine ⟨(World.ownsRow.lt Hown5.out g (mem_ownL.1 hg)).1, ?_⟩
                    rcases hg5 g hg with h | h
                    · exact Hne.out g h
                    · have := Hv2.out.lt; omega
                  have hpl := pbWt_len (addP its ⟨aa, ca, A, aa', ca', A'⟩)
                  have hpw := addP_wt its ⟨aa, ca, A, aa', ca', A'⟩
                  have hils : (addP its ⟨aa, ca, A, aa', ca', A'⟩).length ≤ 1000000 := by simp only [Blk.cnt] at hwt2 hpw; omega
                  clear a3 b3 h85 h95 hown5 hO5
                  by_cases hz : 0 < B.len + B'.len
                  · have hzi : (0 : Int) < (B.len : Int) + (B'.len : Int) := by omega
                    have Hadd : Hid (addP (addP its ⟨aa, ca, A, aa', ca', A'⟩) ⟨ab, cb, B, ab', cb', B'⟩ = addP its ⟨aa, ca, A, aa', ca', A'⟩ ++ [⟨ab, cb, B, ab', cb', B'⟩]) := Lib.hid (by unfold addP; rw [if_neg (show ¬ (B.len + B'.len = 0) by omega)])
                    have hOp := (Only.refl [] w5).alloc (.cells #[.slice ab B.len cb, .slice ab' B'.len cb'] 128)
                    have hqp := IsBlk.made w5 (.cells #[.slice ab B.len cb, .slice ab' B'.len cb'] 128)
                    have Hp0 := Lib.hid (hqp.cell 0)
                    have Hp1 := Lib.hid (hqp.cell 1)
                    have Hown6 := Lib.hid (owns_keep Hown5.out hOp (by simp))
                    have HOp := Lib.hid hOp
                    have hbs : w1.heap.size ≤ w5.heap.size := by omega
                    clear hOp hqp hz
                    go_wp2_with (at_builtin; refine wpList_append_pr rfl _ _ rfl w1.heap.size _ _ _ rfl Hown6.out w5.heap.size 1 _ _ rfl rfl rfl Hp0.out Hp1.out hils (Nat.le_trans hbs HOp.out.size) ?_; intro v' w6 h6 hg6 hg7)
                    have hownF : w6.ownsRow w1.heap.size 128 2 v' (addP (addP its ⟨aa, ca, A, aa', ca', A'⟩) ⟨ab, cb, B, ab', cb', B'⟩).length (pbCells (addP (addP its ⟨aa, ca, A, aa', ca', A'⟩) ⟨ab, cb, B, ab', cb', B'⟩)) := by
                      rw [Hadd.out, pbCells_snoc, List.length_append]; exact h6
                    have hneF : ∀ g ∈ ownL v', g ≠ gv := fun g hg => by
                      rcases hg7 g hg with h | h
                      · exact (hot5 g h).2
                      · have := Hv5.out.lt; have := HOp.out.size; omega
                    have hvF := (Hv5.out.only HOp.out (by simp)).only hg6 (fun hm => (hot5 _ hm).2 rfl)
                    have hOF := (HO5.out.plus HOp.out).then hg6 [] (by simp) (fun g hg => .inr (by have := (hot5 g hg).1; omega))
                    go_roundg rr.len
                    case measure => simp only [Blk.len] at hgj; omega
                    case rel =>
                      refine ⟨_, j + 1, rr, rr', xr', yr', fr', gr', by go_num, Nat.le_refl _, by simp only [Blk.len] at hjl; omega, by simp only [Blk.len] at hll2; omega, hcA.2.2.1, hcA.2.2.2.2.2, HEs.out.1, HEs.out.2, fun h => ⟨gx, rfl, hgx, fun i u hu => ?_⟩, fun h => ⟨gy, rfl, hgy, fun i u hu => ?_⟩, hownF, hneF, fun y hy => ?_, hvF, Lib.hid ?_, hOF, ?_, ?_⟩
                      · have := Hrx.out i u hu
                        rw [show (j + 1) * 5 + i = j * 5 + (i + 5) by omega]
                        exact this
                      · have := Hry.out i u hu
                        rw [show (j + 1) * 5 + i = j * 5 + (i + 5) by omega]
                        exact this
                      · rcases mem_addP hy with h | rfl
                        · rcases mem_addP h with h | rfl
                          · exact Hits2.out y h
                          · exact HPA.out
                        · exact HPB.out
                      · rw [addP_ss, addP_ss, HRv.out]
                        simp only [Bool.and_assoc]
                      · have h1 := addP_wt (addP its ⟨aa, ca, A, aa', ca', A'⟩) ⟨ab, cb, B, ab', cb', B'⟩
                        have h2 := addP_wt its ⟨aa, ca, A, aa', ca', A'⟩
                        simp only [Blk.cnt] at hgk2 h1 h2 ⊢
                        omega
                      · have h1 := addP_wt (addP its ⟨aa, ca, A, aa', ca', A'⟩) ⟨ab, cb, B, ab', cb', B'⟩
                        have h2 := addP_wt its ⟨aa, ca, A, aa', ca', A'⟩
                        simp only [Blk.cnt] at hwt2 h1 h2 ⊢
                        omega

                  · have hzi : ¬ (0 : Int) < (B.len : Int) + (B'.len : Int) := by omega
                    have Hadd : Hid (addP (addP its ⟨aa, ca, A, aa', ca', A'⟩) ⟨ab, cb, B, ab', cb', B'⟩ = addP its ⟨aa, ca, A, aa', ca', A'⟩) := Lib.hid (by rw [addP, if_pos (show B.len + B'.len = 0 by omega)])
                    clear hz
                    go_wp2
                    have hownF : w5.ownsRow w1.heap.size 128 2 (.slice a5 (addP its ⟨aa, ca, A, aa', ca', A'⟩).length c5) (addP (addP its ⟨aa, ca, A, aa', ca', A'⟩) ⟨ab, cb, B, ab', cb', B'⟩).length (pbCells (addP (addP its ⟨aa, ca, A, aa', ca', A'⟩) ⟨ab, cb, B, ab', cb', B'⟩)) := by
                      rw [Hadd.out]; exact Hown5.out
                    go_roundg rr.len
                    case measure => simp only [Blk.len] at hgj; omega
                    case rel =>
                      refine ⟨_, j + 1, rr, rr', xr', yr', fr', gr', by go_num, Nat.le_refl _, by simp only [Blk.len] at hjl; omega, by simp only [Blk.len] at hll2; omega, hcA.2.2.1, hcA.2.2.2.2.2, HEs.out.1, HEs.out.2, fun h => ⟨gx, rfl, hgx, fun i u hu => ?_⟩, fun h => ⟨gy, rfl, hgy, fun i u hu => ?_⟩, hownF, fun g hg => (hot5 g hg).2, fun y hy => ?_, Hv5.out, Lib.hid ?_, HO5.out, ?_, ?_⟩
                      · have := Hrx.out i u hu
                        rw [show (j + 1) * 5 + i = j * 5 + (i + 5) by omega]
                        exact this
                      · have := Hry.out i u hu
                        rw [show (j + 1) * 5 + i = j * 5 + (i + 5) by omega]
                        exact this
                      · rcases mem_addP hy with h | rfl
                        · rcases mem_addP h with h | rfl
                          · exact Hits2.out y h
                          · exact HPA.out
                        · exact HPB.out
                      · rw [addP_ss, addP_ss, HRv.out]
                        simp only [Bool.and_assoc]
                      · have h1 := addP_wt (addP its ⟨aa, ca, A, aa', ca', A'⟩) ⟨ab, cb, B, ab', cb', B'⟩
                        have h2 := addP_wt its ⟨aa, ca, A, aa', ca', A'⟩
                        simp only [Blk.cnt] at hgk2 h1 h2 ⊢
                        omega
                      · have h1 := addP_wt (addP its ⟨aa, ca, A, aa', ca', A'⟩) ⟨ab, cb, B, ab', cb', B'⟩
                        have h2 := addP_wt its ⟨aa, ca, A, aa', ca', A'⟩
                        simp only [Blk.cnt] at hwt2 h1 h2 ⊢
                        omega

                · have hnb2 : (nm == nm') = false := by simp [hn]
                  have HR2 : Hid (R = false) := Lib.hid (by rw [HRv0.out, sameB]; simp [hn])
                  clear hn
                  go_wp2
                  go_ret
                  rw [HR2.out]
                  exact ⟨rfl, HOb.out⟩
              · have hki : ((kd : Int) == (kd' : Int)) = false := by simp; omega
                have HR2 : Hid (R = false) := Lib.hid (by rw [HRv0.out, sameB]; simp [hk])
                have hk2 : (kd == kd') = false := by simp [hk]
                go_wp2
                go_ret
                rw [HR2.out]
                exact ⟨rfl, HOb.out⟩
      · have hnb : ((XA.len : Int) == (XB.len : Int)) = false := by simp; omega
        have HR2 : Hid (R = false) := Lib.hid (by rw [HRx.out, sameB_len _ _ hll, Bool.and_false])
        clear hll
        go_wp2
        go_ret
        rw [HR2.out]
        exact ⟨rfl, HO2.out⟩

end Go.Proofs.Ytonpfmhdefhhmaa
