/-
  For the law SectJoins: a number within a bound; rows and their Parts.
-/
import Derived.Test.YtiegkdkbkkbjpaaSectAA
import Derived.Test.YtiegkdkbkkbjpaaSectX
namespace Go.Proofs.Ytiegkdkbkkbjpaa
open Go.RowKit

theorem within_t (w : World) (x n : Int) (hn0 : 0 < n) (hn : n < 1000000000000) :
    Calls Try.prog 20 #[.int .i64 x, .int .i64 n] w fun e w' => ∃ t : Nat, (t : Int) < n ∧ e = .returned (.int .i64 t) ∧ w = w' := by
  refine (within_any w x n hn0 hn).mono fun e w' ⟨h1, h2⟩ => ?_
  obtain ⟨t, ht⟩ := Int.eq_ofNat_of_zero_le (Int.emod_nonneg x (show n ≠ 0 by omega))
  have hlt := Int.emod_lt_of_pos x hn0
  exact ⟨t, by rw [← ht]; exact hlt, by rw [h1, ht], h2⟩

theorem owns_parts {w : World} {B B' n : Nat} {t : TypeId} {v : Value} {ps : List PartM} {xs : List Value} (ho : w.ownsRow B t 5 v n xs) (hn : ps.length = n) (hp : ∀ i p, ps[i]? = some p → PieceAt w B' xs i p) : ∃ a cap, v = .slice a n cap ∧ PartsAt w a n ps := by
  subst hn
  rcases ho.2 with ⟨rfl, h0⟩ | ⟨g, cap, cur, rfl, hb, hg, hnc, _, hsz, htake⟩
  · exact ⟨none, 0, by rw [h0], rfl, fun h => by omega⟩
  · refine ⟨_, cap, rfl, rfl, fun _ => ⟨g, 0, rfl, IsBlk.lt hg, fun i p hi => ?_⟩⟩
    obtain ⟨gi, ci, cur', hc, hb', hr, _⟩ := hp i p hi
    refine ⟨some ⟨gi, 0, none⟩, ci, fun j u hu => ?_, rfl, fun _ => ⟨gi, 0, rfl, hb'.lt, hr⟩⟩
    have := World.ownsRow.cells ho (g := g) rfl (i * 5 + j) u (hc j u hu)
    rw [Addr.add_mid] at this
    rw [Nat.zero_add, ← Nat.zero_add (i * 5 + j)] at *
    exact this

theorem RefRow.piece {w : World} {B g c n : Nat} {ps : List PartM} (h : RefRow w B (.slice (some ⟨g, 0, none⟩) n c) ps) (k : Nat) (hk : k < ps.length) :
    ∃ gi ci cu, w.rangeAt g (k * 5) (partC (ps[k]).g (ps[k]).r (ps[k]).n (ps[k]).o (some ⟨gi, 0, none⟩) (ps[k]).d.length ci) ∧ IsBlk w gi (.cells cu 5) ∧ w.rangeAt gi 0 (bv (ps[k]).d) ∧ (ps[k]).d.length ≤ ci ∧ B ≤ gi := by
  obtain ⟨xs, ho, hpt⟩ := h
  obtain ⟨gi, ci, cu, hc, hbi, hr, hB, hcl⟩ := hpt k _ (List.getElem?_eq_getElem hk)
  refine ⟨gi, ci, cu, fun j u hu => ?_, hbi, hr, hcl, hB⟩
  have := World.ownsRow.cells ho (g := g) rfl (k * 5 + j) u (hc j u hu)
  rw [Addr.add_mid, Nat.zero_add] at this
  exact this

/-- What the switch of SectJoins leaves: some Parts, not many; nothing old has turned. -/
def Sw (w : World) (v : Value) (wx : World) : Prop := ∃ a K c ps, v = .slice a K c ∧ PartsAt wx a K ps ∧ K ≤ 100 ∧ (∀ p ∈ ps, p.d.length ≤ 52) ∧ Only [] w wx
theorem Sw.of {w wx : World} {g c : Nat} {ps : List PartM} (h : MRow wx g ps) (hl : ps.length ≤ 100) (hd : ∀ p ∈ ps, p.d.length ≤ 52) (hO : Only [] w wx) {n : Nat} (hn : n = ps.length) : Sw w (.slice (some ⟨g, 0, none⟩) n c) wx := by
  subst hn
  exact ⟨_, _, _, _, rfl, h.parts, hl, hd, hO⟩

theorem parts_few (n : Nat) (h : n ≤ 400) : partsN n ≤ 8 := by unfold partsN; omega
theorem cutP_d {g r : Int} {b : List UInt8} : ∀ p ∈ cutP g r b, p.d.length = 52 := by
  intro p hp
  obtain ⟨i, hi⟩ := List.getElem?_of_mem hp
  have hil : i < partsN b.length := by rw [← length_cutP g r b]; exact (List.getElem?_eq_some_iff.1 hi).1
  rw [(cutP_get g r b i _ hi).1]
  exact length_pieceB _ _ (by rw [length_wholeB]; omega)

theorem part_keep {w W : World} {b o : Nat} {g r n f : Int} {da : Option Addr} {k dc : Nat} (hr : w.rangeAt b o (partC g r n f da k dc)) (hb : b < w.heap.size) (hO : Only [] w W) :
    W.cell? ⟨b, o, none⟩ = some (.int .i64 g) ∧ W.cell? ⟨b, o + 1, none⟩ = some (.int .i64 r) ∧ W.cell? ⟨b, o + 2, none⟩ = some (.int .i64 n) ∧ W.cell? ⟨b, o + 3, none⟩ = some (.int .i64 f) ∧ W.cell? ⟨b, o + 4, none⟩ = some (.slice da k dc) :=
  ⟨only_cell hO hb (hr 0 _ rfl), only_cell hO hb (hr 1 _ rfl), only_cell hO hb (hr 2 _ rfl), only_cell hO hb (hr 3 _ rfl), only_cell hO hb (hr 4 _ rfl)⟩

/-- append of one Part of the package sect to a row of one's own. -/
theorem wp_append_sec {w : World} {o : Oper} {a : Act} {K : Act → World → Prop} {Q : Exit → Act → World → Prop} (s x : Operand)
    (ho : o.op = .call { callee := .builtin .append, args := #[s, x], argTypes := #[46, 46] })
    (B : Nat) (v : Value) (ps : List PartM) (hs : a.eval s = v) (hrow : SecRow w B v ps)
    (ad : Nat) (p : PartM) (gi ci : Nat) (cur : Array Value) (hx : a.eval x = .slice (some ⟨ad, 0, none⟩) 1 1)
    (hnews : ∀ j u, (partC p.g p.r p.n p.o (some ⟨gi, 0, none⟩) p.d.length ci)[j]? = some u → w.cell? ((⟨ad, 0, none⟩ : Addr).add j) = some u)
    (hg : IsBlk w gi (.cells cur 5)) (hr : w.rangeAt gi 0 (bv p.d)) (hB : B ≤ gi) (hci : p.d.length ≤ ci) (hpl : ps.length ≤ 1000) (hbase : B ≤ w.heap.size)
    (h : ∀ v' w', SecRow w' B v' (ps ++ [p]) → (∀ w0 : World, w0.heap.size = B → Only [] w0 w → Only [] w0 w') → K (a.put o.dst v') w') : o.wp Try.prog a w K Q := by
  obtain ⟨i0, hi, hz0, hz1, hz2⟩ := info_parts infoPart
  obtain ⟨xs, hxs, hpp⟩ := hrow
  refine wp_append_own w s x _ ho B _ i0 _ 5 56 Try.underlying46 hi hz0 hz1 hz2 rfl (by decide) v ps.length xs hs hxs ⟨ad, 0, none⟩ 1 1 (partC p.g p.r p.n p.o (some ⟨gi, 0, none⟩) p.d.length ci) hx rfl hnews (partC_one _ _ _ _ _ _ _) (by unfold maxLen; omega) (by omega) hbase ?_
  intro v' w' h1 h2 h3
  refine h v' w' (SecRow.snoc hxs hpp hg hr hB hci h1 h2) (fun w0 h0 hO => ?_)
  subst h0
  exact own_only hxs h2 hO

theorem RefRow.mrowAt {w : World} {B g c n : Nat} {ps : List PartM} (h : RefRow w B (.slice (some ⟨g, 0, none⟩) n c) ps) (hp : 0 < ps.length) : MRow w g ps ∧ B ≤ g := by
  obtain ⟨g', c', e, hM, _, hB⟩ := h.mrow hp
  injection e with e _ _
  injection e with e
  injection e with e
  subst e
  exact ⟨hM, hB⟩
theorem MRow.there {w : World} {g k : Nat} {ps : List PartM} (h : MRow w g ps) (hk : k < ps.length) : w.there g (k * 5) 5 := by
  obtain ⟨cur, hb, hs⟩ := h.row
  exact there_blk hb _ _ (by omega)
theorem owns_empty (w : World) (t : TypeId) : (w.alloc (.cells #[] t)).ownsRow w.heap.size t 5 (.slice (some ⟨w.heap.size, 0, none⟩) 0 0) 0 [] := World.ownsRow_made w #[] 0 (Nat.le_refl _) (by simp [maxLen]) (by simp)
theorem without_parts {w w' : World} {B B' n k : Nat} {t : TypeId} {v : Value} {ps : List PartM} {xs : List Value} (hxl : xs.length = ps.length * 5) (hp : ∀ i p, ps[i]? = some p → PieceAt w B xs i p) (hO : Only [] w w') (hk : k < ps.length)
    (ho : w'.ownsRow B' t 5 v n (xs.take (k * 5) ++ xs.drop ((k + 1) * 5))) (hn : n + 1 = ps.length) : ∃ a cap, v = .slice a n cap ∧ PartsAt w' a n (ps.take k ++ ps.drop (k + 1)) := by
  refine owns_parts (B' := B) ho (by simp; omega) fun i p hi => ?_
  have lt5 : ∀ gi ci j u, (partC p.g p.r p.n p.o (some ⟨gi, 0, none⟩) p.d.length ci)[j]? = some u → j < 5 := fun gi ci j u hu => (List.getElem?_eq_some_iff.1 hu).1
  by_cases hik : i < k
  · rw [List.getElem?_append_left (by simp; omega), List.getElem?_take_of_lt hik] at hi
    obtain ⟨gi, ci, cu, hc, rest⟩ := piece_more (hp i p hi) hO
    refine ⟨gi, ci, cu, fun j u hu => ?_, rest⟩
    have := lt5 _ _ _ _ hu
    rw [List.getElem?_append_left (by simp; omega), List.getElem?_take_of_lt (by omega)]
    exact hc j u hu
  · rw [List.getElem?_append_right (by simp; omega), List.getElem?_drop] at hi
    have hil : (ps.take k).length = k := by simp; omega
    rw [hil, show k + 1 + (i - k) = i + 1 by omega] at hi
    obtain ⟨gi, ci, cu, hc, rest⟩ := piece_more (hp (i + 1) p hi) hO
    refine ⟨gi, ci, cu, fun j u hu => ?_, rest⟩
    have := lt5 _ _ _ _ hu
    have hxl' : (xs.take (k * 5)).length = k * 5 := by simp; omega
    rw [List.getElem?_append_right (by omega), List.getElem?_drop, hxl', show (k + 1) * 5 + (i * 5 + j - k * 5) = (i + 1) * 5 + j by omega]
    exact hc j u hu
theorem owns_one {w : World} {B n : Nat} {t : TypeId} {v : Value} {ps : List PartM} {xs : List Value} (ho : w.ownsRow B t 5 v ps.length xs) (hp : ∀ i p, ps[i]? = some p → PieceAt w n xs i p) : ∀ u ∈ xs, u.oneCell' = true := by
  intro u hu
  obtain ⟨x, hx⟩ := List.getElem?_of_mem hu
  have hxl : x < ps.length * 5 := by rw [← ho.1]; exact (List.getElem?_eq_some_iff.1 hx).1
  obtain ⟨gi, ci, cu, hc, _⟩ := hp (x / 5) _ (List.getElem?_eq_getElem (by omega))
  have h5 : x % 5 < 5 := Nat.mod_lt _ (by omega)
  have hh := hc (x % 5) _ (List.getElem?_eq_getElem (by simp [partC]; omega))
  rw [show x / 5 * 5 + x % 5 = x by omega, hx] at hh
  injection hh with hh
  rw [hh]
  exact partC_one _ _ _ _ _ _ _ _ (List.getElem_mem _)
theorem byte_wrap (x : Int) : ∃ m : Nat, m < 256 ∧ IntKind.u8.wrap x = (m : Int) := by
  have h0 : IntKind.u8.wrap x = x % 256 := by simp [IntKind.wrap, IntKind.signed, IntKind.bits]
  obtain ⟨m, hm⟩ := Int.eq_ofNat_of_zero_le (Int.emod_nonneg x (show (256 : Int) ≠ 0 by omega))
  have := Int.emod_lt_of_pos x (show (0 : Int) < 256 by omega)
  exact ⟨m, by omega, by rw [h0, hm]⟩

end Go.Proofs.Ytiegkdkbkkbjpaa
