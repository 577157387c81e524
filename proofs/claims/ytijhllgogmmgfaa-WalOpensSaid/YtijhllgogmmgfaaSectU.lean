/-
  The reference's Cut, by contracts.
-/
import Derived.Test.YtijhllgogmmgfaaSectP
import Derived.Test.YtijhllgogmmgfaaSectL
namespace Go.Proofs.Ytijhllgogmmgfaa
set_option linter.unusedVariables false
set_option maxRecDepth 100000
open Go.RowKit

theorem infoRef : (Try.prog.info? 63).map (fun i => (i.zero, i.size, i.bytes)) = some (some (.agg #[.int .i64 0, .int .i64 0, .int .i64 0, .int .i64 0, .slice none 0 0]), 5, 56) := by kernel_rfl

set_option maxHeartbeats 2000000 in
theorem refcut_bad (w : World) (g r : Int) (a : Option Addr) (len cap : Nat) (hm : mayB g r = false) :
    Calls Try.prog 23 #[.int .i64 g, .int .i64 r, .slice a len cap] w fun e w' => e = .returned (.tuple #[.slice none 0 0, .int .i64 1]) ∧ Only [] w w' := by
  have hno : Hid (¬ (1 ≤ g ∧ g ≤ 4294967295 ∧ 0 ≤ r ∧ r ≤ 65535)) := Lib.hid (fun h => by rw [mayB_iff.2 h] at hm; cases hm)
  clear hm
  by_cases h1 : g < 1
  · go_enter Try.func23, Try.ntmps23
    go_wp2
    go_ret2
    exact ⟨rfl, Only.refl _ _⟩
  · by_cases h2 : 4294967295 < g
    · go_enter Try.func23, Try.ntmps23
      go_wp2
      go_ret2
      exact ⟨rfl, Only.refl _ _⟩
    · by_cases h3 : r < 0
      · go_enter Try.func23, Try.ntmps23
        go_wp2
        go_ret2
        exact ⟨rfl, Only.refl _ _⟩
      · by_cases h4 : 65535 < r
        · go_enter Try.func23, Try.ntmps23
          go_wp2
          go_ret2
          exact ⟨rfl, Only.refl _ _⟩
        · exact absurd ⟨by omega, by omega, by omega, by omega⟩ hno.out

/-- A Part's cells within a row's, its bytes in a block of their own. -/
def PieceAt (w : World) (B : Nat) (xs : List Value) (i : Nat) (p : PartM) : Prop :=
  ∃ gi ci cur, (∀ j u, (partC p.g p.r p.n p.o (some ⟨gi, 0, none⟩) p.d.length ci)[j]? = some u → xs[i * 5 + j]? = some u) ∧ IsBlk w gi (.cells cur 5) ∧ w.rangeAt gi 0 (bv p.d) ∧ B ≤ gi ∧ p.d.length ≤ ci
/-- Parts in a row of one's own. -/
def RefRow (w : World) (B : Nat) (v : Value) (ps : List PartM) : Prop :=
  ∃ xs, w.ownsRow B 63 5 v ps.length xs ∧ ∀ i p, ps[i]? = some p → PieceAt w B xs i p
theorem RefRow.nil (w : World) (B : Nat) : RefRow w B (.slice none 0 0) [] := ⟨[], World.ownsRow_nil _ _ _ _, fun i p h => by simp at h⟩
theorem RefRow.parts {w : World} {B : Nat} {v : Value} {ps : List PartM} (h : RefRow w B v ps) : ∃ a cap, v = .slice a ps.length cap ∧ PartsAt w a ps.length ps := by
  obtain ⟨xs, ho, hp⟩ := h
  rcases ho.2 with ⟨rfl, h0⟩ | ⟨g, cap, cur, rfl, hb, hg, hnc, _, hsz, htake⟩
  · exact ⟨none, 0, by rw [h0], rfl, fun h => by omega⟩
  · refine ⟨_, cap, rfl, rfl, fun _ => ⟨g, 0, rfl, IsBlk.lt hg, fun i p hi => ?_⟩⟩
    obtain ⟨gi, ci, cur', hc, hb', hr, _⟩ := hp i p hi
    refine ⟨some ⟨gi, 0, none⟩, ci, fun j u hu => ?_, rfl, fun _ => ⟨gi, 0, rfl, hb'.lt, hr⟩⟩
    have := World.ownsRow.cells ho (g := g) rfl (i * 5 + j) u (hc j u hu)
    rw [Addr.add_mid] at this
    rw [Nat.zero_add, ← Nat.zero_add (i * 5 + j)] at *
    exact this
theorem RefRow.more {w w' : World} {B : Nat} {v : Value} {ps : List PartM} (h : RefRow w B v ps) (hO : Only [] w w') : RefRow w' B v ps := by
  obtain ⟨xs, ho, hp⟩ := h
  refine ⟨xs, ⟨ho.1, ?_⟩, fun i p hi => ?_⟩
  · rcases ho.2 with hn | ⟨g, cap, cur, rfl, hb, hg, rest⟩
    · exact .inl hn
    · exact .inr ⟨g, cap, cur, rfl, hb, IsBlk.only hg hO (by simp), rest⟩
  · obtain ⟨gi, ci, cur', hc, hb', hr, hB⟩ := hp i p hi
    exact ⟨gi, ci, cur', hc, hb'.only hO (by simp), rangeAt_only hr hO hb'.lt (by simp), hB⟩

/-- One Part more. -/
theorem RefRow.snoc {w w' : World} {B : Nat} {v v' : Value} {ps : List PartM} {xs : List Value} {p : PartM} {gi ci : Nat} {cur : Array Value}
    (hxs : w.ownsRow B 63 5 v ps.length xs) (hp : ∀ i q, ps[i]? = some q → PieceAt w B xs i q)
    (hg : IsBlk w gi (.cells cur 5)) (hr : w.rangeAt gi 0 (bv p.d)) (hB : B ≤ gi) (hci : p.d.length ≤ ci)
    (ho : w'.ownsRow B 63 5 v' (ps.length + 1) (xs ++ partC p.g p.r p.n p.o (some ⟨gi, 0, none⟩) p.d.length ci)) (hgr : w.grownBy w' v.ownBlock) : RefRow w' B v' (ps ++ [p]) := by
  have hfar : ∀ x c, IsBlk w x (.cells c 5) → some x ≠ v.ownBlock := fun x c hx e => by
    rcases hxs.2 with ⟨rfl, _⟩ | ⟨g, cap, cur', rfl, _, hg', _⟩
    · simp [Value.ownBlock] at e
    · simp [Value.ownBlock] at e; subst e
      have := IsBlk.same hx hg'
      injection this with _ h2 _
      exact absurd h2 (by decide)
  have hkeep : ∀ x c l, IsBlk w x (.cells c 5) → w.rangeAt x 0 (bv l) → IsBlk w' x (.cells c 5) ∧ w'.rangeAt x 0 (bv l) := fun x c l hx hl => by
    have e := hgr.block x hx.lt (hfar x c hx)
    exact ⟨e.trans hx, fun j u hu => (World.cell?_of_block (w := w) (a := ⟨x, 0 + j, none⟩) e).trans (hl j u hu)⟩
  have hlx := hxs.1
  refine ⟨_, by simpa using ho, fun i q hi => ?_⟩
  rcases Nat.lt_or_ge i ps.length with hlt | hge
  · rw [List.getElem?_append_left hlt] at hi
    obtain ⟨gj, cj, cur', hc, hb', hr', hB'⟩ := hp i q hi
    obtain ⟨k1, k2⟩ := hkeep gj cur' q.d hb' hr'
    refine ⟨gj, cj, cur', fun j u hu => ?_, k1, k2, hB'⟩
    have := hc j u hu
    rw [List.getElem?_append_left (List.getElem?_eq_some_iff.1 this).1]
    exact this
  · rw [List.getElem?_append_right hge] at hi
    have hi0 : i = ps.length := by have := (List.getElem?_eq_some_iff.1 hi).1; simp at this; omega
    subst hi0
    simp at hi
    subst hi
    obtain ⟨k1, k2⟩ := hkeep gi cur p.d hg hr
    refine ⟨gi, ci, cur, fun j u hu => ?_, k1, k2, hB, hci⟩
    rw [List.getElem?_append_right (by omega), show ps.length * 5 + j - xs.length = j by omega]
    exact hu

theorem pad_whole (b : List UInt8) (z : Nat) (h : 4 + b.length + z = partsN b.length * 52) : (leB 4 b.length ++ b) ++ List.replicate z 0 = wholeB b := by
  unfold wholeB; rw [List.append_assoc]; congr 3; omega

theorem owns_more {w w' : World} {B n : Nat} {t : TypeId} {v : Value} {xs : List Value} (h : w.ownsRow B t 5 v n xs) (hO : Only [] w w') : w'.ownsRow B t 5 v n xs := by
  refine ⟨h.1, ?_⟩
  rcases h.2 with hn | ⟨g, cap, cur, rfl, hb, hg, rest⟩
  · exact .inl hn
  · exact .inr ⟨g, cap, cur, rfl, hb, IsBlk.only hg hO (by simp), rest⟩
theorem part_new (W : World) (g r n o : Int) (a : Option Addr) (l c : Nat) (t : TypeId) (x : Nat) (hx : x = W.heap.size) : ∀ j u, (partC g r n o a l c)[j]? = some u → (W.alloc (.cells #[.int .i64 g, .int .i64 r, .int .i64 n, .int .i64 o, .slice a l c] t)).cell? ((⟨x, 0, none⟩ : Addr).add j) = some u := by
  subst hx
  intro j u hu
  rw [Addr.add_mid, (IsBlk.made W _).cell, Nat.zero_add]
  simpa [partC] using hu
theorem partC_one (g r n o : Int) (a : Option Addr) (l c : Nat) : ∀ u ∈ partC g r n o a l c, u.oneCell' = true := by
  intro u hu
  simp [partC] at hu
  rcases hu with rfl | rfl | rfl | rfl | rfl <;> rfl

theorem piece_more {w w' : World} {B : Nat} {xs : List Value} {i : Nat} {p : PartM} (h : PieceAt w B xs i p) (hO : Only [] w w') : PieceAt w' B xs i p := by
  obtain ⟨gi, ci, cur', hc, hb', hr, hB⟩ := h
  exact ⟨gi, ci, cur', hc, hb'.only hO (by simp), rangeAt_only hr hO hb'.lt (by simp), hB⟩
theorem cut_take (g r : Int) (b : List UInt8) (k : Nat) (h : k < partsN b.length) (N : Nat) (hN : partsN b.length = N) : (cutP g r b).take (k + 1) = (cutP g r b).take k ++ [⟨g, r, (k : Int), (N : Int), pieceB (wholeB b) k⟩] := by
  have hl : k < (cutP g r b).length := by rw [length_cutP]; exact h
  rw [take_snoc _ k hl]
  congr 2
  rw [(cutP_get g r b k _ (List.getElem?_eq_getElem hl)).1, hN]

theorem RefRow.lower {w : World} {B B' : Nat} {v : Value} {ps : List PartM} (h : RefRow w B v ps) (hB : B' ≤ B) : RefRow w B' v ps := by
  obtain ⟨xs, ho, hp⟩ := h
  refine ⟨xs, ⟨ho.1, ?_⟩, fun i p hi => ?_⟩
  · rcases ho.2 with hn | ⟨g, cap, cur, rfl, hb, rest⟩
    · exact .inl hn
    · exact .inr ⟨g, cap, cur, rfl, by omega, rest⟩
  · obtain ⟨gi, ci, cur', hc, hb', hr, hB2⟩ := hp i p hi
    exact ⟨gi, ci, cur', hc, hb', hr, by have := hB2.1; omega, hB2.2⟩
theorem own_only {w0 w w1 w' : World} {t : TypeId} {v : Value} {n : Nat} {xs : List Value} (hown : w.ownsRow w0.heap.size t 5 v n xs) (hg : w1.grownBy w' v.ownBlock) (hO : Only [] w0 w1) : Only [] w0 w' :=
  ⟨hg.os.trans hO.os, hg.tape.trans hO.tape, hg.output.trans hO.output, Nat.le_trans hO.size hg.size, fun k hk _ => (hg.block k (Nat.lt_of_lt_of_le hk hO.size) (fun e => by have := (hown.lt k e.symm).1; omega)).trans (hO.block k hk (by simp))⟩

theorem nul_snoc (b : List UInt8) (z : Nat) : (leB 4 b.length ++ b) ++ List.replicate z (0 : UInt8) ++ [UInt8.ofNat 0] = (leB 4 b.length ++ b) ++ List.replicate (z + 1) (0 : UInt8) := by
  rw [List.replicate_succ', ← List.append_assoc]
  rfl
theorem nul_len (b : List UInt8) (z K : Nat) (h : 4 + b.length + z = K) : ((leB 4 b.length ++ b) ++ List.replicate z (0 : UInt8) ++ [UInt8.ofNat 0]).length = K + 1 := by
  rw [nul_snoc, List.length_append, List.length_append, length_leB, List.length_replicate]; omega

/-- What the reference's Cut leaves where its numbers may be. -/
def RefCutTo (w : World) (g r : Int) (b : List UInt8) (N : Nat) (e : Ending) (w' : World) : Prop :=
  (N ≤ 255 → ∃ v, e = .returned (.tuple #[v, .int .i64 0]) ∧ RefRow w' w.heap.size v (cutP g r b)) ∧ (255 < N → e = .returned (.tuple #[.slice none 0 0, .int .i64 2])) ∧ Only [] w w'

set_option maxHeartbeats 8000000 in
theorem refcut_any (w : World) (g r : Int) (a : Option Addr) (cap : Nat) (b : List UInt8) (hsrc : Src w a b.length b) (hm : mayB g r = true) (hl : b.length ≤ 100000) :
    Calls Try.prog 23 #[.int .i64 g, .int .i64 r, .slice a b.length cap] w (RefCutTo w g r b (partsN b.length)) := by
  obtain ⟨m1, m2, m3, m4⟩ := mayB_iff.1 hm
  have n1 : ¬ g < 1 := by omega
  have n2 : ¬ 4294967295 < g := by omega
  have n3 : ¬ r < 0 := by omega
  have n4 : ¬ 65535 < r := by omega
  clear m1 m2 m3 m4 hm
  have hle := partsN_le b.length
  have hup : partsN b.length * 52 < 4 + b.length + 52 := by unfold partsN; omega
  have Hs := Lib.hid hsrc
  have Hpad := Lib.hid (fun z h => pad_whole b z h)
  have hlw := Lib.hid (length_wholeB b)
  have hcutP : Hid (cutP g r b = (List.range (partsN b.length)).map fun i : Nat => ⟨g, r, (i : Int), (partsN b.length : Int), pieceB (wholeB b) i⟩) := Lib.hid rfl
  clear hsrc
  generalize hN : partsN b.length = N at *
  have HNb : Hid (partsN b.length = N) := Lib.hid hN
  clear hN
  go_enter Try.func23, Try.ntmps23
  go_wp2_with fail
  refine Calls.mono (le_4 _ w.heap.size (.slice none 0 0) b.length [] (OwnB.nil _ _) (Nat.le_refl _) (by simp) (by omega)) ?_
  rintro e w1 ⟨v1, rfl, h1, hb1⟩
  rw [List.nil_append] at h1
  obtain ⟨x1, c1, cur1, hv1, _, _, _, _⟩ := h1.full (by rw [length_leB]; omega)
  rw [length_leB] at hv1
  subst hv1
  have hO1 := only_below hb1
  have hsz1 := hO1.size
  have H1 := Lib.hid h1
  have Hb1 := Lib.hid hb1
  have Hs1 := Lib.hid (Hs.out.more hO1)
  clear h1 hb1 hO1
  go_wp2_with (at_builtin; refine wpList_append_b rfl _ _ rfl w.heap.size _ _ rfl H1.out a b.length cap b rfl Hs1.out (by rw [length_leB]; omega) hsz1 ?_; intro v2 w2 h2 hb2 hn2; clear hn2)
  have hbel2 := Hb1.out.trans hb2
  have H2 := Lib.hid h2
  have Hbel2 := Lib.hid hbel2
  clear h2 hb2 hbel2 Hb1 H1 Hs1
  go_loopw [8] (fun v wr => ∃ z : Nat, 4 + b.length + z ≤ N * 52 ∧ OwnB wr w.heap.size v ((leB 4 b.length ++ b) ++ List.replicate z 0) ∧ Below w.heap.size w wr) (fun v _ => N * 52 - (match v with | .slice _ k _ => k | _ => 0))
  case atStart => exact ⟨0, by omega, by simpa using H2.out, Hbel2.out⟩
  case round =>
    obtain ⟨z, hz, hown, hbel⟩ := hrel
    have hlen : ((leB 4 b.length ++ b) ++ List.replicate z (0 : UInt8)).length = 4 + b.length + z := by simp [length_leB]; omega
    obtain ⟨x, c, cur, hv, hx, hbx, hcx, hrx⟩ := hown.full (by omega)
    rw [hlen] at hv hcx
    subst hv
    have Hown := Lib.hid hown
    have Hbel := Lib.hid hbel
    have hszr := hbel.size
    have Hlen := Lib.hid hlen
    by_cases hmod : (4 + b.length + z) % 52 = 0
    · have hmi : (((4 + b.length + z : Nat) : Int) % 52 != 0) = false := by simp; omega
      have hK : 4 + b.length + z = N * 52 := by omega
      have hKi : ((4 + b.length + z : Nat) : Int) / 52 = (N : Int) := by omega
      have hwh := Hpad.out z hK
      rw [hwh] at hown hrx
      have hst : Src wr (some ⟨x, 0, none⟩) (N * 52) (wholeB b) := by have := rangeSrc hrx hbx.lt; rwa [hlw.out] at this
      rw [hK] at hcx
      generalize hKK : 4 + b.length + z = K at *
      subst hK
      clear hKK Hown Hlen hwh hrx hown hlen
      have Hst := Lib.hid hst
      have hxl := hbx.lt
      clear hst hbx hmod hbel
      by_cases hN : 255 < N
      · have hNi : (255 : Int) < (N : Int) := by omega
        go_wp2
        go_ret2
        exact ⟨(fun h => by omega), fun _ => rfl, only_below Hbel.out⟩
      · have hNi : ¬ (255 : Int) < (N : Int) := by omega
        go_wp2_with fail
        obtain ⟨W0, hW0⟩ : ∃ W0, W0 = wr := ⟨_, rfl⟩
        have Hst0 : Hid (Src W0 (some ⟨x, 0, none⟩) (N * 52) (wholeB b)) := by rw [hW0]; exact Hst
        have Hbel0 : Hid (Below w.heap.size w W0) := by rw [hW0]; exact Hbel
        have hW0s : w.heap.size ≤ W0.heap.size := by rw [hW0]; exact hszr
        have HW0 := Lib.hid hW0
        clear hW0
        go_loopw [10, 11] (fun v i wx => ∃ k : Nat, k ≤ N ∧ i = .int .i64 k ∧ RefRow wx W0.heap.size v ((cutP g r b).take k) ∧ Only [] W0 wx) (fun _ i _ => N - (intOf i).toNat)
        case atStart => exact ⟨0, Nat.zero_le _, rfl, RefRow.nil _ _, by rw [HW0.out]; exact Only.refl _ _⟩
        case round =>
          obtain ⟨k, hk, rfl, hrow, hO⟩ := hrel
          have HOk := Lib.hid hO
          by_cases hlt : k < N
          · have hlti : (k : Int) < (N : Int) := by omega
            have hck : ¬ c = k * 52 := by omega
            have hlk : ((cutP g r b).take k).length = k := by rw [List.length_take, length_cutP, HNb.out]; omega
            obtain ⟨xs, hxs, hpp⟩ := hrow
            rw [hlk] at hxs
            have hpc : Src wr (some ⟨x, k * 52, none⟩) ((k + 1) * 52 - k * 52) (pieceB (wholeB b) k) := by
              have h0 := (Hst0.out.more hO).sub (k * 52) 52 (by omega)
              rw [Nat.zero_add] at h0
              rw [show (k + 1) * 52 - k * 52 = 52 by omega]
              exact h0
            have hpc1 := fun ob => Lib.hid (hpc.more ((Only.refl [] wr).alloc ob))
            have hpl : (pieceB (wholeB b) k).length = 52 := length_pieceB _ _ (by rw [hlw.out]; omega)
            have Hpl := Lib.hid hpl
            have Hxs := Lib.hid hxs
            have Hpp := Lib.hid hpp
            have Hlk := Lib.hid hlk
            obtain ⟨i0, hi, hz0, hz1, hz2⟩ := info_parts infoRef
            have hwsz := hO.size
            have hbs : w.heap.size ≤ wr.heap.size := by omega
            clear hpc hxs hpp hlk hO hpl
            go_wp2_with (first
              | (at_builtin; refine wpList_append_b rfl (.tmp 53) (.tmp 60) rfl wr.heap.size _ [] rfl (OwnB.empty wr wr.heap.size (Nat.le_refl _)) (some ⟨x, k * 52, none⟩) ((k + 1) * 52 - k * 52) _ (pieceB (wholeB b) k) rfl (hpc1 _).out (by simp; omega) (by simp) ?_; intro v5 w5 h5 hb5 hn5; clear hn5; rw [List.nil_append] at h5; obtain ⟨gi, ci, cur5, hv5, hgi, hbi, hci, hri⟩ := h5.full (by rw [Hpl.out]; omega); rw [Hpl.out] at hv5; subst hv5; have hO5 : Only [] wr w5 := only_below (((Below.refl _ wr).alloc (Nat.le_refl _) _).trans hb5))
              | (at_builtin; go_loud (refine wpList_append_own _ rfl (.tmp 48) (.tmp 63) 57 rfl W0.heap.size 63 i0 _ 5 56 Try.underlying57 hi hz0 hz1 hz2 rfl (by decide) _ k xs rfl (owns_more Hxs.out (hO5.alloc _)) ⟨w5.heap.size, 0, none⟩ 1 1 (partC g r k N (some ⟨gi, 0, none⟩) 52 ci) rfl rfl (part_new w5 _ _ _ _ _ _ _ _ _ rfl) (partC_one _ _ _ _ _ _ _) (by unfold maxLen; omega) (by omega) (Nat.le_trans (Nat.le_trans hwsz hO5.size) (by simp)) ?_; intro v6 w6 h6 hg6 hn6; clear hn6)))
            have hrow' := RefRow.snoc (p := ⟨g, r, k, N, pieceB (wholeB b) k⟩) (ps := (cutP g r b).take k) (by rw [Hlk.out]; exact owns_more Hxs.out (hO5.alloc _)) (fun i q hq => piece_more (Hpp.out i q hq) (hO5.alloc _)) (hbi.alloc _) (World.rangeAt_alloc hri _) (by omega) hci (by rw [Hlk.out]; simpa [Hpl.out] using h6) hg6
            rw [← cut_take g r b k (by rw [HNb.out]; exact hlt) N HNb.out] at hrow'
            go_roundw
            case rel => exact ⟨k + 1, by omega, by go_num, hrow', own_only Hxs.out hg6 (HOk.out.then (hO5.alloc _) [] (by simp) (by simp))⟩
            case measure => simp [intOf]; omega
          · have hge : ¬ (k : Int) < (N : Int) := by omega
            obtain rfl : k = N := by omega
            go_wp2
            go_ret2
            rw [List.take_of_length_le (by rw [length_cutP, HNb.out]; exact Nat.le_refl _)] at hrow
            exact ⟨fun _ => ⟨_, rfl, hrow.lower hW0s⟩, (fun h => by omega), (only_below Hbel0.out).then HOk.out [] (by simp) (by simp)⟩
    · have hmi : (((4 + b.length + z : Nat) : Int) % 52 != 0) = true := by simp; omega
      have hown1 := fun ob => Lib.hid (hown.alloc ob)
      generalize hK : 4 + b.length + z = K at *
      have HK := Lib.hid hK
      clear hK hown hbel hbx hrx hlen
      have hsm : ((leB 4 b.length ++ b) ++ List.replicate z (0 : UInt8)).length + 1 ≤ 100000000 := by rw [Hlen.out]; omega
      have Hsm := Lib.hid hsm
      clear hsm
      go_wp2_with (at_builtin; refine wpList_append_b rfl _ _ rfl w.heap.size _ _ rfl (hown1 _).out (some ⟨wr.heap.size, 0, none⟩) 1 1 [UInt8.ofNat 0] rfl (src_one _ _ _ rfl _) Hsm.out (Nat.le_trans hszr (by simp)) ?_; intro v3 w3 h3 hb3 hn3; clear hn3; obtain ⟨x3, c3, cur3, hv3, _, _, _, _⟩ := h3.full (by rw [List.length_append]; exact Nat.succ_pos _); have e4 := nul_len b z K HK.out; rw [e4] at hv3; subst hv3)
      rw [nul_snoc] at h3
      go_roundw
      case rel => exact ⟨z + 1, by have := HK.out; omega, h3, Hbel.out.trans (((Below.refl _ wr).alloc hszr _).trans hb3)⟩
      case measure => simp; omega

end Go.Proofs.Ytijhllgogmmgfaa
