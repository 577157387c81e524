/-
  The document's own log (package deadboltref3): part and record, by contracts.
-/
import Derived.Test.YtijhllgogmmgfaaWalM
import Derived.Test.YtijhllgogmmgfaaSectRA
import Derived.Test.YtijhllgogmmgfaaSectY
namespace Go.Proofs.Ytijhllgogmmgfaa
set_option maxRecDepth 100000
set_option linter.unusedVariables false
open Go.RowKit

/-- What Read of the document's own disk answers, with its room. -/
def RRead (w : World) (b : List UInt8) (e : Ending) (w' : World) : Prop :=
  ∃ g c, e = .returned (.tuple #[.slice (some ⟨g, 0, none⟩) 64 c, .int .i64 0]) ∧ Src w' (some ⟨g, 0, none⟩) 64 b ∧ 64 ≤ c ∧ Only [] w w'

set_option maxHeartbeats 1000000 in
theorem rread_cap (w : World) (B : Nat) (R : RefP) (D : RS) (x : Nat) (h : RefAt w B R D) (hd : D.dead = false) (hx : x < D.n) :
    Calls Try.prog 34 #[.pointer (some ⟨R.q, 0, none⟩), .int .i64 x] w (RRead w (D.now x)) := by
  have c3 := h.c3
  rw [hd] at c3
  have c0 := h.c0
  obtain ⟨gi, ci, hc, hB, hlt, hr, hl⟩ := h.now x hx
  have hlq := h.lq
  have hlN := h.lN
  have hsm := h.small
  have t0 : decide ((x : Int) < 0) = false := by simp
  have t1 : (x : Int) < (D.n : Int) := by omega
  have hes := empty_bytes
  generalize D.now x = b at *
  have hsrc : Src w (some ⟨gi, 0, none⟩) 64 b := ⟨hl, fun _ => ⟨gi, 0, rfl, hlt, hr⟩⟩
  have Hs := Lib.hid hsrc
  have Hl := Lib.hid hl
  clear hd h hr hl hsrc
  go_enter Try.func34, Try.ntmps34
  go_wp2_with (at_builtin; refine wpList_append_b rfl _ _ rfl w.heap.size _ [] rfl (OwnB.empty w w.heap.size (Nat.le_refl _)) (some ⟨gi, 0, none⟩) 64 ci b rfl (Hs.out.more ((Only.refl [] w).alloc _)) (by simp) (by simp) ?_; intro v2 w2 h2 hb2 hn2; clear hn2; rw [List.nil_append] at h2; obtain ⟨g2, c2, cur2, hv2, hg2, hbk2, hc2, hr2⟩ := h2.full (by rw [Hl.out]; omega); rw [Hl.out] at hv2 hc2; subst hv2)
  go_ret2
  exact ⟨g2, c2, rfl, ⟨Hl.out, fun _ => ⟨g2, 0, rfl, hbk2.lt, hr2⟩⟩, hc2, only_below (((Below.refl _ w).alloc (Nat.le_refl _) _).trans hb2)⟩

/-- What part answers. -/
def RPartTo (w : World) (x : Option PartM) (e : Ending) (w' : World) : Prop :=
  ∃ a c, e = .returned (.tuple #[.agg #[.int .i64 (x.getD noPart).g, .int .i64 (x.getD noPart).r, .int .i64 (x.getD noPart).n, .int .i64 (x.getD noPart).o, .slice a (x.getD noPart).d.length c], .bool x.isSome]) ∧ Src w' a (x.getD noPart).d.length (x.getD noPart).d ∧ (∀ b o, a = some ⟨b, o, none⟩ → w.heap.size ≤ b) ∧ Only [] w w'

theorem rparse_one (w : World) (b cap : Nat) (hcap : 64 ≤ cap) (l : List UInt8) (hs : Src w (some ⟨b, 0, none⟩) 64 l) :
    Calls Try.prog 55 #[.slice (some ⟨b, 0, none⟩) 64 cap] w (RPartTo w (parseB l)) := by
  refine (refparse_any w b 0 cap hcap l hs).mono ?_
  cases h : parseB l with
  | none =>
    rintro e w' ⟨rfl, hO⟩
    exact ⟨none, 0, rfl, ⟨rfl, fun h => by simp [noPart] at h⟩, fun _ _ e => (by cases e), hO⟩
  | some p =>
    rintro e w' ⟨a, c, rfl, hsr, hnw, hO⟩
    have hd : p.d.length = 52 := hsr.1
    exact ⟨a, c, by simp [hd], by simpa [hd] using hsr, hnw, hO⟩

theorem load_rpart (w : World) (g : Nat) (cs : Array Value) (hg : IsBlk w g (.cells cs 63)) (h5 : cs.size = 5) : (loadVar 63 ⟨g, 0, none⟩).run Try.prog w = .ok (.agg cs) w := load_ref w g cs hg h5

/-- Bytes do not lie where a Part lies. -/
theorem src_not_box {w : World} {q : Nat} {g r n o : Int} {a' : Option Addr} {l' c' : Nat} {t : TypeId} {a : Option Addr} {len : Nat} {d : List UInt8} (hb : IsBlk w q (.cells #[.int .i64 g, .int .i64 r, .int .i64 n, .int .i64 o, .slice a' l' c'] t)) (hs : Src w a len d) (hl : 0 < len) : ∀ x y, a = some ⟨x, y, none⟩ → x ≠ q := by
  intro x y e hxq
  subst hxq
  obtain ⟨b, o', e2, -, hr⟩ := hs.2 hl
  rw [e] at e2; injection e2 with e2; injection e2 with e3 e4
  subst e3; subst e4
  have hd : 0 < d.length := by rw [hs.1]; exact hl
  have h0 := Src.cell hr 0 hd
  rw [Nat.add_zero, hb.cell] at h0
  match y, h0 with
  | 0, h0 => simp at h0
  | 1, h0 => simp at h0
  | 2, h0 => simp at h0
  | 3, h0 => simp at h0
  | 4, h0 => simp at h0
  | y + 5, h0 => simp at h0

set_option maxHeartbeats 2000000 in
theorem rpart_any (w : World) (B : Nat) (R : RefP) (D : RS) (x : Nat) (h : RefAt w B R D) (hd : D.dead = false) (hx : x < D.n) :
    Calls Try.prog 35 #[.pointer (some ⟨R.q, 0, none⟩), .int .i64 x] w (RPartTo w (parseB (D.now x))) := by
  have H := Lib.hid h
  clear h
  go_enter Try.func35, Try.ntmps35
  go_wp2_with fail
  refine (rread_cap _ B R D x (H.out.more ((Only.refl [] w).alloc _)) hd hx).mono ?_
  rintro e w1 ⟨g, c, rfl, hs1, hc1, hO1⟩
  have hbox := (IsBlk.made w (.cells #[.int .i64 0, .int .i64 0, .int .i64 0, .int .i64 0, .slice none 0 0] 63)).only hO1 (by simp)
  have Hbox := Lib.hid hbox
  have HO1 := Lib.hid (((Only.refl [] w).alloc (.cells #[.int .i64 0, .int .i64 0, .int .i64 0, .int .i64 0, .slice none 0 0] 63)).plus hO1)
  have Hs1 := Lib.hid hs1
  clear hbox hO1 hs1
  go_wp2_with fail
  refine (rparse_one _ g c hc1 _ Hs1.out).mono ?_
  rintro e w2 ⟨a2, c2, rfl, hs2, hnw2, hO2⟩
  have Hnw : Hid (∀ b o, a2 = some ⟨b, o, none⟩ → w.heap.size ≤ b) := Lib.hid (fun b o e => by have := hnw2 b o e; have := HO1.out.size; omega)
  clear hnw2
  have hbox2 := Hbox.out.only hO2 (by simp)
  have Hbox2 := Lib.hid hbox2
  have Hs2 := Lib.hid hs2
  have HO2 := Lib.hid (HO1.out.plus hO2)
  clear hbox2 hs2 hO2
  generalize hp : (parseB (D.now x)).getD noPart = p at *
  obtain ⟨pg, pr, pn, po, pdd⟩ := p
  simp only at Hs2
  have Hp := Lib.hid hp
  clear hp
  go_wp2_with (refine wpList_store_part rfl _ sizeRef _ _ rfl w.heap.size 0 pg pr pn po a2 pdd.length c2 rfl rfl (there_blk Hbox2.out 0 5 (by simp)) ?_; intro w3 Hw3)
  (try simp only [Exit.inBlock, Exit.then])
  have hO3 : Only [w.heap.size] w2 w3 := by rw [Hw3.out]; exact (Only.refl _ w2).setCells _ _ _ (by simp)
  have hb3 : IsBlk w3 w.heap.size (.cells #[.int .i64 pg, .int .i64 pr, .int .i64 pn, .int .i64 po, .slice a2 pdd.length c2] 63) := by rw [Hw3.out]; exact blk_setPart Hbox2.out pg pr pn po a2 pdd.length c2
  refine bodyPost_ret_by (results_ct rfl _ _ w.heap.size _ rfl (load_rpart _ _ _ hb3 rfl)) rfl ?_
  refine ⟨a2, c2, by rw [Hp.out]; rfl, ?_, Hnw.out, HO2.out.then hO3 [] (by simp) (by simp)⟩
  rw [Hp.out]
  exact Hs2.out.keep hO3 (fun hp x y e hm => src_not_box Hbox2.out Hs2.out hp x y e (by simpa using hm))

/-! ### A row of Parts -/

def RowP (w : World) (B : Nat) (v : Value) (ps : List PartM) : Prop :=
  ∃ xs : List Value, w.ownsRow B 63 5 v ps.length xs ∧ ∀ (i : Nat) (p : PartM), ps[i]? = some p →
    ∃ a c, (∀ (j : Nat) (u : Value), (partC p.g p.r p.n p.o a p.d.length c)[j]? = some u → xs[i * 5 + j]? = some u) ∧ Src w a p.d.length p.d ∧ (0 < p.d.length → ∀ b o, a = some ⟨b, o, none⟩ → v.ownBlock ≠ some b)

theorem RowP.nil (w : World) (B : Nat) : RowP w B (.slice none 0 0) [] := ⟨[], World.ownsRow_nil _ _ _ _, fun i p h => by simp at h⟩
theorem RowP.more {w w' : World} {B : Nat} {v : Value} {ps : List PartM} (h : RowP w B v ps) (hO : Only [] w w') : RowP w' B v ps := by
  obtain ⟨xs, ho, hp⟩ := h
  refine ⟨xs, owns_more ho hO, fun i p hi => ?_⟩
  obtain ⟨a, c, h1, h2, h3⟩ := hp i p hi
  exact ⟨a, c, h1, h2.more hO, h3⟩
theorem RowP.parts {w : World} {B : Nat} {v : Value} {ps : List PartM} (h : RowP w B v ps) : ∃ a cap, v = .slice a ps.length cap ∧ PartsAt w a ps.length ps := by
  obtain ⟨xs, ho, hp⟩ := h
  rcases ho.2 with ⟨rfl, h0⟩ | ⟨g, cap, cur, rfl, hb, hg, hnc, _, hsz, htake⟩
  · exact ⟨none, 0, by rw [h0], rfl, fun h => by omega⟩
  · refine ⟨_, cap, rfl, rfl, fun _ => ⟨g, 0, rfl, IsBlk.lt hg, fun i p hi => ?_⟩⟩
    obtain ⟨a, c, h1, h2, h3⟩ := hp i p hi
    refine ⟨a, c, fun j u hu => ?_, h2⟩
    have := World.ownsRow.cells ho (g := g) rfl (i * 5 + j) u (h1 j u hu)
    rw [Addr.add_mid] at this
    rw [Nat.zero_add, ← Nat.zero_add (i * 5 + j)] at *
    exact this

/-- One Part more, as the walk meets it. -/
theorem wpList_partP {ops : Array Oper} {rest : List Oper} {op : Oper} {a : Act} {Q : Exit → Act → World → Prop} {w : World} {B : Nat} {v : Value} {ps : List PartM} {p : PartM} {da : Option Addr} {dc : Nat} (h : RowP w B v ps) (hB : B ≤ w.heap.size) (hn : ps.length ≤ 1000) (hs : Src w da p.d.length p.d) (hd : 0 < p.d.length → ∀ b o, da = some ⟨b, o, none⟩ → v.ownBlock ≠ some b)
    (hgd : op.guard = none) (s x : Operand) (ho : op.op = .call { callee := .builtin .append, args := #[s, x], argTypes := #[57, 57] }) (hs' : a.eval s = v) (g cc : Nat) (hx : a.eval x = .slice (some ⟨g, 0, none⟩) 1 cc) (hg : g = w.heap.size)
    (hk : ∀ v' w', RowP w' B v' (ps ++ [p]) → Only (ownL v) w w' → wpList Try.prog ops Q rest (a.put op.dst v') w') :
    wpList Try.prog ops Q (op :: rest) a (w.alloc (.cells #[.int .i64 p.g, .int .i64 p.r, .int .i64 p.n, .int .i64 p.o, .slice da p.d.length dc] 63)) := by
  subst hg
  refine wpList_plain hgd fun K hK => ?_
  obtain ⟨xs, hown, hps⟩ := h
  obtain ⟨i0, hi, hz0, hz1, hz2⟩ := info_parts infoRef
  have hA : Only [] w (w.alloc (.cells #[.int .i64 p.g, .int .i64 p.r, .int .i64 p.n, .int .i64 p.o, .slice da p.d.length dc] 63)) := (Only.refl [] w).alloc _
  obtain ⟨v', w', hrun, ho', hg', _, hat⟩ := run_append_own_at (P := Try.prog) (w.alloc (.cells #[.int .i64 p.g, .int .i64 p.r, .int .i64 p.n, .int .i64 p.o, .slice da p.d.length dc] 63)) B 57 op.type 63 i0 _ 5 56 Try.underlying57 hi hz0 hz1 hz2 rfl (by omega) v ps.length xs (owns_more hown hA) ⟨w.heap.size, 0, none⟩ 1 cc (partC p.g p.r p.n p.o da p.d.length dc)
    rfl (part_new w _ _ _ _ _ _ _ _ _ rfl) (partC_one _ _ _ _ _ _ _) (by simp [maxLen]; omega) (by omega) (by have := hA.size; omega)
  unfold Oper.wp execOp
  simp only [ho, resolve, invoke, builtin, Sem.run_bind, Sem.run_pure, Result.andThen_ok, List.map_toArray, List.map_cons, List.map_nil, hs', hx, hrun]
  have hxl := hown.1
  have hO : Only (ownL v) (w.alloc (.cells #[.int .i64 p.g, .int .i64 p.r, .int .i64 p.n, .int .i64 p.o, .slice da p.d.length dc] 63)) w' := only_grown hg'
  have hO' : Only (ownL v) w w' := (hA.trans hO).into (fun i hi => .inl (by simpa using hi))
  have hkeep : ∀ {da : Option Addr} {d : List UInt8}, Src w da d.length d → (0 < d.length → ∀ b o, da = some ⟨b, o, none⟩ → v.ownBlock ≠ some b) → Src w' da d.length d ∧ (0 < d.length → ∀ b o, da = some ⟨b, o, none⟩ → v'.ownBlock ≠ some b) := by
    intro da d hs hd
    refine ⟨hs.keep hO' (fun hp b o e hm => hd hp b o e (mem_ownL.1 hm)), fun hp b o e e2 => ?_⟩
    have hlt := hs.lt hp e
    rcases hat with h1 | h1
    · rw [h1] at e2; exact hd hp b o e e2
    · rw [h1] at e2; simp at e2; omega
  refine hK _ _ (hk v' w' ⟨xs ++ partC p.g p.r p.n p.o da p.d.length dc, by simpa using ho', fun i q hi => ?_⟩ hO')
  by_cases hil : i < ps.length
  · rw [List.getElem?_append_left hil] at hi
    obtain ⟨a1, c1, h1, h2, h3⟩ := hps i q hi
    refine ⟨a1, c1, fun j u hu => ?_, hkeep h2 h3⟩
    have := h1 j u hu
    have hj := (List.getElem?_eq_some_iff.1 this).1
    rw [List.getElem?_append_left hj]; exact this
  · have hie : i = ps.length := by have := (List.getElem?_eq_some_iff.1 hi).1; simp at this; omega
    subst hie
    rw [List.getElem?_append_right (Nat.le_refl _)] at hi
    simp at hi; subst hi
    refine ⟨da, dc, fun j u hu => ?_, hkeep hs hd⟩
    rw [List.getElem?_append_right (by omega), show ps.length * 5 + j - xs.length = j by omega]; exact hu

end Go.Proofs.Ytijhllgogmmgfaa
