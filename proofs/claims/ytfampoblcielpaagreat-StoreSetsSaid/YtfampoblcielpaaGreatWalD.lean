/-
  Rows of bytes; the records of a half; the functions choose and follow of the package wal, by contracts.
-/
import Derived.Test.YtfampoblcielpaaGreatWalC
import Derived.Test.YtfampoblcielpaaGreatRefE
import Derived.WalkMore
import Derived.ScopeJumps
namespace Go.Proofs.YtfampoblcielpaaGreat
set_option maxRecDepth 100000
set_option linter.unusedVariables false
open Go.RowKit

/-! ### Rows of bytes -/

/-- A slice of slices of bytes. -/
def BytesAt (w : World) (a : Option Addr) (len : Nat) (rs : List (List UInt8)) : Prop :=
  rs.length = len ∧ (0 < len → ∃ b o, a = some ⟨b, o, none⟩ ∧ b < w.heap.size ∧ ∀ i r, rs[i]? = some r → ∃ da dc, w.cell? ⟨b, o + i, none⟩ = some (.slice da r.length dc) ∧ Src w da r.length r ∧ r.length ≤ dc)
theorem BytesAt.more {w w' : World} {a : Option Addr} {len : Nat} {rs : List (List UInt8)} (h : BytesAt w a len rs) (hO : Only [] w w') : BytesAt w' a len rs :=
  ⟨h.1, fun hp => by
    obtain ⟨b, o, e, hb, hr⟩ := h.2 hp
    refine ⟨b, o, e, Nat.lt_of_lt_of_le hb hO.size, fun i r hi => ?_⟩
    obtain ⟨da, dc, hc, hs, hl⟩ := hr i r hi
    exact ⟨da, dc, (hO.cell (p := ⟨b, o + i, none⟩) hb (by simp)).trans hc, hs.more hO, hl⟩⟩

/-- A row of slices of bytes of one's own, whose bytes lie outside T. -/
def OwnBs (w : World) (base : Nat) (T : List Nat) (v : Value) (rs : List (List UInt8)) : Prop :=
  ∃ xs : List Value, w.ownsRow base 37 1 v rs.length xs ∧
    ∀ (i : Nat) (r : List UInt8), rs[i]? = some r → ∃ da dc, xs[i]? = some (Value.slice da r.length dc) ∧ Src w da r.length r ∧ (0 < r.length → ∀ b o, da = some ⟨b, o, none⟩ → b ∉ T ∧ v.ownBlock ≠ some b) ∧ r.length ≤ dc

theorem OwnBs.nil (w : World) (base : Nat) (T : List Nat) : OwnBs w base T (.slice none 0 0) [] := ⟨[], World.ownsRow_nil _ _ _ _, fun i r h => by cases h⟩

theorem OwnBs.keep {w w' : World} {base : Nat} {T S : List Nat} {v : Value} {rs : List (List UInt8)} (h : OwnBs w base T v rs) (hO : Only S w w') (hS : ∀ k ∈ S, k ∈ T ∧ k < base) : OwnBs w' base T v rs := by
  obtain ⟨xs, ho, hx⟩ := h
  refine ⟨xs, owns_only ho hO (fun g hg hm => by have := (owns_lt ho hg).1; have := (hS g hm).2; omega), fun i r hi => ?_⟩
  obtain ⟨da, dc, h1, h2, h3, h4⟩ := hx i r hi
  exact ⟨da, dc, h1, h2.keep hO (fun hp b o e hm => (h3 hp b o e).1 (hS b hm).1), h3, h4⟩
theorem OwnBs.more {w w' : World} {base : Nat} {T : List Nat} {v : Value} {rs : List (List UInt8)} (h : OwnBs w base T v rs) (hO : Only [] w w') : OwnBs w' base T v rs := h.keep hO (by simp)

/-- One more. -/
theorem OwnBs.app {w w' : World} {base : Nat} {T : List Nat} {v : Value} {rs : List (List UInt8)} {r : List UInt8} {da : Option Addr} {dc g' c' : Nat} {xs : List Value} (h : w.ownsRow base 37 1 v rs.length xs)
    (hx : ∀ (i : Nat) (r : List UInt8), rs[i]? = some r → ∃ da dc, xs[i]? = some (Value.slice da r.length dc) ∧ Src w da r.length r ∧ (0 < r.length → ∀ b o, da = some ⟨b, o, none⟩ → b ∉ T ∧ v.ownBlock ≠ some b) ∧ r.length ≤ dc)
    (hs : Src w da r.length r) (hd : 0 < r.length → ∀ b o, da = some ⟨b, o, none⟩ → b ∉ T ∧ v.ownBlock ≠ some b) (hrc : r.length ≤ dc)
    (ho : w'.ownsRow base 37 1 (.slice (some ⟨g', 0, none⟩) (rs.length + 1) c') (rs.length + 1) (xs ++ [.slice da r.length dc])) (hO : Only (ownL v) w w') (hat : some g' = v.ownBlock ∨ g' = w.heap.size) :
    OwnBs w' base T (.slice (some ⟨g', 0, none⟩) (rs.length + 1) c') (rs ++ [r]) := by
  have hxl : xs.length = rs.length := by have := h.1; omega
  have hS : ∀ {da : Option Addr} {r : List UInt8}, Src w da r.length r → (0 < r.length → ∀ b o, da = some ⟨b, o, none⟩ → b ∉ T ∧ v.ownBlock ≠ some b) → Src w' da r.length r ∧ (0 < r.length → ∀ b o, da = some ⟨b, o, none⟩ → b ∉ T ∧ (Value.slice (some ⟨g', 0, none⟩) (rs.length + 1) c').ownBlock ≠ some b) := by
    intro da r hs hd
    refine ⟨hs.keep hO (fun hp b o e hm => (hd hp b o e).2 (mem_ownL.1 hm)), fun hp b o e => ⟨(hd hp b o e).1, fun e2 => ?_⟩⟩
    have hgb : g' = b := by simpa [Value.ownBlock] using e2
    rcases hat with h1 | h1
    · exact (hd hp b o e).2 (by rw [← h1, hgb])
    · have := hs.lt hp e; omega
  refine ⟨xs ++ [.slice da r.length dc], by simpa using ho, fun i q hi => ?_⟩
  by_cases hil : i < rs.length
  · rw [List.getElem?_append_left hil] at hi
    obtain ⟨d1, c1, h1, h2, h3, h4⟩ := hx i q hi
    obtain ⟨k1, k2⟩ := hS h2 h3
    exact ⟨d1, c1, by rw [List.getElem?_append_left (by omega)]; exact h1, k1, k2, h4⟩
  · have hie : i = rs.length := by
      have := (List.getElem?_eq_some_iff.1 hi).1; simp at this; omega
    subst hie
    rw [List.getElem?_append_right (Nat.le_refl _)] at hi
    simp at hi; subst hi
    obtain ⟨k1, k2⟩ := hS hs hd
    exact ⟨da, dc, by rw [List.getElem?_append_right (by omega), hxl]; simp, k1, k2, hrc⟩

theorem OwnBs.shape {w : World} {base : Nat} {T : List Nat} {v : Value} {rs : List (List UInt8)} (h : OwnBs w base T v rs) : ∃ a cap, v = .slice a rs.length cap ∧ BytesAt w a rs.length rs ∧ (0 < rs.length → ∀ b o, a = some ⟨b, o, none⟩ → base ≤ b) ∧ rs.length ≤ cap := by
  obtain ⟨xs, ho, hx⟩ := h
  rcases ho.2 with ⟨rfl, h0⟩ | ⟨g, cap, cur, rfl, hb, hg, hc, hm, hsz, ht⟩
  · exact ⟨none, 0, by rw [h0], ⟨rfl, fun hp => by omega⟩, fun hp => by omega, by omega⟩
  · refine ⟨some ⟨g, 0, none⟩, cap, rfl, ⟨rfl, fun _ => ⟨g, 0, rfl, IsBlk.lt (o := .cells cur 37) hg, fun i r hi => ?_⟩⟩, (fun _ b o e => by injection e with e; injection e with e1 e2; omega), hc⟩
    obtain ⟨da, dc, h1, h2, _, h4⟩ := hx i r hi
    refine ⟨da, dc, ?_, h2, h4⟩
    have hi2 := (List.getElem?_eq_some_iff.1 hi).1
    rw [Nat.zero_add, ho.cellAt i (by omega)]; exact h1

/-! ### The half, its records -/

theorem beginM_nonneg {ps : List PartM} (h : Sane ps) : 0 ≤ beginM ps ∧ beginM ps ≤ 4294967295 := by
  cases ps with
  | nil => simp [beginM]
  | cons p r => have := h p (by simp); simp only [beginM]; split <;> omega

/-- The records of a generation from a sector on, where they end, and the next one's number. -/
def followM (ps : List PartM) (gen : Int) : Nat → Nat → Int → List (List UInt8) × Nat × Int
  | 0, next, seq => ([], next, seq)
  | f + 1, next, seq =>
    match recM (ps.drop next) gen seq with
    | none => ([], next, seq)
    | some (b, of) => (b :: (followM ps gen f (next + of) (seq + 1)).1, (followM ps gen f (next + of) (seq + 1)).2)

theorem partsOf {w w' : World} {lp gl : Nat} {ps : List PartM} (hp : ∀ i p, ps[i]? = some p → PartN w gl (i * 5) p) (hO : Only [lp] w w') (hg : gl < w.heap.size) (hlp : lp < gl) (k : Nat) : PartsAt w' (some ⟨gl, k * 5, none⟩) (ps.length - k) (ps.drop k) := by
  refine ⟨by simp, fun _ => ⟨gl, k * 5, rfl, Nat.lt_of_lt_of_le hg hO.size, fun i p hi => ?_⟩⟩
  rw [List.getElem?_drop] at hi
  obtain ⟨a, c, hr, hs, _⟩ := (hp (k + i) p hi).keep hO hg (by simpa using hlp)
  exact ⟨a, c, by rw [show k * 5 + i * 5 = (k + i) * 5 by omega]; exact hr, hs⟩

theorem rec_from (w : World) (gl next cap n : Nat) (ps : List PartM) (gen seq : Int) (hn : ps.length = n) (h : PartsAt w (some ⟨gl, next * 5, none⟩) (n - next) (ps.drop next)) (hs : Sane ps) (hlen : n ≤ 256) (hcap : n ≤ cap) (hnx : next ≤ n) :
    Calls Tryz.prog 49 #[.slice (if cap = next then some ⟨gl, 0, none⟩ else some ⟨gl, next * 5, none⟩) (n - next) (cap - next), .int .i64 gen, .int .i64 seq] w (RecTo w (recM (ps.drop next) gen seq)) := by
  by_cases hc : cap = next
  · have h0 : n - next = 0 := by omega
    rw [if_pos hc, h0, List.drop_eq_nil_of_le (by omega)]
    exact (record_none w _ _ gen seq).mono (fun e w' ⟨h1, h2⟩ => ⟨h1, h2 ▸ Only.refl _ _⟩)
  · rw [if_neg hc]
    exact record_any w _ _ _ (ps.drop next) gen seq h (fun p hp => hs p (List.mem_of_mem_drop hp)) (by omega) (by omega)

theorem RecTo.shape {w w' : World} {x : Option (List UInt8 × Nat)} {e : Ending} (h : RecTo w x e w') : ∃ s t, e = .returned (.tuple #[s, t]) ∧ Only [] w w' := by
  cases x with
  | none => exact ⟨_, _, h.1, h.2⟩
  | some y => obtain ⟨b, k⟩ := y; obtain ⟨a, h1, _, _, h2⟩ := h; exact ⟨_, _, h1, h2⟩

theorem RecTo.undrew {w w' : World} {x : Option (List UInt8 × Nat)} {e : Ending} (h : RecTo w.drew x e w') : RecTo w x e w' := by
  have hd : Only [] w w.drew := (Only.refl [] w).drew
  cases x with
  | none => exact ⟨h.1, hd.plus h.2⟩
  | some y => obtain ⟨b, k⟩ := y; obtain ⟨a, h1, h2, h3, h4⟩ := h; exact ⟨a, h1, h2, h3, hd.plus h4⟩

/-- What follow answers. -/
def FollowTo (w : World) (T : List Nat) (lp pd : Nat) (L : LS) (x : List (List UInt8) × Nat × Int) (e : Ending) (w' : World) : Prop :=
  ∃ v, e = .returned v ∧ OwnBs w' w.heap.size T v x.1 ∧ LogAt w' lp pd { L with next := x.2.1, seq := x.2.2 } ∧ Only [lp] w w'

theorem follow_none (w : World) (lp pd : Nat) (L : LS) (s : Value) (h : LogAt w lp pd L) (hg : L.gen = 0) :
    Calls Tryz.prog 32 #[.pointer (some ⟨lp, 0, none⟩), s] w fun e w' => e = .returned (.slice none 0 0) ∧ w = w' := by
  have c3 := h.c3
  rw [hg] at c3
  clear hg
  go_enter Tryz.func32, Tryz.ntmps32
  go_wp2
  go_step3
  go_wp2
  (try rw [Exit.noGoto_ret])
  go_ret
  exact ⟨rfl, rfl⟩

theorem wp_scope_back {P : Program} {a : Act} {w : World} {Q : Exit → Act → World → Prop} {c rest : Code} (l : Nat) (J : Act → World → Prop) (μ : Act → World → Nat) (hf : findLabel c l = some (Code.skip.seq rest))
    (first : (∀ a w, J a w → rest.wp P (Exit.jump l J Q) a w) → c.wp P (Exit.jump l J Q) a w)
    (pass : ∀ a w, J a w → rest.wp P (Exit.jump l (fun a' w' => J a' w' ∧ μ a' w' < μ a w) Q) a w) : (Code.scope c).wp P Q a w :=
  wp_scope_jumps l J μ hf (first (fun a w hJ => Go.wp_mono (pass a w hJ) (fun e a' w' h => by
    cases e <;> first | exact h | exact ⟨h.1, h.2.1⟩))) (fun a w hJ => wp_seq (wp_skip (pass a w hJ)))

def cellNat (w : World) (p : Addr) : Nat := match w.cell? p with | some (.int _ x) => x.toNat | _ => 0

theorem LogAt.nat5 {w : World} {lp pd : Nat} {L : LS} (h : LogAt w lp pd L) : cellNat w ⟨lp, 5, none⟩ = L.next := by unfold cellNat; rw [h.c5]; rfl

/-- What holds at each jump. -/
def FJ (w : World) (T : List Nat) (lp pd gl cap : Nat) (L : LS) (ps : List PartM) (R : List (List UInt8) × Nat × Int) (a : Act) (wr : World) : Prop :=
  ∃ v u5 u6 u7 u8 u9 u10 u11 u12 u13 u14 u15 u16 u17 u18 u19 u20 u21 u22 u23 u24 u25 u26 u27 u28 u29 u30 u31 u32 u33 u34 u35 u36 u37 u38 u39 u40 u41 u42 u43 u44 u45 u46 u47 u48 u49 u50 u51, a = { tmps := #[.pointer (some ⟨lp, 0, none⟩), .slice (some ⟨gl, 0, none⟩) ps.length cap, undef, undef, v, u5, u6, u7, u8, u9, u10, u11, u12, u13, u14, u15, u16, u17, u18, u19, u20, u21, u22, u23, u24, u25, u26, u27, u28, u29, u30, u31, u32, u33, u34, u35, u36, u37, u38, u39, u40, u41, u42, u43, u44, u45, u46, u47, u48, u49, u50, u51], defers := [] } ∧
  ∃ (rs : List (List UInt8)) (f next : Nat) (seq : Int), OwnBs wr w.heap.size T v rs ∧ LogAt wr lp pd { L with next := next, seq := seq } ∧ Only [lp] w wr ∧ next ≤ ps.length ∧ ps.length < next + f ∧
    R = (rs ++ (followM ps L.gen f next seq).1, (followM ps L.gen f next seq).2) ∧ rs.length ≤ next ∧ 0 ≤ seq ∧ seq ≤ next

set_option maxHeartbeats 4000000 in
theorem follow_any (w : World) (T : List Nat) (hT : ∀ k ∈ T, k < w.heap.size) (lp pd gl cap : Nat) (hlT : lp ∈ T) (L : LS) (ps : List PartM) (h : LogAt w lp pd { L with next := 0, seq := 0 }) (hg : L.gen ≠ 0) (hps : ∀ i p, ps[i]? = some p → PartN w gl (i * 5) p) (hs : Sane ps) (hlen : ps.length ≤ 256) (hcap : ps.length ≤ cap)
    (hgl : gl < w.heap.size) (hlp : lp < gl) :
    Calls Tryz.prog 32 #[.pointer (some ⟨lp, 0, none⟩), .slice (some ⟨gl, 0, none⟩) ps.length cap] w (FollowTo w T lp pd L (followM ps L.gen (ps.length + 1) 0 0)) := by
  have c3 := h.c3
  simp only at c3
  have hg' : (L.gen == 0) = false := by simpa using hg
  have H := Lib.hid h
  have Hps := Lib.hid hps
  have Hs := Lib.hid hs
  clear h hg hps hs
  go_enter Tryz.func32, Tryz.ntmps32
  go_wp2
  refine wp_scope_back 0 (FJ w T lp pd gl cap L ps (followM ps L.gen (ps.length + 1) 0 0)) (fun _ wr => ps.length - cellNat wr ⟨lp, 5, none⟩) rfl ?_ ?_
  · intro hK
    go_wp2
    go_step3
    rename_i K hKK
    refine hKK _ _ (hK _ _ ?_)
    exact ⟨_, _, _, _, _, _, _, _, _, _, _, _, _, _, _, _, _, _, _, _, _, _, _, _, _, _, _, _, _, _, _, _, _, _, _, _, _, _, _, _, _, _, _, _, _, _, _, _, rfl, [], ps.length + 1, 0, 0, OwnBs.nil _ _ _, H.out, Only.refl _ _, Nat.zero_le _, by omega, by simp, by simp, by omega, by omega⟩
  · rintro a' wr ⟨v, u5, u6, u7, u8, u9, u10, u11, u12, u13, u14, u15, u16, u17, u18, u19, u20, u21, u22, u23, u24, u25, u26, u27, u28, u29, u30, u31, u32, u33, u34, u35, u36, u37, u38, u39, u40, u41, u42, u43, u44, u45, u46, u47, u48, u49, u50, u51, rfl, rs, f, next, seq, hv, hL, hO, hnx, hf, hR, hrl, hq0, hq1⟩
    have d3 := hL.c3
    have d5 := hL.c5
    have d6 := hL.c6
    simp only at d3 d5 d6
    have Hv := Lib.hid hv
    have HL := Lib.hid hL
    have HO := Lib.hid hO
    have HR := Lib.hid hR
    have hsz := hO.size
    clear hv hL hO hR
    obtain ⟨f, rfl⟩ : ∃ k, f = k + 1 := ⟨f - 1, by omega⟩
    have hdr := Lib.hid (partsOf Hps.out HO.out hgl hlp next)
    have hni : (next : Int) ≤ (cap : Int) := by omega
    have hni2 : (next : Int) ≤ (ps.length : Int) := by omega
    have hfm : Hid (followM ps L.gen (f + 1) next seq = match recM (ps.drop next) L.gen seq with
      | none => ([], next, seq)
      | some (b, of) => (b :: (followM ps L.gen f (next + of) (seq + 1)).1, (followM ps L.gen f (next + of) (seq + 1)).2)) := Lib.hid rfl
    obtain ⟨ad, had⟩ : ∃ ad, (if cap = next then some (⟨gl, 0, none⟩ : Addr) else some ⟨gl, next * 5, none⟩) = ad := ⟨_, rfl⟩
    have Had := Lib.hid had
    go_upto_region 4 with fail
    go_cut [5, 6] (fun s5 s6 wx => ∃ e, RecTo wr (recM (ps.drop next) L.gen seq) e wx ∧ e = .returned (.tuple #[s5, s6]))
    case first =>
      go_region_held3 (fun W => W.cell? ⟨lp, 3, none⟩ = some (.int .i64 L.gen) ∧ W.cell? ⟨lp, 5, none⟩ = some (.int .i64 next) ∧ W.cell? ⟨lp, 6, none⟩ = some (.int .i64 seq)) (first | exact ⟨d3, d5, d6⟩ | assumption)
        (first
          | (go_at_call 49
             rw [← Had.out]
             refine (rec_from _ gl next cap ps.length ps L.gen seq rfl (hdr.out.more (Only.refl [] wr).drew) Hs.out hlen hcap hnx).mono ?_
             rw [Had.out]
             intro e w1 hrec
             obtain ⟨s5, s6, rfl, hO1⟩ := hrec.shape
             have hO1' := ((Only.refl [] wr).drew).plus hO1
             have hS1 : w1.cell? ⟨lp, 3, none⟩ = some (.int .i64 L.gen) ∧ w1.cell? ⟨lp, 5, none⟩ = some (.int .i64 next) ∧ w1.cell? ⟨lp, 6, none⟩ = some (.int .i64 seq) := ⟨(HL.out.more hO1').c3, (HL.out.more hO1').c5, (HL.out.more hO1').c6⟩))
      all_goals
        go_wp2_with fail
        go_meet
        exact ⟨_, hrec.undrew, rfl⟩
    case rest =>
      obtain ⟨e, hrec, he⟩ := hcut
      clear Had had hdr d3 d5 d6
      cases hx : recM (ps.drop next) L.gen seq with
      | none =>
        rw [hx] at hrec
        obtain ⟨h1, hO1⟩ := hrec
        rw [h1] at he
        injection he with he; injection he with he; injection he with he; injection he with h5 he; injection he with h6 he
        subst h5; subst h6
        have hR := HR.out
        rw [hfm.out, hx] at hR
        have HR' := Lib.hid hR
        clear HR hR h1 hx
        go_wp2
        simp only [Exit.jump]
        go_ret
        rw [HR'.out]
        exact ⟨v, rfl, by simpa using Hv.out.more hO1, HL.out.more hO1, HO.out.plus hO1⟩
      | some y =>
        obtain ⟨b, k⟩ := y
        rw [hx] at hrec
        obtain ⟨da, h1, hsb, hda, hO1⟩ := hrec
        obtain ⟨hk0, hk1⟩ := recM_pos hx
        rw [List.length_drop] at hk1
        rw [h1] at he
        injection he with he; injection he with he; injection he with he; injection he with h5 he; injection he with h6 he
        subst h5; subst h6
        have hR := HR.out
        rw [hfm.out, hx] at hR
        simp only at hR
        have HR' := Lib.hid hR
        have hkz : ((k : Int) == 0) = false := by simp; omega
        have hv1 := Hv.out.more hO1
        obtain ⟨xs0, hv1o, -⟩ := Hv.out
        have Hn5 : Hid (cellNat wr ⟨lp, 5, none⟩ = next) := Lib.hid HL.out.nat5
        have hL1 := HL.out.more hO1
        have hO1' := HO.out.plus hO1
        have hsz1 := hO1.size
        have hsz0 : w.heap.size ≤ wr.heap.size := hsz
        obtain ⟨xs, hown, hxs⟩ := hv1
        have hA : Only [] wc (wc.alloc (.cells #[.slice da b.length b.length] 37)) := (Only.refl [] wc).alloc _
        have Hown := Lib.hid (hown.alloc (.cells #[.slice da b.length b.length] 37))
        have Hxs : Hid (∀ (i : Nat) (r : List UInt8), rs[i]? = some r → ∃ da' dc, xs[i]? = some (Value.slice da' r.length dc) ∧ Src (wc.alloc (.cells #[.slice da b.length b.length] 37)) da' r.length r ∧ (0 < r.length → ∀ b o, da' = some ⟨b, o, none⟩ → b ∉ T ∧ v.ownBlock ≠ some b) ∧ r.length ≤ dc) :=
          Lib.hid (fun i r hi => by obtain ⟨d1, c1, h1, h2, h3, h4⟩ := hxs i r hi; exact ⟨d1, c1, h1, h2.more hA, h3, h4⟩)
        have Hsb := Lib.hid (hsb.more hA)
        have Hdb : Hid (0 < b.length → ∀ b' o, da = some ⟨b', o, none⟩ → b' ∉ T ∧ v.ownBlock ≠ some b') := Lib.hid (fun _ b' o e => by
          have h1 := hda b' o e
          refine ⟨fun hm => by have := hT b' hm; omega, fun e2 => ?_⟩
          have h2 := owns_lt hv1o e2
          omega)
        have hOA : Hid (Only [lp] w (wc.alloc (.cells #[.slice da b.length b.length] 37))) := Lib.hid (hO1'.plus hA)
        have HLA := Lib.hid (hL1.more hA)
        have hLA5 := HLA.out.c5
        have hcel : (wc.alloc (.cells #[.slice da b.length b.length] 37)).cell? ⟨wc.heap.size, 0, none⟩ = some (.slice da b.length b.length) := IsBlk.cell (IsBlk.made wc _) 0
        have hszA : w.heap.size ≤ (wc.alloc (.cells #[.slice da b.length b.length] 37)).heap.size := hOA.out.size
        clear hv1o HR hR h1 hx Hv HL hown hxs hsb hda hL1 hO1' hO1
        go_wp2_with (at_builtin; refine wpList_app1 53 37 (.slice none 0 0) 24 Tryz.underlying53 info34 rfl (by omega) rfl _ _ rfl w.heap.size v rs.length xs rfl Hown.out (by omega) _ _ _ rfl hcel rfl hszA ?_; intro g2 c2 w2 ho2 hO2 hat2; have hL2 := HLA.out.keep hO2 (fun hm => by have := (owns_lt Hown.out (mem_ownL.1 hm)).1; omega); have f5 := hL2.c5; have f6 := hL2.c6; have z5 := hL2.fz 5; have z6 := hL2.fz 6; simp only at f5 f6)
        go_step3
        have ek : ((next : Int) + (k : Int)) = ((next + k : Nat) : Int) := by omega
        have hL3 := (hL2.put5 (next + k)).put6 (seq + 1)
        have hO3 : Only [lp] w2 ((w2.setCell ⟨lp, 5, none⟩ (.int .i64 ((next + k : Nat) : Int))).setCell ⟨lp, 6, none⟩ (.int .i64 (seq + 1))) := ((Only.refl [lp] w2).setCell (by simp) _).setCell (by simp) _
        have hB2 := OwnBs.app (T := T) Hown.out Hxs.out Hsb.out Hdb.out (Nat.le_refl _) ho2 hO2 hat2
        have hO4 : Only [lp] w w2 := hOA.out.then hO2 [lp] (by simp) (fun i hi => .inr (owns_lt Hown.out (mem_ownL.1 hi)).1)
        rw [ek]
        refine ⟨rfl, ⟨_, _, _, _, _, _, _, _, _, _, _, _, _, _, _, _, _, _, _, _, _, _, _, _, _, _, _, _, _, _, _, _, _, _, _, _, _, _, _, _, _, _, _, _, _, _, _, _, rfl, rs ++ [b], f, next + k, seq + 1, by
          have := hB2.keep hO3 (by simp; exact ⟨hlT, by omega⟩)
          simpa using this, hL3, hO4.same hO3, by omega, by omega, by rw [HR'.out]; simp, by simp; omega, by omega, by omega⟩, ?_⟩
        show ps.length - cellNat _ _ < ps.length - cellNat wr _
        rw [hL3.nat5, Hn5.out]
        show ps.length - (next + k) < ps.length - next
        omega

end Go.Proofs.YtfampoblcielpaaGreat
