/-
  The walk of the law WalStale: it returns true, whatever came in, and turns nothing that was there.
-/
import Derived.Test.YtdfnclfmmohpeaaWalW
import Derived.Test.YtdfnclfmmohpeaaWalM
import Derived.Test.YtdfnclfmmohpeaaWalR
namespace Go.Proofs.Ytdfnclfmmohpeaa
set_option maxRecDepth 100000
set_option linter.unusedVariables false
open Go.RowKit

theorem parse_zeros : parseB zeros = none := by decide
theorem rrec_new (n f l : Nat) (g r : Int) : rrecM (newRS n).now f l g r = none := by
  refine none_of fun y hy => ?_
  obtain ⟨b, k⟩ := y
  unfold rrecM at hy
  obtain ⟨hk0, -⟩ := recM_pos hy
  obtain ⟨p0, h1, -, -, h2, -, -, h3⟩ := rec_all hy
  have h4 := h3 0 p0 hk0 h1
  obtain ⟨h5, -⟩ := halfP_get h1
  have h6 : secP ((newRS n).now (f + 0)) = noPart := secP_zeros
  rw [h5, h6, okB_noPart] at h4; cases h4

/-- A part of a new disk: none. -/
theorem rpart_new (w : World) (B : Nat) (R : RefP) (n x : Nat) (xi : Int) (hxi : xi = (x : Int)) (h : RefAt w B R (newRS n)) (hx : x < n) :
    Calls Try.prog 45 #[.pointer (some ⟨R.q, 0, none⟩), .int .i64 xi] w fun e w' => ∃ a c, e = .returned (.tuple #[.agg #[.int .i64 0, .int .i64 0, .int .i64 0, .int .i64 0, .slice a 0 c], .bool false]) ∧ Only [] w w' := by
  subst hxi
  refine (rpart_any w B R (newRS n) x h rfl hx).mono ?_
  rw [show (newRS n).now x = zeros from rfl, parse_zeros]
  rintro e w' ⟨a, c, rfl, -, -, hO⟩
  exact ⟨a, c, rfl, hO⟩
theorem rrecord_new (w : World) (B : Nat) (R : RefP) (n f l : Nat) (fi ti : Int) (hfi : fi = (f : Int)) (hto : ti = ((f + l : Nat) : Int)) (h : RefAt w B R (newRS n)) (hx : f + l ≤ n) :
    Calls Try.prog 46 #[.pointer (some ⟨R.q, 0, none⟩), .int .i64 fi, .int .i64 ti, .int .i64 0, .int .i64 0] w fun e w' => ∃ k a l c, e = .returned (.tuple #[.int .i64 k, .slice a l c, .bool false]) ∧ Only [] w w' := by
  subst hto hfi
  refine (rrecord_any w B R (newRS n) f l 0 0 h rfl hx).mono ?_
  rw [rrec_new]
  exact fun e w' h => h

set_option maxHeartbeats 4000000 in
theorem ropen_new (w : World) (B : Nat) (R : RefP) (M : Nat) (h : RefAt w B R (newRS (2 * M))) :
    Calls Try.prog 15 #[.pointer (some ⟨R.q, 0, none⟩)] w fun e w' => ∃ lp, e = .returned (.tuple #[.pointer (some ⟨lp, 0, none⟩), .slice none 0 0, .int .i64 0]) ∧ Only [] w w' := by
  have hsm : 2 * M ≤ 256 := h.small
  have hpos : 0 < 2 * M := h.pos
  have H := Lib.hid h
  clear h
  go_enter Try.func15, Try.ntmps15
  go_wp2_with fail
  refine (rread_cap _ B R (newRS (2 * M)) 0 H.out rfl hpos).mono ?_
  rintro e w1 ⟨g, c, rfl, -, -, hO1⟩
  have HO1 := Lib.hid hO1
  clear hO1
  go_wp2_with fail
  have hA := HO1.out.alloc (.cells #[.pointer (some ⟨R.q, 0, none⟩), .int .i64 0, .int .i64 0, .int .i64 0, .int .i64 0, .int .i64 0] 88)
  have hL0 : IsBlk (w1.alloc (.cells #[.pointer (some ⟨R.q, 0, none⟩), .int .i64 0, .int .i64 0, .int .i64 0, .int .i64 0, .int .i64 0] 88)) w1.heap.size _ := IsBlk.made _ _
  refine (rsize_any _ B R (newRS (2 * M)) (H.out.more hA)).mono ?_
  rintro e w' ⟨rfl, rfl⟩
  have HL0 := Lib.hid hL0
  have HA := Lib.hid hA
  clear hL0 hA HO1
  rw [show (newRS (2 * M)).n = 2 * M from rfl]
  go_wp2_with fail
  generalize hlp : w1.heap.size = lp at *
  go_loopw [9] (fun i wr => ∃ j : Nat, j ≤ 2 * M ∧ i = .int .i64 j ∧ IsBlk wr lp (.cells #[.pointer (some ⟨R.q, 0, none⟩), .int .i64 0, .int .i64 0, .int .i64 0, .int .i64 0, .int .i64 0] 88) ∧ Only [] w wr) (fun i _ => 2 * M - (intOf i).toNat)
  case atStart => exact ⟨0, Nat.zero_le _, rfl, HL0.out, HA.out⟩
  case round =>
    obtain ⟨j, hj, rfl, hL, hO⟩ := hrel
    have HL := Lib.hid hL
    have HO := Lib.hid hO
    clear hL hO HL0 HA
    go_wp2_with fail
    refine (rsize_any _ B R (newRS (2 * M)) (H.out.more HO.out)).mono ?_
    rintro e w' ⟨rfl, rfl⟩
    rw [show (newRS (2 * M)).n = 2 * M from rfl]
    by_cases hlt : j < 2 * M
    · have hlti : (j : Int) < 2 * (M : Int) := by omega
      go_wp2_with fail
      refine (rpart_new _ B R (2 * M) j j rfl (H.out.more HO.out) hlt).mono ?_
      rintro e w3 ⟨a3, c3, rfl, hO3⟩
      have HL3 := Lib.hid (HL.out.only (hO3.alloc (.cells #[.int .i64 0, .int .i64 0, .int .i64 0, .int .i64 0, .slice a3 0 c3] 76)) (by simp))
      have HO3 := Lib.hid (HO.out.plus (hO3.alloc (.cells #[.int .i64 0, .int .i64 0, .int .i64 0, .int .i64 0, .slice a3 0 c3] 76)))
      clear hO3
      go_wp2_with fail
      generalize w3.alloc (.cells #[.int .i64 0, .int .i64 0, .int .i64 0, .int .i64 0, .slice a3 0 c3] 76) = w4 at *
      go_quiet (fail)
      go_wp2_with fail
      go_roundw
      case rel => exact ⟨j + 1, by omega, by go_num, HL3.out.only ((Only.refl [] w4).drewN _) (by simp), HO3.out.drewN _⟩
      case measure => simp [intOf]; omega
    · have hge : ¬ (j : Int) < 2 * (M : Int) := by omega
      go_wp2_with fail
      go_loopw [12] (fun i wr => (i = .int .i64 0 ∨ i = .int .i64 1 ∨ i = .int .i64 2) ∧ IsBlk wr lp (.cells #[.pointer (some ⟨R.q, 0, none⟩), .int .i64 0, .int .i64 0, .int .i64 0, .int .i64 0, .int .i64 0] 88) ∧ Only [] w wr) (fun i _ => 2 - (intOf i).toNat)
      case atStart => exact ⟨.inl rfl, HL.out, HO.out⟩
      case round =>
        obtain ⟨hi, hL, hO⟩ := hrel
        have HL' := Lib.hid hL
        have HO' := Lib.hid hO
        clear hL hO HL HO hge hlp hj
        rcases hi with rfl | rfl | rfl
        · go_wp2_with fail
          refine (rpart_new _ B R (2 * M) 0 _ (by simp) (H.out.more HO'.out) (by omega)).mono ?_
          rintro e w3 ⟨a3, c3, rfl, hO3⟩
          have HL3 := Lib.hid (HL'.out.only (hO3.alloc (.cells #[.int .i64 0, .int .i64 0, .int .i64 0, .int .i64 0, .slice a3 0 c3] 76)) (by simp))
          have HO3 := Lib.hid (HO'.out.plus (hO3.alloc (.cells #[.int .i64 0, .int .i64 0, .int .i64 0, .int .i64 0, .slice a3 0 c3] 76)))
          clear hO3 HL' HO'
          go_wp2_with fail
          refine (rrecord_new _ B R (2 * M) 0 M _ _ (by simp) (by simp) (H.out.more HO3.out) (by omega)).mono ?_
          rintro e w4 ⟨k4, a4, l4, c4, rfl, hO4⟩
          have HL4 := Lib.hid (HL3.out.only hO4 (by simp))
          have HO4 := Lib.hid (HO3.out.plus hO4)
          clear hO4 HL3 HO3
          go_wp2_with fail
          go_quiet (fail)
          go_wp2_with fail
          go_roundw
          case rel => exact ⟨.inr (.inl rfl), HL4.out.only ((Only.refl [] w4).drewN _) (by simp), HO4.out.drewN _⟩
          case measure => simp [intOf]
        · go_wp2_with fail
          refine (rpart_new _ B R (2 * M) M _ (by simp) (H.out.more HO'.out) (by omega)).mono ?_
          rintro e w3 ⟨a3, c3, rfl, hO3⟩
          have HL3 := Lib.hid (HL'.out.only (hO3.alloc (.cells #[.int .i64 0, .int .i64 0, .int .i64 0, .int .i64 0, .slice a3 0 c3] 76)) (by simp))
          have HO3 := Lib.hid (HO'.out.plus (hO3.alloc (.cells #[.int .i64 0, .int .i64 0, .int .i64 0, .int .i64 0, .slice a3 0 c3] 76)))
          clear hO3 HL' HO'
          go_wp2_with fail
          refine (rrecord_new _ B R (2 * M) M M _ _ (by simp) (by simp; omega) (H.out.more HO3.out) (by omega)).mono ?_
          rintro e w4 ⟨k4, a4, l4, c4, rfl, hO4⟩
          have HL4 := Lib.hid (HL3.out.only hO4 (by simp))
          have HO4 := Lib.hid (HO3.out.plus hO4)
          clear hO4 HL3 HO3
          go_wp2_with fail
          go_quiet (fail)
          go_wp2_with fail
          go_roundw
          case rel => exact ⟨.inr (.inr rfl), HL4.out.only ((Only.refl [] w4).drewN _) (by simp), HO4.out.drewN _⟩
          case measure => simp [intOf]
        · have d2 := HL'.out.cell 2
          simp at d2
          go_wp2
          (try simp only [Exit.inBlock, Exit.then])
          refine bodyPost_ret (results_tmp3' rfl _ _ _) rfl ?_
          exact ⟨_, rfl, HO'.out⟩

theorem few_none (w : World) : Calls Try.prog 11 #[.slice none 0 0] w fun e w' => e = .returned (.bool true) ∧ w = w' := by
  go_enter Try.func11, Try.ntmps11
  go_wp2
  go_loopw [3] (fun i wr => i = .int .i64 0 ∧ wr = w) (fun _ _ => 0)
  case atStart => exact ⟨rfl, rfl⟩
  case round =>
    obtain ⟨rfl, rfl⟩ := hrel
    go_wp2
    go_ret
    exact ⟨rfl, rfl⟩

end Go.Proofs.Ytdfnclfmmohpeaa
namespace Go.Proofs.Ytdfnclfmmohpeaa
set_option maxRecDepth 100000
set_option linter.unusedVariables false
open Go.RowKit

/-- The row's append beside the log's, told from an older world on as well. -/
theorem wpList_push2 {ops : Array Oper} {rest : List Oper} {op : Oper} {a : Act} {Q : Exit → Act → World → Prop} {w V W0 W : World} {lp pd bl bm base : Nat} {D D' : DS} {L L' : LS} {v : Value} {rs : List (List UInt8)} {k k' : Int} {da : Option Addr} {dc : Nat} {c : List UInt8}
    (h : WX w W0 lp pd bl bm base D L v rs k) (hV : Only [lp, pd, bl, bm] V W0) (hVb : V.heap.size ≤ base) (hO : Only [lp, pd, bl, bm] W0 W) (hW : WL W lp pd bl bm D' L' (rs ++ [c]) k') (hk : 0 ≤ k') (hs : Src W da c.length c) (hd : 0 < c.length → ∀ x y, da = some ⟨x, y, none⟩ → x < w.heap.size)
    (hgd : op.guard = none) (s x : Operand) (ho : op.op = .call { callee := .builtin .append, args := #[s, x], argTypes := #[32, 32] }) (hs' : a.eval s = v) (g cc : Nat) (hx : a.eval x = .slice (some ⟨g, 0, none⟩) 1 cc) (hg : g = W.heap.size)
    (hn : ∀ v' W', WX w W' lp pd bl bm base D' L' v' (rs ++ [c]) k' → Only [lp, pd, bl, bm] V W' → wpList Try.prog ops Q rest (a.put op.dst v') W') :
    wpList Try.prog ops Q (op :: rest) a (W.alloc (.cells #[.slice da c.length dc] 23)) := by
  subst hg
  obtain ⟨hB, hOw, hbz⟩ := h.turn hO
  obtain ⟨xs, hown, hxs⟩ := hB
  have hA : Only [] W (W.alloc (.cells #[.slice da c.length dc] 23)) := (Only.refl [] W).alloc _
  have hrl : rs.length ≤ 128 := by have := hW.seqB; simp at this; omega
  have Hxs : ∀ (i : Nat) (r : List UInt8), rs[i]? = some r → ∃ da' dc', xs[i]? = some (Value.slice da' r.length dc') ∧ Src (W.alloc (.cells #[.slice da c.length dc] 23)) da' r.length r ∧ (0 < r.length → ∀ b o, da' = some ⟨b, o, none⟩ → b ∉ [lp, pd, bl, bm] ∧ v.ownBlock ≠ some b) :=
    fun i r hi => by obtain ⟨d1, c1, h1, h2, h3⟩ := hxs i r hi; exact ⟨d1, c1, h1, h2.more hA, h3⟩
  have Hdb : 0 < c.length → ∀ b' o, da = some ⟨b', o, none⟩ → b' ∉ [lp, pd, bl, bm] ∧ v.ownBlock ≠ some b' := fun hp b' o e => by
    have h1 := hd hp b' o e
    refine ⟨fun hm => by have := (h.news b' hm).1; omega, fun e2 => ?_⟩
    have h2 := (owns_lt hown e2).1
    have := h.lpb; have := h.lpw; omega
  refine wpList_app1 32 23 (.slice none 0 0) 24 Try.underlying32 info34 rfl (by omega) hgd s x ho base v rs.length xs hs' (hown.alloc _) (by omega) W.heap.size cc (.slice da c.length dc) hx (IsBlk.cell (IsBlk.made W _) 0) rfl (by have := hA.size; omega) ?_
  intro g2 c2 w2 ho2 hO2 hat2
  have hown2 : ∀ x, x < base → x ∉ ownL v := fun x hx hm => by have := (owns_lt hown (mem_ownL.1 hm)).1; omega
  refine hn _ _ ⟨(hW.more hA).kept hO2 (hown2 _ h.lpb) (hown2 _ h.pdb) (hown2 _ h.blb) (hown2 _ h.bmb), OwnBs.app (hown.alloc _) Hxs (hs.more hA) Hdb ho2 hO2 hat2, hk,
    (hOw.plus hA).then hO2 [] (by simp) (fun i hi => .inr (by have := (owns_lt hown (mem_ownL.1 hi)).1; have := h.lpw; have := h.lpb; omega)), h.lpw, h.pdw, h.blw, h.bmw, h.lpb, h.pdb, h.blb, h.bmb, by have := hA.size; have := hO2.size; omega⟩ ?_
  exact ((hV.then hO [lp, pd, bl, bm] (by simp) (fun i hi => .inl hi)).plus hA).then hO2 [lp, pd, bl, bm] (by simp) (fun i hi => .inr (by have := (owns_lt hown (mem_ownL.1 hi)).1; omega))

/-- Where a turn begins: a new disk's log, or one that was turned before. -/
def Turned (w V W : World) (lp pd bl bm M : Nat) (t : Int) (v : Value) : Prop :=
  (t = 0 ∧ WN W lp pd bl bm M ∨ 0 < t ∧ ∃ base D L rs k, WX w W lp pd bl bm base D L v rs k ∧ L.size = M ∧ L.gen = t ∧ k ≤ 100 * t) ∧ Only [] w W ∧ Only [lp, pd, bl, bm] V W

theorem Turned.more {w V W W' : World} {lp pd bl bm M : Nat} {t : Int} {v : Value} (h : Turned w V W lp pd bl bm M t v) (hO : Only [] W W') : Turned w V W' lp pd bl bm M t v := by
  obtain ⟨h1, h2, h3⟩ := h
  refine ⟨?_, h2.plus hO, h3.plus hO⟩
  rcases h1 with ⟨e, hN⟩ | ⟨hp, base, D, L, rs, k, hX, hr⟩
  · exact .inl ⟨e, hN.more hO⟩
  · exact .inr ⟨hp, base, D, L, rs, k, hX.more hO, hr⟩

/-- Fresh, at a turn's beginning. -/
theorem fresh_turn (w V W : World) (lp pd bl bm M : Nat) (t : Int) (v : Value) (a : Option Addr) (cap : Nat) (x : UInt8) (h : Turned w V W lp pd bl bm M t v) (hs : Src W a 1 [x]) (ht0 : 0 ≤ t) (ht : t ≤ 2) (hM : 4 ≤ M) :
    Calls Try.prog 22 #[.pointer (some ⟨lp, 0, none⟩), .slice a 1 cap] W fun e W' => e = .returned (.int .i64 0) ∧ ∃ D L k, WL W' lp pd bl bm D L [[x]] k ∧ L.size = M ∧ L.gen = t + 1 ∧ 0 ≤ k ∧ k ≤ 100 * t + 2 ∧ Only [lp, pd, bl, bm] W W' := by
  have hp1 : partsN ([x] : List UInt8).length = 1 := by simp [partsN]
  obtain ⟨h1, h2, h3⟩ := h
  rcases h1 with ⟨rfl, hN⟩ | ⟨hpos, base, D, L, rs, k, hX, hLM, hLg, hk⟩
  · refine (freshened_new W lp pd bl bm M a cap [x] hN hs (by omega) (by omega)).mono ?_
    rintro e W' ⟨rfl, D', hW, hO⟩
    exact ⟨rfl, D', _, _, hW, rfl, rfl, by omega, by omega, hO⟩
  · have hk0 := hX.k0
    refine (freshened W lp pd bl bm D L rs k a cap [x] hX.log hs (by omega) (by omega) (by omega) hk0 (by omega)).mono ?_
    rintro e W' ⟨rfl, D', hW, hO⟩
    exact ⟨rfl, D', _, _, hW, hLM, by show L.gen + 1 = _; rw [hLg], by omega, by omega, hO⟩

theorem src_byte (W : World) (t : Int) (h0 : 0 ≤ t) (h2 : t ≤ 2) : Src (W.alloc (.cells #[.int .u8 t] 5)) (some ⟨W.heap.size, 0, none⟩) 1 [UInt8.ofNat t.toNat] := by
  have h := src_new W [UInt8.ofNat t.toNat] 5 _ rfl
  have e : (bv [UInt8.ofNat t.toNat]).toArray = #[.int .u8 t] := by
    show #[Value.int .u8 ((UInt8.ofNat t.toNat).toNat : Int)] = _
    have := byte_of_int t
    rw [Int.emod_eq_of_lt h0 (by omega)] at this
    rw [this]
  rw [e] at h
  exact h

/-- A turn's rows, as they begin. -/
theorem turn_row {w V w3 : World} {lp pd bl bm : Nat} {D : DS} {L : LS} {k : Int} {t : Int} (h0 : 0 ≤ t) (h2 : t ≤ 2) (hW : WL w3 lp pd bl bm D L [[UInt8.ofNat t.toNat]] k) (hk : 0 ≤ k) (hO : Only [] w w3) (hsz : w.heap.size ≤ lp ∧ w.heap.size ≤ pd ∧ w.heap.size ≤ bl ∧ w.heap.size ≤ bm) (hlt : lp < w3.heap.size ∧ pd < w3.heap.size ∧ bl < w3.heap.size ∧ bm < w3.heap.size) :
    WX w ((w3.alloc (.cells #[.int .u8 t] 5)).alloc (.cells #[.slice (some ⟨w3.heap.size, 0, none⟩) 1 1] 23)) lp pd bl bm w3.heap.size D L (.slice (some ⟨w3.heap.size + 1, 0, none⟩) 1 1) [[UInt8.ofNat t.toNat]] k := by
  have e : (w3.alloc (.cells #[.int .u8 t] 5)).heap.size = w3.heap.size + 1 := by simp
  have h := OwnBs.one (base := w3.heap.size) (T := [lp, pd, bl, bm]) (dc := 1) (src_byte w3 t h0 h2) (by omega) (fun _ x y e hm => by injection e with e; injection e with e1 e2; simp at hm; omega)
  rw [e] at h
  exact ⟨(hW.more ((Only.refl [] w3).alloc _)).more ((Only.refl [] _).alloc _), h, hk, (hO.alloc _).alloc _, hsz.1, hsz.2.1, hsz.2.2.1, hsz.2.2.2, hlt.1, hlt.2.1, hlt.2.2.1, hlt.2.2.2, by simp; omega⟩

set_option maxHeartbeats 4000000 in
theorem stale_walk (a1 : Option Addr) (len1 cap1 : Nat) (ra : List (List UInt8)) (a2 : Option Addr) (len2 cap2 : Nat) (rb : List (List UInt8)) (sectors : Int) (w : World) (h1 : RowsArg w a1 len1 ra) (h2 : RowsArg w a2 len2 rb) :
    Calls Try.prog 8 #[.slice a1 len1 cap1, .slice a2 len2 cap2, .int .i64 sectors] w fun e w' => e = .returned (.bool true) ∧ Only [] w w' := by
  have H1 := Lib.hid h1
  have H2 := Lib.hid h2
  have hm1 := h1.2.1
  have hm2 := h2.2.1
  clear h1 h2
  by_cases hr10 : 10 < len1
  · have hri : (10 : Int) < (len1 : Int) := by omega
    go_enter Try.func8, Try.ntmps8
    go_wp2_with fail
    refine (known_any _).mono ?_
    rintro e w0 ⟨rfl, hO0⟩
    go_wp2
    go_ret
    exact ⟨rfl, hO0⟩
  have hri : ¬ (10 : Int) < (len1 : Int) := by omega
  by_cases hq10 : 10 < len2
  · have hwi : (10 : Int) < (len2 : Int) := by omega
    go_enter Try.func8, Try.ntmps8
    go_wp2_with fail
    refine (known_any _).mono ?_
    rintro e w0 ⟨rfl, hO0⟩
    go_wp2
    go_ret
    exact ⟨rfl, hO0⟩
  have hwi : ¬ (10 : Int) < (len2 : Int) := by omega
  go_enter Try.func8, Try.ntmps8
  go_wp2_with fail
  refine (known_any _).mono ?_
  rintro e w0 ⟨rfl, hO0⟩
  go_wp2_with fail
  refine (within_to _ sectors 7 (by omega) (by omega)).mono ?_
  rintro e w' ⟨m, rfl, hm, -, rfl⟩
  go_wp2_with fail
  refine (both_any _ (6 + (m : Int))).mono ?_
  rintro e w1 ⟨pd, bl, bm, R, B, M, rfl, hD, hRf, hMs, hM4, hM16, hp1, hp2, hp3, hB0, hpB, hlB, hmB, hO1⟩
  have hsz0 := hO0.size
  have hsz1 := hO1.size
  have HO1 := Lib.hid (hO0.plus hO1)
  have HRf := Lib.hid hRf
  have hd1 := hD.plt
  have hd2 := hD.blt
  have hd3 := hD.mlt
  clear hO0 hO1 hMs hRf
  go_wp2_with fail
  refine (opened_new _ pd bl bm M hD).mono ?_
  rintro e w2 ⟨lp, a, cap, rfl, hN, hlp, hO2⟩
  have HN := Lib.hid hN
  have HO2 := Lib.hid (HO1.out.plus hO2)
  have HlR : Hid (∀ W : World, Only [lp, pd, bl, bm] w2 W → RefAt W B R (newRS (2 * M))) := Lib.hid (fun W hW =>
    HRf.out.keep (hO2.then hW [pd, bl, bm] (by simp) (by simp; omega)) (by simp; omega))
  have Hsz : Hid (w.heap.size ≤ lp ∧ w.heap.size ≤ pd ∧ w.heap.size ≤ bl ∧ w.heap.size ≤ bm) := Lib.hid (by omega)
  have hdl := IsBlk.lt hN.log
  have hsz2 := hO2.size
  have Hlt : Hid (lp < w2.heap.size ∧ pd < w2.heap.size ∧ bl < w2.heap.size ∧ bm < w2.heap.size) := Lib.hid (by omega)
  clear hN hO2 HO1 hD hlp hsz0 hsz1 hp1 hp2 hp3 hd1 hd2 hd3 hdl hsz2 HRf hB0 hpB hlB hmB
  go_wp2_with fail
  go_loopw [13, 12] (fun i v wr => ∃ t : Int, 0 ≤ t ∧ t ≤ 3 ∧ i = .int .i64 t ∧ Turned w w2 wr lp pd bl bm M t v) (fun i _ _ => 3 - (intOf i).toNat)
  case atStart => exact ⟨0, by omega, by omega, rfl, .inl ⟨rfl, HN.out⟩, HO2.out, Only.refl _ _⟩
  case round =>
    obtain ⟨t, ht0, ht3, rfl, hT⟩ := hrel
    have HT := Lib.hid hT
    clear hT HN HO2
    by_cases hlt : t < 3
    · go_upto_region 15 with fail
      go_cut [14] (fun s14 wx => ∃ ar lr cr rr, s14 = .slice ar lr cr ∧ RowsArg w ar lr rr ∧ lr ≤ 10 ∧ Only [] wr wx)
      case first =>
        have ht : t = 0 ∨ t = 1 ∨ t = 2 := by omega
        clear hlt ht0 ht3
        rcases ht with rfl | rfl | rfl
        · go_wp2_with fail
          go_meet
          exact ⟨_, _, _, _, rfl, H1.out, by omega, (Only.refl [] wr).alloc _⟩
        · go_wp2_with fail
          go_meet
          exact ⟨_, _, _, _, rfl, H2.out, by omega, (Only.refl [] wr).alloc _⟩
        · go_wp2_with fail
          go_meet
          exact ⟨_, _, _, [], rfl, ⟨rfl, by simp [maxLen], fun h => by simp at h⟩, by omega, (Only.refl [] wr).alloc _⟩
      case rest =>
        obtain ⟨ar, lr, cr, rr, rfl, hRr, hlr, hOc⟩ := hcut
        have HT' : Hid (Turned w w2 (wc.alloc (.cells #[.int .u8 t] 5)) lp pd bl bm M t u12) := Lib.hid (HT.out.more (hOc.alloc _))
        have HRr := Lib.hid hRr
        clear HT hRr hOc
        go_wp2_with fail
        refine (fresh_turn w w2 _ lp pd bl bm M t u12 _ 1 _ HT'.out (src_byte wc t ht0 (by omega)) ht0 (by omega) hM4).mono ?_
        rintro e w3 ⟨rfl, D3, L3, k3, hW3, hL3, hg3, hk30, hk3, hO3⟩
        have hO3w := HT'.out.2.1.then hO3 [] (by simp) (by have := Hsz.out; simp; omega)
        have HV3 := Lib.hid ((HT'.out.2.2.then hO3 [lp, pd, bl, bm] (by simp) (by simp)))
        have hsz3 := HV3.out.size
        have HX3 := Lib.hid (turn_row (V := w2) ht0 (by omega) hW3 hk30 hO3w Hsz.out (by have := Hlt.out; omega))
        clear hW3 hO3w hO3 HT'
        have HV4 : Hid (Only [lp, pd, bl, bm] w2 ((w3.alloc (.cells #[.int .u8 t] 5)).alloc (.cells #[.slice (some ⟨w3.heap.size, 0, none⟩) 1 1] 23))) := Lib.hid ((HV3.out.alloc _).alloc _)
        clear HV3
        go_wp2_with fail
        generalize hw4 : (w3.alloc (.cells #[.int .u8 t] 5)).alloc (.cells #[.slice (some ⟨w3.heap.size, 0, none⟩) 1 1] 23) = w4 at *
        clear hw4
        generalize hb0 : w3.heap.size = base at *
        generalize UInt8.ofNat t.toNat = x at *
        go_loopw [15, 12] (fun i v wr => ∃ (j : Nat) (rs : List (List UInt8)) (k : Int) (D : DS) (L : LS), j ≤ lr ∧ i = .int .i64 j ∧ WX w wr lp pd bl bm base D L v rs k ∧ k ≤ 100 * t + 2 + 3 * j ∧ L.size = M ∧ L.gen = t + 1 ∧ Only [lp, pd, bl, bm] w2 wr) (fun i _ _ => lr - (intOf i).toNat)
        case atStart => exact ⟨0, [[x]], k3, D3, L3, Nat.zero_le _, rfl, HX3.out, by omega, hL3, hg3, HV4.out⟩
        case round =>
          obtain ⟨j, rs, k, Dj, L, hj, rfl, hX, hk, hLM, hLg, hV⟩ := hrel
          have HX := Lib.hid hX
          have HV := Lib.hid hV
          have hk0 := hX.k0
          have hLg' := Lib.hid hLg
          clear hX hV HX3 HV4 hLg hg3
          by_cases hlt' : j < lr
          · have hlti : (j : Int) < (lr : Int) := by omega
            obtain ⟨b, o, r, da, dc, rfl, hrj, hcj, hsj, hdc, hdl⟩ := HRr.out.at_ HX.out.only hlt'
            have hdci : (r.length : Int) ≤ (dc : Int) := by omega
            have Hsj := Lib.hid hsj
            have Hdl := Lib.hid hdl
            clear hrj hsj hdl
            go_upto_region 22 with fail
            go_cut [16] (fun s16 wx => s16 = .slice da (r.take 60).length dc ∧ Only [] wr wx)
            case first =>
              by_cases h60 : 60 < r.length
              · have h60i : (60 : Int) < (r.length : Int) := by omega
                have hln : Hid ((r.take 60).length = 60) := Lib.hid (by rw [List.length_take]; omega)
                go_quiet (fail)
                go_wp2_with fail
                go_meet
                exact ⟨by rw [hln.out], (Only.refl [] _).drewN _⟩
              · have h60i : ¬ (60 : Int) < (r.length : Int) := by omega
                have hln : Hid ((r.take 60).length = r.length) := Lib.hid (by rw [List.length_take]; omega)
                go_quiet (fail)
                go_wp2_with fail
                go_meet
                exact ⟨by rw [hln.out], (Only.refl [] _).drewN _⟩
            case rest =>
              obtain ⟨rfl, hOc⟩ := hcut
              have hsc := (Hsj.out.more hOc).head (r.take 60).length (by rw [List.length_take]; omega)
              rw [take_len] at hsc
              have hdl' : 0 < (r.take 60).length → ∀ x y, da = some ⟨x, y, none⟩ → x < w.heap.size := fun hp x y e => Hdl.out (by rw [List.length_take] at hp; omega) x y e
              have hpb : partsN (r.take 60).length ≤ 2 := by unfold partsN; rw [List.length_take]; omega
              have HXc := Lib.hid (HX.out.more hOc)
              have HVc := Lib.hid (HV.out.plus hOc)
              generalize r.take 60 = c at *
              have Hsc := Lib.hid hsc
              have Hdl' := Lib.hid hdl'
              clear hsc hdl' HX HV Hsj Hdl hcj hdci hdc hOc
              by_cases hf : L.next + partsN c.length ≤ L.size
              · go_wp2_with fail
                refine (app_yes _ lp pd bl bm Dj L rs k da dc c HXc.out.log Hsc.out (by omega) (by omega) (by omega) hf).mono ?_
                rintro e W1 ⟨rfl, D1, hW1, hO1⟩
                have HW1 := Lib.hid hW1
                have HO1 := Lib.hid hO1
                have Hs1 : Hid (Src W1 da c.length c) := Lib.hid (Hsc.out.keep hO1 (fun hp x y e hm => by have := Hdl'.out hp x y e; have := (HXc.out.news x hm).1; omega))
                clear hW1 hO1
                go_wp2_with (at_builtin; refine wpList_push2 HXc.out HVc.out hsz3 HO1.out HW1.out (by omega) Hs1.out Hdl'.out rfl _ _ rfl rfl _ _ rfl rfl ?_; intro v' W2 hX2 hV2)
                have HX2 := Lib.hid hX2
                have HV2 := Lib.hid hV2
                clear hX2 hV2
                go_roundw
                case rel => exact ⟨j + 1, rs ++ [c], _, D1, _, by omega, by go_num, HX2.out, by omega, hLM, hLg'.out, HV2.out⟩
                case measure => simp [intOf]; omega
              · go_wp2_with fail
                refine (app_no _ lp pd bl bm Dj L rs k da dc c HXc.out.log Hsc.out (by omega) (by omega) (by omega) (by omega)).mono ?_
                rintro e W1 ⟨rfl, hW1, hO1⟩
                have HX1 := Lib.hid (HXc.out.mk' hO1 hW1 hk0)
                have HV1 := Lib.hid (HVc.out.then hO1 [lp, pd, bl, bm] (by simp) (by simp))
                clear hW1 hO1
                go_wp2_with fail
                go_roundw
                case rel => exact ⟨j + 1, rs, k, Dj, L, by omega, by go_num, HX1.out, by omega, hLM, hLg'.out, HV1.out⟩
                case measure => simp [intOf]; omega
          · have hge : ¬ (j : Int) < (lr : Int) := by omega
            go_wp2_with fail
            go_roundw
            case rel => exact ⟨t + 1, by omega, by omega, by go_num, .inr ⟨by omega, base, Dj, L, rs, k, HX.out, hLM, hLg'.out, by omega⟩, HX.out.only, HV.out⟩
            case measure => simp [intOf]; omega
    · obtain rfl : t = 3 := by omega
      obtain ⟨hc, -, hV⟩ := HT.out
      rcases hc with ⟨h, -⟩ | ⟨-, base, D, L, rs, k, hX, hLM, hLg, hk⟩
      · exact absurd h (by decide)
      have HX := Lib.hid hX
      have HV := Lib.hid hV
      clear hX hV HT hLg
      go_wp2_with fail
      refine (opened _ lp pd bl bm D L rs k HX.out.log).mono ?_
      rintro e w5 ⟨lp', a5, cap5, rfl, -, hB5, -, hO5⟩
      have HB5 := Lib.hid hB5
      have HO5 := Lib.hid hO5
      clear hB5 hO5
      go_wp2_with fail
      refine (ropen_new _ B R M (HlR.out _ (HV.out.plus HO5.out))).mono ?_
      rintro e w6 ⟨lp6, rfl, hO6⟩
      obtain ⟨va, vc, rfl, hBv, -⟩ := (HX.out.row.more (HO5.out.plus hO6)).shape
      have hrl : rs.length ≤ 128 := HX.out.log.seqB
      have HB6 := Lib.hid (HB5.out.more hO6)
      have HBv := Lib.hid hBv
      have HO6 := Lib.hid ((HX.out.only.plus HO5.out).plus hO6)
      clear hBv hO6 HB5 HO5
      go_wp2_with fail
      refine (rows_any _ a5 va cap5 vc rs rs HB6.out HBv.out (by omega)).mono ?_
      rw [decide_eq_true rfl]
      rintro e w7 ⟨rfl, hO7⟩
      have HO7 := Lib.hid (HO6.out.plus hO7)
      clear hO7
      go_wp2_with fail
      refine (few_none _).mono ?_
      rintro e w8 ⟨rfl, rfl⟩
      go_wp2
      go_ret
      exact ⟨rfl, HO7.out⟩

end Go.Proofs.Ytdfnclfmmohpeaa
