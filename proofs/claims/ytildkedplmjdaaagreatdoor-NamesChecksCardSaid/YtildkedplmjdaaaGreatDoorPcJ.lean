/-
  The document's places: where all begins, in order.
-/
import Derived.Test.YtildkedplmjdaaaGreatDoorPcI
namespace Go.Proofs.YtildkedplmjdaaaGreatDoor
set_option maxRecDepth 100000
set_option linter.unusedVariables false
open Go.RowKit Go.Sort

theorem infoI : (Tryz.prog.info? 3).map (fun i => (i.zero, i.size, i.bytes)) = some (some (.int .i64 0), 1, 8) := by kernel_rfl
def natsV (l : List Nat) : List Value := l.map fun (n : Nat) => Value.int .i64 (n : Int)
theorem natsV_app (l m : List Nat) : natsV (l ++ m) = natsV l ++ natsV m := by simp [natsV]
/-- A row of places of one's own. -/
def OwnP (w : World) (base : Nat) (v : Value) (l : List Nat) : Prop := w.ownsRow base 3 1 v l.length (natsV l)
theorem wp_append_i {w : World} {o : Oper} {a : Act} {K : Act → World → Prop} {Q : Exit → Act → World → Prop} (s x : Operand)
    (ho : o.op = .call { callee := .builtin .append, args := #[s, x], argTypes := #[23, 23] })
    (base : Nat) (v : Value) (l : List Nat) (hs : a.eval s = v) (hown : OwnP w base v l) (q c : Nat) (n : Nat) (hx : a.eval x = .slice (some ⟨q, 0, none⟩) 1 c) (hc : w.cell? ⟨q, 0, none⟩ = some (.int .i64 (n : Int))) (hsm : l.length ≤ 1000000) (hbase : base ≤ w.heap.size)
    (h : ∀ v' w', OwnP w' base v' (l ++ [n]) → Only (ownL v) w w' → (v'.ownBlock = v.ownBlock ∨ v'.ownBlock = some w.heap.size) → K (a.put o.dst v') w') : o.wp Tryz.prog a w K Q := by
  obtain ⟨i0, hi, hz0, hz1, hz2⟩ := info_parts infoI
  obtain ⟨v', w', hr, k2, k3, k4, k5⟩ := run_append_own_at (P := Tryz.prog) w base _ o.type _ i0 _ 1 8 Tryz.underlying23 hi hz0 hz1 hz2 rfl (by decide) v l.length _ hown ⟨q, 0, none⟩ 1 c [.int .i64 (n : Int)] rfl (fun j u hu => by
    rw [Addr.add_mid]
    match j, hu with
    | 0, hu => simp at hu; rw [← hu]; exact hc
    | n + 1, hu => simp at hu) (fun u hu => by
    simp only [List.mem_cons, List.not_mem_nil, or_false] at hu
    rcases hu with rfl; rfl) (by unfold maxLen; omega) (by omega) hbase
  unfold Oper.wp execOp
  simp only [ho, resolve, invoke, builtin, Sem.run_bind, Sem.run_pure, Result.andThen_ok, List.map_toArray, List.map_cons, List.map_nil, hs, hx, hr]
  exact h v' w' (by unfold OwnP; rw [natsV_app, List.length_append]; exact k2) (grown_only k3) k5
theorem wpList_append_i {w : World} {ops : Array Oper} {rest : List Oper} {o : Oper} {a : Act} {Q : Exit → Act → World → Prop} (hgd : o.guard = none) (s x : Operand)
    (ho : o.op = .call { callee := .builtin .append, args := #[s, x], argTypes := #[23, 23] })
    (base : Nat) (v : Value) (l : List Nat) (hs : a.eval s = v) (hown : OwnP w base v l) (q c : Nat) (n : Nat) (hx : a.eval x = .slice (some ⟨q, 0, none⟩) 1 c) (hc : w.cell? ⟨q, 0, none⟩ = some (.int .i64 (n : Int))) (hsm : l.length ≤ 1000000) (hbase : base ≤ w.heap.size)
    (h : ∀ v' w', OwnP w' base v' (l ++ [n]) → Only (ownL v) w w' → (v'.ownBlock = v.ownBlock ∨ v'.ownBlock = some w.heap.size) → wpList Tryz.prog ops Q rest (a.put o.dst v') w') : wpList Tryz.prog ops Q (o :: rest) a w :=
  wpList_plain hgd fun K hK => wp_append_i s x ho base v l hs hown q c n hx hc hsm hbase (fun v' w' h1 h2 h3 => hK _ _ (h v' w' h1 h2 h3))

def placesB : Blk → List Nat
  | .nil => []
  | .cons _ p _ a b r => p :: (placesB a ++ (placesB b ++ placesB r))
theorem placesB_len : ∀ (b : Blk), (placesB b).length = b.cnt
  | .nil => rfl
  | .cons _ p _ a b r => by simp only [placesB, List.length_cons, List.length_append, placesB_len a, placesB_len b, placesB_len r, Blk.cnt]; omega
/-- What places leaves: the row, longer. -/
def PlacesTo (w : World) (base : Nat) (v : Value) (l : List Nat) (r : Ending) (w' : World) : Prop :=
  ∃ v', r = .returned v' ∧ OwnP w' base v' l ∧ Only (ownL v) w w' ∧ ∀ g, v'.ownBlock = some g → g ∈ ownL v ∨ w.heap.size ≤ g
def RowSP (base sz : Nat) (T : List Nat) (l : List Nat) : SP (Only []) := ⟨fun v w => OwnP w base v l ∧ ∀ g, v.ownBlock = some g → g ∈ T ∨ sz ≤ g, fun _ _ _ h hO => ⟨owns_keep h.1 hO (by simp), h.2⟩⟩
theorem row_word {base sz : Nat} {T l : List Nat} {v : Value} {w : World} (h : (RowSP base sz T l).p v w) : OwnP w base v l ∧ ∀ g, v.ownBlock = some g → g ∈ T ∨ sz ≤ g := h

set_option maxHeartbeats 16000000 in
theorem places_step (N : Nat) (ih : ∀ b : Blk, b.cnt < N → ∀ (w : World) (base : Nat) (v u : Value) (l : List Nat) (fp : List Nat), OwnP w base v l → base ≤ w.heap.size → BlkAt w u b fp → (∀ k ∈ fp, k < base) → l.length + b.cnt ≤ 1000000 →
      Calls Tryz.prog 62 #[v, u] w (PlacesTo w base v (l ++ placesB b)))
    (b : Blk) (hN : b.cnt ≤ N) (w : World) (base : Nat) (v u : Value) (l : List Nat) (fp : List Nat) (hv : OwnP w base v l) (hbw : base ≤ w.heap.size) (h : BlkAt w u b fp) (hfp : ∀ k ∈ fp, k < base) (hln : l.length + b.cnt ≤ 1000000) :
    Calls Tryz.prog 62 #[v, u] w (PlacesTo w base v (l ++ placesB b)) := by
  have Ih := Lib.hid ih
  clear ih
  have h0 : ∃ a c xs fq, u = .slice a b.len c ∧ EncB w b xs fq ∧ (∀ k ∈ fq, k < base) ∧ (0 < b.len → ∃ g, a = some ⟨g, 0, none⟩ ∧ g < base ∧ w.rangeAt g 0 xs) := by
    rcases h with ⟨rfl, h1, rfl⟩ | ⟨g, c, fq, xs, rfl, hc, hn, rfl, ⟨cs, t, hg⟩, hr, he⟩
    · have := Blk.len_zero b h1
      subst this
      exact ⟨none, 0, [], [], rfl, ⟨rfl, rfl⟩, by simp, fun h => by simp [Blk.len] at h⟩
    · exact ⟨_, c, xs, fq, rfl, he, fun k hk => hfp k (by simp [hk]), fun _ => ⟨g, rfl, hfp g (by simp), hr⟩⟩
  obtain ⟨a, c, xs, fq, rfl, he, hfq, hr⟩ := h0
  have He := Lib.hid (And.intro he (And.intro hfq hr))
  have hbl := b.len_cnt
  obtain ⟨av0, cv0, rfl⟩ := owns_slice hv
  have Hv := Lib.hid hv
  have hT0 : Hid (∀ k ∈ ownL (.slice av0 l.length cv0), base ≤ k ∧ k < w.heap.size) := Lib.hid (fun k hk => World.ownsRow.lt hv k (mem_ownL.1 hk))
  clear he hr hfq h hv hfp
  go_enter Tryz.func62, Tryz.ntmps62
  go_wp2_with fail
  generalize hLL : l ++ placesB b = LL at *
  have HLL := Lib.hid hLL
  clear hLL
  generalize hT0v : ownL (.slice av0 l.length cv0) = T0 at *
  go_loopg [0, 5] 1000000 (fun gk v iv wr => ∃ (j : Nat) (acc : List Nat) (rs : Blk) (xr : List Value) (fr : List Nat), iv = .int .i64 j ∧ j + rs.len = b.len ∧ rs.len ≤ gk ∧ rs.cnt ≤ N ∧ acc.length + rs.cnt ≤ 1000000 ∧ OwnP wr base v acc ∧ (∀ k, v.ownBlock = some k → k ∈ T0 ∨ w.heap.size ≤ k) ∧ Hid (acc ++ placesB rs = LL) ∧ EncB w rs xr fr ∧ (∀ k ∈ fr, k < base) ∧
      (0 < rs.len → ∃ g, a = some ⟨g, 0, none⟩ ∧ g < base ∧ w.rangeAt g (j * 5) xr) ∧ Only T0 w wr)
  case atStart =>
    refine ⟨0, l, b, xs, fq, rfl, by omega, by omega, hN, hln, Hv.out, fun k hk => .inl (by rw [← hT0v]; exact mem_ownL.2 hk), HLL, He.out.1, He.out.2.1, fun h => ?_, Only.refl _ _⟩
    obtain ⟨g, h1, h2, h3⟩ := He.out.2.2 h
    exact ⟨g, h1, h2, by rw [Nat.zero_mul]; exact h3⟩
  case round =>
    obtain ⟨j, acc, rs, xr, fr, rfl, hjl, hgk, hrc, hal, hown, hfresh, hLL, hE, hfr, hra, hO⟩ := hrel
    have HO := Lib.hid hO
    clear hO
    cases rs with
    | nil =>
      have hji : ¬ (j : Int) < (b.len : Int) := by simp only [Blk.len] at hjl; omega
      have hL : acc = LL := by rw [← hLL.out]; simp [placesB]
      subst hL
      have Hown := Lib.hid hown
      clear hown hLL
      go_wp2_with fail
      go_ret
      exact ⟨_, rfl, Hown.out, by rw [hT0v]; exact HO.out, by rw [hT0v]; exact hfresh⟩
    | cons kd pl nm A B rr =>
      have hji : (j : Int) < (b.len : Int) := by simp only [Blk.len] at hjl; omega
      obtain ⟨va, vb, fa, fb, fr', xr', rfl, rfl, hA, hB, hE'⟩ := hE
      obtain ⟨g, hag, hg, hrx⟩ := hra (by simp [Blk.len])
      have HA' := Lib.hid (show BlkAt w va A fa from hA)
      have HB' := Lib.hid (show BlkAt w vb B fb from hB)
      obtain ⟨aa, ca, rfl, -⟩ := RowE.slice hA
      obtain ⟨ab, cb, rfl, -⟩ := RowE.slice hB
      have hcc : A.cnt < N ∧ B.cnt < N ∧ rr.cnt ≤ N := by simp only [Blk.cnt] at hrc; omega
      obtain ⟨av, cv, rfl⟩ := owns_slice hown
      have hbr : base ≤ wr.heap.size := Nat.le_trans hbw HO.out.size
      have Hown := Lib.hid hown
      generalize hT : ownL (.slice av acc.length cv) = T at *
      have hTb : ∀ k ∈ T, base ≤ k := fun k hk => by rw [← hT] at hk; exact (World.ownsRow.lt hown k (mem_ownL.1 hk)).1
      have hwT : ∀ W, Only T wr W → ∀ S : List Nat, (∀ k ∈ S, k < base) → (∀ k ∈ S, k ∉ T ++ T0) := fun W hW S hS k hk hm => by
        have h1 := hS k hk
        rcases List.mem_append.1 hm with h2 | h2
        · have := hTb k h2; omega
        · have := (hT0.out k h2).1; omega
      have hcl : ∀ W, Only T wr W → W.cell? ⟨g, j * 5 + 1, none⟩ = some (.int .i64 pl) ∧ W.cell? ⟨g, j * 5 + 3, none⟩ = some (.slice aa A.len ca) ∧ W.cell? ⟨g, j * 5 + 4, none⟩ = some (.slice ab B.len cb) ∧ g < W.heap.size := fun W hW => by
        have hWW := HO.out.then hW (T ++ T0) (fun i hi => .inl (by simp [hi])) (fun i hi => .inl (by simp [hi]))
        have hgn : g ∉ T ++ T0 := hwT W hW [g] (by simpa using hg) g (by simp)
        have hgw : g < w.heap.size := by omega
        exact ⟨(hWW.cell (p := ⟨g, j * 5 + 1, none⟩) hgw hgn).trans (hrx 1 _ rfl), (hWW.cell (p := ⟨g, j * 5 + 3, none⟩) hgw hgn).trans (hrx 3 _ rfl), (hWW.cell (p := ⟨g, j * 5 + 4, none⟩) hgw hgn).trans (hrx 4 _ rfl), Nat.lt_of_lt_of_le hgw hWW.size⟩
      have hrx2 := Lib.hid (fun i u (hu : xr'[i]? = some u) => hrx (i + 5) u hu)
      have HE := Lib.hid hE'
      have Hcl := Lib.hid hcl
      have hfa : ∀ k ∈ fa, k < base := fun k hk => hfr k (by simp [hk])
      have hfb : ∀ k ∈ fb, k < base := fun k hk => hfr k (by simp [hk])
      have hl1 : (acc ++ [pl]).length + A.cnt ≤ 1000000 := by simp only [Blk.cnt, List.length_append, List.length_cons, List.length_nil] at *; omega
      have hl2 : (acc ++ [pl] ++ placesB A).length + B.cnt ≤ 1000000 := by simp only [Blk.cnt, List.length_append, List.length_cons, List.length_nil, placesB_len] at *; omega
      have HRA : Hid (∀ W, Only T wr W → ∀ u, OwnP W base u (acc ++ [pl]) → Calls Tryz.prog 62 #[u, .slice aa A.len ca] W (PlacesTo W base u (acc ++ [pl] ++ placesB A))) := Lib.hid (fun W hW u hu => Ih.out A hcc.1 W base u _ _ fa hu (Nat.le_trans hbr hW.size) (HA'.out.keep (HO.out.then hW (T ++ T0) (fun i hi => .inl (by simp [hi])) (fun i hi => .inl (by simp [hi]))) (hwT W hW fa hfa)) hfa hl1)
      have HRB : Hid (∀ W, Only T wr W → ∀ u, OwnP W base u (acc ++ [pl] ++ placesB A) → Calls Tryz.prog 62 #[u, .slice ab B.len cb] W (PlacesTo W base u (acc ++ [pl] ++ placesB A ++ placesB B))) := Lib.hid (fun W hW u hu => Ih.out B hcc.2.1 W base u _ _ fb hu (Nat.le_trans hbr hW.size) (HB'.out.keep (HO.out.then hW (T ++ T0) (fun i hi => .inl (by simp [hi])) (fun i hi => .inl (by simp [hi]))) (hwT W hW fb hfb)) hfb hl2)
      have hfr2 : Hid (∀ k ∈ fr', k < base) := Lib.hid (fun k hk => hfr k (by simp [hk]))
      have hTf : Hid (∀ k ∈ T, k ∈ T0 ∨ w.heap.size ≤ k) := Lib.hid (fun k hk => by rw [← hT] at hk; exact hfresh k (mem_ownL.1 hk))
      have hacl : acc.length ≤ 1000000 := by omega
      have hLL2 : Hid (acc ++ [pl] ++ placesB A ++ placesB B ++ placesB rr = LL) := Lib.hid (by rw [← hLL.out]; simp [placesB])
      have hdr : Only [] wr wr.drew := (Only.refl [] wr).drew
      have hrcn : (acc ++ [pl] ++ placesB A ++ placesB B).length + rr.cnt ≤ 1000000 := by simp only [Blk.cnt, List.length_append, List.length_cons, List.length_nil, placesB_len] at *; omega
      have Hrcn := Lib.hid hrcn
      clear hrx hE' hra hcl hA hB hfr hfa hfb hl1 hl2 hown hfresh hLL hTb hwT hrcn hbw
      have hbw := hbr
      subst hag
      go_upto_region 4 with fail
      refine wp_region_chain (P := Tryz.prog) 20 (by kernel_rfl) (by kernel_rfl) (fun i => i == 19) (fun k => k == 7 || k == 13 || k == 19) 7 (by decide +kernel) (fun k hk => by simp at hk; omega) T
        [SP.is (.slice av acc.length cv),
         SP.is (.slice (some ⟨g, 0, none⟩) b.len c),
         SP.is (.int .i64 j),
         SP.is (.pointer (some ⟨g, j * 5, none⟩)),
         SP.is (.pointer (some ⟨g, j * 5 + 1, none⟩)),
         SP.is (.int .i64 pl),
         ⟨fun v W => ∃ q, v = .slice (some ⟨q, 0, none⟩) 1 1 ∧ IsBlk W q (.cells #[.int .i64 pl] 3), fun _ _ _ ⟨q, e, h⟩ hO => ⟨q, e, h.only hO (by simp)⟩⟩,
         RowSP base wr.heap.size T (acc ++ [pl]),
         SP.is (.slice (some ⟨g, 0, none⟩) b.len c),
         SP.is (.int .i64 j),
         SP.is (.pointer (some ⟨g, j * 5, none⟩)),
         SP.is (.pointer (some ⟨g, j * 5 + 3, none⟩)),
         SP.is (.slice aa A.len ca),
         RowSP base wr.heap.size T (acc ++ [pl] ++ placesB A),
         SP.is (.slice (some ⟨g, 0, none⟩) b.len c),
         SP.is (.int .i64 j),
         SP.is (.pointer (some ⟨g, j * 5, none⟩)),
         SP.is (.pointer (some ⟨g, j * 5 + 4, none⟩)),
         SP.is (.slice ab B.len cb),
         RowSP base wr.heap.size T (acc ++ [pl] ++ placesB A ++ placesB B)] ?_ ?_ ?_
      · intro k hkn hk
        have hk3 : k = 7 ∨ k = 13 ∨ k = 19 := by simpa [or_assoc] using hk
        rcases hk3 with rfl | rfl | rfl
        all_goals refine ⟨?_, ?_, ?_, ?_, ?_, ?_, ?_, ?_, ?_, ?_, ?_, ?_, ?_, ?_, ?_, ?_, ?_, ?_, ?_, ?_, trivial⟩
        all_goals first
          | exact .inr (fun _ _ _ h _ => h)
          | exact .inl (by decide +kernel)
      · simp only [List.take_succ_cons, List.take_zero]
        refine StepsOK.cons ?_ (StepsOK.cons ?_ (StepsOK.cons ?_ (StepsOK.cons ?_ (StepsOK.cons ?_ (StepsOK.cons ?_ (StepsOK.cons ?_ (StepsOK.cons ?_ (StepsOK.cons ?_ (StepsOK.cons ?_ (StepsOK.cons ?_ (StepsOK.cons ?_ (StepsOK.cons ?_ (StepsOK.cons ?_ (StepsOK.cons ?_ (StepsOK.cons ?_ (StepsOK.cons ?_ (StepsOK.cons ?_ (StepsOK.cons ?_ (StepsOK.cons ?_ StepsOK.nil)))))))))))))))))))
        · intro a W L N hR hold hφ hcl hkp hd K hK
          have e0 := hold 0 (by kernel_rfl)
          clear hold hφ hcl hkp hd
          rw [if_pos (by rfl)]
          go_simp
          exact hK _ _ (RkB.small rfl (Only.refl _ _)) rfl
        · intro a W L N hR hold hφ hcl hkp hd K hK
          have e1 := hold 1 (by kernel_rfl)
          clear hold hφ hcl hkp hd
          rw [if_pos (by rfl)]
          go_simp
          exact hK _ _ (RkB.small rfl (Only.refl _ _)) rfl
        · intro a W L N hR hold hφ hcl hkp hd K hK
          have e5 := hold 5 (by kernel_rfl)
          clear hold hφ hcl hkp hd
          rw [if_pos (by rfl)]
          go_simp
          exact hK _ _ (RkB.small rfl (Only.refl _ _)) rfl
        · intro a W L N hR hold hφ hcl hkp hd K hK
          have e13 := got hφ (hd 1 (by kernel_rfl)) rfl rfl rfl
          have e14 := got hφ (hd 2 (by kernel_rfl)) rfl rfl rfl
          obtain ⟨c1, c3, c4, c5⟩ := Hcl.out W (hdr.then hR T (by simp) (fun i hi => .inl hi))
          clear hold hφ hcl hkp hd
          rw [if_pos (by rfl)]
          go_simp
          exact hK _ _ (RkB.small rfl (Only.refl _ _)) rfl
        · intro a W L N hR hold hφ hcl hkp hd K hK
          have e15 := got hφ (hd 3 (by kernel_rfl)) rfl rfl rfl
          clear hold hφ hcl hkp hd
          rw [if_pos (by rfl)]
          go_simp
          exact hK _ _ (RkB.small rfl (Only.refl _ _)) rfl
        · intro a W L N hR hold hφ hcl hkp hd K hK
          have e16 := got hφ (hd 4 (by kernel_rfl)) rfl rfl rfl
          obtain ⟨c1, c3, c4, c5⟩ := Hcl.out W (hdr.then hR T (by simp) (fun i hi => .inl hi))
          clear hold hφ hcl hkp hd
          rw [if_pos (by rfl)]
          go_simp
          exact hK _ _ (RkB.small rfl (Only.refl _ _)) rfl
        · intro a W L N hR hold hφ hcl hkp hd K hK
          have e17 := got hφ (hd 5 (by kernel_rfl)) rfl rfl rfl
          clear hold hφ hcl hkp hd
          rw [if_pos (by rfl)]
          go_simp
          exact hK _ _ (RkB.small rfl ((Only.refl _ _).alloc _)) ⟨_, rfl, IsBlk.made W _⟩
        · intro a W L N hR hold hφ hcl hkp hd K hK
          have e12 := got hφ (hd 0 (by kernel_rfl)) rfl rfl rfl
          obtain ⟨u18, e18, q18, p18, b18⟩ := gotP hφ (hd 6 (by kernel_rfl)) rfl rfl rfl
          have p18 : u18 = .slice (some ⟨q18, 0, none⟩) 1 1 := p18
          subst p18
          have hpr := hdr.plus (hcl.2.2.2.2 7 hcl.2.1).get
          have hsz := (hdr.then hR T (by simp) (fun i hi => .inl hi)).size
          clear hold hφ hcl hkp hd
          rw [if_pos (by rfl)]
          refine wp_append_i _ _ rfl base (.slice av acc.length cv) acc (by simp [Act.eval, e12]) (owns_keep Hown.out hpr (by simp)) q18 1 pl (by simp [Act.eval, e18]) (b18.cell 0) (by omega) (Nat.le_trans hbw hsz) ?_
          intro v9 w9 h9 hO9 hb9
          exact hK _ _ (RkB.big rfl ⟨_, hO9, fun k hk => .inl (by rw [← hT]; exact hk)⟩) ⟨h9, fun k hk => by rcases hb9 with h | h; exact .inl (by rw [← hT]; exact mem_ownL.2 (h ▸ hk)); exact .inr (by rw [h] at hk; injection hk with hk; omega)⟩
        · intro a W L N hR hold hφ hcl hkp hd K hK
          have e1 := hold 1 (by kernel_rfl)
          clear hold hφ hcl hkp hd
          rw [if_pos (by rfl)]
          go_simp
          exact hK _ _ (RkB.small rfl (Only.refl _ _)) rfl
        · intro a W L N hR hold hφ hcl hkp hd K hK
          have e5 := hold 5 (by kernel_rfl)
          clear hold hφ hcl hkp hd
          rw [if_pos (by rfl)]
          go_simp
          exact hK _ _ (RkB.small rfl (Only.refl _ _)) rfl
        · intro a W L N hR hold hφ hcl hkp hd K hK
          have e20 := got hφ (hd 8 (by kernel_rfl)) rfl rfl rfl
          have e21 := got hφ (hd 9 (by kernel_rfl)) rfl rfl rfl
          obtain ⟨c1, c3, c4, c5⟩ := Hcl.out W (hdr.then hR T (by simp) (fun i hi => .inl hi))
          clear hold hφ hcl hkp hd
          rw [if_pos (by rfl)]
          go_simp
          exact hK _ _ (RkB.small rfl (Only.refl _ _)) rfl
        · intro a W L N hR hold hφ hcl hkp hd K hK
          have e22 := got hφ (hd 10 (by kernel_rfl)) rfl rfl rfl
          clear hold hφ hcl hkp hd
          rw [if_pos (by rfl)]
          go_simp
          exact hK _ _ (RkB.small rfl (Only.refl _ _)) rfl
        · intro a W L N hR hold hφ hcl hkp hd K hK
          have e23 := got hφ (hd 11 (by kernel_rfl)) rfl rfl rfl
          obtain ⟨c1, c3, c4, c5⟩ := Hcl.out W (hdr.then hR T (by simp) (fun i hi => .inl hi))
          clear hold hφ hcl hkp hd
          rw [if_pos (by rfl)]
          go_simp
          exact hK _ _ (RkB.small rfl (Only.refl _ _)) rfl
        · intro a W L N hR hold hφ hcl hkp hd K hK
          have e24 := got hφ (hd 12 (by kernel_rfl)) rfl rfl rfl
          obtain ⟨u, e19, p19⟩ := gotP hφ (hd 7 (by kernel_rfl)) rfl rfl rfl
          have p19 := row_word p19
          have hsz := (hdr.then hR T (by simp) (fun i hi => .inl hi)).size
          have hWT := hdr.then hR T (by simp) (fun i hi => .inl hi)
          clear hold hφ hcl hkp hd
          rw [if_pos (by rfl)]
          go_simp
          refine (HRA.out W hWT u p19.1).mono ?_
          rintro r w9 ⟨v9, rfl, h9, hO9, hb9⟩
          exact hK _ _ (RkB.big rfl ⟨_, hO9, fun k hk => p19.2 k (mem_ownL.1 hk)⟩) ⟨h9, fun k hk => by rcases hb9 k hk with h | h; exact p19.2 k (mem_ownL.1 h); exact .inr (by omega)⟩
        · intro a W L N hR hold hφ hcl hkp hd K hK
          have e1 := hold 1 (by kernel_rfl)
          clear hold hφ hcl hkp hd
          rw [if_pos (by rfl)]
          go_simp
          exact hK _ _ (RkB.small rfl (Only.refl _ _)) rfl
        · intro a W L N hR hold hφ hcl hkp hd K hK
          have e5 := hold 5 (by kernel_rfl)
          clear hold hφ hcl hkp hd
          rw [if_pos (by rfl)]
          go_simp
          exact hK _ _ (RkB.small rfl (Only.refl _ _)) rfl
        · intro a W L N hR hold hφ hcl hkp hd K hK
          have e26 := got hφ (hd 14 (by kernel_rfl)) rfl rfl rfl
          have e27 := got hφ (hd 15 (by kernel_rfl)) rfl rfl rfl
          obtain ⟨c1, c3, c4, c5⟩ := Hcl.out W (hdr.then hR T (by simp) (fun i hi => .inl hi))
          clear hold hφ hcl hkp hd
          rw [if_pos (by rfl)]
          go_simp
          exact hK _ _ (RkB.small rfl (Only.refl _ _)) rfl
        · intro a W L N hR hold hφ hcl hkp hd K hK
          have e28 := got hφ (hd 16 (by kernel_rfl)) rfl rfl rfl
          clear hold hφ hcl hkp hd
          rw [if_pos (by rfl)]
          go_simp
          exact hK _ _ (RkB.small rfl (Only.refl _ _)) rfl
        · intro a W L N hR hold hφ hcl hkp hd K hK
          have e29 := got hφ (hd 17 (by kernel_rfl)) rfl rfl rfl
          obtain ⟨c1, c3, c4, c5⟩ := Hcl.out W (hdr.then hR T (by simp) (fun i hi => .inl hi))
          clear hold hφ hcl hkp hd
          rw [if_pos (by rfl)]
          go_simp
          exact hK _ _ (RkB.small rfl (Only.refl _ _)) rfl
        · intro a W L N hR hold hφ hcl hkp hd K hK
          have e30 := got hφ (hd 18 (by kernel_rfl)) rfl rfl rfl
          obtain ⟨u, e25, p25⟩ := gotP hφ (hd 13 (by kernel_rfl)) rfl rfl rfl
          have p25 := row_word p25
          have hsz := (hdr.then hR T (by simp) (fun i hi => .inl hi)).size
          have hWT := hdr.then hR T (by simp) (fun i hi => .inl hi)
          clear hold hφ hcl hkp hd
          rw [if_pos (by rfl)]
          go_simp
          refine (HRB.out W hWT u p25.1).mono ?_
          rintro r w9 ⟨v9, rfl, h9, hO9, hb9⟩
          exact hK _ _ (RkB.big rfl ⟨_, hO9, fun k hk => p25.2 k (mem_ownL.1 hk)⟩) ⟨h9, fun k hk => by rcases hb9 k hk with h | h; exact p25.2 k (mem_ownL.1 h); exact .inr (by omega)⟩
      · intro us W hO' hus
        obtain ⟨hr1, hr2⟩ := row_word (hus 19 _ 31 (by omega) rfl rfl rfl)
        obtain ⟨av', cv', hv'⟩ := owns_slice hr1
        clear hus
        simp only [List.take_succ_cons, List.take_zero, List.drop_succ_cons, List.drop_zero, fillAct, Act.put, List.setIfInBounds_toArray, List.set_cons_zero, List.set_cons_succ, Nat.reduceAdd]
        have hOW := hdr.then hO' T (by simp) (fun i hi => .inl hi)
        have Hr1 := Lib.hid hr1
        have Hr2 : Hid (∀ k, (us 19).ownBlock = some k → k ∈ T0 ∨ w.heap.size ≤ k) := Lib.hid (fun k hk => by
          rcases hr2 k hk with h | h
          · exact hTf.out k h
          · exact .inr (Nat.le_trans HO.out.size h))
        have HOW := Lib.hid (HO.out.then hOW T0 (fun i hi => .inl hi) (fun i hi => hTf.out i hi))
        clear hr1 hr2 hOW hO'
        generalize us 19 = v19 at *
        go_wp2
        go_roundg rr.len
        case measure => simp only [Blk.len] at hgk; omega
        case rel =>
          refine ⟨j + 1, _, rr, xr', fr', by go_num, by simp only [Blk.len] at hjl; omega, Nat.le_refl _, hcc.2.2, Hrcn.out, Hr1.out, Hr2.out, hLL2, HE.out, hfr2.out, fun h => ⟨g, rfl, hg, fun i u hu => ?_⟩, HOW.out⟩
          have := hrx2.out i u hu
          rw [show (j + 1) * 5 + i = j * 5 + (i + 5) by omega]
          exact this

theorem dplaces_any : ∀ (N : Nat) (b : Blk), b.cnt ≤ N → ∀ (w : World) (base : Nat) (v u : Value) (l : List Nat) (fp : List Nat), OwnP w base v l → base ≤ w.heap.size → BlkAt w u b fp → (∀ k ∈ fp, k < base) → l.length + b.cnt ≤ 1000000 →
      Calls Tryz.prog 62 #[v, u] w (PlacesTo w base v (l ++ placesB b))
  | 0, b, hN, w, base, v, u, l, fp, h1, h2, h3, h4, h5 => places_step 0 (fun b h => absurd h (by omega)) b hN w base v u l fp h1 h2 h3 h4 h5
  | N + 1, b, hN, w, base, v, u, l, fp, h1, h2, h3, h4, h5 => places_step (N + 1) (fun b h => dplaces_any N b (by omega)) b hN w base v u l fp h1 h2 h3 h4 h5

end Go.Proofs.YtildkedplmjdaaaGreatDoor
