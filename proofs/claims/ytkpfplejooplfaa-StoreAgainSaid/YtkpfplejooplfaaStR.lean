/-
  The walk of the law StoreOwn: it returns true, whatever its arguments are, and turns nothing that was there.
-/
import Derived.Test.YtkpfplejooplfaaStO
import Derived.Deep.Slices
import Derived.Deep.Fields
namespace Go.Proofs.Ytkpfplejooplfaa
set_option maxRecDepth 100000
set_option linter.unusedVariables false
open Go.RowKit Go.Sort Go.Maps Go.ChangeShapes Go.WideShapes Go.Deep

def FilesArg (w : World) (a : Option Addr) (len : Nat) (l : List FileM) : Prop := FilesAt w a len l ∧ (∀ f ∈ l, f.1.length ≤ maxLen ∧ f.2.length ≤ maxLen) ∧ len ≤ maxLen
def IntsArg (w : World) (a : Option Addr) (len : Nat) (ns : List Int) : Prop := IntsAt w a len ns ∧ len ≤ maxLen

theorem file_of_cells {H : Type} {enc : TypeId × Value → H} {W : World} {n : Nat} {b o : Nat} {cs : List Value} {x : DataW H × List MemPlace} (hcl : cs.length = 2) (hat : ∀ i, i < 2 → W.cell? ⟨b, o + i, none⟩ = cs[i]?)
    (h : DataW.trod enc Try.prog W 0 (fun _ => true) true n 33 cs = some x) : ∃ f : FileM, (W.cell? ⟨b, o, none⟩ = some (encStr f.1) ∧ W.cell? ⟨b, o + 1, none⟩ = some (encStr f.2)) ∧ f.1.length ≤ maxLen ∧ f.2.length ≤ maxLen := by
  obtain ⟨xs, m, _, _, _, hlen, hf⟩ := DataW.trod_struct Try.underlying33 h
  match cs, hcl with
  | [v0, v1], _ =>
    match xs, hlen with
    | [y0, y1], _ =>
      have c9 : Try.prog.cellsOf 9 = 1 := by kernel_rfl
      have g0 := hf 0 _ rfl
      have g1 := hf 1 _ rfl
      simp [c9] at g0 g1
      obtain ⟨s0, e0, _, hs0⟩ := DataW.trod_string Try.underlying9 g0
      obtain ⟨s1, e1, _, hs1⟩ := DataW.trod_string Try.underlying9 g1
      simp at e0 e1
      subst e0 e1
      have hat0 : W.cell? ⟨b, o, none⟩ = some (.string s0) := hat 0 (by omega)
      have hat1 : W.cell? ⟨b, o + 1, none⟩ = some (.string s1) := hat 1 (by omega)
      have l0 : s0.data.toList.length ≤ maxLen := by rw [Array.length_toList]; exact hs0
      have l1 : s1.data.toList.length ≤ maxLen := by rw [Array.length_toList]; exact hs1
      exact ⟨(s0.data.toList, s1.data.toList), ⟨hat0, hat1⟩, l0, l1⟩

theorem files_of_read {H : Type} {enc : TypeId × Value → H} {W : World} {a : Option Addr} {len cap : Nat} {d : DataW H} {p : List MemPlace}
    (h : DataW.Trod enc Try.prog W 0 (fun _ => true) true 34 (.slice a len cap) d p) : ∃ L, FilesArg W a len L := by
  obtain ⟨fuel, hf⟩ := h
  rcases open_slice Try.underlying34 hf with ⟨hcs, _⟩ | ⟨x, l, c, m, n, D, Pl, hcs, _, hl, hm, hmm, _, hx⟩
  · simp [Value.cells] at hcs
    obtain ⟨rfl, rfl, rfl⟩ := hcs
    exact ⟨[], ⟨rfl, fun h => by omega⟩, by simp, by simp⟩
  · simp [Value.cells] at hcs
    obtain ⟨rfl, rfl, rfl⟩ := hcs
    have c36 : Try.prog.cellsOf 33 = 2 := by kernel_rfl
    rw [c36] at hx
    have hm' : m = cap := by simpa using hmm
    by_cases h0 : len = 0
    · subst h0; exact ⟨[], ⟨rfl, fun h => by omega⟩, by simp, by simp⟩
    obtain ⟨b, o, sp0⟩ := x
    have hspot : sp0 = none := by
      obtain ⟨cs', hc, _⟩ := hx 0 (by omega)
      obtain ⟨_, hcl, hat⟩ := World.cells?_some hc
      have h1 := hat 0 (by omega)
      rw [List.getElem?_eq_getElem (by omega)] at h1
      simpa [Addr.add] using World.cell?_spot h1
    subst hspot
    have hb : b < W.heap.size := by
      obtain ⟨cs', hc, _⟩ := hx 0 (by omega)
      obtain ⟨_, hcl, hat⟩ := World.cells?_some hc
      have h1 := hat 0 (by omega)
      rw [List.getElem?_eq_getElem (by omega)] at h1
      have := World.block_lt_of_cell? W _ h1
      simpa [Addr.add] using this
    have hall : ∀ i, i < len → ∃ f : FileM, (W.cell? ⟨b, o + i * 2, none⟩ = some (encStr f.1) ∧ W.cell? ⟨b, o + i * 2 + 1, none⟩ = some (encStr f.2)) ∧ f.1.length ≤ maxLen ∧ f.2.length ≤ maxLen := fun i hi => by
      obtain ⟨cs', hc, ht⟩ := hx i (by omega)
      obtain ⟨_, hcl, hat⟩ := World.cells?_some hc
      refine file_of_cells hcl (fun j hj => ?_) ht
      have := hat j hj
      rw [Addr.add_mid, Addr.add_mid] at this
      exact this
    have : ∀ k, k ≤ len → ∃ L : List FileM, L.length = k ∧ (∀ (i : Nat) (f : FileM), L[i]? = some f → W.cell? ⟨b, o + i * 2, none⟩ = some (encStr f.1) ∧ W.cell? ⟨b, o + i * 2 + 1, none⟩ = some (encStr f.2)) ∧ ∀ f ∈ L, f.1.length ≤ maxLen ∧ f.2.length ≤ maxLen := by
      intro k
      induction k with
      | zero => intro _; exact ⟨[], rfl, fun i c h => by simp at h, by simp⟩
      | succ k ih =>
        intro hk
        obtain ⟨L, hL, hLc, hLm⟩ := ih (by omega)
        obtain ⟨c, hc, hcm⟩ := hall k (by omega)
        refine ⟨L ++ [c], by simp [hL], fun i c' h => ?_, fun f hf => ?_⟩
        · rcases Nat.lt_or_ge i L.length with hi | hi
          · rw [List.getElem?_append_left hi] at h; exact hLc i c' h
          · rw [List.getElem?_append_right hi] at h
            have hik : i = k := by
              have := (List.getElem?_eq_some_iff.1 h).1; simp at this; omega
            subst hik
            simp [hL] at h
            subst h
            exact hc
        · rcases List.mem_append.1 hf with h1 | h1
          · exact hLm f h1
          · simp at h1; subst h1; exact hcm
    obtain ⟨L, hL, hLc, hLm⟩ := this len (Nat.le_refl _)
    exact ⟨L, ⟨hL, fun _ => ⟨b, o, rfl, hb, hLc⟩⟩, hLm, by omega⟩

theorem ints_of_read {H : Type} {enc : TypeId × Value → H} {W : World} {a : Option Addr} {len cap : Nat} {d : DataW H} {p : List MemPlace}
    (h : DataW.Trod enc Try.prog W 0 (fun _ => true) true 38 (.slice a len cap) d p) : ∃ L, IntsArg W a len L := by
  obtain ⟨fuel, hf⟩ := h
  rcases open_slice Try.underlying38 hf with ⟨hcs, _⟩ | ⟨x, l, c, m, n, D, Pl, hcs, _, hl, hm, hmm, _, hx⟩
  · simp [Value.cells] at hcs
    obtain ⟨rfl, rfl, rfl⟩ := hcs
    exact ⟨[], ⟨rfl, fun h => by omega⟩, by simp⟩
  · simp [Value.cells] at hcs
    obtain ⟨rfl, rfl, rfl⟩ := hcs
    have c36 : Try.prog.cellsOf 3 = 1 := by kernel_rfl
    rw [c36] at hx
    have hm' : m = cap := by simpa using hmm
    by_cases h0 : len = 0
    · subst h0; exact ⟨[], ⟨rfl, fun h => by omega⟩, by simp⟩
    obtain ⟨b, o, sp0⟩ := x
    have hspot : sp0 = none := by
      obtain ⟨cs', hc, _⟩ := hx 0 (by omega)
      obtain ⟨_, hcl, hat⟩ := World.cells?_some hc
      have h1 := hat 0 (by omega)
      rw [List.getElem?_eq_getElem (by omega)] at h1
      simpa [Addr.add] using World.cell?_spot h1
    subst hspot
    have hb : b < W.heap.size := by
      obtain ⟨cs', hc, _⟩ := hx 0 (by omega)
      obtain ⟨_, hcl, hat⟩ := World.cells?_some hc
      have h1 := hat 0 (by omega)
      rw [List.getElem?_eq_getElem (by omega)] at h1
      have := World.block_lt_of_cell? W _ h1
      simpa [Addr.add] using this
    have hall : ∀ i, i < len → ∃ z : Int, W.cell? ⟨b, o + i, none⟩ = some (.int .i64 z) := fun i hi => by
      obtain ⟨cs', hc, ht⟩ := hx i (by omega)
      obtain ⟨_, hcl, hat⟩ := World.cells?_some hc
      obtain ⟨z, e, _, _⟩ := DataW.trod_int Try.underlying3 ht
      subst e
      have := hat 0 (by omega)
      rw [Addr.add_mid, Addr.add_mid] at this
      simp at this
      exact ⟨z, this⟩
    have : ∀ k, k ≤ len → ∃ L : List Int, L.length = k ∧ ∀ (i : Nat) (z : Int), L[i]? = some z → W.cell? ⟨b, o + i, none⟩ = some (.int .i64 z) := by
      intro k
      induction k with
      | zero => intro _; exact ⟨[], rfl, fun i c h => by simp at h⟩
      | succ k ih =>
        intro hk
        obtain ⟨L, hL, hLc⟩ := ih (by omega)
        obtain ⟨c, hc⟩ := hall k (by omega)
        refine ⟨L ++ [c], by simp [hL], fun i c' h => ?_⟩
        rcases Nat.lt_or_ge i L.length with hi | hi
        · rw [List.getElem?_append_left hi] at h; exact hLc i c' h
        · rw [List.getElem?_append_right hi] at h
          have hik : i = k := by
            have := (List.getElem?_eq_some_iff.1 h).1; simp at this; omega
          subst hik
          simp [hL] at h
          subst h
          exact hc
    obtain ⟨L, hL, hLc⟩ := this len (Nat.le_refl _)
    exact ⟨L, ⟨hL, fun _ => ⟨b, o, rfl, hb, hLc⟩⟩, by omega⟩

end Go.Proofs.Ytkpfplejooplfaa
namespace Go.Proofs.Ytkpfplejooplfaa
set_option maxRecDepth 100000
set_option linter.unusedVariables false
open Go.RowKit Go.Sort Go.Maps

theorem mkName_ok (k : Int) : nameM (mkName k) = true ∧ (mkName k).length = 1 := by
  have h0 := Int.emod_nonneg k (show (5 : Int) ≠ 0 by omega)
  have h1 := Int.emod_lt_of_pos k (show (0 : Int) < 5 by omega)
  refine ⟨?_, rfl⟩
  have h2 : (k % 5).toNat = 0 ∨ (k % 5).toNat = 1 ∨ (k % 5).toNat = 2 ∨ (k % 5).toNat = 3 ∨ (k % 5).toNat = 4 := by omega
  unfold mkName
  rcases h2 with h | h | h | h | h <;> rw [h] <;> decide
/-- What Make makes: sound, small. -/
theorem make_good (l : List FileM) (ns : List Int) : ∀ j, goodM (makeM l ns j) ∧ (∀ f ∈ makeM l ns j, f.1.length = 1 ∧ f.2.length ≤ 400) ∧ (makeM l ns j).length ≤ j
  | 0 => ⟨⟨by simp [makeM], by simp [makeM]⟩, by simp [makeM], by simp [makeM]⟩
  | j + 1 => by
    obtain ⟨h1, h2, h3⟩ := make_good l ns j
    rw [make_succ]
    unfold addM
    split
    · exact ⟨h1, h2, by omega⟩
    · rename_i hn
      obtain ⟨q1, q2⟩ := mkName_ok (ns.getD j j)
      have q3 : (mkOne l ns j).2.length ≤ 400 := by unfold mkOne; simp only [List.length_take]; omega
      refine ⟨⟨fun f hf => ?_, ?_⟩, fun f hf => ?_, by rw [List.length_append]; simp; omega⟩
      · rcases List.mem_append.1 hf with h | h
        · exact h1.1 f h
        · simp at h; subst h; exact ⟨q1, by omega⟩
      · rw [List.map_append, List.nodup_append]
        refine ⟨h1.2, by simp, fun x hx y hy e => ?_⟩
        simp at hy
        subst hy e
        exact hn hx
      · rcases List.mem_append.1 hf with h | h
        · exact h2 f h
        · simp at h; subst h; exact ⟨q2, q3⟩
theorem make_sound (l : List FileM) (ns : List Int) {j : Nat} (hj : j ≤ 8) : soundM (makeM l ns j) = true := by
  obtain ⟨h1, h2, h3⟩ := make_good l ns j
  have : (makeM l ns j).length ≤ 8 := by omega
  simp [soundM, h1, this]
theorem small_set {l : List FileM} (h : goodM l) (hs : ∀ f ∈ l, f.1.length = 1 ∧ f.2.length ≤ 400) (hl : l.length ≤ 8) : (setB (buildF l)).length ≤ 3300 ∧ (changeB [] (buildF l) ((buildF l).map (·.1))).length ≤ 3300 := by
  have hp := build_perm l h.2
  have hs' : ∀ f ∈ buildF l, f.1.length = 1 ∧ f.2.length ≤ 400 := fun f hf => hs f (hp.mem_iff.1 hf)
  have hl' : (buildF l).length ≤ 8 := by rw [hp.length_eq]; exact hl
  generalize buildF l = N at *
  have key : ∀ M : List FileM, (∀ f ∈ M, f.1.length = 1 ∧ f.2.length ≤ 400) → (M.flatMap fileB).length ≤ 404 * M.length := by
    intro M
    induction M with
    | nil => simp
    | cons f r ih =>
      intro hM
      have h1 := hM f (by simp)
      have h2 := ih (fun g hg => hM g (by simp [hg]))
      rw [List.flatMap_cons, List.length_append, length_fileB, List.length_cons]
      omega
  have key2 : ∀ ns : List (List UInt8), (∀ n ∈ ns, n.length = 1) → (chgL [] N ns).flatten.length ≤ 405 * ns.length ∧ (chgL [] N ns).length ≤ ns.length := by
    intro ns
    induction ns with
    | nil => simp [chgL]
    | cons n r ih =>
      intro hn
      have ih' := ih (fun m hm => hn m (by simp [hm]))
      have hn1 := hn n (by simp)
      unfold chgL at ih' ⊢
      rw [List.filterMap_cons]
      cases hc : chgE [] N n with
      | none => simp only [List.length_cons]; omega
      | some x =>
        have hx : x.length ≤ 405 := by
          unfold chgE at hc
          split at hc
          · cases hc
          · injection hc with hc
            subst hc
            split
            · rename_i hsm
              obtain ⟨g, hg⟩ := Option.isSome_iff_exists.1 hsm
              have h1 := hs' g (List.mem_of_find?_eq_some hg)
              have h3 : atF n N = g := by unfold atF; rw [hg]; rfl
              rw [h3, List.length_append, length_leB, length_fileB]
              omega
            · rw [List.length_append, List.length_append, length_leB, length_leB]
              omega
        simp only [List.flatten_cons, List.length_append, List.length_cons]
        omega
  constructor
  · unfold setB
    rw [List.length_append, length_leB]
    have := key N hs'
    omega
  · unfold changeB
    rw [List.length_append, length_leB]
    have := (key2 (N.map (·.1)) (fun n hn => by obtain ⟨f, hf, rfl⟩ := List.mem_map.1 hn; exact (hs' f hf).1)).1
    rw [List.length_map] at this
    omega

/-- A small sound set, committed onto none on a wide disk. -/
theorem commit_fresh (w : World) (sp lp pd bl bm b : Nat) (D : DS) (l : List FileM) (a : Option Addr) (len cap : Nat) (h : StAt w sp lp pd bl bm b D ⟨128, 1, 1, 0, 1, 1⟩ [setB []] 2 []) (hl : FilesAt w a len l) (hg : goodM l) (hs : ∀ f ∈ l, f.1.length = 1 ∧ f.2.length ≤ 400) (hl8 : l.length ≤ 8) :
    Calls Try.prog 11 #[.pointer (some ⟨sp, 0, none⟩), .slice a len cap] w fun e w' => e = .returned (.int .i64 0) ∧ ∃ bn D' L' rs' k', StAt w' sp lp pd bl bm bn D' L' rs' k' (buildF l) ∧ (bn = b ∨ w.heap.size ≤ bn) ∧ (L'.size = 128 ∧ 0 ≤ k' ∧ k' ≤ 602 ∧ L'.gen ≤ 2 ∧ (rs' = [setB [], changeB [] (buildF l) ((buildF l).map (·.1))] ∨ rs' = [setB (buildF l)])) ∧ Only [sp, lp, pd, bl, bm] w w' := by
  obtain ⟨q1, q2⟩ := small_set hg hs hl8
  have hsd : soundM l = true := by simp [soundM, hg, hl8]
  have hlen := hl.1
  have p1 : partsN (setB (buildF l)).length ≤ 128 := by unfold partsN; omega
  have p2 : partsN (changeB [] (buildF l) ((buildF l).map (·.1))).length ≤ 255 := by unfold partsN; omega
  refine (commit_any w sp lp pd bl bm b D _ _ _ [] l a len cap h hl (fun f hf => by have := hs f hf; unfold maxLen; omega) (by unfold maxLen; omega) (.inl rfl) (fun _ => by omega) (fun _ => p2) (by simp) (by omega) (by omega)).mono ?_
  rintro e w' ⟨-, -, hx, hy⟩
  by_cases hN : ([] : List FileM) = buildF l
  · obtain ⟨he, hS, hO⟩ := hx hsd p1 hN
    refine ⟨he, b, D, _, _, _, by rw [← hN]; exact hS, .inl rfl, ⟨rfl, by omega, by omega, by simp, .inr (by rw [← hN])⟩, hO.into (by simp)⟩
  · obtain ⟨he, bn, D', L', rs', k', hS, hsz, hk0, ⟨hk1, hrs, hgn⟩, hbn, hO⟩ := hy hsd p1 hN
    exact ⟨he, bn, D', L', rs', k', hS, .inr hbn, ⟨hsz, hk0, by omega, by simpa using hgn, by simpa using hrs⟩, hO⟩
theorem StAt.keep {w w' : World} {sp lp pd bl bm b g : Nat} {D : DS} {L : LS} {rs : List (List UInt8)} {k : Int} {F : List FileM} (h : StAt w sp lp pd bl bm b D L rs k F) (hO : Only [g] w w') (hg : g ∉ [sp, lp, pd, bl, bm, b]) : StAt w' sp lp pd bl bm b D L rs k F := by
  simp only [List.mem_cons, List.not_mem_nil, or_false, not_or] at hg
  exact ⟨h.blk.only hO (by simp; omega), ⟨h.wl.disk.keep hO (by simp; omega) (by simp; omega) (by simp; omega), h.wl.log.keep hO (by simp; omega), h.wl.live, h.wl.ok, h.wl.ne⟩, h.set.keep hO (by simp; omega), h.ns, h.nb⟩

end Go.Proofs.Ytkpfplejooplfaa
namespace Go.Proofs.Ytkpfplejooplfaa
set_option maxRecDepth 100000
set_option linter.unusedVariables false
open Go.RowKit Go.Sort Go.Maps

theorem StAt.keepS {w w' : World} {sp lp pd bl bm b : Nat} {D : DS} {L : LS} {rs : List (List UInt8)} {k : Int} {F : List FileM} {S : List Nat} (h : StAt w sp lp pd bl bm b D L rs k F) (hO : Only S w w') (hS : ∀ x ∈ S, x ∉ [sp, lp, pd, bl, bm, b]) : StAt w' sp lp pd bl bm b D L rs k F := by
  have hn : ∀ y ∈ [sp, lp, pd, bl, bm, b], y ∉ S := fun y hy hm => hS y hm hy
  exact ⟨h.blk.only hO (hn _ (by simp)), ⟨h.wl.disk.keep hO (hn _ (by simp)) (hn _ (by simp)) (hn _ (by simp)), h.wl.log.keep hO (hn _ (by simp)), h.wl.live, h.wl.ok, h.wl.ne⟩, h.set.keep hO (hn _ (by simp)), h.ns, h.nb⟩
/-- The memory of a row of files of one's own. -/
def Mem (w : World) (a : Option Addr) (n : Nat) (S : List Nat) : Prop := 0 < n → ∃ g cur, a = some ⟨g, 0, none⟩ ∧ g ∈ S ∧ IsBlk w g (.cells cur 33) ∧ n * 2 ≤ cur.size
theorem OwnF.mem {w : World} {base n c : Nat} {a : Option Addr} {l : List FileM} (h : OwnF w base (.slice a n c) l) (hn : l.length = n) : ∃ S, (∀ x ∈ S, base ≤ x ∧ x < w.heap.size) ∧ Mem w a n S := by
  rcases h.2 with ⟨h0, h1⟩ | ⟨g, cap, cur, e, hb, hg, h1, _, h3, _⟩
  · exact ⟨[], by simp, fun hp => by omega⟩
  · injection e with e1 e2 e3
    refine ⟨[g], fun x hx => by simp at hx; subst hx; exact ⟨hb, IsBlk.lt hg⟩, fun _ => ⟨g, cur, e1, by simp, hg, by omega⟩⟩
theorem Mem.only {w w' : World} {a : Option Addr} {n : Nat} {S T : List Nat} (h : Mem w a n S) (hO : Only T w w') (hT : ∀ x ∈ S, x ∉ T) : Mem w' a n S := fun hp => by
  obtain ⟨g, cur, e, hg, hb, hs⟩ := h hp
  exact ⟨g, cur, e, hg, hb.only hO (hT g hg), hs⟩

set_option maxHeartbeats 16000000 in
theorem own_walk4 (a : Option Addr) (len cap : Nat) (l : List FileM) (na : Option Addr) (nl nc : Nat) (ns : List Int) (w : World) (h : FilesArg w a len l) (hn : IntsArg w na nl ns) :
    Calls Try.prog 5 #[.slice a len cap, .slice na nl nc] w fun e w' => e = .returned (.bool true) ∧ Only [] w w' := by
  have H := Lib.hid h
  have HN := Lib.hid hn
  clear h hn
  go_enter Try.func5, Try.ntmps5
  go_wp2_with fail
  refine (known4_any _).mono ?_
  rintro e w0 ⟨rfl, hO0⟩
  have HO0 := Lib.hid hO0
  clear hO0
  go_wp2_with fail
  refine (few4_any _ a len cap l (H.out.1.more HO0.out) H.out.2.1 H.out.2.2).mono ?_
  rintro e w' ⟨fb, rfl, rfl, hfew⟩
  cases fb with
  | false =>
    go_wp2
    go_ret
    exact ⟨rfl, HO0.out⟩
  | true =>
    obtain ⟨hl12, hsm⟩ := hfew rfl
    have hlen := H.out.1.1
    have Hsm := Lib.hid hsm
    clear hfew hsm
    go_wp2_with fail
    refine (make4_any _ a len cap l na nl nc ns (H.out.1.more HO0.out) (by omega) (HN.out.1.more HO0.out) HN.out.2 (fun f hf => (Hsm.out f hf).2)).mono ?_
    rintro e w1 ⟨v1, rfl, hv1, hO1⟩
    obtain ⟨hgood, hsmall, hlm⟩ := make_good l ns (min len 8)
    have hl8 : (makeM l ns (min len 8)).length ≤ 8 := by omega
    generalize makeM l ns (min len 8) = M at *
    obtain ⟨a1, c1, rfl, hf1, hb1⟩ := hv1.files
    obtain ⟨S1, hS1, hM1⟩ := hv1.mem rfl
    have HS1 := Lib.hid hS1
    have HM1 := Lib.hid hM1
    have Hf1 := Lib.hid hf1
    have HO1 := Lib.hid (HO0.out.plus hO1)
    have Hgood := Lib.hid hgood
    have Hsmall := Lib.hid hsmall
    have Hsort := Lib.hid (sortK_build M hgood.2)
    have hs01 := hO1.size
    have hs00 := HO0.out.size
    have hbl8 : (buildF M).length ≤ 100000 := by rw [(build_perm M hgood.2).length_eq]; omega
    clear hv1 hf1 hb1 hS1 hM1 hO1 hgood hsmall
    go_wp2_with fail
    refine (sorted_any _ a1 _ c1 M Hf1.out (by omega)).mono ?_
    rintro e w2 ⟨v2, rfl, hv2, hO2⟩
    rw [Hsort.out] at hv2
    obtain ⟨a2, c2, rfl, hf2, hb2⟩ := hv2.files
    have Hf2 := Lib.hid hf2
    have Hb2 := Lib.hid hb2
    have HO2 := Lib.hid (HO1.out.plus hO2)
    have Hf12 := Lib.hid (Hf1.out.more hO2)
    have HM2 := Lib.hid (HM1.out.only hO2 (by simp))
    have hs12 := hO2.size
    have Hl2 : Hid (∀ x y, 0 < (buildF M).length → a2 = some ⟨x, y, none⟩ → x < w2.heap.size) := Lib.hid (fun x y hp e => by
      obtain ⟨b', o', e', hb', -⟩ := hf2.2 hp
      rw [e] at e'; injection e' with e'; injection e' with e1 e2; omega)
    clear hv2 hf2 hb2 hO2
    go_wp2_with fail
    refine (new_even _ 128 (by omega) (by omega)).mono ?_
    rintro e w3 ⟨pd, bl, bm, rfl, hD, hO3, hp1, hp2, hp3⟩
    have HD := Lib.hid hD
    have HO3 := Lib.hid (HO2.out.plus hO3)
    have Hf13 := Lib.hid (Hf12.out.more hO3)
    have Hf23 := Lib.hid (Hf2.out.more hO3)
    have HM3 := Lib.hid (HM2.out.only hO3 (by simp))
    have hs23 := hO3.size
    clear hD hO3
    go_wp2_with fail
    refine (openS_new _ pd bl bm 128 HD.out (by omega)).mono ?_
    rintro e w4 ⟨sp, lp, b, D, rfl, hS4, hsp, hlp, hb4, hO4⟩
    have hS1lt : ∀ x ∈ S1, x < w1.heap.size ∧ w0.heap.size ≤ x := fun x hx => ⟨(HS1.out x hx).2, (HS1.out x hx).1⟩
    have Hf14 : Hid (FilesAt w4 a1 M.length M) := Lib.hid (Hf13.out.keep hO4 (fun hp x y e hm => by
      have h1 := (Hf1.out.2 hp); obtain ⟨b', o', e', hb', -⟩ := h1; rw [e] at e'; injection e' with e'; injection e' with e1 e2; simp at hm; omega))
    have Hf24 : Hid (FilesAt w4 a2 (buildF M).length (buildF M)) := Lib.hid (Hf23.out.keep hO4 (fun hp x y e hm => by have := Hl2.out x y hp e; simp at hm; omega))
    have HM4 := Lib.hid (HM3.out.only hO4 (fun x hx hm => by have := (hS1lt x hx).1; simp at hm; omega))
    have HO4 := Lib.hid (HO3.out.trans hO4)
    have HS4 := Lib.hid hS4
    have hs34 := hO4.size
    clear hS4 hO4
    go_wp2_with fail
    refine (commit_fresh _ sp lp pd bl bm b D M a1 _ c1 HS4.out Hf14.out Hgood.out Hsmall.out hl8).mono ?_
    rintro e w5 ⟨rfl, bn, D', L', rs', k', hS5, hbn, -, hO5⟩
    have Hf25 : Hid (FilesAt w5 a2 (buildF M).length (buildF M)) := Lib.hid (Hf24.out.keep hO5 (fun hp x y e hm => by have := Hl2.out x y hp e; simp at hm; omega))
    have HM5 := Lib.hid (HM4.out.only hO5 (fun x hx hm => by have := (hS1lt x hx).1; simp at hm; omega))
    have HO5 := Lib.hid (HO4.out.trans hO5)
    have HS5 := Lib.hid hS5
    have hs45 := hO5.size
    have Hno : Hid (∀ x ∈ S1, x ∉ [sp, lp, pd, bl, bm, bn]) := Lib.hid (fun x hx hm => by
      have := (hS1lt x hx).1; simp at hm; omega)
    have Hno2 : Hid (0 < (buildF M).length → ∀ x y, a2 = some ⟨x, y, none⟩ → x ∉ S1) := Lib.hid (fun hp x y e hm => by
      have h1 := (hS1lt x hm).1
      have h2 := Hb2.out x y e
      omega)
    clear hS5 hO5
    have hMl : M.length ≤ 8 := hl8
    generalize hMn : M.length = n at *
    go_wp2_with fail
    go_loopw [11] (fun i wr => ∃ k : Nat, k ≤ n ∧ i = .int .i64 k ∧ Mem wr a1 n S1 ∧ Only S1 w5 wr) (fun i _ => n - (intOf i).toNat)
    case atStart => exact ⟨0, by omega, rfl, HM5.out, Only.refl _ _⟩
    case round =>
      obtain ⟨k, hk, rfl, hMk, hOk⟩ := hrel
      by_cases hlt : k < n
      · have hlti : (k : Int) < (n : Int) := by omega
        obtain ⟨g, cur, rfl, hgS, hgb, hgs⟩ := hMk (by omega)
        have q0 : wr.cell? ⟨g, k * 2, none⟩ = some (cur[k * 2]'(by omega)) := by rw [hgb.cell]; exact Array.getElem?_eq_getElem (by omega)
        have q1 : wr.cell? ⟨g, k * 2 + 1, none⟩ = some (cur[k * 2 + 1]'(by omega)) := by rw [hgb.cell]; exact Array.getElem?_eq_getElem (by omega)
        have z0 := hgb.notFrozen (k * 2)
        have z1 := hgb.notFrozen (k * 2 + 1)
        have hb' := Lib.hid ((hgb.put (k * 2) (.string ⟨#[122, 122]⟩)).put (k * 2 + 1) (.string ⟨#[]⟩))
        have hO' : Hid (Only S1 wr ((wr.setCell ⟨g, k * 2, none⟩ (.string ⟨#[122, 122]⟩)).setCell ⟨g, k * 2 + 1, none⟩ (.string ⟨#[]⟩))) := Lib.hid (((Only.refl _ wr).setCell (.inl hgS) _).setCell (.inl hgS) _)
        have HOk := Lib.hid hOk
        clear hMk hgb hOk
        generalize cur[k * 2]'(by omega) = x0 at *
        generalize cur[k * 2 + 1]'(by omega) = x1 at *
        go_wp2
        go_roundw
        case rel => exact ⟨k + 1, by omega, by go_num, fun _ => ⟨g, _, rfl, hgS, hb'.out, by simpa using hgs⟩, HOk.out.same hO'.out⟩
        case measure => simp [intOf]; omega
      · have hge : ¬ (k : Int) < (n : Int) := by omega
        have HOk := Lib.hid hOk
        have HS6 := Lib.hid (HS5.out.keepS hOk Hno.out)
        have Hf26 := Lib.hid (Hf25.out.keep hOk Hno2.out)
        clear hMk hOk
        go_wp2_with fail
        refine (files_any _ sp lp pd bl bm bn D' _ _ _ _ HS6.out hbl8).mono ?_
        rintro e w7 ⟨v7, rfl, hv7, hO7⟩
        obtain ⟨a7, c7, rfl, hf7, hb7⟩ := hv7.files
        obtain ⟨S7, hS7, hM7⟩ := hv7.mem rfl
        have Hf7 := Lib.hid hf7
        have HM7 := Lib.hid hM7
        have HS7 := Lib.hid hS7
        have HS7' := Lib.hid (HS6.out.more hO7)
        have Hf27 := Lib.hid (Hf26.out.more hO7)
        have HO7 := Lib.hid ((HO5.out.trans HOk.out).plus hO7)
        have hs7 := HOk.out.size
        have hs7' := hO7.size
        clear hv7 hf7 hM7 hS7 hO7
        generalize hB : buildF M = N at *
        go_wp2_with fail
        refine (same4_any _ a7 a2 c7 c2 N N Hf7.out Hf27.out (by omega)).mono ?_
        rintro e w8 ⟨rfl, hO8⟩
        rw [decide_eq_true (rfl : N = N)]
        have HS8 := Lib.hid (HS7'.out.more hO8)
        have HM8 := Lib.hid (HM7.out.only hO8 (by simp))
        have Hf28 := Lib.hid (Hf27.out.more hO8)
        have HO8 := Lib.hid (HO7.out.plus hO8)
        have hs8 := hO8.size
        have Hn7 : Hid (∀ x ∈ S7, x ∉ [sp, lp, pd, bl, bm, bn]) := Lib.hid (fun x hx hm => by
          have h1 := (HS7.out x hx).1
          have q1 := HS6.out.blk.lt; have q2 := IsBlk.lt HS6.out.wl.log; have q3 := HS6.out.wl.disk.plt; have q4 := HS6.out.wl.disk.blt; have q5 := HS6.out.wl.disk.mlt; have q6 := HS6.out.set.lt
          simp at hm; omega)
        have Hn72 : Hid (0 < N.length → ∀ x y, a2 = some ⟨x, y, none⟩ → x ∉ S7) := Lib.hid (fun hp x y e hm => by
          have h1 := (HS7.out x hm).1
          have h2 := Hl2.out x y hp e
          omega)
        clear hO8 HM7 Hf7 HS7'
        generalize hNn : N.length = m at *
        go_wp2_with fail
        go_loopw [13] (fun i wz => ∃ q : Nat, q ≤ m ∧ i = .int .i64 q ∧ Mem wz a7 m S7 ∧ Only S7 w8 wz) (fun i _ => m - (intOf i).toNat)
        case atStart => exact ⟨0, by omega, rfl, HM8.out, Only.refl _ _⟩
        case round =>
          obtain ⟨q, hq, rfl, hMq, hOq⟩ := hrel
          rename World => wz
          by_cases hltq : q < m
          · have hltqi : (q : Int) < (m : Int) := by omega
            obtain ⟨g, cur, rfl, hgS, hgb, hgs⟩ := hMq (by omega)
            have q0 : wz.cell? ⟨g, q * 2, none⟩ = some (cur[q * 2]'(by omega)) := by rw [hgb.cell]; exact Array.getElem?_eq_getElem (by omega)
            have q1 : wz.cell? ⟨g, q * 2 + 1, none⟩ = some (cur[q * 2 + 1]'(by omega)) := by rw [hgb.cell]; exact Array.getElem?_eq_getElem (by omega)
            have z0 := hgb.notFrozen (q * 2)
            have z1 := hgb.notFrozen (q * 2 + 1)
            have hb' := Lib.hid ((hgb.put (q * 2) (.string ⟨#[121, 121]⟩)).put (q * 2 + 1) (.string ⟨#[]⟩))
            have hO' : Hid (Only S7 wz ((wz.setCell ⟨g, q * 2, none⟩ (.string ⟨#[121, 121]⟩)).setCell ⟨g, q * 2 + 1, none⟩ (.string ⟨#[]⟩))) := Lib.hid (((Only.refl _ wz).setCell (.inl hgS) _).setCell (.inl hgS) _)
            have HOq := Lib.hid hOq
            clear hMq hgb hOq
            generalize cur[q * 2]'(by omega) = x0 at *
            generalize cur[q * 2 + 1]'(by omega) = x1 at *
            go_wp2
            go_roundw
            case rel => exact ⟨q + 1, by omega, by go_num, fun _ => ⟨g, _, rfl, hgS, hb'.out, by simpa using hgs⟩, HOq.out.same hO'.out⟩
            case measure => simp [intOf]; omega
          · have hgeq : ¬ (q : Int) < (m : Int) := by omega
            have HOq := Lib.hid hOq
            have HS9 := Lib.hid (HS8.out.keepS hOq Hn7.out)
            have Hf29 := Lib.hid (Hf28.out.keep hOq Hn72.out)
            clear hMq hOq
            go_wp2_with fail
            refine (files_any _ sp lp pd bl bm bn D' _ _ _ _ HS9.out (by omega)).mono ?_
            rintro e w10 ⟨v10, rfl, hv10, hO10⟩
            obtain ⟨a10, c10, rfl, hf10, hb10⟩ := hv10.files
            have Hf10 := Lib.hid hf10
            have Hf210 := Lib.hid (Hf29.out.more hO10)
            have HO10 := Lib.hid ((HO8.out.trans HOq.out).plus hO10)
            clear hv10 hf10 hO10 hb10
            subst hNn
            go_wp2_with fail
            refine (same4_any _ a10 a2 c10 c2 N N Hf10.out Hf210.out (by omega)).mono ?_
            rintro e w11 ⟨rfl, hO11⟩
            rw [decide_eq_true (rfl : N = N)]
            have HO11 := Lib.hid (HO10.out.plus hO11)
            clear hO11
            go_wp2
            go_ret
            refine ⟨rfl, HO11.out.into (fun i hi => .inr ?_)⟩
            simp only [List.nil_append, List.append_assoc, List.mem_append, List.mem_cons, List.not_mem_nil, or_false] at hi
            have r1 := fun hx => (HS1.out i hx).1
            have r7 := fun hx => (HS7.out i hx).1
            by_cases m1 : i ∈ S1
            · have := r1 m1; omega
            by_cases m7 : i ∈ S7
            · have := r7 m7; omega
            simp only [m1, m7, or_false] at hi
            omega

end Go.Proofs.Ytkpfplejooplfaa
