/-
  A whole set, read (readWhole).
-/
import Derived.Test.YtgmkgpbhgoileaaGreatStO
import Derived.Deep.Slices
import Derived.Deep.Fields
namespace Go.Proofs.YtgmkgpbhgoileaaGreat
set_option maxRecDepth 100000
set_option linter.unusedVariables false
open Go.RowKit Go.Sort Go.Maps Go.ChangeShapes Go.WideShapes Go.Deep

def FilesArg (w : World) (a : Option Addr) (len : Nat) (l : List FileM) : Prop := FilesAt w a len l ∧ (∀ f ∈ l, f.1.length ≤ maxLen ∧ f.2.length ≤ maxLen) ∧ len ≤ maxLen
def IntsArg (w : World) (a : Option Addr) (len : Nat) (ns : List Int) : Prop := IntsAt w a len ns ∧ len ≤ maxLen

theorem file_of_cells {H : Type} {enc : TypeId × Value → H} {W : World} {n : Nat} {b o : Nat} {cs : List Value} {x : DataW H × List MemPlace} (hcl : cs.length = 2) (hat : ∀ i, i < 2 → W.cell? ⟨b, o + i, none⟩ = cs[i]?)
    (h : DataW.trod enc Tryz.prog W 0 (fun _ => true) true n 40 cs = some x) : ∃ f : FileM, (W.cell? ⟨b, o, none⟩ = some (encStr f.1) ∧ W.cell? ⟨b, o + 1, none⟩ = some (encStr f.2)) ∧ f.1.length ≤ maxLen ∧ f.2.length ≤ maxLen := by
  obtain ⟨xs, m, _, _, _, hlen, hf⟩ := DataW.trod_struct Tryz.underlying40 h
  match cs, hcl with
  | [v0, v1], _ =>
    match xs, hlen with
    | [y0, y1], _ =>
      have c9 : Tryz.prog.cellsOf 9 = 1 := by kernel_rfl
      have g0 := hf 0 _ rfl
      have g1 := hf 1 _ rfl
      simp [c9] at g0 g1
      obtain ⟨s0, e0, _, hs0⟩ := DataW.trod_string Tryz.underlying9 g0
      obtain ⟨s1, e1, _, hs1⟩ := DataW.trod_string Tryz.underlying9 g1
      simp at e0 e1
      subst e0 e1
      have hat0 : W.cell? ⟨b, o, none⟩ = some (.string s0) := hat 0 (by omega)
      have hat1 : W.cell? ⟨b, o + 1, none⟩ = some (.string s1) := hat 1 (by omega)
      have l0 : s0.data.toList.length ≤ maxLen := by rw [Array.length_toList]; exact hs0
      have l1 : s1.data.toList.length ≤ maxLen := by rw [Array.length_toList]; exact hs1
      exact ⟨(s0.data.toList, s1.data.toList), ⟨hat0, hat1⟩, l0, l1⟩

theorem files_of_read {H : Type} {enc : TypeId × Value → H} {W : World} {a : Option Addr} {len cap : Nat} {d : DataW H} {p : List MemPlace}
    (h : DataW.Trod enc Tryz.prog W 0 (fun _ => true) true 22 (.slice a len cap) d p) : ∃ L, FilesArg W a len L := by
  obtain ⟨fuel, hf⟩ := h
  rcases open_slice Tryz.underlying22 hf with ⟨hcs, _⟩ | ⟨x, l, c, m, n, D, Pl, hcs, _, hl, hm, hmm, _, hx⟩
  · simp [Value.cells] at hcs
    obtain ⟨rfl, rfl, rfl⟩ := hcs
    exact ⟨[], ⟨rfl, fun h => by omega⟩, by simp, by simp⟩
  · simp [Value.cells] at hcs
    obtain ⟨rfl, rfl, rfl⟩ := hcs
    have c36 : Tryz.prog.cellsOf 40 = 2 := by kernel_rfl
    rw [c36] at hx
    have hm' : m = cap := by simpa using hmm
    by_cases h0 : len = 0
    · subst h0; exact ⟨[], ⟨rfl, fun h => by omega⟩, by simp, by simp⟩
    obtain ⟨b, o, sp0⟩ := x
    have hspot : sp0 = none := by
      obtain ⟨cs', hc, _⟩ := hx 0 (by omega)
      obtain ⟨_, hcl, hat⟩ := World.cells?_some hc
      have h1 := hat 0 (by omega)
      rw [List.getElem?_eq_getElem (by omega)] at h1
      simpa [Addr.add] using World.cell?_spot h1
    subst hspot
    have hb : b < W.heap.size := by
      obtain ⟨cs', hc, _⟩ := hx 0 (by omega)
      obtain ⟨_, hcl, hat⟩ := World.cells?_some hc
      have h1 := hat 0 (by omega)
      rw [List.getElem?_eq_getElem (by omega)] at h1
      have := World.block_lt_of_cell? W _ h1
      simpa [Addr.add] using this
    have hall : ∀ i, i < len → ∃ f : FileM, (W.cell? ⟨b, o + i * 2, none⟩ = some (encStr f.1) ∧ W.cell? ⟨b, o + i * 2 + 1, none⟩ = some (encStr f.2)) ∧ f.1.length ≤ maxLen ∧ f.2.length ≤ maxLen := fun i hi => by
      obtain ⟨cs', hc, ht⟩ := hx i (by omega)
      obtain ⟨_, hcl, hat⟩ := World.cells?_some hc
      refine file_of_cells hcl (fun j hj => ?_) ht
      have := hat j hj
      rw [Addr.add_mid, Addr.add_mid] at this
      exact this
    have : ∀ k, k ≤ len → ∃ L : List FileM, L.length = k ∧ (∀ (i : Nat) (f : FileM), L[i]? = some f → W.cell? ⟨b, o + i * 2, none⟩ = some (encStr f.1) ∧ W.cell? ⟨b, o + i * 2 + 1, none⟩ = some (encStr f.2)) ∧ ∀ f ∈ L, f.1.length ≤ maxLen ∧ f.2.length ≤ maxLen := by
      intro k
      induction k with
      | zero => intro _; exact ⟨[], rfl, fun i c h => by simp at h, by simp⟩
      | succ k ih =>
        intro hk
        obtain ⟨L, hL, hLc, hLm⟩ := ih (by omega)
        obtain ⟨c, hc, hcm⟩ := hall k (by omega)
        refine ⟨L ++ [c], by simp [hL], fun i c' h => ?_, fun f hf => ?_⟩
        · rcases Nat.lt_or_ge i L.length with hi | hi
          · rw [List.getElem?_append_left hi] at h; exact hLc i c' h
          · rw [List.getElem?_append_right hi] at h
            have hik : i = k := by
              have := (List.getElem?_eq_some_iff.1 h).1; simp at this; omega
            subst hik
            simp [hL] at h
            subst h
            exact hc
        · rcases List.mem_append.1 hf with h1 | h1
          · exact hLm f h1
          · simp at h1; subst h1; exact hcm
    obtain ⟨L, hL, hLc, hLm⟩ := this len (Nat.le_refl _)
    exact ⟨L, ⟨hL, fun _ => ⟨b, o, rfl, hb, hLc⟩⟩, hLm, by omega⟩

theorem ints_of_read {H : Type} {enc : TypeId × Value → H} {W : World} {a : Option Addr} {len cap : Nat} {d : DataW H} {p : List MemPlace}
    (h : DataW.Trod enc Tryz.prog W 0 (fun _ => true) true 23 (.slice a len cap) d p) : ∃ L, IntsArg W a len L := by
  obtain ⟨fuel, hf⟩ := h
  rcases open_slice Tryz.underlying23 hf with ⟨hcs, _⟩ | ⟨x, l, c, m, n, D, Pl, hcs, _, hl, hm, hmm, _, hx⟩
  · simp [Value.cells] at hcs
    obtain ⟨rfl, rfl, rfl⟩ := hcs
    exact ⟨[], ⟨rfl, fun h => by omega⟩, by simp⟩
  · simp [Value.cells] at hcs
    obtain ⟨rfl, rfl, rfl⟩ := hcs
    have c36 : Tryz.prog.cellsOf 3 = 1 := by kernel_rfl
    rw [c36] at hx
    have hm' : m = cap := by simpa using hmm
    by_cases h0 : len = 0
    · subst h0; exact ⟨[], ⟨rfl, fun h => by omega⟩, by simp⟩
    obtain ⟨b, o, sp0⟩ := x
    have hspot : sp0 = none := by
      obtain ⟨cs', hc, _⟩ := hx 0 (by omega)
      obtain ⟨_, hcl, hat⟩ := World.cells?_some hc
      have h1 := hat 0 (by omega)
      rw [List.getElem?_eq_getElem (by omega)] at h1
      simpa [Addr.add] using World.cell?_spot h1
    subst hspot
    have hb : b < W.heap.size := by
      obtain ⟨cs', hc, _⟩ := hx 0 (by omega)
      obtain ⟨_, hcl, hat⟩ := World.cells?_some hc
      have h1 := hat 0 (by omega)
      rw [List.getElem?_eq_getElem (by omega)] at h1
      have := World.block_lt_of_cell? W _ h1
      simpa [Addr.add] using this
    have hall : ∀ i, i < len → ∃ z : Int, W.cell? ⟨b, o + i, none⟩ = some (.int .i64 z) := fun i hi => by
      obtain ⟨cs', hc, ht⟩ := hx i (by omega)
      obtain ⟨_, hcl, hat⟩ := World.cells?_some hc
      obtain ⟨z, e, _, _⟩ := DataW.trod_int Tryz.underlying3 ht
      subst e
      have := hat 0 (by omega)
      rw [Addr.add_mid, Addr.add_mid] at this
      simp at this
      exact ⟨z, this⟩
    have : ∀ k, k ≤ len → ∃ L : List Int, L.length = k ∧ ∀ (i : Nat) (z : Int), L[i]? = some z → W.cell? ⟨b, o + i, none⟩ = some (.int .i64 z) := by
      intro k
      induction k with
      | zero => intro _; exact ⟨[], rfl, fun i c h => by simp at h⟩
      | succ k ih =>
        intro hk
        obtain ⟨L, hL, hLc⟩ := ih (by omega)
        obtain ⟨c, hc⟩ := hall k (by omega)
        refine ⟨L ++ [c], by simp [hL], fun i c' h => ?_⟩
        rcases Nat.lt_or_ge i L.length with hi | hi
        · rw [List.getElem?_append_left hi] at h; exact hLc i c' h
        · rw [List.getElem?_append_right hi] at h
          have hik : i = k := by
            have := (List.getElem?_eq_some_iff.1 h).1; simp at this; omega
          subst hik
          simp [hL] at h
          subst h
          exact hc
    obtain ⟨L, hL, hLc⟩ := this len (Nat.le_refl _)
    exact ⟨L, ⟨hL, fun _ => ⟨b, o, rfl, hb, hLc⟩⟩, by omega⟩

end Go.Proofs.YtgmkgpbhgoileaaGreat
namespace Go.Proofs.YtgmkgpbhgoileaaGreat
set_option maxRecDepth 100000
set_option linter.unusedVariables false
open Go.RowKit Go.Sort Go.Maps

theorem mkName_ok (k : Int) : nameM (mkName k) = true ∧ (mkName k).length = 1 := by
  have h0 := Int.emod_nonneg k (show (5 : Int) ≠ 0 by omega)
  have h1 := Int.emod_lt_of_pos k (show (0 : Int) < 5 by omega)
  refine ⟨?_, rfl⟩
  have h2 : (k % 5).toNat = 0 ∨ (k % 5).toNat = 1 ∨ (k % 5).toNat = 2 ∨ (k % 5).toNat = 3 ∨ (k % 5).toNat = 4 := by omega
  unfold mkName
  rcases h2 with h | h | h | h | h <;> rw [h] <;> decide
/-- What Make makes: sound, small. -/
theorem make_good (l : List FileM) (ns : List Int) : ∀ j, goodM (makeM l ns j) ∧ (∀ f ∈ makeM l ns j, f.1.length = 1 ∧ f.2.length ≤ 400) ∧ (makeM l ns j).length ≤ j
  | 0 => ⟨⟨by simp [makeM], by simp [makeM]⟩, by simp [makeM], by simp [makeM]⟩
  | j + 1 => by
    obtain ⟨h1, h2, h3⟩ := make_good l ns j
    rw [make_succ]
    unfold addM
    split
    · exact ⟨h1, h2, by omega⟩
    · rename_i hn
      obtain ⟨q1, q2⟩ := mkName_ok (ns.getD j j)
      have q3 : (mkOne l ns j).2.length ≤ 400 := by unfold mkOne; simp only [List.length_take]; omega
      refine ⟨⟨fun f hf => ?_, ?_⟩, fun f hf => ?_, by rw [List.length_append]; simp; omega⟩
      · rcases List.mem_append.1 hf with h | h
        · exact h1.1 f h
        · simp at h; subst h; exact ⟨q1, by omega⟩
      · rw [List.map_append, List.nodup_append]
        refine ⟨h1.2, by simp, fun x hx y hy e => ?_⟩
        simp at hy
        subst hy e
        exact hn hx
      · rcases List.mem_append.1 hf with h | h
        · exact h2 f h
        · simp at h; subst h; exact ⟨q2, q3⟩
theorem make_sound (l : List FileM) (ns : List Int) {j : Nat} (hj : j ≤ 8) : soundM (makeM l ns j) = true := by
  obtain ⟨h1, h2, h3⟩ := make_good l ns j
  have : (makeM l ns j).length ≤ 8 := by omega
  simp [soundM, h1, this]
theorem small_set {l : List FileM} (h : goodM l) (hs : ∀ f ∈ l, f.1.length = 1 ∧ f.2.length ≤ 400) (hl : l.length ≤ 8) : (setB (buildF l)).length ≤ 3300 ∧ (changeB [] (buildF l) ((buildF l).map (·.1))).length ≤ 3300 := by
  have hp := build_perm l h.2
  have hs' : ∀ f ∈ buildF l, f.1.length = 1 ∧ f.2.length ≤ 400 := fun f hf => hs f (hp.mem_iff.1 hf)
  have hl' : (buildF l).length ≤ 8 := by rw [hp.length_eq]; exact hl
  generalize buildF l = N at *
  have key : ∀ M : List FileM, (∀ f ∈ M, f.1.length = 1 ∧ f.2.length ≤ 400) → (M.flatMap fileB).length ≤ 404 * M.length := by
    intro M
    induction M with
    | nil => simp
    | cons f r ih =>
      intro hM
      have h1 := hM f (by simp)
      have h2 := ih (fun g hg => hM g (by simp [hg]))
      rw [List.flatMap_cons, List.length_append, length_fileB, List.length_cons]
      omega
  have key2 : ∀ ns : List (List UInt8), (∀ n ∈ ns, n.length = 1) → (chgL [] N ns).flatten.length ≤ 405 * ns.length ∧ (chgL [] N ns).length ≤ ns.length := by
    intro ns
    induction ns with
    | nil => simp [chgL]
    | cons n r ih =>
      intro hn
      have ih' := ih (fun m hm => hn m (by simp [hm]))
      have hn1 := hn n (by simp)
      unfold chgL at ih' ⊢
      rw [List.filterMap_cons]
      cases hc : chgE [] N n with
      | none => simp only [List.length_cons]; omega
      | some x =>
        have hx : x.length ≤ 405 := by
          unfold chgE at hc
          split at hc
          · cases hc
          · injection hc with hc
            subst hc
            split
            · rename_i hsm
              obtain ⟨g, hg⟩ := Option.isSome_iff_exists.1 hsm
              have h1 := hs' g (List.mem_of_find?_eq_some hg)
              have h3 : atF n N = g := by unfold atF; rw [hg]; rfl
              rw [h3, List.length_append, length_leB, length_fileB]
              omega
            · rw [List.length_append, List.length_append, length_leB, length_leB]
              omega
        simp only [List.flatten_cons, List.length_append, List.length_cons]
        omega
  constructor
  · unfold setB
    rw [List.length_append, length_leB]
    have := key N hs'
    omega
  · unfold changeB
    rw [List.length_append, length_leB]
    have := (key2 (N.map (·.1)) (fun n hn => by obtain ⟨f, hf, rfl⟩ := List.mem_map.1 hn; exact (hs' f hf).1)).1
    rw [List.length_map] at this
    omega

/-- A small sound set, committed onto none on a wide disk. -/
theorem commit_fresh (w : World) (sp lp pd bl bm b : Nat) (D : DS) (l : List FileM) (a : Option Addr) (len cap : Nat) (h : StAt w sp lp pd bl bm b D ⟨128, 1, 1, 0, 1, 1⟩ [setB []] 2 []) (hl : FilesAt w a len l) (hg : goodM l) (hs : ∀ f ∈ l, f.1.length = 1 ∧ f.2.length ≤ 400) (hl8 : l.length ≤ 8) :
    Calls Tryz.prog 10 #[.pointer (some ⟨sp, 0, none⟩), .slice a len cap] w fun e w' => e = .returned (.int .i64 0) ∧ ∃ bn D' L' rs' k', StAt w' sp lp pd bl bm bn D' L' rs' k' (buildF l) ∧ (bn = b ∨ w.heap.size ≤ bn) ∧ (L'.size = 128 ∧ 0 ≤ k' ∧ k' ≤ 602 ∧ L'.gen ≤ 2 ∧ (rs' = [setB [], changeB [] (buildF l) ((buildF l).map (·.1))] ∨ rs' = [setB (buildF l)])) ∧ Only [sp, lp, pd, bl, bm] w w' := by
  obtain ⟨q1, q2⟩ := small_set hg hs hl8
  have hsd : soundM l = true := by simp [soundM, hg, hl8]
  have hlen := hl.1
  have p1 : partsN (setB (buildF l)).length ≤ 128 := by unfold partsN; omega
  have p2 : partsN (changeB [] (buildF l) ((buildF l).map (·.1))).length ≤ 255 := by unfold partsN; omega
  refine (commit_any w sp lp pd bl bm b D _ _ _ [] l a len cap h hl (fun f hf => by have := hs f hf; unfold maxLen; omega) (by unfold maxLen; omega) (.inl rfl) (fun _ => by omega) (fun _ => p2) (by simp) (by omega) (by omega)).mono ?_
  rintro e w' ⟨-, -, hx, hy⟩
  by_cases hN : ([] : List FileM) = buildF l
  · obtain ⟨he, hS, hO⟩ := hx hsd p1 hN
    refine ⟨he, b, D, _, _, _, by rw [← hN]; exact hS, .inl rfl, ⟨rfl, by omega, by omega, by simp, .inr (by rw [← hN])⟩, hO.into (by simp)⟩
  · obtain ⟨he, bn, D', L', rs', k', hS, hsz, hk0, ⟨hk1, hrs, hgn⟩, hbn, hO⟩ := hy hsd p1 hN
    exact ⟨he, bn, D', L', rs', k', hS, .inr hbn, ⟨hsz, hk0, by omega, by simpa using hgn, by simpa using hrs⟩, hO⟩
theorem StAt.keep {w w' : World} {sp lp pd bl bm b g : Nat} {D : DS} {L : LS} {rs : List (List UInt8)} {k : Int} {F : List FileM} (h : StAt w sp lp pd bl bm b D L rs k F) (hO : Only [g] w w') (hg : g ∉ [sp, lp, pd, bl, bm, b]) : StAt w' sp lp pd bl bm b D L rs k F := by
  simp only [List.mem_cons, List.not_mem_nil, or_false, not_or] at hg
  exact ⟨h.blk.only hO (by simp; omega), ⟨h.wl.disk.keep hO (by simp; omega) (by simp; omega) (by simp; omega), h.wl.log.keep hO (by simp; omega), h.wl.live, h.wl.ok, h.wl.ne⟩, h.set.keep hO (by simp; omega), h.ns, h.nb⟩

end Go.Proofs.YtgmkgpbhgoileaaGreat
namespace Go.Proofs.YtgmkgpbhgoileaaGreat
set_option maxRecDepth 100000
set_option linter.unusedVariables false
open Go.RowKit Go.Sort Go.Maps

theorem StAt.keepS {w w' : World} {sp lp pd bl bm b : Nat} {D : DS} {L : LS} {rs : List (List UInt8)} {k : Int} {F : List FileM} {S : List Nat} (h : StAt w sp lp pd bl bm b D L rs k F) (hO : Only S w w') (hS : ∀ x ∈ S, x ∉ [sp, lp, pd, bl, bm, b]) : StAt w' sp lp pd bl bm b D L rs k F := by
  have hn : ∀ y ∈ [sp, lp, pd, bl, bm, b], y ∉ S := fun y hy hm => hS y hm hy
  exact ⟨h.blk.only hO (hn _ (by simp)), ⟨h.wl.disk.keep hO (hn _ (by simp)) (hn _ (by simp)) (hn _ (by simp)), h.wl.log.keep hO (hn _ (by simp)), h.wl.live, h.wl.ok, h.wl.ne⟩, h.set.keep hO (hn _ (by simp)), h.ns, h.nb⟩
/-- The memory of a row of files of one's own. -/
def Mem (w : World) (a : Option Addr) (n : Nat) (S : List Nat) : Prop := 0 < n → ∃ g cur, a = some ⟨g, 0, none⟩ ∧ g ∈ S ∧ IsBlk w g (.cells cur 40) ∧ n * 2 ≤ cur.size
theorem OwnF.mem {w : World} {base n c : Nat} {a : Option Addr} {l : List FileM} (h : OwnF w base (.slice a n c) l) (hn : l.length = n) : ∃ S, (∀ x ∈ S, base ≤ x ∧ x < w.heap.size) ∧ Mem w a n S := by
  rcases h.2 with ⟨h0, h1⟩ | ⟨g, cap, cur, e, hb, hg, h1, _, h3, _⟩
  · exact ⟨[], by simp, fun hp => by omega⟩
  · injection e with e1 e2 e3
    refine ⟨[g], fun x hx => by simp at hx; subst hx; exact ⟨hb, IsBlk.lt hg⟩, fun _ => ⟨g, cur, e1, by simp, hg, by omega⟩⟩
theorem Mem.only {w w' : World} {a : Option Addr} {n : Nat} {S T : List Nat} (h : Mem w a n S) (hO : Only T w w') (hT : ∀ x ∈ S, x ∉ T) : Mem w' a n S := fun hp => by
  obtain ⟨g, cur, e, hg, hb, hs⟩ := h hp
  exact ⟨g, cur, e, hg, hb.only hO (hT g hg), hs⟩

end Go.Proofs.YtgmkgpbhgoileaaGreat
namespace Go.Proofs.YtgmkgpbhgoileaaGreat
set_option maxRecDepth 100000
set_option linter.unusedVariables false
open Go.RowKit Go.Sort Go.Maps

theorem rise_ins {f : FileM} : ∀ {F : List FileM}, Rise F → f.1 ∉ F.map (·.1) → Rise (insS f F)
  | [], _, _ => List.pairwise_cons.2 ⟨by simp, List.Pairwise.nil⟩
  | g :: r, h, hn => by
    have h' := List.pairwise_cons.1 h
    simp only [List.map_cons, List.mem_cons, not_or] at hn
    unfold insS
    split
    · rename_i hb
      refine List.pairwise_cons.2 ⟨fun x hx => ?_, h⟩
      rcases List.mem_cons.1 hx with rfl | hx
      · exact hb
      · rw [before_eq, decide_eq_true_eq]
        exact List.lt_trans (before_lt hb) (before_lt (h'.1 x hx))
    · rename_i hb
      refine List.pairwise_cons.2 ⟨fun x hx => ?_, rise_ins h'.2 hn.2⟩
      have hx' := (ins_perm f r).mem_iff.1 hx
      rcases List.mem_cons.1 hx' with rfl | hx'
      · rw [before_eq, decide_eq_true_eq]
        rw [before_eq, decide_eq_true_eq] at hb
        exact Classical.byContradiction (fun h3 => hn.1 (List.le_antisymm (List.not_lt.1 h3) (List.not_lt.1 hb)))
      · exact h'.1 x hx'
theorem rise_build : ∀ l : List FileM, (l.map (·.1)).Nodup → Rise (buildF l) := by
  refine snoc_cases (fun _ => List.Pairwise.nil) (fun l f ih h => ?_)
  rw [build_snoc]
  rw [List.map_append, List.nodup_append] at h
  have hn : f.1 ∉ (buildF l).map (·.1) := fun hm => by
    have := ((build_perm l h.1).map (·.1)).mem_iff.1 hm
    exact h.2.2 _ this f.1 (by simp) rfl
  unfold putS
  rw [del_none_S hn]
  exact rise_ins (ih h.1) hn
theorem build_congr {l m : List FileM} (h : l.Perm m) (hn : (m.map (·.1)).Nodup) : buildF l = buildF m := by
  have hl : (l.map (·.1)).Nodup := (h.map (·.1)).nodup_iff.2 hn
  have p := (build_perm l hl).trans (h.trans (build_perm m hn).symm)
  exact sub_eq _ _ (rise_build l hl) (rise_build m hn) (fun x hx => p.mem_iff.1 hx) p.length_eq

/-- Files turned. -/
def turnM (M : List FileM) (m : Nat) : List FileM := M.drop m ++ M.take m
theorem turn_perm (M : List FileM) (m : Nat) : (turnM M m).Perm M := by
  unfold turnM
  refine List.perm_append_comm.trans ?_
  rw [List.take_append_drop]
theorem turn_get {M : List FileM} {m j : Nat} (hm : m < M.length) (hj : j < M.length) : (turnM M m)[j]? = M[(j + m) % M.length]? := by
  unfold turnM
  by_cases h : j + m < M.length
  · rw [Nat.mod_eq_of_lt h, List.getElem?_append_left (by rw [List.length_drop]; omega), List.getElem?_drop, Nat.add_comm]
  · have e : (j + m) % M.length = j + m - M.length := by
      rw [Nat.mod_eq_sub_mod (by omega), Nat.mod_eq_of_lt (by omega)]
    rw [e, List.getElem?_append_right (by rw [List.length_drop]; omega), List.length_drop, List.getElem?_take_of_lt (by omega)]
    congr 1
    omega

set_option maxHeartbeats 8000000 in
/-- A commit of the files that are there already. -/
theorem commit_same (w : World) (sp lp pd bl bm b : Nat) (D : DS) (L : LS) (rs : List (List UInt8)) (k : Int) (l : List FileM) (a : Option Addr) (len cap : Nat) (h : StAt w sp lp pd bl bm b D L rs k (buildF l)) (hl : FilesAt w a len l) (hm : ∀ f ∈ l, f.1.length ≤ maxLen ∧ f.2.length ≤ maxLen) (hlen : len ≤ maxLen)
    (hs : soundM l = true) (hp : partsN (setB (buildF l)).length ≤ 255) (hfit : partsN (setB (buildF l)).length ≤ L.size) :
    Calls Tryz.prog 10 #[.pointer (some ⟨sp, 0, none⟩), .slice a len cap] w fun e w' => e = .returned (.int .i64 0) ∧ StAt w' sp lp pd bl bm b D L rs k (buildF l) ∧ Only [] w w' := by
  have H := Lib.hid h
  have Hl := Lib.hid hl
  have Hm := Lib.hid hm
  clear h hl hm
  go_enter Tryz.func10, Tryz.ntmps10
  go_wp2_with fail
  refine (setOf_any _ a len cap l Hl.out Hm.out hlen).mono ?_
  rintro e w1 ⟨hyes, hno, hO1⟩
  have HO1 := Lib.hid hO1
  obtain ⟨bn, rfl, hset, hbn⟩ := hyes hs
  have HM := Lib.hid (sound_modest hs)
  have Hset := Lib.hid hset
  clear hyes hno hO1 hs hset
  generalize hN : buildF l = N at *
  have HN := Lib.hid hN
  clear hN
  go_wp2_with fail
  refine (whole_any _ bn N Hset.out HM.out).mono ?_
  rintro e w2 ⟨v2, rfl, hv2, hO2⟩
  obtain ⟨a2, c2, rfl, hs2, hn2, -⟩ := OwnB.shape hv2
  have Hs2 := Lib.hid hs2
  have HO2 := Lib.hid (HO1.out.plus hO2)
  have Hset2 := Lib.hid (Hset.out.more hO2)
  have H2 := Lib.hid (H.out.more HO2.out)
  have c0 := H2.out.c0
  have c1 := H2.out.c1
  clear hv2 hs2 hn2 hO2 Hset
  go_wp2_with fail
  refine (fits_any _ lp pd L a2 c2 (setB N) H2.out.wl.log Hs2.out hp).mono ?_
  rintro e w3 ⟨rfl, hO3⟩
  have HO3 := Lib.hid (HO2.out.plus hO3)
  have Hset3 := Lib.hid (Hset2.out.more hO3)
  have H3 := Lib.hid (H2.out.more hO3)
  have d0 := H3.out.c0
  have d1 := H3.out.c1
  clear hO3 c0 c1 Hs2 HO2 Hset2 H2
  rw [decide_eq_true hfit]
  go_wp2_with fail
  refine (sameSet_any _ b bn N N H3.out.set Hset3.out).mono ?_
  rintro e w4 ⟨rfl, hO4⟩
  have HO4 := Lib.hid (HO3.out.plus hO4)
  have H4 := Lib.hid (H3.out.more hO4)
  clear hO4 d0 d1 HO3 Hset3 H3
  rw [decide_eq_true (rfl : N = N)]
  go_wp2
  go_ret
  exact ⟨rfl, by rw [HN.out]; exact H4.out, HO4.out⟩

end Go.Proofs.YtgmkgpbhgoileaaGreat
namespace Go.Proofs.YtgmkgpbhgoileaaGreat
set_option maxRecDepth 100000
set_option linter.unusedVariables false
open Go.RowKit Go.Sort Go.Maps

/-- A reader that stands ahead of bytes. -/
def RdAt (w : World) (rp b : Nat) (l : List UInt8) : Prop :=
  ∃ o cap, IsBlk w rp (.cells #[.slice (some ⟨b, o, none⟩) l.length cap] 110) ∧ Src w (some ⟨b, o, none⟩) l.length l ∧ l.length ≤ cap ∧ b ≠ rp
theorem RdAt.keep {w w' : World} {rp b : Nat} {l : List UInt8} {S : List Nat} (h : RdAt w rp b l) (hO : Only S w w') (h1 : rp ∉ S) (h2 : b ∉ S) : RdAt w' rp b l := by
  obtain ⟨o, cap, hb, hs, hc, hn⟩ := h
  exact ⟨o, cap, hb.only hO h1, hs.keep hO (fun _ x y e => by injection e with e; injection e with e1; rw [← e1]; exact h2), hc, hn⟩

set_option maxHeartbeats 2000000 in
theorem take_any (w : World) (rp b : Nat) (x l : List UInt8) (hl : (x ++ l).length ≤ 1000000) (h : RdAt w rp b (x ++ l)) :
    Calls Tryz.prog 78 #[.pointer (some ⟨rp, 0, none⟩), .int .i64 (x.length : Nat)] w fun e w' => ∃ o cap, e = .returned (.slice (some ⟨b, o, none⟩) x.length cap) ∧ Src w' (some ⟨b, o, none⟩) x.length x ∧ x.length ≤ cap ∧ RdAt w' rp b l ∧ Only [rp] w w' := by
  obtain ⟨o, cap, hb, hs, hc, hn⟩ := h
  have H := Lib.hid hs
  have Hb := Lib.hid hb
  have c0 := hb.cell 0
  have z0 := hb.notFrozen 0
  simp at c0
  rw [List.length_append] at hl hc
  clear hs hb
  have hmin : min (x.length : Int) ((x.length : Int) + (l.length : Int)) = (x.length : Int) := by omega
  have Hfin : Hid (∀ o' c', IsBlk (w.setCell ⟨rp, 0, none⟩ (.slice (some ⟨b, o', none⟩) l.length c')) rp (.cells #[.slice (some ⟨b, o', none⟩) l.length c'] 110) ∧ Only [rp] w (w.setCell ⟨rp, 0, none⟩ (.slice (some ⟨b, o', none⟩) l.length c'))) := Lib.hid (fun o' c' => ⟨Hb.out.put 0 _, only_put w _⟩)
  have Hx : Hid (Src w (some ⟨b, o, none⟩) x.length x) := Lib.hid (by
    have := H.out.sub 0 x.length (by rw [List.length_append]; omega)
    simpa using this)
  have Hl : Hid (Src w (some ⟨b, o + x.length, none⟩) l.length l) := Lib.hid (by
    have := H.out.sub x.length l.length (by rw [List.length_append]; omega)
    simpa using this)
  have Hl0 : Hid (cap = x.length → Src w (some ⟨b, o, none⟩) l.length l) := Lib.hid (fun e => ⟨rfl, fun hp => by omega⟩)
  have hsub : x.length + l.length - x.length = l.length := by omega
  have Hb1 : Hid (∀ o, ∀ y m, (some (⟨b, o, none⟩ : Addr)) = some ⟨y, m, none⟩ → y ∉ [rp]) := Lib.hid (fun o y m e => by injection e with e; injection e with e1; rw [← e1]; simpa using hn)
  go_enter Tryz.func78, Tryz.ntmps78
  go_wp2_with fail
  all_goals go_ret
  all_goals first
    | exact ⟨o, _, rfl, Hx.out.keep (Hfin.out o 0).2 (fun _ => Hb1.out o), by omega, ⟨o, 0, (Hfin.out o 0).1, (Hl0.out (by assumption)).keep (Hfin.out o 0).2 (fun _ => Hb1.out o), by omega, hn⟩, (Hfin.out o 0).2⟩
    | exact ⟨o, _, rfl, Hx.out.keep (Hfin.out (o + x.length) (cap - x.length)).2 (fun _ => Hb1.out o), by omega, ⟨_, _, (Hfin.out (o + x.length) (cap - x.length)).1, Hl.out.keep (Hfin.out (o + x.length) (cap - x.length)).2 (fun _ => Hb1.out _), by omega, hn⟩, (Hfin.out (o + x.length) (cap - x.length)).2⟩

set_option maxHeartbeats 2000000 in
theorem rdnum_any (w : World) (rp b : Nat) (x l : List UInt8) (hx : x.length ≤ 2) (hl : (x ++ l).length ≤ 1000000) (h : RdAt w rp b (x ++ l)) :
    Calls Tryz.prog 55 #[.pointer (some ⟨rp, 0, none⟩), .int .i64 (x.length : Nat)] w fun e w' => e = .returned (.int .i64 (numB x : Nat)) ∧ RdAt w' rp b l ∧ Only [rp] w w' := by
  have H := Lib.hid h
  clear h
  go_enter Tryz.func55, Tryz.ntmps55
  go_wp2_with fail
  refine (take_any _ rp b x l hl H.out).mono ?_
  rintro e w1 ⟨o, cap, rfl, hs, hc, hR, hO⟩
  have Hs := Lib.hid hs
  have HR := Lib.hid hR
  have HO := Lib.hid hO
  clear hs hR hO
  go_wp2_with fail
  go_loopw [12, 5] (fun i n wr => ∃ j : Nat, j ≤ x.length ∧ i = .int .i64 j ∧ n = .int .i64 (numB (x.take j) : Nat) ∧ wr = w1) (fun i _ _ => x.length - (intOf i).toNat)
  case atStart => exact ⟨0, by omega, rfl, by simp [numB], rfl⟩
  case round =>
    obtain ⟨j, hj, rfl, rfl, rfl⟩ := hrel
    by_cases hlt : j < x.length
    · have hlti : (j : Int) < (x.length : Int) := by omega
      obtain ⟨b', o', e, hb', hr⟩ := Hs.out.2 (by omega)
      injection e with e; injection e with e1 e2; subst e1; subst e2
      have hcell := Src.cell hr j hlt
      have htk := take_snoc x j hlt
      generalize hcv : x[j] = c at *
      have hcl : c.toNat < 256 := c.toNat_lt
      clear hr
      have hjj : j = 0 ∨ j = 1 := by omega
      rcases hjj with rfl | rfl
      · have hcell' : wr.cell? ⟨b, o, none⟩ = some (.int .u8 c.toNat) := by simpa using hcell
        have hor : bits BinOp.or IntKind.i64 0 (c.toNat : Int) = (c.toNat : Int) := by
          have := i64_or_nat 0 c.toNat (by omega) (by omega); simpa using this
        go_wp2_with fail
        go_roundw
        case rel => exact ⟨1, by omega, rfl, by rw [show (1 : Nat) = 0 + 1 from rfl, htk]; simp [numB, hor], trivial⟩
        case measure => simp [intOf]; omega
      · have hor : bits BinOp.or IntKind.i64 ((numB (x.take 1) : Nat) : Int) ((c.toNat : Int) * 256) = ((numB (x.take 1) + 256 * c.toNat : Nat) : Int) := by
          have hn : numB (x.take 1) < 256 := by have := numB_lt (x.take 1); rw [List.length_take, show min 1 x.length = 1 by omega] at this; simpa using this
          have e := i64_or_nat (numB (x.take 1)) (c.toNat * 256) (by omega) (by omega)
          rw [Int.natCast_mul] at e
          refine e.trans ?_
          have e2 := Nat.two_pow_add_eq_or_of_lt (i := 8) (b := numB (x.take 1)) (by omega) c.toNat
          rw [Nat.or_comm, Nat.mul_comm c.toNat 256, show (256 : Nat) = 2 ^ 8 from rfl, ← e2]
          omega
        have htk2 : numB (x.take 2) = numB (x.take 1) + 256 * c.toNat := by
          rw [show (2 : Nat) = 1 + 1 from rfl, htk, numB_append, List.length_take, show min 1 x.length = 1 by omega]; simp [numB]
        go_wp2_with fail
        go_roundw
        case rel => exact ⟨2, by omega, rfl, by rw [htk2]; simp, trivial⟩
        case measure => simp [intOf]; omega
    · have hge : ¬ (j : Int) < (x.length : Int) := by omega
      have Htk : Hid (x.take j = x) := Lib.hid (List.take_of_length_le (by omega))
      rw [Htk.out]
      go_wp2
      go_ret
      exact ⟨rfl, HR.out, HO.out⟩

end Go.Proofs.YtgmkgpbhgoileaaGreat
namespace Go.Proofs.YtgmkgpbhgoileaaGreat
set_option maxRecDepth 100000
set_option linter.unusedVariables false
open Go.RowKit Go.Sort Go.Maps

set_option maxHeartbeats 2000000 in
theorem rdtext_any (w : World) (rp b k : Nat) (s l : List UInt8) (hk : k ≤ 2) (hs : s.length < 256 ^ k) (hl : (leB k s.length ++ s ++ l).length ≤ 1000000) (h : RdAt w rp b (leB k s.length ++ s ++ l)) :
    Calls Tryz.prog 59 #[.pointer (some ⟨rp, 0, none⟩), .int .i64 (k : Nat)] w fun e w' => e = .returned (encStr s) ∧ RdAt w' rp b l ∧ Only [rp] w w' := by
  have H := Lib.hid h
  clear h
  have e1 := rdnum_any w rp b (leB k s.length) (s ++ l) (by rw [length_leB]; exact hk) (by rw [← List.append_assoc]; exact hl) (by rw [← List.append_assoc]; exact H.out)
  rw [length_leB, numB_leB_lt hs] at e1
  simp only [List.length_append, length_leB] at hl
  unfold encStr
  go_enter Tryz.func59, Tryz.ntmps59
  go_wp2_with fail
  refine e1.mono ?_
  rintro e w1 ⟨rfl, hR1, hO1⟩
  have HR1 := Lib.hid hR1
  have HO1 := Lib.hid hO1
  clear hR1 hO1 e1
  go_wp2_with fail
  refine (take_any _ rp b s l (by rw [List.length_append]; omega) HR1.out).mono ?_
  rintro e w2 ⟨o, cap, rfl, hs2, hc2, hR2, hO2⟩
  have hcv := conv_src w2 _ s.length cap s hs2
  have HR2 := Lib.hid hR2
  have HO2 : Hid (Only [rp] w w2) := Lib.hid ((HO1.out.trans hO2).into (fun j hj => .inl (by simpa using hj)))
  clear hR2 hO2 hs2
  go_wp2
  go_ret
  exact ⟨rfl, HR2.out, HO2.out⟩

set_option maxHeartbeats 2000000 in
theorem rdfile_any (w : World) (rp b : Nat) (f : FileM) (l : List UInt8) (h1 : f.1.length ≤ 255) (h2 : f.2.length ≤ 3000) (hl : (fileB f ++ l).length ≤ 1000000) (h : RdAt w rp b (fileB f ++ l)) (hrp : rp < w.heap.size) (hb : b < w.heap.size) :
    Calls Tryz.prog 56 #[.pointer (some ⟨rp, 0, none⟩)] w fun e w' => e = .returned (fileV f) ∧ RdAt w' rp b l ∧ Only [rp] w w' := by
  have H := Lib.hid h
  clear h
  obtain ⟨fn, ft⟩ := f
  unfold fileV
  simp only at h1 h2 ⊢
  go_enter Tryz.func56, Tryz.ntmps56
  have eb : fileB (fn, ft) ++ l = leB 1 fn.length ++ fn ++ (leB 2 ft.length ++ ft ++ l) := by simp [fileB, List.append_assoc]
  rw [eb] at hl
  have HH : Hid (RdAt w rp b (leB 1 fn.length ++ fn ++ (leB 2 ft.length ++ ft ++ l))) := Lib.hid (by rw [← eb]; exact H.out)
  clear H eb
  have hOa := Lib.hid ((Only.refl [] w).alloc (.cells #[.string ⟨#[]⟩, .string ⟨#[]⟩] 40))
  have Hq := Lib.hid (IsBlk.made w (.cells #[.string ⟨#[]⟩, .string ⟨#[]⟩] 40))
  have HR0 := Lib.hid (HH.out.keep hOa.out (by simp) (by simp))
  have hl2 : (leB 2 ft.length ++ ft ++ l).length ≤ 1000000 := by simp only [List.length_append] at hl ⊢; omega
  go_wp2_with fail
  refine (rdtext_any _ rp b 1 fn _ (by omega) (by omega) hl HR0.out).mono ?_
  rintro e w1 ⟨rfl, hR1, hO1⟩
  have HR1 := Lib.hid hR1
  have HO1 : Hid (Only [rp] w w1) := Lib.hid ((hOa.out.trans hO1).into (fun j hj => .inl (by simpa using hj)))
  have Hq1 := Lib.hid (Hq.out.only hO1 (by simp; omega))
  clear hR1 hO1
  generalize hqq : w.heap.size = q at *
  clear hOa Hq HR0
  go_wp2_with fail
  refine (rdtext_any _ rp b 2 ft l (by omega) (by omega) hl2 HR1.out).mono ?_
  rintro e w2 ⟨rfl, hR2, hO2⟩
  have HR2 := Lib.hid hR2
  have HO2 : Hid (Only [rp] w w2) := Lib.hid ((HO1.out.trans hO2).into (fun j hj => .inl (by simpa using hj)))
  have Hq2 := Lib.hid (Hq1.out.only hO2 (by simp; omega))
  have c0 := Hq2.out.cell 0
  have c1 := Hq2.out.cell 1
  have z0 := Hq2.out.notFrozen 0
  have z1 := Hq2.out.notFrozen 1
  simp at c0 c1
  clear hR2 hO2 Hq1
  unfold encStr
  go_wp2_with fail
  have Hq4 := (Hq2.out.put 0 (.string ⟨fn.toArray⟩)).put 1 (.string ⟨ft.toArray⟩)
  have hO4 : Only [q] w2 ((w2.setCell ⟨q, 0, none⟩ (.string ⟨fn.toArray⟩)).setCell ⟨q, 1, none⟩ (.string ⟨ft.toArray⟩)) := ((only_put (p := q) (i := 0) w2 _).trans (only_put (p := q) (i := 1) _ _)).into (fun j hj => .inl (by simpa using hj))
  clear c0 c1 z0 z1
  have c0 := Hq4.cell 0
  have c1 := Hq4.cell 1
  have HR4 := HR2.out.keep hO4 (by simp; omega) (by simp; omega)
  have HO4 : Only [rp] w _ := (HO2.out.trans hO4).into (fun j hj => by simp at hj ⊢; omega)
  clear Hq4 hO4
  generalize (w2.setCell ⟨q, 0, none⟩ (.string ⟨fn.toArray⟩)).setCell ⟨q, 1, none⟩ (.string ⟨ft.toArray⟩) = W at *
  simp at c0 c1
  unfold encStr
  refine bodyPost_ret (v := .agg #[.string ⟨fn.toArray⟩, .string ⟨ft.toArray⟩]) ?_ rfl ⟨rfl, HR4, HO4⟩
  simp [results, go_sem, c0, c1]

end Go.Proofs.YtgmkgpbhgoileaaGreat
namespace Go.Proofs.YtgmkgpbhgoileaaGreat
set_option maxRecDepth 100000
set_option linter.unusedVariables false
open Go.RowKit Go.Sort Go.Maps

theorem equal_same (w : World) (p1 p2 : Option Addr) (n c d : Nat) (l : List UInt8) (h1 : Src w p1 n l) (h2 : Src w p2 n l) :
    Calls Tryz.prog 57 #[.slice p1 n c, .slice p2 n d] w fun e w' => e = .returned (.bool true) ∧ w = w' := by
  have e1 := conv_src w p1 n c l h1
  have e2 := conv_src w p2 n d l h2
  have es : strB l = strOfNums (l.map fun b => (b.toNat : Int)) := by
    have : ((fun n : Int => UInt8.ofNat n.toNat) ∘ fun b : UInt8 => (b.toNat : Int)) = id := by funext b; simp
    simp only [strOfNums, strB, List.map_map]
    rw [this, List.map_id]
  rw [es] at e1 e2
  refine (Tryz.bytes_Equal _ _ _ _ w e1 e2).mono ?_
  rintro e w' ⟨rfl, rfl⟩
  exact ⟨by simp, rfl⟩

/-- A set that the store may hold. -/
structure Kept (N : List FileM) : Prop where
  good : goodM N
  len : N.length ≤ 8
  build : buildF N = N
theorem Kept.of {l : List FileM} (h : soundM l = true) : Kept (buildF l) := by
  simp only [soundM, Bool.and_eq_true, decide_eq_true_eq] at h
  have hp := build_perm l h.2.2
  exact ⟨⟨fun f hf => h.2.1 f (hp.mem_iff.1 hf), (hp.map (·.1)).nodup_iff.2 h.2.2⟩, by rw [hp.length_eq]; omega, build_congr hp h.2.2⟩
theorem Kept.sound {N : List FileM} (h : Kept N) : soundM N = true := by simp [soundM, h.good, h.len]
theorem Kept.modest {N : List FileM} (h : Kept N) : Modest N := by have := sound_modest h.sound; rwa [h.build] at this

/-- What a reading of a set's bytes gives. -/
def ReadS (w : World) (N : List FileM) (e : Ending) (w' : World) : Prop :=
  ∃ bn, e = .returned (.tuple #[.map (some bn), .bool true]) ∧ SetAt w' bn N ∧ w.heap.size ≤ bn ∧ Only [] w w'

theorem grow_only {w w' : World} {base : Nat} {v : Value} {l : List FileM} (hown : OwnF w base v l) (hg : w.grownBy w' v.ownBlock) : ∃ S, Only S w w' ∧ ∀ k ∈ S, base ≤ k := by
  rcases hb0 : Value.ownBlock v with _ | g0
  · rw [hb0] at hg
    exact ⟨[], ⟨hg.os, hg.tape, hg.output, hg.size, fun k hk _ => hg.block k hk (by simp)⟩, by simp⟩
  · rw [hb0] at hg
    exact ⟨[g0], ⟨hg.os, hg.tape, hg.output, hg.size, fun k hk hm => hg.block k hk (fun e => by injection e with e; simp at hm; omega)⟩, fun k hk => by simp at hk; rw [hk]; exact (World.ownsRow.lt hown g0 hb0).1⟩
theorem OwnF.keep {w w' : World} {base : Nat} {v : Value} {l : List FileM} {S : List Nat} (h : OwnF w base v l) (hO : Only S w w') (hS : ∀ k ∈ S, k < base) : OwnF w' base v l := by
  refine ⟨h.1, ?_⟩
  rcases h.2 with hn | ⟨g, cap, cur, rfl, hb, hg, rest⟩
  · exact .inl hn
  · exact .inr ⟨g, cap, cur, rfl, hb, (hO.block g (IsBlk.lt hg) (fun hm => by have := hS g hm; omega)).trans hg, rest⟩

set_option maxHeartbeats 8000000 in
theorem readWhole_any (w : World) (b o cap : Nat) (N : List FileM) (hN : Kept N) (h : Src w (some ⟨b, o, none⟩) (setB N).length (setB N)) (hb : b < w.heap.size) (hc : (setB N).length ≤ cap) :
    Calls Tryz.prog 37 #[.slice (some ⟨b, o, none⟩) (setB N).length cap] w (ReadS w N) := by
  have H := Lib.hid h
  have HN := Lib.hid hN
  have HM := Lib.hid hN.modest
  have hlN := hN.len
  have hbl : (setB N).length ≤ 100000 := by
    have h1 := hN.modest
    have h2 := flat_len h1.2
    unfold setB
    rw [List.length_append, length_leB]
    omega
  clear h hN
  have hOa := Lib.hid ((Only.refl [] w).alloc (.cells #[.slice (some ⟨b, o, none⟩) (setB N).length cap] 110))
  have HR0 : Hid (RdAt (w.alloc (.cells #[.slice (some ⟨b, o, none⟩) (setB N).length cap] 110)) w.heap.size b (setB N)) := Lib.hid ⟨o, cap, IsBlk.made w _, H.out.more hOa.out, hc, by omega⟩
  go_enter Tryz.func37, Tryz.ntmps37
  go_wp2_with fail
  have hszA : (w.alloc (.cells #[.slice (some ⟨b, o, none⟩) (setB N).length cap] 110)).heap.size = w.heap.size + 1 := by simp
  generalize w.alloc (.cells #[.slice (some ⟨b, o, none⟩) (setB N).length cap] 110) = wA at *
  generalize hq : w.heap.size = q at *
  have Hq := Lib.hid hq
  clear hq
  have e1 := rdnum_any wA q b (leB 1 N.length) (N.flatMap fileB) (by simp [length_leB]) (by have := hbl; unfold setB at this; omega) HR0.out
  rw [length_leB, numB_leB_lt (by omega)] at e1
  refine e1.mono ?_
  rintro e w1 ⟨rfl, hR1, hO1⟩
  have HR1 := Lib.hid hR1
  have HO1 := Lib.hid hO1
  clear e1 hR1 hO1
  go_wp2_with fail
  go_loopw [11, 5] (fun i s5 wr => ∃ j : Nat, j ≤ N.length ∧ i = .int .i64 j ∧ OwnF wr (q + 1) s5 (N.take j) ∧ RdAt wr q b ((N.drop j).flatMap fileB) ∧ Only [q] wA wr) (fun i _ _ => N.length - (intOf i).toNat)
  case atStart => exact ⟨0, by omega, rfl, ⟨rfl, .inl ⟨rfl, rfl⟩⟩, HR1.out, HO1.out⟩
  case round =>
    obtain ⟨j, hj, rfl, hown, hR, hO⟩ := hrel
    have Hown := Lib.hid hown
    have HR := Lib.hid hR
    have HO := Lib.hid hO
    have hszr := hO.size
    clear hown hR hO
    by_cases hlt : j < N.length
    · have hlti : (j : Int) < (N.length : Int) := by omega
      have Htk : Hid (N.take (j + 1) = N.take j ++ [N[j]]) := Lib.hid (by rw [List.take_add_one, List.getElem?_eq_getElem hlt]; rfl)
      have hm := HM.out.2 N[j] (List.getElem_mem hlt)
      have hdr : (N.drop j).flatMap fileB = fileB N[j] ++ (N.drop (j + 1)).flatMap fileB := by rw [List.drop_eq_getElem_cons hlt, List.flatMap_cons]
      have hlen2 : (fileB N[j] ++ (N.drop (j + 1)).flatMap fileB).length ≤ 1000000 := by
        rw [← hdr]
        have := flat_len (F := N.drop j) (fun f hf => HM.out.2 f (List.mem_of_mem_drop hf))
        rw [List.length_drop] at this
        omega
      have HRj : Hid (RdAt wr q b (fileB N[j] ++ (N.drop (j + 1)).flatMap fileB)) := Lib.hid (by rw [← hdr]; exact HR.out)
      clear hdr HR
      generalize N[j] = f at *
      obtain ⟨fn, ft⟩ := f
      simp only at hm
      go_wp2_with fail
      refine (rdfile_any _ q b (fn, ft) _ hm.1 hm.2 hlen2 HRj.out (by omega) (by omega)).mono ?_
      rintro e w2 ⟨rfl, hR2, hO2⟩
      unfold fileV encStr
      simp only
      have HO2 : Hid (Only [q] wA w2) := Lib.hid ((HO.out.trans hO2).into (fun j hj => .inl (by simpa using hj)))
      have HR2 := Lib.hid hR2
      have Hown2 := Lib.hid (Hown.out.keep hO2 (by simp))
      clear hR2 hO2 Hown
      have hOa2 := Lib.hid ((Only.refl [] w2).alloc (.cells #[.string ⟨fn.toArray⟩, .string ⟨ft.toArray⟩] 40))
      have hqb := IsBlk.made w2 (.cells #[.string ⟨fn.toArray⟩, .string ⟨ft.toArray⟩] 40)
      have Hq0 := Lib.hid (hqb.cell 0)
      have Hq1 := Lib.hid (hqb.cell 1)
      have Howa := Lib.hid (Hown2.out.only hOa2.out)
      have hszj : q + 1 ≤ (w2.alloc (.cells #[.string ⟨fn.toArray⟩, .string ⟨ft.toArray⟩] 40)).heap.size := by have := HO2.out.size; have := hOa2.out.size; omega
      have htl : (N.take j).length ≤ 1000000 := by rw [List.length_take]; omega
      clear hqb
      go_wp2_with (at_builtin; refine wpList_append_f rfl _ _ rfl (q + 1) _ _ rfl Howa.out w2.heap.size 1 (fn, ft) rfl Hq0.out Hq1.out htl hszj ?_; intro v' w4 h4 hg4)
      obtain ⟨S, hS, hSb⟩ := grow_only Howa.out hg4
      have hR4 := (HR2.out.keep hOa2.out (by simp) (by simp)).keep hS (fun hm => by have := hSb q hm; omega) (fun hm => by have := hSb b hm; omega)
      have hO4 : Only [q] wA w4 := ((HO2.out.trans hOa2.out).trans hS).into (fun k hk => by
        simp at hk
        rcases hk with h | h
        · exact .inl (by simpa using h)
        · have := hSb k h; exact .inr (by omega))
      clear hS hSb
      go_roundw
      case rel => exact ⟨j + 1, by omega, by go_num, by rw [Htk.out]; exact h4, hR4, hO4⟩
      case measure => simp [intOf]; omega
    · have hge : ¬ (j : Int) < (N.length : Int) := by omega
      have hown := Hown.out
      rw [List.take_of_length_le (by omega)] at hown
      obtain ⟨aT, cT, rfl, hfT, hbT⟩ := hown.files
      have HfT := Lib.hid hfT
      have HOw : Hid (Only [] w wr) := Lib.hid ((hOa.out.trans HO.out).into (fun k hk => by simp at hk; have := Hq.out; exact .inr (by omega)))
      clear hown hfT hbT Hown
      go_wp2_with fail
      refine (setOf_any _ aT _ cT N HfT.out (fun f hf => by have := HM.out.2 f hf; unfold maxLen; omega) (by unfold maxLen; omega)).mono ?_
      rintro e w5 ⟨hyes, hno, hO5⟩
      obtain ⟨bn, rfl, hset, hbn⟩ := hyes HN.out.sound
      rw [HN.out.build] at hset
      have HO5 := Lib.hid (HOw.out.plus hO5)
      have Hset := Lib.hid hset
      have hqb : q ≤ bn := by have := HOw.out.size; have := Hq.out; omega
      clear hyes hno hO5 hset
      go_wp2_with fail
      refine (whole_any _ bn N Hset.out HM.out).mono ?_
      rintro e w6 ⟨v6, rfl, hv6, hO6⟩
      obtain ⟨a6, c6, rfl, hs6, hn6, -⟩ := OwnB.shape hv6
      have Hs6 := Lib.hid hs6
      have HO6 := Lib.hid (HO5.out.plus hO6)
      have Hset6 := Lib.hid (Hset.out.more hO6)
      clear hv6 hs6 hn6 hO6 Hset
      go_wp2_with fail
      refine (equal_same _ a6 _ _ c6 cap (setB N) Hs6.out (H.out.more HO6.out)).mono ?_
      rintro e w' ⟨rfl, rfl⟩
      go_wp2
      go_ret2
      exact ⟨bn, rfl, Hset6.out, by have := Hq.out; omega, HO6.out⟩

end Go.Proofs.YtgmkgpbhgoileaaGreat
