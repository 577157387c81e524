/-
  The walk of the law StoreRefuses: it returns true, whatever its arguments are, and turns nothing that was there.
-/
import Derived.Test.YtgmkgpbhgoileaaGreatStAB
import Derived.Test.YtgmkgpbhgoileaaGreatStAC
import Derived.Test.YtgmkgpbhgoileaaGreatWalM
import Derived.Deep.CutBlock
import Derived.Deep.CutRange
import Derived.Deep.DeepCutAuto
namespace Go.Proofs.YtgmkgpbhgoileaaGreat
set_option maxRecDepth 100000
set_option linter.unusedVariables false
open Go.RowKit Go.Sort Go.Maps

theorem kept_empty : Kept [] := ⟨⟨by simp, by simp⟩, by simp, rfl⟩
theorem fileB_le {N : List FileM} {f : FileM} (h : f ∈ N) : (fileB f).length ≤ (N.flatMap fileB).length := by
  induction N with
  | nil => cases h
  | cons g r ih =>
    rw [List.flatMap_cons, List.length_append]
    rcases List.mem_cons.1 h with rfl | h
    · omega
    · have := ih h; omega
theorem Kept.short {N : List FileM} (h : Kept N) : ∀ f ∈ N, f.1.length ≤ 12 := fun f hf => by
  have := (h.good.1 f hf).1
  simp only [nameM, Bool.and_eq_true, decide_eq_true_eq] at this
  omega
theorem change_small {G N : List FileM} (hG : Kept G) (hN : Kept N) (hp : partsN (setB N).length ≤ 6) : partsN (changeB G N (namesM [G, N])).length ≤ 255 := by
  have hb : (setB N).length ≤ 308 := by unfold partsN at hp; omega
  have hns : ∀ n ∈ namesM [G, N], n.length ≤ 12 := fun n hn => by
    have := namesM_mem hn
    simp only [namesL, List.flatMap_cons, List.flatMap_nil, List.append_nil, List.mem_append, List.mem_map] at this
    rcases this with ⟨f, hf, rfl⟩ | ⟨f, hf, rfl⟩
    · exact hG.short f hf
    · exact hN.short f hf
  have hl : (namesM [G, N]).length ≤ 16 := by
    have := namesM_len [G, N]
    have h1 := hG.len
    have h2 := hN.len
    simp [namesL] at this
    omega
  have hone : ∀ n x, n.length ≤ 12 → chgE G N n = some x → x.length ≤ 310 := by
    intro n x hn hx
    unfold chgE at hx
    split at hx
    · cases hx
    · injection hx with hx
      subst hx
      split
      · rename_i hs
        obtain ⟨g, hg⟩ := Option.isSome_iff_exists.1 hs
        have h1 := fileB_le (List.mem_of_find?_eq_some hg)
        have h3 : atF n N = g := by unfold atF; rw [hg]; rfl
        unfold setB at hb
        rw [List.length_append, length_leB] at hb
        rw [h3, List.length_append, length_leB]
        omega
      · rw [List.length_append, List.length_append, length_leB, length_leB]
        omega
  have hall : ∀ ns : List (List UInt8), (∀ n ∈ ns, n.length ≤ 12) → (chgL G N ns).flatten.length ≤ 310 * ns.length := by
    intro ns
    induction ns with
    | nil => simp [chgL]
    | cons n r ih =>
      intro hn
      have ih' := ih (fun m hm => hn m (by simp [hm]))
      unfold chgL at ih' ⊢
      rw [List.filterMap_cons]
      cases hc : chgE G N n with
      | none => simp only [List.length_cons]; omega
      | some x =>
        have := hone n x (hn n (by simp)) hc
        simp only [List.flatten_cons, List.length_append, List.length_cons]
        omega
  have := hall _ hns
  have h5 : (changeB G N (namesM [G, N])).length ≤ 4961 := by
    unfold changeB
    rw [List.length_append, length_leB]
    have : 310 * (namesM [G, N]).length ≤ 310 * 16 := Nat.mul_le_mul_left _ hl
    omega
  unfold partsN
  omega

/-- A store on a disk with M sectors a half, its files, its operations. -/
def StoA (w : World) (sp lp pd bl bm M : Nat) (g k : Int) (F : List FileM) : Prop := ∃ b D L rs, StAt w sp lp pd bl bm b D L rs k F ∧ L.size = M ∧ L.gen ≤ g ∧ 0 ≤ k
theorem StoA.more {w w' : World} {sp lp pd bl bm M : Nat} {g k : Int} {F : List FileM} (h : StoA w sp lp pd bl bm M g k F) (hO : Only [] w w') : StoA w' sp lp pd bl bm M g k F := by
  obtain ⟨b, D, L, rs, hS, h1⟩ := h
  exact ⟨b, D, L, rs, hS.more hO, h1⟩
theorem StoA.blk {w : World} {sp lp pd bl bm M : Nat} {g k : Int} {F : List FileM} (h : StoA w sp lp pd bl bm M g k F) : DBlk w pd bl (2 * M) bm (-1) false k := by
  obtain ⟨b, D, L, rs, hS, hs, -, -⟩ := h
  have hb := hS.wl.disk.blk
  rw [hS.wl.live.ops, hS.wl.live.n, hS.wl.live.dead, hS.wl.live.fuse, hs] at hb
  exact hb
theorem StoA.files {w : World} {sp lp pd bl bm M : Nat} {g k : Int} {F : List FileM} (h : StoA w sp lp pd bl bm M g k F) (hF : F.length ≤ 100000) :
    Calls Tryz.prog 11 #[.pointer (some ⟨sp, 0, none⟩)] w fun e w' => ∃ v, e = .returned v ∧ OwnF w' w.heap.size v F ∧ Only [] w w' := by
  obtain ⟨b, D, L, rs, hS, -⟩ := h
  exact files_any w sp lp pd bl bm b D L rs k F hS hF
theorem StoA.lts {w : World} {sp lp pd bl bm M : Nat} {g k : Int} {F : List FileM} (h : StoA w sp lp pd bl bm M g k F) : sp < w.heap.size ∧ lp < w.heap.size ∧ pd < w.heap.size ∧ bl < w.heap.size ∧ bm < w.heap.size := by
  obtain ⟨b, D, L, rs, hS, -⟩ := h
  exact ⟨hS.blk.lt, IsBlk.lt hS.wl.log, hS.wl.disk.plt, hS.wl.disk.blt, hS.wl.disk.mlt⟩

/-- What a commit of l answers, and leaves. -/
def ComTo (w : World) (sp lp pd bl bm M : Nat) (g k : Int) (F l : List FileM) (e : Ending) (w' : World) : Prop :=
  ∃ (c : Int) (F' : List FileM) (k' : Int), e = .returned (.int .i64 c) ∧ StoA w' sp lp pd bl bm M (g + 1) k' F' ∧ k' ≤ k + 600 ∧ Kept F' ∧ partsN (setB F').length ≤ M ∧ Only [sp, lp, pd, bl, bm] w w' ∧
    ((soundM l = false ∧ c = 1 ∧ F' = F ∧ k' = k) ∨ (soundM l = true ∧ M < partsN (setB (buildF l)).length ∧ c = 4 ∧ F' = F ∧ k' = k) ∨ (soundM l = true ∧ partsN (setB (buildF l)).length ≤ M ∧ c = 0 ∧ F' = buildF l ∧ (F = buildF l → k' = k)))

theorem commit_step (w : World) (sp lp pd bl bm M : Nat) (g k : Int) (F l : List FileM) (a : Option Addr) (len cap : Nat) (h : StoA w sp lp pd bl bm M g k F) (hK : Kept F) (hfF : partsN (setB F).length ≤ M) (hl : FilesAt w a len l) (hm : ∀ f ∈ l, f.1.length ≤ maxLen ∧ f.2.length ≤ maxLen) (hlen : len ≤ maxLen) (hM : M ≤ 6) (hg : g ≤ 1000) (hk : k ≤ 5000) :
    Calls Tryz.prog 10 #[.pointer (some ⟨sp, 0, none⟩), .slice a len cap] w (ComTo w sp lp pd bl bm M g k F l) := by
  obtain ⟨b, D, L, rs, hS, hs, hgL, hk0⟩ := h
  refine (commit_gen w sp lp pd bl bm b D L rs k F l a len cap hS hl hm hlen hK.modest hK.len (fun hsd hfit => change_small hK (Kept.of hsd) (by omega)) (by omega) hk0 (by omega)).mono ?_
  rintro e w' ⟨h1, h2, h3, h4⟩
  cases hsd : soundM l with
  | false =>
    obtain ⟨he, hS', hO⟩ := h1 hsd
    exact ⟨1, F, k, he, ⟨b, D, L, rs, hS', hs, by omega, hk0⟩, by omega, hK, hfF, hO.into (by simp), .inl ⟨hsd, rfl, rfl, rfl⟩⟩
  | true =>
    by_cases hfit : partsN (setB (buildF l)).length ≤ L.size
    · by_cases hFl : F = buildF l
      · obtain ⟨he, hS', hO⟩ := h3 hsd hfit hFl
        exact ⟨0, F, k, he, ⟨b, D, L, rs, hS', hs, by omega, hk0⟩, by omega, hK, hfF, hO.into (by simp), .inr (.inr ⟨hsd, by omega, rfl, hFl, fun _ => rfl⟩)⟩
      · obtain ⟨he, bn, D', L', rs', k', hS', hs', hk0', ⟨hk1, -, hg1⟩, -, hO⟩ := h4 hsd hfit hFl
        exact ⟨0, buildF l, k', he, ⟨bn, D', L', rs', hS', by omega, by omega, hk0'⟩, hk1, Kept.of hsd, by omega, hO, .inr (.inr ⟨hsd, by omega, rfl, rfl, fun e => absurd e hFl⟩)⟩
    · obtain ⟨he, hS', hO⟩ := h2 hsd (by omega)
      exact ⟨4, F, k, he, ⟨b, D, L, rs, hS', hs, by omega, hk0⟩, by omega, hK, hfF, hO.into (by simp), .inr (.inl ⟨hsd, by omega, rfl, rfl, rfl⟩)⟩

end Go.Proofs.YtgmkgpbhgoileaaGreat
namespace Go.Proofs.YtgmkgpbhgoileaaGreat
set_option maxRecDepth 100000
set_option linter.unusedVariables false
open Go.RowKit Go.Sort Go.Maps Go.ChangeShapes Go.WideShapes Go.Deep

def FilesArgC (w : World) (a : Option Addr) (len cap : Nat) (l : List FileM) : Prop := FilesArg w a len l ∧ len ≤ cap
theorem filesc_of_read {H : Type} {enc : TypeId × Value → H} {W : World} {a : Option Addr} {len cap : Nat} {d : DataW H} {p : List MemPlace}
    (h : DataW.Trod enc Tryz.prog W 0 (fun _ => true) true 22 (.slice a len cap) d p) : ∃ L, FilesArgC W a len cap L := by
  obtain ⟨L, hL⟩ := files_of_read h
  refine ⟨L, hL, ?_⟩
  obtain ⟨fuel, hf⟩ := h
  rcases open_slice Tryz.underlying22 hf with ⟨hcs, _⟩ | ⟨x, l, c, m, n, D, Pl, hcs, _, hl, hm, hmm, _, hx⟩
  · simp [Value.cells] at hcs
    omega
  · simp [Value.cells] at hcs
    omega

/-- What is refused: for what it is, or for want of room. -/
def Refused (lb : List FileM) (c : Int) : Prop := (soundM lb = false ∧ c = 1) ∨ (soundM lb = true ∧ 6 < partsN (setB (buildF lb)).length ∧ c = 4)
theorem bad_name {lb : List FileM} {f : FileM} (hf : f ∈ lb) (hn : nameM f.1 = false) : soundM lb = false := by
  have : ¬ goodM lb := fun h => by have := (h.1 f hf).1; rw [hn] at this; cases this
  simp [soundM, this]
theorem bad_text {lb : List FileM} {f : FileM} (hf : f ∈ lb) (hn : 2000 < f.2.length) : soundM lb = false := by
  have : ¬ goodM lb := fun h => by have := (h.1 f hf).2; omega
  simp [soundM, this]
theorem bad_many {lb : List FileM} (h : 8 < lb.length) : soundM lb = false := by
  have : ¬ lb.length ≤ 8 := by omega
  simp [soundM, this]
theorem bad_twice {l : List FileM} {n t u : List UInt8} : soundM (l ++ [(n, t), (n, u)]) = false := by
  have : ¬ goodM (l ++ [(n, t), (n, u)]) := fun h => by
    have h2 := h.2
    rw [List.map_append, List.nodup_append] at h2
    have h3 := h2.2.1
    simp at h3
  simp [soundM, this]
theorem zz_full (t : List UInt8) (ht : t.length = 2000) : Refused [([122, 122], t)] 4 := by
  refine .inr ⟨?_, ?_, rfl⟩
  · have h1 : nameM [122, 122] = true := by decide
    simp [soundM, goodM, h1, ht]
  · rw [build_one, setB_one]
    simp only [ht, partsN]
    decide
theorem infoU : (Tryz.prog.info? 5).map (fun i => (i.zero, i.size, i.bytes)) = some (some (.int .u8 0), 1, 1) := by kernel_rfl
/-- A text of noughts. -/
theorem noughts (w : World) (m : Nat) (h1 : m ≤ 100000) : ∃ w', (Instr.makeSlice 41 (.int .i64 m) (.int .i64 m)).run Tryz.prog w = .ok (.slice (some ⟨w.heap.size, 0, none⟩) m m) w' ∧
    (convert 41 9 (.slice (some ⟨w.heap.size, 0, none⟩) m m)).run Tryz.prog w' = .ok (.string ⟨(List.replicate m 0).toArray⟩) w' ∧ Only [] w w' := by
  obtain ⟨i0, hi, hz0, hz1, hz2⟩ := info_parts infoU
  have hm := run_make (P := Tryz.prog) w 41 5 i0 (.int .u8 0) Tryz.underlying41 hi hz0 .i64 .i64 m m (by omega) (Int.le_refl _) (by rw [hz2]; omega) (by omega)
  rw [hz1, Nat.mul_one, Int.toNat_natCast] at hm
  refine ⟨_, hm, ?_, (Only.refl [] w).alloc _⟩
  refine conv_str _ _ 0 _ _ _ (by simp) (fun j v hv => ?_)
  rw [(IsBlk.made w (.cells (madeCells (Value.int .u8 0).cells m) 5)).cell]
  have e : (madeCells (Value.int .u8 0).cells m).toList = List.replicate m (.int .u8 0) := toList_madeCells_one _ _
  rw [← Array.getElem?_toList, e]
  simp only [bv, List.map_replicate] at hv
  rw [Nat.zero_add]
  exact hv
theorem qb_cell (n : Nat) (h : n ≤ 9) : bv [UInt8.ofNat (97 + n)] = [.int .u8 (97 + (n : Int))] := by
  have h1 : (UInt8.ofNat (97 + n)).toNat = 97 + n := by simp; omega
  simp [bv]
  omega
theorem qb_str (n : Nat) (h : n ≤ 9) {W : World} {g : Nat} (hg : IsBlk W g (.cells #[.int .u8 (97 + (n : Int))] 5)) : (convert 41 9 (.slice (some ⟨g, 0, none⟩) 1 1)).run Tryz.prog W = .ok (.string ⟨#[UInt8.ofNat (97 + n)]⟩) W := by
  refine conv_str W g 0 1 1 [UInt8.ofNat (97 + n)] rfl (fun j v hv => ?_)
  rw [qb_cell n h] at hv
  match j, hv with
  | 0, hv => simp at hv; subst hv; exact hg.cell 0
  | m + 1, hv => simp at hv
theorem files_two {w : World} (f g : FileM) (b : Nat) (h : IsBlk w b (.cells #[.string ⟨f.1.toArray⟩, .string ⟨f.2.toArray⟩, .string ⟨g.1.toArray⟩, .string ⟨g.2.toArray⟩] 40)) : FilesAt w (some ⟨b, 0, none⟩) 2 [f, g] :=
  ⟨rfl, fun _ => ⟨b, 0, rfl, h.lt, fun i x hi => by
    match i, hi with
    | 0, hi => simp at hi; subst hi; exact ⟨h.cell 0, h.cell 1⟩
    | 1, hi => simp at hi; subst hi; exact ⟨h.cell 2, h.cell 3⟩
    | n + 2, hi => simp at hi⟩⟩
theorem app_str (x y : List UInt8) : (⟨x.toArray⟩ : ByteArray) ++ ⟨y.toArray⟩ = ⟨(x ++ y).toArray⟩ := by
  apply ByteArray.ext
  simp
def qname (i : Nat) : List UInt8 := [113, UInt8.ofNat (97 + i)]
def qfiles (k : Nat) : List FileM := (List.range k).map fun i => (qname i, [])
theorem qfiles_succ (k : Nat) : qfiles (k + 1) = qfiles k ++ [(qname k, [])] := by simp [qfiles, List.range_succ]
theorem length_qfiles (k : Nat) : (qfiles k).length = k := by simp [qfiles]

end Go.Proofs.YtgmkgpbhgoileaaGreat
namespace Go.Proofs.YtgmkgpbhgoileaaGreat
set_option maxRecDepth 100000
set_option linter.unusedVariables false
open Go.RowKit Go.Sort Go.Maps

set_option maxHeartbeats 32000000 in
theorem refuses_walk (a : Option Addr) (len cap : Nat) (l : List FileM) (na : Option Addr) (nl nc : Nat) (ns : List Int) (ra : Option Addr) (rl rc : Nat) (raw : List FileM) (which : Int) (w : World) (h : FilesArg w a len l) (hn : IntsArg w na nl ns) (hr : FilesArgC w ra rl rc raw) :
    Calls Tryz.prog 3 #[.slice a len cap, .slice na nl nc, .slice ra rl rc, .int .i64 which] w fun e w' => e = .returned (.bool true) ∧ Only [] w w' := by
  have H := Lib.hid h
  have HN := Lib.hid hn
  have HR := Lib.hid hr
  clear h hn hr
  go_enter Tryz.func3, Tryz.ntmps3
  go_wp2_with fail
  refine (known4_any _).mono ?_
  rintro e w0 ⟨rfl, hO0⟩
  have HO0 := Lib.hid hO0
  clear hO0
  go_wp2_with fail
  refine (few4_any _ a len cap l (H.out.1.more HO0.out) H.out.2.1 H.out.2.2).mono ?_
  rintro e w' ⟨fb, rfl, rfl, hfew⟩
  cases fb with
  | false =>
    go_wp2
    go_ret
    exact ⟨rfl, HO0.out⟩
  | true =>
    obtain ⟨hl12, hsm⟩ := hfew rfl
    have hlen := H.out.1.1
    have Hsm := Lib.hid hsm
    clear hfew hsm
    go_wp2_with fail
    refine (few4_any _ ra rl rc raw (HR.out.1.1.more HO0.out) HR.out.1.2.1 HR.out.1.2.2).mono ?_
    rintro e w' ⟨fb2, rfl, rfl, hfew2⟩
    cases fb2 with
    | false =>
      go_wp2
      go_ret
      exact ⟨rfl, HO0.out⟩
    | true =>
      obtain ⟨hr12, hsr⟩ := hfew2 rfl
      have hrlen := HR.out.1.1.1
      have hrcap := HR.out.2
      have Hsr := Lib.hid hsr
      clear hfew2 hsr
      go_wp2_with fail
      refine (both_any _ 2).mono ?_
      rintro e w1 ⟨pd, bl, bm, R, B, M, rfl, hD, -, hM, -, -, hp1, hp2, hp3, -, -, -, -, hO1⟩
      obtain rfl : M = 6 := by have : (2 : Int) % 13 = 2 := by decide
                               rw [this] at hM; omega
      have HD := Lib.hid hD
      have HO1 := Lib.hid (HO0.out.plus hO1)
      have hs01 := hO1.size
      have hs00 := HO0.out.size
      clear hD hO1 hM
      go_wp2_with fail
      refine (openS_new _ pd bl bm 6 HD.out (by omega)).mono ?_
      rintro e w2 ⟨sp, lp, b, D, rfl, hS2, hsp, hlp, hb2, hO2⟩
      have HS2 : Hid (StoA w2 sp lp pd bl bm 6 1 2 []) := Lib.hid ⟨b, D, _, _, hS2, rfl, by simp, by omega⟩
      have HO2 : Hid (Only [pd, bl, bm] w w2) := Lib.hid ((HO1.out.trans hO2).into (fun i hi => .inl (by simpa using hi)))
      have hs12 := hO2.size
      clear hS2 hO2 hb2
      have HOn2 : Hid (Only [] w w2) := Lib.hid (HO2.out.into (fun i hi => .inr (by simp at hi; omega)))
      clear HO2
      go_wp2_with fail
      refine (make4_any _ a len cap l na nl nc ns (H.out.1.more HOn2.out) (by omega) (HN.out.1.more HOn2.out) HN.out.2 (fun f hf => (Hsm.out f hf).2)).mono ?_
      rintro e w3 ⟨v3, rfl, hv3, hO3⟩
      obtain ⟨hgood, hsmall, hlm⟩ := make_good l ns (min len 8)
      have hl8 : (makeM l ns (min len 8)).length ≤ 8 := by omega
      generalize makeM l ns (min len 8) = M1 at *
      obtain ⟨a3, c3, rfl, hf3, hb3⟩ := hv3.files
      have Hf3 := Lib.hid hf3
      have hsd : soundM M1 = true := by simp [soundM, hgood, hl8]
      have Hsd := Lib.hid hsd
      have Hsml := Lib.hid hsmall
      have HS3 := Lib.hid (HS2.out.more hO3)
      have HO3 := Lib.hid (HOn2.out.plus hO3)
      have hs23 := hO3.size
      clear hv3 hf3 hb3 hO3 hgood hsmall hsd
      go_wp2_with fail
      refine (commit_step _ sp lp pd bl bm 6 1 2 [] M1 a3 _ c3 HS3.out kept_empty (by decide) Hf3.out (fun f hf => by have := Hsml.out f hf; unfold maxLen; omega) (by unfold maxLen; omega) (by omega) (by omega) (by omega)).mono ?_
      rintro e w4 ⟨ce, F1, k1, rfl, hS4, hk1, hK1, hf1, hO4, hcase⟩
      have hce : ce = 0 ∨ ce = 4 := by
        rcases hcase with ⟨h, -⟩ | ⟨-, -, h, -⟩ | ⟨-, -, h, -⟩
        · rw [Hsd.out] at h; cases h
        · exact .inr h
        · exact .inl h
      have HS4 := Lib.hid hS4
      have HK1 := Lib.hid hK1
      have hFl := hK1.len
      have HO4 : Hid (Only [] w w4) := Lib.hid ((HO3.out.trans hO4).into (fun i hi => .inr (by simp at hi; omega)))
      have hs34 := hO4.size
      clear hS4 hO4 hcase hK1 HS3
      go_upto_region 13 with fail
      go_cut [57] (fun s57 wx => s57 = .bool false ∧ w4 = wx)
      case first =>
        rcases hce with rfl | rfl
        · go_wp2_with fail
          go_meet
          exact ⟨rfl, rfl⟩
        · go_wp2_with fail
          go_meet
          exact ⟨rfl, rfl⟩
      case rest =>
        obtain ⟨rfl, rfl⟩ := hcut
        go_wp2_with fail
        refine (HS4.out.files (by omega)).mono ?_
        rintro e w5 ⟨v5, rfl, hv5, hO5⟩
        obtain ⟨a5, c5, rfl, hf5, hb5⟩ := hv5.files
        have Hf5 := Lib.hid hf5
        have Hb5 := Lib.hid hb5
        have hlts := HS4.out.lts
        have HS5 := Lib.hid (HS4.out.more hO5)
        have HO5 := Lib.hid (HO4.out.plus hO5)
        have hs45 := hO5.size
        clear hv5 hf5 hb5 hO5
        go_wp2_with fail
        refine (ops_any _ pd bl (2 * 6) bm (-1) false k1 HS5.out.blk).mono ?_
        rintro e w' ⟨rfl, rfl⟩
        go_wp2_with fail
        refine (commit_step _ sp lp pd bl bm 6 (1 + 1) k1 F1 F1 a5 _ c5 HS5.out HK1.out hf1 Hf5.out (fun f hf => by have := HK1.out.modest.2 f hf; unfold maxLen; omega) (by unfold maxLen; omega) (by omega) (by omega) (by omega)).mono ?_
        rintro e w6 ⟨c6, F6, k6, rfl, hS6, -, -, -, hO6, hcase6⟩
        obtain ⟨rfl, rfl, rfl⟩ : c6 = 0 ∧ F6 = F1 ∧ k6 = k1 := by
          rcases hcase6 with ⟨h, -⟩ | ⟨-, h, -⟩ | ⟨-, -, h1, h2, h3⟩
          · rw [HK1.out.sound] at h; cases h
          · rw [HK1.out.build] at h; omega
          · rw [HK1.out.build] at h2 h3
            exact ⟨h1, h2, h3 rfl⟩
        have HS6 := Lib.hid hS6
        have Hf6 : Hid (FilesAt w6 a5 F6.length F6) := Lib.hid (Hf5.out.keep hO6 (fun hp x y e hm => by have := Hb5.out x y e; simp at hm; omega))
        have HO6 : Hid (Only [] w w6) := Lib.hid ((HO5.out.trans hO6).into (fun i hi => .inr (by simp at hi; omega)))
        have hs56 := hO6.size
        clear hS6 hO6 hcase6 HS5
        go_wp2_with fail
        refine (ops_any _ pd bl (2 * 6) bm (-1) false k6 HS6.out.blk).mono ?_
        rintro e w' ⟨rfl, rfl⟩
        have hOa := Lib.hid ((Only.refl [] w6).alloc (.cells #[] 40))
        have hsza := hOa.out.size
        go_upto_block 0 with (first
          | (at_builtin; refine wpList_append_fs rfl _ _ rfl w6.heap.size _ [] rfl (OwnF.made w6 w6.heap.size (Nat.le_refl _)) a5 F6.length c5 F6 rfl (Hf6.out.more hOa.out) (by simp; omega) hsza ?_; intro v7 w7 h7 hg7)
          | (go_at_call 13; refine (within4_to _ which 5 (by omega) (by omega)).mono ?_; rintro e w' ⟨m, rfl, hm5, -, rfl⟩))
        rw [List.nil_append] at h7
        have HO7 := Lib.hid (onlyOwn hOa.out (OwnF.made w6 w6.heap.size (Nat.le_refl _)) hg7 (Nat.le_refl _))
        have H7 := Lib.hid h7
        obtain ⟨a7, c7, rfl, hf7, -⟩ := h7.files
        have hs67 := HO7.out.size
        clear h7 hg7 hf7 hOa hsza
        have Hshort : Hid (∀ f ∈ F6, f.1.length ≤ maxLen ∧ f.2.length ≤ maxLen) := Lib.hid (fun f hf => by have := HK1.out.modest.2 f hf; unfold maxLen; omega)
        go_cut [17, 18] (fun s17 s18 wx => ∃ (lb : List FileM) (c : Int) (ab : Option Addr) (cb : Nat), s17 = .slice ab lb.length cb ∧ s18 = .int .i64 c ∧ FilesAt wx ab lb.length lb ∧ Hid (Refused lb c) ∧ Hid (∀ f ∈ lb, f.1.length ≤ maxLen ∧ f.2.length ≤ maxLen) ∧ lb.length ≤ 100 ∧ Only [] w6 wx)
        case first =>
          have hm : m = 0 ∨ m = 1 ∨ m = 2 ∨ m = 3 ∨ m = 4 := by omega
          clear hm5
          rcases hm with rfl | rfl | rfl | rfl | rfl
          · have hq := IsBlk.made w7 (.cells #[.string ⟨#[118, 97, 114]⟩, .string ⟨#[]⟩] 40)
            have hOb := Lib.hid ((Only.refl [] w7).alloc (.cells #[.string ⟨#[118, 97, 114]⟩, .string ⟨#[]⟩] 40))
            have Hq0 := Lib.hid (hq.cell 0)
            have Hq1 := Lib.hid (hq.cell 1)
            have hszb := Nat.le_trans hs67 hOb.out.size
            clear hq
            go_wp2_with (at_builtin; refine wpList_append_f rfl _ _ rfl w6.heap.size _ _ rfl (H7.out.only hOb.out) w7.heap.size 1 ([118, 97, 114], []) rfl Hq0.out Hq1.out (by omega) hszb ?_; intro v8 w8 h8 hg8)
            obtain ⟨a8, c8, rfl, hf8, -⟩ := h8.files
            have hO8 := onlyOwn (HO7.out.plus hOb.out) (H7.out.only hOb.out) hg8 (Nat.le_refl _)
            go_meet
            refine ⟨F6 ++ [([118, 97, 114], [])], 1, a8, c8, rfl, rfl, hf8, Lib.hid (.inl ⟨bad_name (f := ([118, 97, 114], [])) (by simp) (by decide), rfl⟩), Lib.hid (fun f hf => ?_), by simp; omega, hO8⟩
            rcases List.mem_append.1 hf with h | h
            · exact Hshort.out f h
            · simp at h; subst h; simp [maxLen]
          · have hq := IsBlk.made w7 (.cells #[.string ⟨#[122, 122]⟩, .string ⟨#[]⟩, .string ⟨#[122, 122]⟩, .string ⟨#[113]⟩] 40)
            have hOb := Lib.hid ((Only.refl [] w7).alloc (.cells #[.string ⟨#[122, 122]⟩, .string ⟨#[]⟩, .string ⟨#[122, 122]⟩, .string ⟨#[113]⟩] 40))
            have Hq := Lib.hid (files_two ([122, 122], []) ([122, 122], [113]) w7.heap.size hq)
            have hszb := Nat.le_trans hs67 hOb.out.size
            clear hq
            go_wp2_with (at_builtin; refine wpList_append_fs rfl _ _ rfl w6.heap.size _ _ rfl (H7.out.only hOb.out) (some ⟨w7.heap.size, 0, none⟩) 2 2 [([122, 122], []), ([122, 122], [113])] rfl Hq.out (by omega) hszb ?_; intro v8 w8 h8 hg8)
            obtain ⟨a8, c8, rfl, hf8, -⟩ := h8.files
            have hO8 := onlyOwn (HO7.out.plus hOb.out) (H7.out.only hOb.out) hg8 (Nat.le_refl _)
            go_meet
            refine ⟨F6 ++ [([122, 122], []), ([122, 122], [113])], 1, a8, c8, rfl, rfl, hf8, Lib.hid (.inl ⟨bad_twice, rfl⟩), Lib.hid (fun f hf => ?_), by simp; omega, hO8⟩
            rcases List.mem_append.1 hf with h | h
            · exact Hshort.out f h
            · simp at h; rcases h with rfl | rfl <;> simp [maxLen]
          · obtain ⟨wn, hmk, hcv, hOn⟩ := noughts w7 2001 (by omega)
            have hmk' : (Instr.makeSlice 41 (.int .i64 2001) (.int .i64 2001)).run Tryz.prog w7 = .ok (.slice (some ⟨w7.heap.size, 0, none⟩) 2001 2001) wn := hmk
            have htl : (List.replicate 2001 (0 : UInt8)).length = 2001 := List.length_replicate ..
            have HOn := Lib.hid hOn
            have hsn := hOn.size
            clear hmk hOn
            generalize List.replicate 2001 (0 : UInt8) = t at *
            have hq := IsBlk.made wn (.cells #[.string ⟨#[122, 122]⟩, .string ⟨t.toArray⟩] 40)
            have hOb := Lib.hid ((Only.refl [] wn).alloc (.cells #[.string ⟨#[122, 122]⟩, .string ⟨t.toArray⟩] 40))
            have Hq0 := Lib.hid (hq.cell 0)
            have Hq1 := Lib.hid (hq.cell 1)
            have hszb := Nat.le_trans (Nat.le_trans hs67 hsn) hOb.out.size
            have Hrow := Lib.hid ((H7.out.only HOn.out).only hOb.out)
            clear hq
            go_wp2_with (at_builtin; refine wpList_append_f rfl _ _ rfl w6.heap.size _ _ rfl Hrow.out wn.heap.size 1 ([122, 122], t) rfl Hq0.out Hq1.out (by omega) hszb ?_; intro v8 w8 h8 hg8)
            obtain ⟨a8, c8, rfl, hf8, -⟩ := h8.files
            have hO8 := onlyOwn ((HO7.out.plus HOn.out).plus hOb.out) Hrow.out hg8 (Nat.le_refl _)
            go_meet
            refine ⟨F6 ++ [([122, 122], t)], 1, a8, c8, rfl, rfl, hf8, Lib.hid (.inl ⟨bad_text (f := ([122, 122], t)) (by simp) (by simp only; omega), rfl⟩), Lib.hid (fun f hf => ?_), by simp; omega, hO8⟩
            rcases List.mem_append.1 hf with h | h
            · exact Hshort.out f h
            · simp at h; subst h; simp only [maxLen, List.length_cons, List.length_nil, htl]; omega
          · obtain ⟨wn, hmk, hcv, hOn⟩ := noughts w7 2000 (by omega)
            have hmk' : (Instr.makeSlice 41 (.int .i64 2000) (.int .i64 2000)).run Tryz.prog w7 = .ok (.slice (some ⟨w7.heap.size, 0, none⟩) 2000 2000) wn := hmk
            have htl : (List.replicate 2000 (0 : UInt8)).length = 2000 := List.length_replicate ..
            have HOn := Lib.hid hOn
            have hsn := hOn.size
            clear hmk hOn
            generalize List.replicate 2000 (0 : UInt8) = t at *
            have hq := IsBlk.made wn (.cells #[.string ⟨#[122, 122]⟩, .string ⟨t.toArray⟩] 40)
            have hOb := Lib.hid ((Only.refl [] wn).alloc (.cells #[.string ⟨#[122, 122]⟩, .string ⟨t.toArray⟩] 40))
            have Hq := Lib.hid (files_one ([122, 122], t) wn.heap.size hq)
            have HOz := Lib.hid ((HO7.out.plus HOn.out).plus hOb.out)
            clear hq
            go_wp2_with fail
            go_meet
            refine ⟨[([122, 122], t)], 4, some ⟨wn.heap.size, 0, none⟩, 1, rfl, rfl, Hq.out, Lib.hid (zz_full t htl), Lib.hid (fun f hf => ?_), by simp, HOz.out⟩
            simp at hf; subst hf; simp only [maxLen, List.length_cons, List.length_nil, htl]; omega
          · go_wp2_with fail
            go_loopw [17, 19] (fun s17 i wr => ∃ q : Nat, q ≤ 9 ∧ i = .int .i64 q ∧ OwnF wr w7.heap.size s17 (qfiles q) ∧ Only [] w7 wr) (fun _ i _ => 9 - (intOf i).toNat)
            case atStart => exact ⟨0, by omega, rfl, ⟨rfl, .inl ⟨rfl, rfl⟩⟩, Only.refl _ _⟩
            case round =>
              obtain ⟨q, hq9, rfl, hown, hOq⟩ := hrel
              have Hown := Lib.hid hown
              have HOq := Lib.hid hOq
              have hszq := hOq.size
              obtain ⟨aq, cq, rfl, -, -⟩ := hown.files
              clear hown hOq
              by_cases hlt : q < 9
              · have hlti : (q : Int) < 9 := by omega
                have hconv : ∀ W : World, (convert 41 9 (.slice (some ⟨W.heap.size, 0, none⟩) 1 1)).run Tryz.prog (W.alloc (.cells #[.int .u8 (97 + (q : Int))] 5)) = .ok (.string ⟨#[UInt8.ofNat (97 + q)]⟩) (W.alloc (.cells #[.int .u8 (97 + (q : Int))] 5)) := fun W => qb_str q (by omega) (IsBlk.made W _)
                have e2 : IntKind.i64.wrap (97 + (q : Int)) = 97 + (q : Int) := IntWalk.i64_in _ (by omega)
                have e3 : IntKind.u8.wrap (97 + (q : Int)) = 97 + (q : Int) := IntWalk.u8_in _ (by omega)
                have happ : (⟨#[113]⟩ : ByteArray) ++ ⟨#[UInt8.ofNat (97 + q)]⟩ = ⟨(qname q).toArray⟩ := app_str [113] [UInt8.ofNat (97 + q)]
                have Hsn := Lib.hid (qfiles_succ q)
                have hqlen := length_qfiles q
                have hsz1 : (⟨#[UInt8.ofNat (97 + q)]⟩ : ByteArray).size = 1 := rfl
                generalize UInt8.ofNat (97 + q) = ub at *
                generalize qname q = qn at *
                have hOu := Lib.hid ((Only.refl [] wr).alloc (.cells #[.int .u8 (97 + (q : Int))] 5))
                have hqb := IsBlk.made (wr.alloc (.cells #[.int .u8 (97 + (q : Int))] 5)) (.cells #[.string ⟨qn.toArray⟩, .string ⟨#[]⟩] 40)
                have hOv := Lib.hid ((Only.refl [] (wr.alloc (.cells #[.int .u8 (97 + (q : Int))] 5))).alloc (.cells #[.string ⟨qn.toArray⟩, .string ⟨#[]⟩] 40))
                have hb0 := hqb.cell 0
                have hb1 := hqb.cell 1
                rw [World.size_alloc] at hb0 hb1
                have Hq0 := Lib.hid hb0
                have Hq1 := Lib.hid hb1
                have Hrow := Lib.hid ((Hown.out.only hOu.out).only hOv.out)
                have hszz := Nat.le_trans (Nat.le_trans hszq hOu.out.size) hOv.out.size
                have HOz := Lib.hid ((HOq.out.plus hOu.out).plus hOv.out)
                clear hqb hb0 hb1
                go_wp2_with (at_builtin; refine wpList_append_f rfl _ _ rfl w7.heap.size _ _ rfl Hrow.out (wr.heap.size + 1) 1 (qn, []) rfl Hq0.out Hq1.out (by omega) hszz ?_; intro v8 w8 h8 hg8)
                go_roundw
                case rel => exact ⟨_, _, _, _, _, _, _, _, _, _, _, _, _, _, _, _, ⟨q + 1, by omega, by go_num, by rw [Hsn.out]; exact h8, onlyOwn HOz.out Hrow.out hg8 (Nat.le_refl _)⟩, rfl⟩
                case measure => simp [intOf]; omega
              · have hge : ¬ (q : Int) < 9 := by omega
                obtain rfl : q = 9 := by omega
                obtain ⟨aq', cq', e9, hf9, -⟩ := Hown.out.files
                have Hf9 := Lib.hid hf9
                have He9 := Lib.hid e9
                clear hf9 e9
                go_wp2_with fail
                go_meet
                refine ⟨qfiles 9, 1, aq', cq', He9.out, rfl, Hf9.out, Lib.hid (.inl ⟨bad_many (by rw [length_qfiles]; omega), rfl⟩), Lib.hid (fun f hf => ?_), by rw [length_qfiles]; omega, HO7.out.plus HOq.out⟩
                simp only [qfiles, List.mem_map] at hf
                obtain ⟨i, -, rfl⟩ := hf
                simp [qname, maxLen]
        case rest =>
          obtain ⟨lb, c, ab, cb, rfl, rfl, hfb, hrf, hlb, hl100, hOb⟩ := hcut
          have HSc := Lib.hid (HS6.out.more hOb)
          have Hfc := Lib.hid (Hf6.out.more hOb)
          have HOc := Lib.hid (HO6.out.plus hOb)
          have Hfb := Lib.hid hfb
          have hsc := hOb.size
          clear hfb hOb
          go_wp2_with fail
          refine (commit_step _ sp lp pd bl bm 6 (1 + 1 + 1) k6 F6 lb ab _ cb HSc.out HK1.out hf1 Hfb.out hlb.out (by unfold maxLen; omega) (by omega) (by omega) (by omega)).mono ?_
          rintro e w8 ⟨c8, F8, k8, rfl, hS8, -, -, -, hO8, hcase8⟩
          obtain ⟨rfl, rfl, rfl⟩ : c8 = c ∧ F8 = F6 ∧ k8 = k6 := by
            rcases hcase8 with ⟨h1, h2, h3, h4⟩ | ⟨h1, h5, h2, h3, h4⟩ | ⟨h1, h5, h2, h3, h4⟩ <;> rcases hrf.out with ⟨q1, q2⟩ | ⟨q1, q2, q3⟩
            · exact ⟨by omega, h3, h4⟩
            · rw [h1] at q1; cases q1
            · rw [h1] at q1; cases q1
            · exact ⟨by omega, h3, h4⟩
            · rw [h1] at q1; cases q1
            · omega
          have HS8 := Lib.hid hS8
          have Hf8 : Hid (FilesAt w8 a5 F8.length F8) := Lib.hid (Hfc.out.keep hO8 (fun hp x y e hm => by have := Hb5.out x y e; simp at hm; omega))
          have HO8 : Hid (Only [] w w8) := Lib.hid ((HOc.out.trans hO8).into (fun i hi => .inr (by simp at hi; omega)))
          have hs8 := hO8.size
          clear hS8 hO8 hcase8 HSc Hfc Hfb hrf hlb
          go_wp2_with fail
          refine (commit_step _ sp lp pd bl bm 6 (1 + 1 + 1 + 1) k8 F8 raw ra rl rc HS8.out HK1.out hf1 (HR.out.1.1.more HO8.out) HR.out.1.2.1 HR.out.1.2.2 (by omega) (by omega) (by omega)).mono ?_
          rintro e w9 ⟨c9, F9, k9, rfl, hS9, -, hK9, -, hO9, hcase9⟩
          have HS9 := Lib.hid hS9
          have hF9 := hK9.len
          have Hf9 : Hid (FilesAt w9 a5 F8.length F8) := Lib.hid (Hf8.out.keep hO9 (fun hp x y e hm => by have := Hb5.out x y e; simp at hm; omega))
          have HO9 : Hid (Only [] w w9) := Lib.hid ((HO8.out.trans hO9).into (fun i hi => .inr (by simp at hi; omega)))
          have Hcase9 := Lib.hid hcase9
          clear hS9 hO9 hcase9 hK9 HS8 Hf8
          go_wp2_with fail
          refine (rsound_any _ ra rl rc raw (HR.out.1.1.more HO9.out) (fun f hf => by have := Hsr.out f hf; omega) (by omega) hrcap).mono ?_
          rintro e w10 ⟨rfl, hO10⟩
          have HS10 := Lib.hid (HS9.out.more hO10)
          have Hf10 := Lib.hid (Hf9.out.more hO10)
          have HO10 := Lib.hid (HO9.out.plus hO10)
          clear hO10 HS9 Hf9
          rcases Hcase9.out with ⟨h1, rfl, rfl, rfl⟩ | ⟨h1, -, rfl, rfl, rfl⟩ | ⟨h1, -, rfl, rfl, -⟩
          · rw [h1]
            clear h1 Hcase9
            go_wp2_with fail
            refine (HS10.out.files (by omega)).mono ?_
            rintro e w11 ⟨v11, rfl, hv11, hO11⟩
            obtain ⟨a11, c11, rfl, hf11, -⟩ := hv11.files
            have Hf11 := Lib.hid hf11
            have Hfw := Lib.hid (Hf10.out.more hO11)
            have HO11 := Lib.hid (HO10.out.plus hO11)
            clear hv11 hf11 hO11
            go_wp2_with fail
            refine (same4_any _ a11 a5 c11 c5 F9 F9 Hf11.out Hfw.out (by omega)).mono ?_
            rintro e w12 ⟨rfl, hO12⟩
            rw [decide_eq_true (rfl : F9 = F9)]
            have HO12 := Lib.hid (HO11.out.plus hO12)
            clear hO12
            go_wp2
            go_ret
            exact ⟨rfl, HO12.out⟩
          · rw [h1]
            clear h1 Hcase9
            go_wp2_with fail
            refine (HS10.out.files (by omega)).mono ?_
            rintro e w11 ⟨v11, rfl, hv11, hO11⟩
            obtain ⟨a11, c11, rfl, hf11, -⟩ := hv11.files
            have Hf11 := Lib.hid hf11
            have Hfw := Lib.hid (Hf10.out.more hO11)
            have HO11 := Lib.hid (HO10.out.plus hO11)
            clear hv11 hf11 hO11
            go_wp2_with fail
            refine (same4_any _ a11 a5 c11 c5 F9 F9 Hf11.out Hfw.out (by omega)).mono ?_
            rintro e w12 ⟨rfl, hO12⟩
            rw [decide_eq_true (rfl : F9 = F9)]
            have HO12 := Lib.hid (HO11.out.plus hO12)
            clear hO12
            go_wp2
            go_ret
            exact ⟨rfl, HO12.out⟩
          · have Hsort : Hid (sortK raw = buildF raw) := Lib.hid (sortK_build raw (by
              simp only [soundM, Bool.and_eq_true, decide_eq_true_eq] at h1
              exact h1.2.2))
            rw [h1]
            clear h1 Hcase9
            go_wp2_with fail
            refine (HS10.out.files (by omega)).mono ?_
            rintro e w11 ⟨v11, rfl, hv11, hO11⟩
            obtain ⟨a11, c11, rfl, hf11, -⟩ := hv11.files
            have Hf11 := Lib.hid hf11
            have HO11 := Lib.hid (HO10.out.plus hO11)
            clear hv11 hf11 hO11
            go_wp2_with fail
            refine (sorted_any _ ra rl rc raw (HR.out.1.1.more HO11.out) (by omega)).mono ?_
            rintro e w12 ⟨v12, rfl, hv12, hO12⟩
            rw [Hsort.out] at hv12
            obtain ⟨a12, c12, rfl, hf12, -⟩ := hv12.files
            have Hf12 := Lib.hid hf12
            have Hf112 := Lib.hid (Hf11.out.more hO12)
            have HO12 := Lib.hid (HO11.out.plus hO12)
            clear hv12 hf12 hO12
            go_wp2_with fail
            refine (same4_any _ a11 a12 c11 c12 (buildF raw) (buildF raw) Hf112.out Hf12.out (by omega)).mono ?_
            rintro e w13 ⟨rfl, hO13⟩
            rw [decide_eq_true (rfl : buildF raw = buildF raw)]
            have HO13 := Lib.hid (HO12.out.plus hO13)
            clear hO13
            go_wp2
            go_ret
            exact ⟨rfl, HO13.out⟩

end Go.Proofs.YtgmkgpbhgoileaaGreat
