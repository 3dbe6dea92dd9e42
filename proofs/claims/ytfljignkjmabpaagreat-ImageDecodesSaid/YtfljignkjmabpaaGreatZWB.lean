/- A part of the proof. -/
import Derived.Test.YtfljignkjmabpaaGreatZI
set_option linter.unusedSimpArgs false
set_option linter.unusedVariables false
namespace Go.Proofs.YtfljignkjmabpaaGreat
set_option maxRecDepth 100000
open Go.RowKit
def oneI (b : Bool) : Int := if b then 1 else 0
theorem bit_any (b : Bool) (w : World) : Calls Tryz.prog 155 #[.bool b] w fun e w' => e = .returned (.int .i64 (oneI b)) ∧ w = w' := by
 cases b
 ·
  go_enter Tryz.func155, Tryz.ntmps155
  go_wp2
  go_ret
  exact ⟨rfl, rfl⟩
 ·
  go_enter Tryz.func155, Tryz.ntmps155
  go_wp2
  go_ret
  exact ⟨rfl, rfl⟩
theorem one_i64 (b : Bool) : I64 (oneI b) := by cases b <;> exact ⟨by decide, by decide⟩
def fSg (x : Sg) (s : St) : St := wMeas 4 1048576 x.bs (wNumsA 1 [x.perm] (wNumsA 4 [x.at_, x.size] s))
def fTx (ss : List Str) (s : St) : St := wTexts ss (wNumsA 1 [(ss.length : Int)] s)
def fNd (x : Nd) (s : St) : St := fTx x.vers (wTexts [x.name] s)
def fSym (x : Sym) (s : St) : St := wNumsA 8 [x.val, x.size] (wNumsA 1 [x.kind, x.vis, oneI x.old, oneI x.weak, oneI x.dfd] (wTexts [x.name, x.ver] s))
def fRow (r : List Int) (s : St) : St := wNumsA 2 r (wNumsA 2 [(r.length : Int)] s)
def fRl (x : Rl) (s : St) : St := wNumsA 8 [x.at_, x.sym, x.add] (wNumsA 1 [x.kind] s)
def fSl (x : Sl) (s : St) : St := wNumsA 4 [x.at_, x.sym, x.stub] s
def fRuns (r : List Int) (s : St) : St := wNumsA 4 r (wNumsA 1 [(r.length : Int)] s)
def cSg (x : Sg) : Nat := x.bs.length + 32
def cTx (ss : List Str) : Nat := room ss + 8
def cNd (x : Nd) : Nat := x.name.length + 8 + cTx x.vers
def cSym (x : Sym) : Nat := x.name.length + x.ver.length + 72
def cRow (r : List Int) : Nat := 8 * r.length + 8
theorem fSg_len (x : Sg) (s : St) : (fSg x s).2.length ≤ s.2.length + cSg x := by
 have h1 := wMeas_len 4 1048576 x.bs (wNumsA 1 [x.perm] (wNumsA 4 [x.at_, x.size] s)) (by omega)
 have h2 := wNumsA_len 1 [x.perm] (wNumsA 4 [x.at_, x.size] s)
 have h3 := wNumsA_len 4 [x.at_, x.size] s
 simp only [List.length_cons, List.length_nil] at h2 h3
 unfold fSg cSg
 omega
theorem fTx_len (ss : List Str) (s : St) : (fTx ss s).2.length ≤ s.2.length + cTx ss := by
 have h1 := wTexts_len ss (wNumsA 1 [(ss.length : Int)] s)
 have h2 := wNumsA_len 1 [(ss.length : Int)] s
 simp only [List.length_cons, List.length_nil] at h2
 unfold fTx cTx
 omega
theorem fNd_len (x : Nd) (s : St) : (fNd x s).2.length ≤ s.2.length + cNd x := by
 have h1 := fTx_len x.vers (wTexts [x.name] s)
 have h2 := wTexts_len [x.name] s
 rw [room_one] at h2
 unfold fNd cNd
 omega
theorem fSym_len (x : Sym) (s : St) : (fSym x s).2.length ≤ s.2.length + cSym x := by
 have h1 := wNumsA_len 8 [x.val, x.size] (wNumsA 1 [x.kind, x.vis, oneI x.old, oneI x.weak, oneI x.dfd] (wTexts [x.name, x.ver] s))
 have h2 := wNumsA_len 1 [x.kind, x.vis, oneI x.old, oneI x.weak, oneI x.dfd] (wTexts [x.name, x.ver] s)
 have h3 := wTexts_len [x.name, x.ver] s
 have h4 : room [x.name, x.ver] = x.name.length + 8 + (x.ver.length + 8) := by simp [room]
 simp only [List.length_cons, List.length_nil] at h1 h2
 unfold fSym cSym
 omega
theorem fRow_len (r : List Int) (s : St) : (fRow r s).2.length ≤ s.2.length + cRow r := by
 have h1 := wNumsA_len 2 r (wNumsA 2 [(r.length : Int)] s)
 have h2 := wNumsA_len 2 [(r.length : Int)] s
 simp only [List.length_cons, List.length_nil] at h2
 unfold fRow cRow
 omega
theorem fRuns_len (r : List Int) (s : St) : (fRuns r s).2.length ≤ s.2.length + cRow r := by
 have h1 := wNumsA_len 4 r (wNumsA 1 [(r.length : Int)] s)
 have h2 := wNumsA_len 1 [(r.length : Int)] s
 simp only [List.length_cons, List.length_nil] at h2
 unfold fRuns cRow
 omega
theorem fRl_len (x : Rl) (s : St) : (fRl x s).2.length ≤ s.2.length + 32 := by
 have h1 := wNumsA_len 8 [x.at_, x.sym, x.add] (wNumsA 1 [x.kind] s)
 have h2 := wNumsA_len 1 [x.kind] s
 simp only [List.length_cons, List.length_nil] at h1 h2
 unfold fRl
 omega
theorem fSl_len (x : Sl) (s : St) : (fSl x s).2.length ≤ s.2.length + 24 := wNumsA_len 4 [x.at_, x.sym, x.stub] s
theorem len_i64 {n : Nat} (h : n ≤ 140737488355328) : I64 (n : Int) := by unfold I64; omega
def WX (w : World) (F : Nat → Prop) (G g gb : Nat) (cs : Array Value) (ty : TypeId) (X : World) : Prop := ∃ t, Wx w F G g gb cs ty t X
theorem WX.new {w : World} {F : Nat → Prop} {G g gb : Nat} {cs : Array Value} {ty : TypeId} {X : World} (h : WX w F G g gb cs ty X) (o : Obj) : WX w F G g gb cs ty (X.alloc o) := by
 obtain ⟨t, h⟩ := h
 exact ⟨t, h.below ((Below.refl _ _).alloc (Nat.le_refl _) o)⟩
theorem lenA {size : Int} {ns : List Int} {s : St} {k m : Nat} (h : s.2.length + k ≤ m) (hk : 8 * ns.length ≤ k) : (wNumsA size ns s).2.length + (k - 8 * ns.length) ≤ m := by
 have := wNumsA_len size ns s
 omega
set_option maxHeartbeats 1000000 in
theorem wslot_any {F : Nat → Prop} {G g : Nat} {s : St} (x : Sl) (w : World) (h : Wi w F G g s) (hi : I64 x.at_ ∧ I64 x.sym ∧ I64 x.stub) (hn : s.2.length + 24 ≤ 140737488355328) :
  Calls Tryz.prog 89 #[.pointer (some ⟨G, 0, none⟩), .agg (slA x)] w (Wro w F G g (fSl x s)) := by
 have HX0 := hD (Wx.new h (slA x) 112)
 have HI := hD hi
 clear h
 go_enter Tryz.func89, Tryz.ntmps89
 go_upto_region 1 with (fail)
 change Code.wp _ _ _ _ (w.alloc (.cells (slA x) 112))
 generalize w.heap.size = gb at *
 generalize w.alloc (.cells (slA x) 112) = w1 at *
 have HN := hD (HX0.out.nums3d 4 x.at_ x.sym x.stub HI.out.1 HI.out.2.1 HI.out.2.2 hn)
 refine wp_region_held_drew (S := WX w F G g gb (slA x) 112) (by kernel_rfl) ⟨_, HX0.out.drew⟩ (fun hHeld0 => ?_)
 refine tkI 0 4 (.pointer (some ⟨G, 0, none⟩)) ?_
 simp only [Act.put, zI, zJ, zK]
 refine tkI 1 5 (.pointer (some ⟨G, 0, none⟩)) ?_
 simp only [Act.put, zI, zJ, zK]
 refine tkI 2 6 (.pointer (some ⟨G, 0, none⟩)) ?_
 simp only [Act.put, zI, zJ, zK]
 refine tjI 3 7 (.pointer (some ⟨g, 0, none⟩)) ?_ ?_
 ·
  intro X hX; obtain ⟨t, hW⟩ := hX; have hc := hW.ptr; have d0 := hW.bx.c 0; have d1 := hW.bx.c 1; have d2 := hW.bx.c 2; simp only [gA, gB, gC] at d0 d1 d2; go_simp
 (try simp only [Act.put, zI, zJ, zK])
 refine tkI 4 8 (.pointer (some ⟨gb, 0, none⟩)) ?_
 simp only [Act.put, zI, zJ, zK]
 refine tjI 5 9 (.int .i64 x.at_) ?_ ?_
 ·
  intro X hX; obtain ⟨t, hW⟩ := hX; have hc := hW.ptr; have d0 := hW.bx.c 0; have d1 := hW.bx.c 1; have d2 := hW.bx.c 2; simp only [gA, gB, gC] at d0 d1 d2; go_simp
 (try simp only [Act.put, zI, zJ, zK])
 refine tkI 6 10 (.pointer (some ⟨gb, 1, none⟩)) ?_
 simp only [Act.put, zI, zJ, zK]
 refine tjI 7 11 (.int .i64 x.sym) ?_ ?_
 ·
  intro X hX; obtain ⟨t, hW⟩ := hX; have hc := hW.ptr; have d0 := hW.bx.c 0; have d1 := hW.bx.c 1; have d2 := hW.bx.c 2; simp only [gA, gB, gC] at d0 d1 d2; go_simp
 (try simp only [Act.put, zI, zJ, zK])
 refine tkI 8 12 (.pointer (some ⟨gb, 2, none⟩)) ?_
 simp only [Act.put, zI, zJ, zK]
 refine tjI 9 13 (.int .i64 x.stub) ?_ ?_
 ·
  intro X hX; obtain ⟨t, hW⟩ := hX; have hc := hW.ptr; have d0 := hW.bx.c 0; have d1 := hW.bx.c 1; have d2 := hW.bx.c 2; simp only [gA, gB, gC] at d0 d1 d2; go_simp
 (try simp only [Act.put, zI, zJ, zK])
 refine rYI 10 fun K hK => ?_
 go_simp
 refine hK.out _ _ (hHeld0.new _) (fun hHeld1 => ?_)
 clear hK K
 (try simp only [Act.put, zI, zJ, zK])
 refine rYI 11 fun K hK => ?_
 go_simp
 refine (HN.out).mono ?_
 rintro en wn ⟨rfl, hw⟩
 have HX1 := hD hw
 go_simp
 refine hK.out _ _ (⟨_, hw⟩) (fun hHeld2 => ?_)
 clear hK K
 (try simp only [Act.put, zI, zJ, zK])
 refine wpAnyH_done (by kernel_rfl) ?_ _
 clear HN HX0 hHeld0
 try go_wp2_with fail
 first | go_end0 | skip
 exact HX1.out.done
set_option maxHeartbeats 1000000 in
theorem wreloc_any {F : Nat → Prop} {G g : Nat} {s : St} (x : Rl) (w : World) (h : Wi w F G g s) (hi : I64 x.at_ ∧ I64 x.kind ∧ I64 x.sym ∧ I64 x.add) (hn : s.2.length + 32 ≤ 140737488355328) :
  Calls Tryz.prog 87 #[.pointer (some ⟨G, 0, none⟩), .agg (rlA x)] w (Wro w F G g (fRl x s)) := by
 have HX0 := hD (Wx.new h (rlA x) 57)
 have HI := hD hi
 have HN2 := hD (lenA (size := 1) (ns := [x.kind]) hn (by simp))
 clear h
 go_enter Tryz.func87, Tryz.ntmps87
 go_upto_region 1 with (fail)
 change Code.wp _ _ _ _ (w.alloc (.cells (rlA x) 57))
 generalize w.heap.size = gb at *
 generalize w.alloc (.cells (rlA x) 57) = w1 at *
 have HN := hD (HX0.out.nums1d 1 x.kind HI.out.2.1 (by omega))
 refine wp_region_held_drew (S := WX w F G g gb (rlA x) 57) (by kernel_rfl) ⟨_, HX0.out.drew⟩ (fun hHeld0 => ?_)
 refine tkI 0 4 (.pointer (some ⟨G, 0, none⟩)) ?_
 simp only [Act.put, zI, zJ, zK]
 refine tkI 1 5 (.pointer (some ⟨G, 0, none⟩)) ?_
 simp only [Act.put, zI, zJ, zK]
 refine tkI 2 6 (.pointer (some ⟨G, 0, none⟩)) ?_
 simp only [Act.put, zI, zJ, zK]
 refine tjI 3 7 (.pointer (some ⟨g, 0, none⟩)) ?_ ?_
 ·
  intro X hX; obtain ⟨t, hW⟩ := hX; have hc := hW.ptr; have d0 := hW.bx.c 0; have d1 := hW.bx.c 1; have d2 := hW.bx.c 2; have d3 := hW.bx.c 3; simp only [gA, gB, gC] at d0 d1 d2 d3; go_simp
 (try simp only [Act.put, zI, zJ, zK])
 refine tkI 4 8 (.pointer (some ⟨gb, 1, none⟩)) ?_
 simp only [Act.put, zI, zJ, zK]
 refine tjI 5 9 (.int .i64 x.kind) ?_ ?_
 ·
  intro X hX; obtain ⟨t, hW⟩ := hX; have hc := hW.ptr; have d0 := hW.bx.c 0; have d1 := hW.bx.c 1; have d2 := hW.bx.c 2; have d3 := hW.bx.c 3; simp only [gA, gB, gC] at d0 d1 d2 d3; go_simp
 (try simp only [Act.put, zI, zJ, zK])
 refine rYI 6 fun K hK => ?_
 go_simp
 refine hK.out _ _ (hHeld0.new _) (fun hHeld1 => ?_)
 clear hK K
 (try simp only [Act.put, zI, zJ, zK])
 refine rYI 7 fun K hK => ?_
 go_simp
 refine (HN.out).mono ?_
 rintro en wn ⟨rfl, hw⟩
 have HX1 := hD hw
 go_simp
 refine hK.out _ _ (⟨_, hw⟩) (fun hHeld2 => ?_)
 clear hK K
 (try simp only [Act.put, zI, zJ, zK])
 refine wpAnyH_done (by kernel_rfl) ?_ _
 clear HN HX0 hHeld0
 go_upto_region 2 with (fail)
 have HN := hD (HX1.out.nums3d 8 x.at_ x.sym x.add HI.out.1 HI.out.2.2.1 HI.out.2.2.2 HN2.out)
 refine wp_region_held_drew (S := WX w F G g gb (rlA x) 57) (by kernel_rfl) ⟨_, HX1.out.drew⟩ (fun hHeld0 => ?_)
 refine tkI 0 12 (.pointer (some ⟨G, 0, none⟩)) ?_
 simp only [Act.put, zI, zJ, zK]
 refine tkI 1 13 (.pointer (some ⟨G, 0, none⟩)) ?_
 simp only [Act.put, zI, zJ, zK]
 refine tkI 2 14 (.pointer (some ⟨G, 0, none⟩)) ?_
 simp only [Act.put, zI, zJ, zK]
 refine tjI 3 15 (.pointer (some ⟨g, 0, none⟩)) ?_ ?_
 ·
  intro X hX; obtain ⟨t, hW⟩ := hX; have hc := hW.ptr; have d0 := hW.bx.c 0; have d1 := hW.bx.c 1; have d2 := hW.bx.c 2; have d3 := hW.bx.c 3; simp only [gA, gB, gC] at d0 d1 d2 d3; go_simp
 (try simp only [Act.put, zI, zJ, zK])
 refine tkI 4 16 (.pointer (some ⟨gb, 0, none⟩)) ?_
 simp only [Act.put, zI, zJ, zK]
 refine tjI 5 17 (.int .i64 x.at_) ?_ ?_
 ·
  intro X hX; obtain ⟨t, hW⟩ := hX; have hc := hW.ptr; have d0 := hW.bx.c 0; have d1 := hW.bx.c 1; have d2 := hW.bx.c 2; have d3 := hW.bx.c 3; simp only [gA, gB, gC] at d0 d1 d2 d3; go_simp
 (try simp only [Act.put, zI, zJ, zK])
 refine tkI 6 18 (.pointer (some ⟨gb, 2, none⟩)) ?_
 simp only [Act.put, zI, zJ, zK]
 refine tjI 7 19 (.int .i64 x.sym) ?_ ?_
 ·
  intro X hX; obtain ⟨t, hW⟩ := hX; have hc := hW.ptr; have d0 := hW.bx.c 0; have d1 := hW.bx.c 1; have d2 := hW.bx.c 2; have d3 := hW.bx.c 3; simp only [gA, gB, gC] at d0 d1 d2 d3; go_simp
 (try simp only [Act.put, zI, zJ, zK])
 refine tkI 8 20 (.pointer (some ⟨gb, 3, none⟩)) ?_
 simp only [Act.put, zI, zJ, zK]
 refine tjI 9 21 (.int .i64 x.add) ?_ ?_
 ·
  intro X hX; obtain ⟨t, hW⟩ := hX; have hc := hW.ptr; have d0 := hW.bx.c 0; have d1 := hW.bx.c 1; have d2 := hW.bx.c 2; have d3 := hW.bx.c 3; simp only [gA, gB, gC] at d0 d1 d2 d3; go_simp
 (try simp only [Act.put, zI, zJ, zK])
 refine rYI 10 fun K hK => ?_
 go_simp
 refine hK.out _ _ (hHeld0.new _) (fun hHeld1 => ?_)
 clear hK K
 (try simp only [Act.put, zI, zJ, zK])
 refine rYI 11 fun K hK => ?_
 go_simp
 refine (HN.out).mono ?_
 rintro en wn ⟨rfl, hw⟩
 have HX2 := hD hw
 go_simp
 refine hK.out _ _ (⟨_, hw⟩) (fun hHeld2 => ?_)
 clear hK K
 (try simp only [Act.put, zI, zJ, zK])
 refine wpAnyH_done (by kernel_rfl) ?_ _
 clear HN HX1 hHeld0
 try go_wp2_with fail
 first | go_end0 | skip
 exact HX2.out.done
set_option maxHeartbeats 1000000 in
theorem wseg_any {F : Nat → Prop} {G g : Nat} {s : St} (x : Sg) (p : Option Addr × Nat) (w : World) (h : Wi w F G g s) (hp : Src w F p.1 x.bs.length p.2 (cells x.bs)) (hi : I64 x.at_ ∧ I64 x.size ∧ I64 x.perm) (hn : s.2.length + cSg x ≤ 140737488355328) :
  Calls Tryz.prog 79 #[.pointer (some ⟨G, 0, none⟩), .agg (sgA x p)] w (Wro w F G g (fSg x s)) := by
 have HX0 := hD (Wx.new h (sgA x p) 61)
 have HI := hD hi
 have HP := hD hp
 have HQ := show _ ∧ _ from ⟨wNumsA_len 4 [x.at_, x.size] s, wNumsA_len 1 [x.perm] (wNumsA 4 [x.at_, x.size] s)⟩
 simp only [List.length_cons, List.length_nil] at HQ
 unfold cSg at hn
 have H1 := hD (show s.2.length + 16 ≤ 140737488355328 by omega)
 have H2 := hD (show (wNumsA 4 [x.at_, x.size] s).2.length + 8 ≤ 140737488355328 by omega)
 have H3 := hD (show (wNumsA 1 [x.perm] (wNumsA 4 [x.at_, x.size] s)).2.length + 8 + x.bs.length ≤ 140737488355328 by omega)
 clear hn hp hi HQ
 clear h
 go_enter Tryz.func79, Tryz.ntmps79
 go_upto_region 1 with (fail)
 change Code.wp _ _ _ _ (w.alloc (.cells (sgA x p) 61))
 generalize w.heap.size = gb at *
 generalize w.alloc (.cells (sgA x p) 61) = w1 at *
 have HN := hD (HX0.out.nums2d 4 x.at_ x.size HI.out.1 HI.out.2.1 H1.out)
 refine wp_region_held_drew (S := WX w F G g gb (sgA x p) 61) (by kernel_rfl) ⟨_, HX0.out.drew⟩ (fun hHeld0 => ?_)
 refine tkI 0 4 (.pointer (some ⟨G, 0, none⟩)) ?_
 simp only [Act.put, zI, zJ, zK]
 refine tkI 1 5 (.pointer (some ⟨G, 0, none⟩)) ?_
 simp only [Act.put, zI, zJ, zK]
 refine tkI 2 6 (.pointer (some ⟨G, 0, none⟩)) ?_
 simp only [Act.put, zI, zJ, zK]
 refine tjI 3 7 (.pointer (some ⟨g, 0, none⟩)) ?_ ?_
 ·
  intro X hX; obtain ⟨t, hW⟩ := hX; have hc := hW.ptr; have d0 := hW.bx.c 0; have d1 := hW.bx.c 1; have d2 := hW.bx.c 2; have d3 := hW.bx.c 3; simp only [gA, gB, gC] at d0 d1 d2 d3; go_simp
 (try simp only [Act.put, zI, zJ, zK])
 refine tkI 4 8 (.pointer (some ⟨gb, 0, none⟩)) ?_
 simp only [Act.put, zI, zJ, zK]
 refine tjI 5 9 (.int .i64 x.at_) ?_ ?_
 ·
  intro X hX; obtain ⟨t, hW⟩ := hX; have hc := hW.ptr; have d0 := hW.bx.c 0; have d1 := hW.bx.c 1; have d2 := hW.bx.c 2; have d3 := hW.bx.c 3; simp only [gA, gB, gC] at d0 d1 d2 d3; go_simp
 (try simp only [Act.put, zI, zJ, zK])
 refine tkI 6 10 (.pointer (some ⟨gb, 1, none⟩)) ?_
 simp only [Act.put, zI, zJ, zK]
 refine tjI 7 11 (.int .i64 x.size) ?_ ?_
 ·
  intro X hX; obtain ⟨t, hW⟩ := hX; have hc := hW.ptr; have d0 := hW.bx.c 0; have d1 := hW.bx.c 1; have d2 := hW.bx.c 2; have d3 := hW.bx.c 3; simp only [gA, gB, gC] at d0 d1 d2 d3; go_simp
 (try simp only [Act.put, zI, zJ, zK])
 refine rYI 8 fun K hK => ?_
 go_simp
 refine hK.out _ _ (hHeld0.new _) (fun hHeld1 => ?_)
 clear hK K
 (try simp only [Act.put, zI, zJ, zK])
 refine rYI 9 fun K hK => ?_
 go_simp
 refine (HN.out).mono ?_
 rintro en wn ⟨rfl, hw⟩
 have HX1 := hD hw
 go_simp
 refine hK.out _ _ (⟨_, hw⟩) (fun hHeld2 => ?_)
 clear hK K
 (try simp only [Act.put, zI, zJ, zK])
 refine wpAnyH_done (by kernel_rfl) ?_ _
 clear HN HX0 hHeld0
 go_upto_region 2 with (fail)
 have HN := hD (HX1.out.nums1d 1 x.perm HI.out.2.2 H2.out)
 refine wp_region_held_drew (S := WX w F G g gb (sgA x p) 61) (by kernel_rfl) ⟨_, HX1.out.drew⟩ (fun hHeld0 => ?_)
 refine tkI 0 14 (.pointer (some ⟨G, 0, none⟩)) ?_
 simp only [Act.put, zI, zJ, zK]
 refine tkI 1 15 (.pointer (some ⟨G, 0, none⟩)) ?_
 simp only [Act.put, zI, zJ, zK]
 refine tkI 2 16 (.pointer (some ⟨G, 0, none⟩)) ?_
 simp only [Act.put, zI, zJ, zK]
 refine tjI 3 17 (.pointer (some ⟨g, 0, none⟩)) ?_ ?_
 ·
  intro X hX; obtain ⟨t, hW⟩ := hX; have hc := hW.ptr; have d0 := hW.bx.c 0; have d1 := hW.bx.c 1; have d2 := hW.bx.c 2; have d3 := hW.bx.c 3; simp only [gA, gB, gC] at d0 d1 d2 d3; go_simp
 (try simp only [Act.put, zI, zJ, zK])
 refine tkI 4 18 (.pointer (some ⟨gb, 3, none⟩)) ?_
 simp only [Act.put, zI, zJ, zK]
 refine tjI 5 19 (.int .i64 x.perm) ?_ ?_
 ·
  intro X hX; obtain ⟨t, hW⟩ := hX; have hc := hW.ptr; have d0 := hW.bx.c 0; have d1 := hW.bx.c 1; have d2 := hW.bx.c 2; have d3 := hW.bx.c 3; simp only [gA, gB, gC] at d0 d1 d2 d3; go_simp
 (try simp only [Act.put, zI, zJ, zK])
 refine rYI 6 fun K hK => ?_
 go_simp
 refine hK.out _ _ (hHeld0.new _) (fun hHeld1 => ?_)
 clear hK K
 (try simp only [Act.put, zI, zJ, zK])
 refine rYI 7 fun K hK => ?_
 go_simp
 refine (HN.out).mono ?_
 rintro en wn ⟨rfl, hw⟩
 have HX2 := hD hw
 go_simp
 refine hK.out _ _ (⟨_, hw⟩) (fun hHeld2 => ?_)
 clear hK K
 (try simp only [Act.put, zI, zJ, zK])
 refine wpAnyH_done (by kernel_rfl) ?_ _
 clear HN HX1 hHeld0
 go_upto_region 3 with (fail)
 have HN := hD (HX2.out.blockd _ _ _ x.bs HP.out H3.out)
 refine wp_region_held_drew (S := WX w F G g gb (sgA x p) 61) (by kernel_rfl) ⟨_, HX2.out.drew⟩ (fun hHeld0 => ?_)
 refine tkI 0 22 (.pointer (some ⟨G, 0, none⟩)) ?_
 simp only [Act.put, zI, zJ, zK]
 refine tkI 1 23 (.pointer (some ⟨G, 0, none⟩)) ?_
 simp only [Act.put, zI, zJ, zK]
 refine tkI 2 24 (.pointer (some ⟨G, 0, none⟩)) ?_
 simp only [Act.put, zI, zJ, zK]
 refine tjI 3 25 (.pointer (some ⟨g, 0, none⟩)) ?_ ?_
 ·
  intro X hX; obtain ⟨t, hW⟩ := hX; have hc := hW.ptr; have d0 := hW.bx.c 0; have d1 := hW.bx.c 1; have d2 := hW.bx.c 2; have d3 := hW.bx.c 3; simp only [gA, gB, gC] at d0 d1 d2 d3; go_simp
 (try simp only [Act.put, zI, zJ, zK])
 refine tkI 4 26 (.pointer (some ⟨gb, 2, none⟩)) ?_
 simp only [Act.put, zI, zJ, zK]
 refine tjI 5 27 (.slice p.1 x.bs.length p.2) ?_ ?_
 ·
  intro X hX; obtain ⟨t, hW⟩ := hX; have hc := hW.ptr; have d0 := hW.bx.c 0; have d1 := hW.bx.c 1; have d2 := hW.bx.c 2; have d3 := hW.bx.c 3; simp only [gA, gB, gC] at d0 d1 d2 d3; go_simp
 (try simp only [Act.put, zI, zJ, zK])
 refine rYI 6 fun K hK => ?_
 go_simp
 refine (HN.out).mono ?_
 rintro en wn ⟨rfl, hw⟩
 have HX3 := hD hw
 go_simp
 refine hK.out _ _ (⟨_, hw⟩) (fun hHeld1 => ?_)
 clear hK K
 (try simp only [Act.put, zI, zJ, zK])
 refine wpAnyH_done (by kernel_rfl) ?_ _
 clear HN HX2 hHeld0
 try go_wp2_with fail
 first | go_end0 | skip
 exact HX3.out.done
set_option maxHeartbeats 1000000 in
theorem wsymbol_any {F : Nat → Prop} {G g : Nat} {s : St} (x : Sym) (w : World) (h : Wi w F G g s) (hi : I64 x.kind ∧ I64 x.vis ∧ I64 x.val ∧ I64 x.size) (hn : s.2.length + cSym x ≤ 140737488355328) :
  Calls Tryz.prog 84 #[.pointer (some ⟨G, 0, none⟩), .agg (symA x)] w (Wro w F G g (fSym x s)) := by
 have HX0 := hD (Wx.new h (symA x) 105)
 have HI := hD hi
 have HQ := show _ ∧ _ from ⟨wTexts_len [x.name, x.ver] s, wNumsA_len 1 [x.kind, x.vis, oneI x.old, oneI x.weak, oneI x.dfd] (wTexts [x.name, x.ver] s)⟩
 have h4 : room [x.name, x.ver] = x.name.length + 8 + (x.ver.length + 8) := by simp [room]
 rw [h4] at HQ
 simp only [List.length_cons, List.length_nil] at HQ
 unfold cSym at hn
 have H1 := hD (show s.2.length + (x.name.length + 8 + (x.ver.length + 8)) ≤ 140737488355328 by omega)
 have H2 := hD (show (wTexts [x.name, x.ver] s).2.length + 40 ≤ 140737488355328 by omega)
 have H3 := hD (show (wNumsA 1 [x.kind, x.vis, oneI x.old, oneI x.weak, oneI x.dfd] (wTexts [x.name, x.ver] s)).2.length + 16 ≤ 140737488355328 by omega)
 clear hn hi HQ h4
 clear h
 go_enter Tryz.func84, Tryz.ntmps84
 go_upto_region 1 with (fail)
 change Code.wp _ _ _ _ (w.alloc (.cells (symA x) 105))
 generalize w.heap.size = gb at *
 generalize w.alloc (.cells (symA x) 105) = w1 at *
 have HN := hD (HX0.out.texts2d x.name x.ver H1.out)
 refine wp_region_held_drew (S := WX w F G g gb (symA x) 105) (by kernel_rfl) ⟨_, HX0.out.drew⟩ (fun hHeld0 => ?_)
 refine tkI 0 4 (.pointer (some ⟨G, 0, none⟩)) ?_
 simp only [Act.put, zI, zJ, zK]
 refine tkI 1 5 (.pointer (some ⟨G, 0, none⟩)) ?_
 simp only [Act.put, zI, zJ, zK]
 refine tkI 2 6 (.pointer (some ⟨G, 0, none⟩)) ?_
 simp only [Act.put, zI, zJ, zK]
 refine tjI 3 7 (.pointer (some ⟨g, 0, none⟩)) ?_ ?_
 ·
  intro X hX; obtain ⟨t, hW⟩ := hX; have hc := hW.ptr; have dq := hW.bx.c; have d0 := dq 0; have d1 := dq 1; have d2 := dq 2; have d3 := dq 3; have d4 := dq 4; have d5 := dq 5; have d6 := dq 6; have d7 := dq 7; have d8 := dq 8; clear dq; simp only [gA, gB, gC] at d0 d1 d2 d3 d4 d5 d6 d7 d8; go_simp
 (try simp only [Act.put, zI, zJ, zK])
 refine tkI 4 8 (.pointer (some ⟨gb, 0, none⟩)) ?_
 simp only [Act.put, zI, zJ, zK]
 refine tjI 5 9 (str x.name) ?_ ?_
 ·
  intro X hX; obtain ⟨t, hW⟩ := hX; have hc := hW.ptr; have dq := hW.bx.c; have d0 := dq 0; have d1 := dq 1; have d2 := dq 2; have d3 := dq 3; have d4 := dq 4; have d5 := dq 5; have d6 := dq 6; have d7 := dq 7; have d8 := dq 8; clear dq; simp only [gA, gB, gC] at d0 d1 d2 d3 d4 d5 d6 d7 d8; go_simp
 (try simp only [Act.put, zI, zJ, zK])
 refine tkI 6 10 (.pointer (some ⟨gb, 1, none⟩)) ?_
 simp only [Act.put, zI, zJ, zK]
 refine tjI 7 11 (str x.ver) ?_ ?_
 ·
  intro X hX; obtain ⟨t, hW⟩ := hX; have hc := hW.ptr; have dq := hW.bx.c; have d0 := dq 0; have d1 := dq 1; have d2 := dq 2; have d3 := dq 3; have d4 := dq 4; have d5 := dq 5; have d6 := dq 6; have d7 := dq 7; have d8 := dq 8; clear dq; simp only [gA, gB, gC] at d0 d1 d2 d3 d4 d5 d6 d7 d8; go_simp
 (try simp only [Act.put, zI, zJ, zK])
 refine rYI 8 fun K hK => ?_
 go_simp
 refine hK.out _ _ (hHeld0.new _) (fun hHeld1 => ?_)
 clear hK K
 (try simp only [Act.put, zI, zJ, zK])
 refine rYI 9 fun K hK => ?_
 go_simp
 refine (HN.out).mono ?_
 rintro en wn ⟨rfl, hw⟩
 have HX1 := hD hw
 go_simp
 refine hK.out _ _ (⟨_, hw⟩) (fun hHeld2 => ?_)
 clear hK K
 (try simp only [Act.put, zI, zJ, zK])
 refine wpAnyH_done (by kernel_rfl) ?_ _
 clear HN HX0 hHeld0
 go_upto_region 2 with (fail)
 have HN := hD (HX1.out.nums5d 1 x.kind x.vis (oneI x.old) (oneI x.weak) (oneI x.dfd) HI.out.1 HI.out.2.1 (one_i64 _) (one_i64 _) (one_i64 _) H2.out)
 refine wp_region_held_drew (S := WX w F G g gb (symA x) 105) (by kernel_rfl) ⟨_, HX1.out.drew⟩ (fun hHeld0 => ?_)
 refine tkI 0 14 (.pointer (some ⟨G, 0, none⟩)) ?_
 simp only [Act.put, zI, zJ, zK]
 refine tkI 1 15 (.pointer (some ⟨G, 0, none⟩)) ?_
 simp only [Act.put, zI, zJ, zK]
 refine tkI 2 16 (.pointer (some ⟨G, 0, none⟩)) ?_
 simp only [Act.put, zI, zJ, zK]
 refine tjI 3 17 (.pointer (some ⟨g, 0, none⟩)) ?_ ?_
 ·
  intro X hX; obtain ⟨t, hW⟩ := hX; have hc := hW.ptr; have dq := hW.bx.c; have d0 := dq 0; have d1 := dq 1; have d2 := dq 2; have d3 := dq 3; have d4 := dq 4; have d5 := dq 5; have d6 := dq 6; have d7 := dq 7; have d8 := dq 8; clear dq; simp only [gA, gB, gC] at d0 d1 d2 d3 d4 d5 d6 d7 d8; go_simp
 (try simp only [Act.put, zI, zJ, zK])
 refine tkI 4 18 (.pointer (some ⟨gb, 3, none⟩)) ?_
 simp only [Act.put, zI, zJ, zK]
 refine tjI 5 19 (.int .i64 x.kind) ?_ ?_
 ·
  intro X hX; obtain ⟨t, hW⟩ := hX; have hc := hW.ptr; have dq := hW.bx.c; have d0 := dq 0; have d1 := dq 1; have d2 := dq 2; have d3 := dq 3; have d4 := dq 4; have d5 := dq 5; have d6 := dq 6; have d7 := dq 7; have d8 := dq 8; clear dq; simp only [gA, gB, gC] at d0 d1 d2 d3 d4 d5 d6 d7 d8; go_simp
 (try simp only [Act.put, zI, zJ, zK])
 refine tkI 6 20 (.pointer (some ⟨gb, 5, none⟩)) ?_
 simp only [Act.put, zI, zJ, zK]
 refine tjI 7 21 (.int .i64 x.vis) ?_ ?_
 ·
  intro X hX; obtain ⟨t, hW⟩ := hX; have hc := hW.ptr; have dq := hW.bx.c; have d0 := dq 0; have d1 := dq 1; have d2 := dq 2; have d3 := dq 3; have d4 := dq 4; have d5 := dq 5; have d6 := dq 6; have d7 := dq 7; have d8 := dq 8; clear dq; simp only [gA, gB, gC] at d0 d1 d2 d3 d4 d5 d6 d7 d8; go_simp
 (try simp only [Act.put, zI, zJ, zK])
 refine tkI 8 22 (.pointer (some ⟨gb, 2, none⟩)) ?_
 simp only [Act.put, zI, zJ, zK]
 refine tjI 9 23 (.bool x.old) ?_ ?_
 ·
  intro X hX; obtain ⟨t, hW⟩ := hX; have hc := hW.ptr; have dq := hW.bx.c; have d0 := dq 0; have d1 := dq 1; have d2 := dq 2; have d3 := dq 3; have d4 := dq 4; have d5 := dq 5; have d6 := dq 6; have d7 := dq 7; have d8 := dq 8; clear dq; simp only [gA, gB, gC] at d0 d1 d2 d3 d4 d5 d6 d7 d8; go_simp
 (try simp only [Act.put, zI, zJ, zK])
 refine tkI 11 25 (.pointer (some ⟨gb, 4, none⟩)) ?_
 simp only [Act.put, zI, zJ, zK]
 refine tjI 12 26 (.bool x.weak) ?_ ?_
 ·
  intro X hX; obtain ⟨t, hW⟩ := hX; have hc := hW.ptr; have dq := hW.bx.c; have d0 := dq 0; have d1 := dq 1; have d2 := dq 2; have d3 := dq 3; have d4 := dq 4; have d5 := dq 5; have d6 := dq 6; have d7 := dq 7; have d8 := dq 8; clear dq; simp only [gA, gB, gC] at d0 d1 d2 d3 d4 d5 d6 d7 d8; go_simp
 (try simp only [Act.put, zI, zJ, zK])
 refine tkI 14 28 (.pointer (some ⟨gb, 6, none⟩)) ?_
 simp only [Act.put, zI, zJ, zK]
 refine tjI 15 29 (.bool x.dfd) ?_ ?_
 ·
  intro X hX; obtain ⟨t, hW⟩ := hX; have hc := hW.ptr; have dq := hW.bx.c; have d0 := dq 0; have d1 := dq 1; have d2 := dq 2; have d3 := dq 3; have d4 := dq 4; have d5 := dq 5; have d6 := dq 6; have d7 := dq 7; have d8 := dq 8; clear dq; simp only [gA, gB, gC] at d0 d1 d2 d3 d4 d5 d6 d7 d8; go_simp
 (try simp only [Act.put, zI, zJ, zK])
 refine rYI 10 fun K hK => ?_
 go_simp
 refine (bit_any x.old _).mono ?_
 rintro e wq ⟨rfl, rfl⟩
 go_simp
 refine hK.out _ _ (hHeld0) (fun hHeld1 => ?_)
 clear hK K
 (try simp only [Act.put, zI, zJ, zK])
 refine rYI 13 fun K hK => ?_
 go_simp
 refine (bit_any x.weak _).mono ?_
 rintro e wq ⟨rfl, rfl⟩
 go_simp
 refine hK.out _ _ (hHeld1) (fun hHeld2 => ?_)
 clear hK K
 (try simp only [Act.put, zI, zJ, zK])
 refine rYI 16 fun K hK => ?_
 go_simp
 refine (bit_any x.dfd _).mono ?_
 rintro e wq ⟨rfl, rfl⟩
 go_simp
 refine hK.out _ _ (hHeld2) (fun hHeld3 => ?_)
 clear hK K
 (try simp only [Act.put, zI, zJ, zK])
 refine rYI 17 fun K hK => ?_
 go_simp
 refine hK.out _ _ (hHeld3.new _) (fun hHeld4 => ?_)
 clear hK K
 (try simp only [Act.put, zI, zJ, zK])
 refine rYI 18 fun K hK => ?_
 go_simp
 refine (HN.out).mono ?_
 rintro en wn ⟨rfl, hw⟩
 have HX2 := hD hw
 go_simp
 refine hK.out _ _ (⟨_, hw⟩) (fun hHeld5 => ?_)
 clear hK K
 (try simp only [Act.put, zI, zJ, zK])
 refine wpAnyH_done (by kernel_rfl) ?_ _
 clear HN HX1 hHeld0
 go_upto_region 3 with (fail)
 have HN := hD (HX2.out.nums2d 8 x.val x.size HI.out.2.2.1 HI.out.2.2.2 H3.out)
 refine wp_region_held_drew (S := WX w F G g gb (symA x) 105) (by kernel_rfl) ⟨_, HX2.out.drew⟩ (fun hHeld0 => ?_)
 refine tkI 0 33 (.pointer (some ⟨G, 0, none⟩)) ?_
 simp only [Act.put, zI, zJ, zK]
 refine tkI 1 34 (.pointer (some ⟨G, 0, none⟩)) ?_
 simp only [Act.put, zI, zJ, zK]
 refine tkI 2 35 (.pointer (some ⟨G, 0, none⟩)) ?_
 simp only [Act.put, zI, zJ, zK]
 refine tjI 3 36 (.pointer (some ⟨g, 0, none⟩)) ?_ ?_
 ·
  intro X hX; obtain ⟨t, hW⟩ := hX; have hc := hW.ptr; have dq := hW.bx.c; have d0 := dq 0; have d1 := dq 1; have d2 := dq 2; have d3 := dq 3; have d4 := dq 4; have d5 := dq 5; have d6 := dq 6; have d7 := dq 7; have d8 := dq 8; clear dq; simp only [gA, gB, gC] at d0 d1 d2 d3 d4 d5 d6 d7 d8; go_simp
 (try simp only [Act.put, zI, zJ, zK])
 refine tkI 4 37 (.pointer (some ⟨gb, 7, none⟩)) ?_
 simp only [Act.put, zI, zJ, zK]
 refine tjI 5 38 (.int .i64 x.val) ?_ ?_
 ·
  intro X hX; obtain ⟨t, hW⟩ := hX; have hc := hW.ptr; have dq := hW.bx.c; have d0 := dq 0; have d1 := dq 1; have d2 := dq 2; have d3 := dq 3; have d4 := dq 4; have d5 := dq 5; have d6 := dq 6; have d7 := dq 7; have d8 := dq 8; clear dq; simp only [gA, gB, gC] at d0 d1 d2 d3 d4 d5 d6 d7 d8; go_simp
 (try simp only [Act.put, zI, zJ, zK])
 refine tkI 6 39 (.pointer (some ⟨gb, 8, none⟩)) ?_
 simp only [Act.put, zI, zJ, zK]
 refine tjI 7 40 (.int .i64 x.size) ?_ ?_
 ·
  intro X hX; obtain ⟨t, hW⟩ := hX; have hc := hW.ptr; have dq := hW.bx.c; have d0 := dq 0; have d1 := dq 1; have d2 := dq 2; have d3 := dq 3; have d4 := dq 4; have d5 := dq 5; have d6 := dq 6; have d7 := dq 7; have d8 := dq 8; clear dq; simp only [gA, gB, gC] at d0 d1 d2 d3 d4 d5 d6 d7 d8; go_simp
 (try simp only [Act.put, zI, zJ, zK])
 refine rYI 8 fun K hK => ?_
 go_simp
 refine hK.out _ _ (hHeld0.new _) (fun hHeld1 => ?_)
 clear hK K
 (try simp only [Act.put, zI, zJ, zK])
 refine rYI 9 fun K hK => ?_
 go_simp
 refine (HN.out).mono ?_
 rintro en wn ⟨rfl, hw⟩
 have HX3 := hD hw
 go_simp
 refine hK.out _ _ (⟨_, hw⟩) (fun hHeld2 => ?_)
 clear hK K
 (try simp only [Act.put, zI, zJ, zK])
 refine wpAnyH_done (by kernel_rfl) ?_ _
 clear HN HX2 hHeld0
 try go_wp2_with fail
 first | go_end0 | skip
 exact HX3.out.done
set_option maxHeartbeats 1000000 in
theorem wtexts_any {F : Nat → Prop} {G g : Nat} {s : St} (A : Option Addr) (c : Nat) (l : List Str) (w : World) (h : Wi w F G g s) (hx : Src w F A l.length c (strs l)) (hn : s.2.length + cTx l ≤ 140737488355328) :
  Calls Tryz.prog 82 #[.pointer (some ⟨G, 0, none⟩), .slice A l.length c] w (Wro w F G g (fTx l s)) := by
 have HX := hD hx
 have hc := h.c0
 have hcap := hx.cap
 unfold cTx at hn
 have hr := room_ge l
 have H1 := wNumsA_len 1 [(l.length : Int)] s
 simp only [List.length_cons, List.length_nil] at H1
 have H2 := hD (show (wNumsA 1 [(l.length : Int)] s).2.length + room l ≤ 140737488355328 by omega)
 have HN := hD (h.nums 1 [(l.length : Int)] (by simp only [List.forall_mem_cons]; exact ⟨len_i64 (by omega), by simp⟩) (by simp; omega))
 have HN := hD (show Calls Tryz.prog 77 #[.pointer (some ⟨g, 0, none⟩), .int .i64 1, .slice (some ⟨w.heap.size, 0, none⟩) 1 1] (w.alloc (.cells #[.int .i64 (l.length : Int)] 3)) (Wro w F G g (wNumsA 1 [(l.length : Int)] s)) from HN.out)
 clear h hx
 go_enter Tryz.func82, Tryz.ntmps82
 go_upto_region 1 with (go_at_call 77; (with_reducible refine (HN.out).mono ?_); rintro en w1 ⟨rfl, hw, hk⟩; have HW := hD hw; have HK := hD hk; clear hw hk)
 clear HN hc
 have hc := HW.out.c0
 have HM := hD (HW.out.text A l.length c l (HX.out.kp HK.out) H2.out)
 go_wp2_with (go_at_call 76; (with_reducible refine (HM.out).mono ?_); rintro en w2 ⟨rfl, hw, hk⟩; have HW2 := hD hw; have HK2 := hD hk; clear hw hk)
 first | go_end0 | skip
 exact ⟨rfl, HW2.out, HK.out.trans HK2.out⟩
set_option maxHeartbeats 1000000 in
theorem wbucket_any {F : Nat → Prop} {G g : Nat} {s : St} (A : Option Addr) (c : Nat) (l : List Int) (w : World) (h : Wi w F G g s) (hx : Src w F A l.length c (ints l)) (hi : ∀ i ∈ l, I64 i) (hn : s.2.length + cRow l ≤ 140737488355328) :
  Calls Tryz.prog 157 #[.pointer (some ⟨G, 0, none⟩), .slice A l.length c] w (Wro w F G g (fRow l s)) := by
 have HX := hD hx
 have hc := h.c0
 have hcap := hx.cap
 unfold cRow at hn
 have HI := hD hi
 have H1 := wNumsA_len 2 [(l.length : Int)] s
 simp only [List.length_cons, List.length_nil] at H1
 have H2 := hD (show (wNumsA 2 [(l.length : Int)] s).2.length + 8 * l.length ≤ 140737488355328 by omega)
 have HN := hD (h.nums 2 [(l.length : Int)] (by simp only [List.forall_mem_cons]; exact ⟨len_i64 (by omega), by simp⟩) (by simp; omega))
 have HN := hD (show Calls Tryz.prog 77 #[.pointer (some ⟨g, 0, none⟩), .int .i64 2, .slice (some ⟨w.heap.size, 0, none⟩) 1 1] (w.alloc (.cells #[.int .i64 (l.length : Int)] 3)) (Wro w F G g (wNumsA 2 [(l.length : Int)] s)) from HN.out)
 clear h hx
 go_enter Tryz.func157, Tryz.ntmps157
 go_upto_region 1 with (go_at_call 77; (with_reducible refine (HN.out).mono ?_); rintro en w1 ⟨rfl, hw, hk⟩; have HW := hD hw; have HK := hD hk; clear hw hk)
 clear HN hc
 have hc := HW.out.c0
 have HM := hD (HW.out.num 2 A l.length c l HI.out (HX.out.kp HK.out) H2.out)
 go_wp2_with (go_at_call 77; (with_reducible refine (HM.out).mono ?_); rintro en w2 ⟨rfl, hw, hk⟩; have HW2 := hD hw; have HK2 := hD hk; clear hw hk)
 first | go_end0 | skip
 exact ⟨rfl, HW2.out, HK.out.trans HK2.out⟩
set_option maxHeartbeats 1000000 in
theorem wruns_any {F : Nat → Prop} {G g : Nat} {s : St} (A : Option Addr) (c : Nat) (l : List Int) (w : World) (h : Wi w F G g s) (hx : Src w F A l.length c (ints l)) (hi : ∀ i ∈ l, I64 i) (hn : s.2.length + cRow l ≤ 140737488355328) :
  Calls Tryz.prog 90 #[.pointer (some ⟨G, 0, none⟩), .slice A l.length c] w (Wro w F G g (fRuns l s)) := by
 have HX := hD hx
 have hc := h.c0
 have hcap := hx.cap
 unfold cRow at hn
 have HI := hD hi
 have H1 := wNumsA_len 1 [(l.length : Int)] s
 simp only [List.length_cons, List.length_nil] at H1
 have H2 := hD (show (wNumsA 1 [(l.length : Int)] s).2.length + 8 * l.length ≤ 140737488355328 by omega)
 have HN := hD (h.nums 1 [(l.length : Int)] (by simp only [List.forall_mem_cons]; exact ⟨len_i64 (by omega), by simp⟩) (by simp; omega))
 have HN := hD (show Calls Tryz.prog 77 #[.pointer (some ⟨g, 0, none⟩), .int .i64 1, .slice (some ⟨w.heap.size, 0, none⟩) 1 1] (w.alloc (.cells #[.int .i64 (l.length : Int)] 3)) (Wro w F G g (wNumsA 1 [(l.length : Int)] s)) from HN.out)
 clear h hx
 go_enter Tryz.func90, Tryz.ntmps90
 go_upto_region 1 with (go_at_call 77; (with_reducible refine (HN.out).mono ?_); rintro en w1 ⟨rfl, hw, hk⟩; have HW := hD hw; have HK := hD hk; clear hw hk)
 clear HN hc
 have hc := HW.out.c0
 have HM := hD (HW.out.num 4 A l.length c l HI.out (HX.out.kp HK.out) H2.out)
 go_wp2_with (go_at_call 77; (with_reducible refine (HM.out).mono ?_); rintro en w2 ⟨rfl, hw, hk⟩; have HW2 := hD hw; have HK2 := hD hk; clear hw hk)
 first | go_end0 | skip
 exact ⟨rfl, HW2.out, HK.out.trans HK2.out⟩
set_option maxHeartbeats 1000000 in
theorem wneed_any {F : Nat → Prop} {G g : Nat} {s : St} (x : Nd) (p : Option Addr × Nat) (w : World) (h : Wi w F G g s) (hp : Src w F p.1 x.vers.length p.2 (strs x.vers)) (hn : s.2.length + cNd x ≤ 140737488355328) :
  Calls Tryz.prog 81 #[.pointer (some ⟨G, 0, none⟩), .agg (ndA x p)] w (Wro w F G g (fNd x s)) := by
 have HX0 := hD (Wx.new h (ndA x p) 98)
 have HP := hD hp
 have HQ := wTexts_len [x.name] s
 rw [room_one] at HQ
 unfold cNd at hn
 have H1 := hD (show s.2.length + (x.name.length + 8) ≤ 140737488355328 by omega)
 have H2 := hD (show (wTexts [x.name] s).2.length + cTx x.vers ≤ 140737488355328 by omega)
 clear hn hp HQ
 clear h
 go_enter Tryz.func81, Tryz.ntmps81
 go_upto_region 1 with (fail)
 change Code.wp _ _ _ _ (w.alloc (.cells (ndA x p) 98))
 generalize w.heap.size = gb at *
 generalize w.alloc (.cells (ndA x p) 98) = w1 at *
 have HN := hD (HX0.out.texts1d x.name H1.out)
 refine wp_region_held_drew (S := WX w F G g gb (ndA x p) 98) (by kernel_rfl) ⟨_, HX0.out.drew⟩ (fun hHeld0 => ?_)
 refine tkI 0 4 (.pointer (some ⟨G, 0, none⟩)) ?_
 simp only [Act.put, zI, zJ, zK]
 refine tkI 1 5 (.pointer (some ⟨G, 0, none⟩)) ?_
 simp only [Act.put, zI, zJ, zK]
 refine tkI 2 6 (.pointer (some ⟨G, 0, none⟩)) ?_
 simp only [Act.put, zI, zJ, zK]
 refine tjI 3 7 (.pointer (some ⟨g, 0, none⟩)) ?_ ?_
 ·
  intro X hX; obtain ⟨t, hW⟩ := hX; have hc := hW.ptr; have d0 := hW.bx.c 0; have d1 := hW.bx.c 1; simp only [gA, gB, gC] at d0 d1; go_simp
 (try simp only [Act.put, zI, zJ, zK])
 refine tkI 4 8 (.pointer (some ⟨gb, 0, none⟩)) ?_
 simp only [Act.put, zI, zJ, zK]
 refine tjI 5 9 (str x.name) ?_ ?_
 ·
  intro X hX; obtain ⟨t, hW⟩ := hX; have hc := hW.ptr; have d0 := hW.bx.c 0; have d1 := hW.bx.c 1; simp only [gA, gB, gC] at d0 d1; go_simp
 (try simp only [Act.put, zI, zJ, zK])
 refine rYI 6 fun K hK => ?_
 go_simp
 refine hK.out _ _ (hHeld0.new _) (fun hHeld1 => ?_)
 clear hK K
 (try simp only [Act.put, zI, zJ, zK])
 refine rYI 7 fun K hK => ?_
 go_simp
 refine (HN.out).mono ?_
 rintro en wn ⟨rfl, hw⟩
 have HX1 := hD hw
 go_simp
 refine hK.out _ _ (⟨_, hw⟩) (fun hHeld2 => ?_)
 clear hK K
 (try simp only [Act.put, zI, zJ, zK])
 refine wpAnyH_done (by kernel_rfl) ?_ _
 clear HN HX0 hHeld0
 go_upto_region 2 with (fail)
 have HN := hD ((wtexts_any p.1 p.2 x.vers _ HX1.out.wi ((HP.out.kp HX1.out.kp).weak fun _ hk => .inl hk) H2.out).mono fun _ _ k => HX1.out.step k)
 have hc := HX1.out.ptr
 have d0 := HX1.out.bx.c 0
 have d1 := HX1.out.bx.c 1
 simp only [gA, gB, gC] at d0 d1
 go_upto_region 99 with (go_at_call 82; (with_reducible refine (HN.out).mono ?_); rintro en wn ⟨rfl, hw⟩; have HX2 := hD hw; clear hw)
 clear HN hc d0 d1
 try go_wp2_with fail
 first | go_end0 | skip
 exact HX2.out.done
end Go.Proofs.YtfljignkjmabpaaGreat
