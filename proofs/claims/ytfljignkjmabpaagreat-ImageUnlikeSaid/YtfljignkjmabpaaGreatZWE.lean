/-
  The writer of images: a word, and a table (written by mkv.py).
  The writer of images: a whole image (written by mkv.py).
-/
import Derived.Test.YtfljignkjmabpaaGreatZPB
namespace Go.Proofs.YtfljignkjmabpaaGreat
set_option maxRecDepth 100000
set_option linter.unusedSimpArgs false
set_option linter.unusedVariables false
open Go.RowKit

def fWd (x : UInt64) (s : St) : St := wNumsA 8 [wrap64 (x.toNat : Int)] s
theorem fWd_len (x : UInt64) (s : St) : (fWd x s).2.length ≤ s.2.length + 8 := wNumsA_len 8 [wrap64 (x.toNat : Int)] s
theorem wrap_i64' (n : Int) : I64 (wrap64 n) := by unfold I64 wrap64; omega
set_option maxHeartbeats 400000 in
theorem wword_any {F : Nat → Prop} {G g : Nat} {s : St} (x : UInt64) (w : World) (h : Wi w F G g s) (hn : s.2.length + 8 ≤ 140737488355328) :
    Calls Tryz.prog 159 #[.pointer (some ⟨G, 0, none⟩), Siv.u64v x] w (Wro w F G g (fWd x s)) := by
  have hc := h.c0
  have HN := Lib.hid (h.nums 8 [wrap64 (x.toNat : Int)] (by simp only [List.forall_mem_cons]; exact ⟨wrap_i64' _, by simp⟩) (by simpa using hn))
  have HN := Lib.hid (show Calls Tryz.prog 77 #[.pointer (some ⟨g, 0, none⟩), .int .i64 8, .slice (some ⟨w.heap.size, 0, none⟩) 1 1] (w.alloc (.cells #[.int .i64 (wrap64 (x.toNat : Int))] 3)) (Wro w F G g (fWd x s)) from HN.out)
  clear h
  go_enter Tryz.func159, Tryz.ntmps159
  go_wp2_with (go_at_call 77; (with_reducible refine (HN.out).mono ?_); rintro en w1 ⟨rfl, hw, hk⟩)
  first | go_end0 | skip
  exact ⟨rfl, hw, hk⟩
def fTab (rows : List (List Int)) (L : List UInt64) (sh : Int) (s : St) : St := wList 1 fWd L (wNumsA 1 [sh] (wList 2 fRow rows s))
theorem rowF_mem {rows : List (List Int)} {k : Nat} (hk : k < rows.length) : rowF rows k ∈ rows := getD_mem hk
theorem rows_len {rows : List (List Int)} (s : St) (h : ∀ r ∈ rows, r.length ≤ 512) : (wList 2 fRow rows s).2.length ≤ s.2.length + 8 + 4104 * rows.length :=
  wList_len 2 fRow rows s 4104 fun r hr t => by have h1 := fRow_len r t; have h2 := h r hr; unfold cRow at h1; omega
theorem fTab_len {rows : List (List Int)} {L : List UInt64} {sh : Int} (s : St) (h : ∀ r ∈ rows, r.length ≤ 512) : (fTab rows L sh s).2.length ≤ s.2.length + 24 + 4104 * rows.length + 8 * L.length := by
  have h1 := rows_len s h
  have h2 := wNumsA_len 1 [sh] (wList 2 fRow rows s)
  have h3 := wList_len 1 fWd L (wNumsA 1 [sh] (wList 2 fRow rows s)) 8 fun x _ t => fWd_len x t
  simp only [List.length_cons, List.length_nil] at h2
  unfold fTab
  omega
set_option maxHeartbeats 4000000 in
theorem wtable_any {F : Nat → Prop} {G g : Nat} {s : St} (A : Option Addr) (c : Nat) (Af : Option Addr) (cf : Nat) (rows : List (List Int)) (L : List UInt64) (sh : Int) (w : World) (h : Wi w F G g s) (ht : TabV w F A rows.length c Af cf (rowF rows) L)
    (hr : ∀ r ∈ rows, r.length ≤ 512 ∧ ∀ i ∈ r, I64 i) (hrl : rows.length ≤ 140737488355328) (hL : L.length ≤ 140737488355328) (hs : I64 sh) (hn : s.2.length + (24 + 4104 * rows.length + 8 * L.length) ≤ 140737488355328) :
    Calls Tryz.prog 85 #[.pointer (some ⟨G, 0, none⟩), .agg (tabA A rows.length c Af L.length cf sh)] w (Wro w F G g (fTab rows L sh s)) := by
  have HX0 := Lib.hid (Wx.new h (tabA A rows.length c Af L.length cf sh) 35)
  have HT := Lib.hid ht
  have HR := Lib.hid hr
  have HS := Lib.hid hs
  have q1 := rows_len s (fun r hr' => (hr r hr').1)
  have q2 := wNumsA_len 1 [sh] (wList 2 fRow rows s)
  simp only [List.length_cons, List.length_nil] at q2
  have H1 := Lib.hid (show s.2.length + 8 + 4104 * rows.length ≤ 140737488355328 by omega)
  have H2 := Lib.hid (show (wList 2 fRow rows s).2.length + 8 ≤ 140737488355328 by omega)
  have H3 := Lib.hid (show (wNumsA 1 [sh] (wList 2 fRow rows s)).2.length + 8 + 8 * L.length ≤ 140737488355328 by omega)
  clear h ht hr hs hn q1 q2
  go_enter Tryz.func85, Tryz.ntmps85
  go_upto_region 1 with (fail)
  change Code.wp _ _ _ _ (w.alloc (.cells (tabA A rows.length c Af L.length cf sh) 35))
  generalize w.heap.size = gb at *
  generalize w.alloc (.cells (tabA A rows.length c Af L.length cf sh) 35) = w1 at *
  have HN := Lib.hid ((wlRow_any 2 A rows.length c (rowF rows) 157 4104 (fun k => fRow (rowF rows k)) w1 HX0.out.wi ((HT.out.rows.keep fun k hk _ => HX0.out.kp.block k hk).weak fun _ hk => .inl hk) (fun _ _ => by go_simp) (fun k t hk => by have h1 := fRow_len (rowF rows k) t; have h2 := (HR.out _ (rowF_mem hk)).1; unfold cRow at h1; omega) hrl H1.out (fun k t X Ai ci hk hx hw hkp hl => wbucket_any Ai ci (rowF rows k) X hw hx (HR.out _ (rowF_mem hk)).2 (by have h2 := (HR.out _ (rowF_mem hk)).1; unfold cRow; omega))).mono fun _ _ k => HX0.out.step k)
  have hc := HX0.out.ptr
  have d0 := HX0.out.bx.c 0
  have d1 := HX0.out.bx.c 1
  have d2 := HX0.out.bx.c 2
  simp only [List.getElem?_toArray, List.getElem?_cons_zero, List.getElem?_cons_succ] at d0 d1 d2
  go_upto_region 2 with (go_at_call 156; (with_reducible refine (HN.out).mono ?_); rintro en wn ⟨rfl, hw⟩; have HX1 := Lib.hid (show Wx w F G g gb _ _ (wList 2 fRow rows s) _ from (wListF_list 2 rows [] fRow s) ▸ hw); clear hw)
  clear HN hc d0 d1 d2 HX0
  have HN := Lib.hid (HX1.out.nums1d 1 sh HS.out H2.out)
  refine wp_region_held_drew (S := WX w F G g gb (tabA A rows.length c Af L.length cf sh) 35) (by kernel_rfl) ⟨_, HX1.out.drew⟩ (fun hHeld0 => ?_)
  refine take_at (i := 0) (d := 10) (v := .pointer (some ⟨G, 0, none⟩)) rfl rfl (by kernel_rfl) (by kernel_rfl) (by kernel_rfl) (fun _ _ _ h => h) (Or.inl ⟨by rfl, ?_⟩) (by assumption) ?_
  · intro X hX; go_simp
  (try simp only [Act.put, List.setIfInBounds_toArray, List.set_cons_zero, List.set_cons_succ])
  refine take_at (i := 1) (d := 11) (v := .pointer (some ⟨G, 0, none⟩)) rfl rfl (by kernel_rfl) (by kernel_rfl) (by kernel_rfl) (fun _ _ _ h => h) (Or.inl ⟨by rfl, ?_⟩) (by assumption) ?_
  · intro X hX; go_simp
  (try simp only [Act.put, List.setIfInBounds_toArray, List.set_cons_zero, List.set_cons_succ])
  refine take_at (i := 2) (d := 12) (v := .pointer (some ⟨G, 0, none⟩)) rfl rfl (by kernel_rfl) (by kernel_rfl) (by kernel_rfl) (fun _ _ _ h => h) (Or.inl ⟨by rfl, ?_⟩) (by assumption) ?_
  · intro X hX; go_simp
  (try simp only [Act.put, List.setIfInBounds_toArray, List.set_cons_zero, List.set_cons_succ])
  refine take_at (i := 3) (d := 13) (v := .pointer (some ⟨g, 0, none⟩)) rfl rfl (by kernel_rfl) (by kernel_rfl) (by kernel_rfl) (fun _ _ _ h => h) (Or.inl ⟨by rfl, ?_⟩) (by assumption) ?_
  · intro X hX; obtain ⟨t, hW⟩ := hX; have hc := hW.ptr; have d0 := hW.bx.c 0; have d1 := hW.bx.c 1; have d2 := hW.bx.c 2; simp only [List.getElem?_toArray, List.getElem?_cons_zero, List.getElem?_cons_succ] at d0 d1 d2; go_simp
  (try simp only [Act.put, List.setIfInBounds_toArray, List.set_cons_zero, List.set_cons_succ])
  refine take_at (i := 4) (d := 14) (v := .pointer (some ⟨gb, 1, none⟩)) rfl rfl (by kernel_rfl) (by kernel_rfl) (by kernel_rfl) (fun _ _ _ h => h) (Or.inl ⟨by rfl, ?_⟩) (by assumption) ?_
  · intro X hX; go_simp
  (try simp only [Act.put, List.setIfInBounds_toArray, List.set_cons_zero, List.set_cons_succ])
  refine take_at (i := 5) (d := 15) (v := .pointer (some ⟨gb, 2, none⟩)) rfl rfl (by kernel_rfl) (by kernel_rfl) (by kernel_rfl) (fun _ _ _ h => h) (Or.inl ⟨by rfl, ?_⟩) (by assumption) ?_
  · intro X hX; go_simp
  (try simp only [Act.put, List.setIfInBounds_toArray, List.set_cons_zero, List.set_cons_succ])
  refine take_at (i := 6) (d := 16) (v := .int .i64 sh) rfl rfl (by kernel_rfl) (by kernel_rfl) (by kernel_rfl) (fun _ _ _ h => h) (Or.inl ⟨by rfl, ?_⟩) (by assumption) ?_
  · intro X hX; obtain ⟨t, hW⟩ := hX; have hc := hW.ptr; have d0 := hW.bx.c 0; have d1 := hW.bx.c 1; have d2 := hW.bx.c 2; simp only [List.getElem?_toArray, List.getElem?_cons_zero, List.getElem?_cons_succ] at d0 d1 d2; go_simp
  (try simp only [Act.put, List.setIfInBounds_toArray, List.set_cons_zero, List.set_cons_succ])
  refine wpAnyH_ready (rs := [7]) (by kernel_rfl) (by simp) ?_
  refine AllReadyH.cons rfl (fun K hK => ?_) AllReadyH.nil
  go_simp
  refine hK.out _ _ (hHeld0.new _) (fun hHeld1 => ?_)
  clear hK K
  (try simp only [Act.put, List.setIfInBounds_toArray, List.set_cons_zero, List.set_cons_succ])
  refine wpAnyH_ready (rs := [8]) (by kernel_rfl) (by simp) ?_
  refine AllReadyH.cons rfl (fun K hK => ?_) AllReadyH.nil
  go_simp
  refine (HN.out).mono ?_
  rintro en wn ⟨rfl, hw⟩
  have HY2 := Lib.hid hw
  go_simp
  refine hK.out _ _ (⟨_, hw⟩) (fun hHeld2 => ?_)
  clear hK K
  (try simp only [Act.put, List.setIfInBounds_toArray, List.set_cons_zero, List.set_cons_succ])
  refine wpAnyH_done (by kernel_rfl) ?_ _
  have HX2 := Lib.hid (show Wx w F G g gb _ _ (wNumsA 1 [sh] (wList 2 fRow rows s)) _ from HY2.out)
  clear HN HY2 HX1 hHeld0
  go_upto_region 3 with (fail)
  have HN := Lib.hid ((wlWord_any 1 Af L.length cf L 159 8 (fun k => fWd (L.getD k 0)) _ HX2.out.wi ((HT.out.words.kp HX2.out.kp).weak fun _ hk => .inl hk) (fun _ _ => by go_simp) (fun k t _ => fWd_len _ t) hL H3.out (fun k t X hk hw hkp hl => wword_any (L.getD k 0) X hw hl)).mono fun _ _ k => HX2.out.step k)
  have hc := HX2.out.ptr
  have d0 := HX2.out.bx.c 0
  have d1 := HX2.out.bx.c 1
  have d2 := HX2.out.bx.c 2
  simp only [List.getElem?_toArray, List.getElem?_cons_zero, List.getElem?_cons_succ] at d0 d1 d2
  go_upto_region 99 with (go_at_call 158; (with_reducible refine (HN.out).mono ?_); rintro en wn ⟨rfl, hw⟩; have HX3 := Lib.hid (show Wx w F G g gb _ _ (fTab rows L sh s) _ from (wListF_list 1 L 0 fWd _) ▸ hw); clear hw)
  clear HN hc d0 d1 d2 HX2
  try go_wp2_with fail
  first | go_end0 | skip
  exact HX3.out.done
end Go.Proofs.YtfljignkjmabpaaGreat

namespace Go.Proofs.YtfljignkjmabpaaGreat
set_option maxRecDepth 100000
set_option linter.unusedSimpArgs false
set_option linter.unusedVariables false
open Go.RowKit

/-- What is not too long to be written: of every image that may be. -/
structure Mod (x : Im) : Prop where
  name : x.name.length ≤ 64
  segs : x.segs.length ≤ 8 ∧ ∀ s ∈ x.segs, s.bs.length ≤ 65536
  needed : x.needed.length ≤ 16 ∧ ∀ s ∈ x.needed, cNd s ≤ 1400
  run : x.run.length ≤ 16 ∧ cTx x.run ≤ 4000
  syms : x.syms.length ≤ 512 ∧ ∀ s ∈ x.syms, cSym s ≤ 200
  rows : x.rows.length ≤ 512 ∧ ∀ r ∈ x.rows, r.length ≤ 512
  words : x.words.length ≤ 64
  relocs : x.relocs.length ≤ 512
  slots : x.slots.length ≤ 128
  init : x.init.length ≤ 8
  fini : x.fini.length ≤ 8
  tls : x.tls.length ≤ 4096
/-- Each of its numbers is an int. -/
structure Int64 (x : Im) : Prop where
  flags : I64 x.flags
  seg : ∀ s ∈ x.segs, I64 s.at_ ∧ I64 s.size ∧ I64 s.perm
  sym : ∀ s ∈ x.syms, I64 s.kind ∧ I64 s.vis ∧ I64 s.val ∧ I64 s.size
  row : ∀ r ∈ x.rows, ∀ i ∈ r, I64 i
  shift : I64 x.shift
  reloc : ∀ r ∈ x.relocs, I64 r.at_ ∧ I64 r.kind ∧ I64 r.sym ∧ I64 r.add
  slot : ∀ s ∈ x.slots, I64 s.at_ ∧ I64 s.sym ∧ I64 s.stub
  inits : ∀ i ∈ x.init, I64 i
  finis : ∀ i ∈ x.fini, I64 i
  tlsSize : I64 x.tlsSize
theorem Fit.int {x : Im} (h : Fit x) : Int64 x := ⟨h.flags, fun s hs => ⟨(h.seg s hs).1, (h.seg s hs).2.1, (h.seg s hs).2.2.1⟩, fun s hs => ⟨(h.sym s hs).2.2.1, (h.sym s hs).2.2.2.1, (h.sym s hs).2.2.2.2⟩, fun r hr => (h.row r hr).2, h.shift, h.reloc, h.slot, h.inits, h.finis, h.tlsSize⟩
abbrev mark : Str := [99, 108, 101, 118, 105, 115, 49]
def im1 (x : Im) (s : St) : St := wTexts [mark, x.name] s
theorem im1_len {x : Im} (m : Mod x) (s : St) : (im1 x s).2.length ≤ s.2.length + 87 := by
  have q := wTexts_len [mark, x.name] s
  have q2 : room [mark, x.name] = 15 + (x.name.length + 8) := by (simp [room]; done)
  have := m.name
  unfold im1
  omega
def im2 (x : Im) (s : St) : St := wNumsA 1 [x.flags] (im1 x s)
theorem im2_len {x : Im} (m : Mod x) (s : St) : (im2 x s).2.length ≤ s.2.length + 95 := by
  have p := im1_len m s
  have q := wNumsA_len 1 [x.flags] (im1 x s)
  simp only [List.length_cons, List.length_nil] at q
  unfold im2
  omega
def im3 (x : Im) (s : St) : St := wList 1 fSg x.segs (im2 x s)
theorem im3_len {x : Im} (m : Mod x) (s : St) : (im3 x s).2.length ≤ s.2.length + 524695 := by
  have p := im2_len m s
  have q := wList_len 1 fSg x.segs (im2 x s) 65568 (fun y hy t => by have h1 := fSg_len y t; have h2 := m.segs.2 y hy; unfold cSg at h1; omega)
  have q2 := m.segs.1
  unfold im3
  omega
def im4 (x : Im) (s : St) : St := wList 1 fNd x.needed (im3 x s)
theorem im4_len {x : Im} (m : Mod x) (s : St) : (im4 x s).2.length ≤ s.2.length + 547103 := by
  have p := im3_len m s
  have q := wList_len 1 fNd x.needed (im3 x s) 1400 (fun y hy t => by have h1 := fNd_len y t; have h2 := m.needed.2 y hy; omega)
  have q2 := m.needed.1
  unfold im4
  omega
def im5 (x : Im) (s : St) : St := fTx x.run (im4 x s)
theorem im5_len {x : Im} (m : Mod x) (s : St) : (im5 x s).2.length ≤ s.2.length + 551103 := by
  have p := im4_len m s
  have q := fTx_len x.run (im4 x s)
  have q2 := m.run.2
  unfold im5
  omega
def im6 (x : Im) (s : St) : St := wList 2 fSym x.syms (im5 x s)
theorem im6_len {x : Im} (m : Mod x) (s : St) : (im6 x s).2.length ≤ s.2.length + 653511 := by
  have p := im5_len m s
  have q := wList_len 2 fSym x.syms (im5 x s) 200 (fun y hy t => by have h1 := fSym_len y t; have h2 := m.syms.2 y hy; omega)
  have q2 := m.syms.1
  unfold im6
  omega
def im7 (x : Im) (s : St) : St := fTab x.rows x.words x.shift (im6 x s)
theorem im7_len {x : Im} (m : Mod x) (s : St) : (im7 x s).2.length ≤ s.2.length + 2755295 := by
  have p := im6_len m s
  have q := fTab_len (rows := x.rows) (L := x.words) (sh := x.shift) (im6 x s) m.rows.2
  have q2 := m.rows.1
  have q3 := m.words
  unfold im7
  omega
def im8 (x : Im) (s : St) : St := wList 2 fRl x.relocs (im7 x s)
theorem im8_len {x : Im} (m : Mod x) (s : St) : (im8 x s).2.length ≤ s.2.length + 2771687 := by
  have p := im7_len m s
  have q := wList_len 2 fRl x.relocs (im7 x s) 32 (fun y hy t => fRl_len y t)
  have q2 := m.relocs
  unfold im8
  omega
def im9 (x : Im) (s : St) : St := wList 2 fSl x.slots (im8 x s)
theorem im9_len {x : Im} (m : Mod x) (s : St) : (im9 x s).2.length ≤ s.2.length + 2774767 := by
  have p := im8_len m s
  have q := wList_len 2 fSl x.slots (im8 x s) 24 (fun y hy t => fSl_len y t)
  have q2 := m.slots
  unfold im9
  omega
def im10 (x : Im) (s : St) : St := fRuns x.init (im9 x s)
theorem im10_len {x : Im} (m : Mod x) (s : St) : (im10 x s).2.length ≤ s.2.length + 2774839 := by
  have p := im9_len m s
  have q := fRuns_len x.init (im9 x s)
  have q2 := m.init
  unfold cRow at q
  unfold im10
  omega
def im11 (x : Im) (s : St) : St := fRuns x.fini (im10 x s)
theorem im11_len {x : Im} (m : Mod x) (s : St) : (im11 x s).2.length ≤ s.2.length + 2774911 := by
  have p := im10_len m s
  have q := fRuns_len x.fini (im10 x s)
  have q2 := m.fini
  unfold cRow at q
  unfold im11
  omega
def im12 (x : Im) (s : St) : St := wNumsA 2 [x.tlsSize] (im11 x s)
theorem im12_len {x : Im} (m : Mod x) (s : St) : (im12 x s).2.length ≤ s.2.length + 2774919 := by
  have p := im11_len m s
  have q := wNumsA_len 2 [x.tlsSize] (im11 x s)
  simp only [List.length_cons, List.length_nil] at q
  unfold im12
  omega
def im13 (x : Im) (s : St) : St := wMeas 4 1048576 x.tls (im12 x s)
theorem im13_len {x : Im} (m : Mod x) (s : St) : (im13 x s).2.length ≤ s.2.length + 2779023 := by
  have p := im12_len m s
  have q := wMeas_len 4 1048576 x.tls (im12 x s) (by omega)
  have q2 := m.tls
  unfold im13
  omega
/-- An image's bytes, behind what was written. -/
abbrev imAll (x : Im) (s : St) : St := im13 x s
set_option maxHeartbeats 4000000 in
theorem wimage_any {F : Nat → Prop} {G g : Nat} {s : St} (p : Pl) (x : Im) (w : World) (h : Wi w F G g s) (hx : ImIn w F p x) (m : Mod x) (hi : Int64 x) (hn : s.2.length + 5779023 ≤ 140737488355328) :
    Calls Tryz.prog 23 #[.pointer (some ⟨G, 0, none⟩), imV p x] w (Wro w F G g (im13 x s)) := by
  have HX0 := Lib.hid (Wx.new h (imA p x) 40)
  have HI := Lib.hid hi
  have HM := Lib.hid m
  have HIM := Lib.hid hx
  obtain ⟨BS, hs1, hs2⟩ := hx.segs.ex
  obtain ⟨BN, hn1, hn2⟩ := hx.needed.ex
  have HS1 := Lib.hid hs1
  have HS2 := Lib.hid hs2
  have HN1 := Lib.hid hn1
  have HN2 := Lib.hid hn2
  have L1 := Lib.hid (show (im1 x s).2.length + 2990000 ≤ 140737488355328 by have := im1_len m s; omega)
  have L2 := Lib.hid (show (im2 x s).2.length + 2990000 ≤ 140737488355328 by have := im2_len m s; omega)
  have L3 := Lib.hid (show (im3 x s).2.length + 2990000 ≤ 140737488355328 by have := im3_len m s; omega)
  have L4 := Lib.hid (show (im4 x s).2.length + 2990000 ≤ 140737488355328 by have := im4_len m s; omega)
  have L5 := Lib.hid (show (im5 x s).2.length + 2990000 ≤ 140737488355328 by have := im5_len m s; omega)
  have L6 := Lib.hid (show (im6 x s).2.length + 2990000 ≤ 140737488355328 by have := im6_len m s; omega)
  have L7 := Lib.hid (show (im7 x s).2.length + 2990000 ≤ 140737488355328 by have := im7_len m s; omega)
  have L8 := Lib.hid (show (im8 x s).2.length + 2990000 ≤ 140737488355328 by have := im8_len m s; omega)
  have L9 := Lib.hid (show (im9 x s).2.length + 2990000 ≤ 140737488355328 by have := im9_len m s; omega)
  have L10 := Lib.hid (show (im10 x s).2.length + 2990000 ≤ 140737488355328 by have := im10_len m s; omega)
  have L11 := Lib.hid (show (im11 x s).2.length + 2990000 ≤ 140737488355328 by have := im11_len m s; omega)
  have L12 := Lib.hid (show (im12 x s).2.length + 2990000 ≤ 140737488355328 by have := im12_len m s; omega)
  have L13 := Lib.hid (show (im13 x s).2.length + 2990000 ≤ 140737488355328 by have := im13_len m s; omega)
  have L0 := Lib.hid (show s.2.length + 2990000 ≤ 140737488355328 by omega)
  clear h hx m hi hn hs1 hs2 hn1 hn2
  go_enter Tryz.func23, Tryz.ntmps23
  go_upto_region 1 with (fail)
  change Code.wp _ _ _ _ (w.alloc (.cells (imA p x) 40))
  generalize w.heap.size = gb at *
  generalize w.alloc (.cells (imA p x) 40) = w1 at *
  have HN := Lib.hid (HX0.out.texts2d mark x.name (by have := HM.out.name; have := L0.out; simp; omega))
  refine wp_region_held_drew (S := WX w F G g gb (imA p x) 40) (by kernel_rfl) ⟨_, HX0.out.drew⟩ (fun hHeld0 => ?_)
  refine take_at (i := 0) (d := 4) (v := .pointer (some ⟨G, 0, none⟩)) rfl rfl (by kernel_rfl) (by kernel_rfl) (by kernel_rfl) (fun _ _ _ h => h) (Or.inl ⟨by rfl, ?_⟩) (by assumption) ?_
  · intro X hX; go_simp
  (try simp only [Act.put, List.setIfInBounds_toArray, List.set_cons_zero, List.set_cons_succ])
  refine take_at (i := 1) (d := 5) (v := .pointer (some ⟨G, 0, none⟩)) rfl rfl (by kernel_rfl) (by kernel_rfl) (by kernel_rfl) (fun _ _ _ h => h) (Or.inl ⟨by rfl, ?_⟩) (by assumption) ?_
  · intro X hX; go_simp
  (try simp only [Act.put, List.setIfInBounds_toArray, List.set_cons_zero, List.set_cons_succ])
  refine take_at (i := 2) (d := 6) (v := .pointer (some ⟨G, 0, none⟩)) rfl rfl (by kernel_rfl) (by kernel_rfl) (by kernel_rfl) (fun _ _ _ h => h) (Or.inl ⟨by rfl, ?_⟩) (by assumption) ?_
  · intro X hX; go_simp
  (try simp only [Act.put, List.setIfInBounds_toArray, List.set_cons_zero, List.set_cons_succ])
  refine take_at (i := 3) (d := 7) (v := .pointer (some ⟨g, 0, none⟩)) rfl rfl (by kernel_rfl) (by kernel_rfl) (by kernel_rfl) (fun _ _ _ h => h) (Or.inl ⟨by rfl, ?_⟩) (by assumption) ?_
  · intro X hX; obtain ⟨t, hW⟩ := hX; have hc := hW.ptr; have d0 := hW.bx.c 0; have d1 := hW.bx.c 1; have d2 := hW.bx.c 2; have d3 := hW.bx.c 3; have d4 := hW.bx.c 4; have d5 := hW.bx.c 5; have d6 := hW.bx.c 6; have d7 := hW.bx.c 7; have d8 := hW.bx.c 8; have d9 := hW.bx.c 9; have d10 := hW.bx.c 10; have d11 := hW.bx.c 11; have d12 := hW.bx.c 12; have d13 := hW.bx.c 13; have d14 := hW.bx.c 14; simp only [List.getElem?_toArray, List.getElem?_cons_zero, List.getElem?_cons_succ] at d0 d1 d2 d3 d4 d5 d6 d7 d8 d9 d10 d11 d12 d13 d14; go_simp
  (try simp only [Act.put, List.setIfInBounds_toArray, List.set_cons_zero, List.set_cons_succ])
  refine take_at (i := 4) (d := 8) (v := .pointer (some ⟨gb, 0, none⟩)) rfl rfl (by kernel_rfl) (by kernel_rfl) (by kernel_rfl) (fun _ _ _ h => h) (Or.inl ⟨by rfl, ?_⟩) (by assumption) ?_
  · intro X hX; go_simp
  (try simp only [Act.put, List.setIfInBounds_toArray, List.set_cons_zero, List.set_cons_succ])
  refine take_at (i := 5) (d := 9) (v := str x.name) rfl rfl (by kernel_rfl) (by kernel_rfl) (by kernel_rfl) (fun _ _ _ h => h) (Or.inl ⟨by rfl, ?_⟩) (by assumption) ?_
  · intro X hX; obtain ⟨t, hW⟩ := hX; have hc := hW.ptr; have d0 := hW.bx.c 0; have d1 := hW.bx.c 1; have d2 := hW.bx.c 2; have d3 := hW.bx.c 3; have d4 := hW.bx.c 4; have d5 := hW.bx.c 5; have d6 := hW.bx.c 6; have d7 := hW.bx.c 7; have d8 := hW.bx.c 8; have d9 := hW.bx.c 9; have d10 := hW.bx.c 10; have d11 := hW.bx.c 11; have d12 := hW.bx.c 12; have d13 := hW.bx.c 13; have d14 := hW.bx.c 14; simp only [List.getElem?_toArray, List.getElem?_cons_zero, List.getElem?_cons_succ] at d0 d1 d2 d3 d4 d5 d6 d7 d8 d9 d10 d11 d12 d13 d14; go_simp
  (try simp only [Act.put, List.setIfInBounds_toArray, List.set_cons_zero, List.set_cons_succ])
  refine wpAnyH_ready (rs := [6]) (by kernel_rfl) (by simp) ?_
  refine AllReadyH.cons rfl (fun K hK => ?_) AllReadyH.nil
  go_simp
  refine hK.out _ _ (hHeld0.new _) (fun hHeld1 => ?_)
  clear hK K
  (try simp only [Act.put, List.setIfInBounds_toArray, List.set_cons_zero, List.set_cons_succ])
  refine wpAnyH_ready (rs := [7]) (by kernel_rfl) (by simp) ?_
  refine AllReadyH.cons rfl (fun K hK => ?_) AllReadyH.nil
  go_simp
  refine (HN.out).mono ?_
  rintro en wn ⟨rfl, hw⟩
  have HY1 := Lib.hid hw
  go_simp
  refine hK.out _ _ (⟨_, hw⟩) (fun hHeld2 => ?_)
  clear hK K
  (try simp only [Act.put, List.setIfInBounds_toArray, List.set_cons_zero, List.set_cons_succ])
  refine wpAnyH_done (by kernel_rfl) ?_ _
  have HX1 := Lib.hid (show Wx w F G g gb _ _ (im1 x s) _ from HY1.out)
  clear HN HY1 HX0 hHeld0
  go_upto_region 2 with (fail)
  have HN := Lib.hid (HX1.out.nums1d 1 x.flags HI.out.flags (by have := L1.out; omega))
  refine wp_region_held_drew (S := WX w F G g gb (imA p x) 40) (by kernel_rfl) ⟨_, HX1.out.drew⟩ (fun hHeld0 => ?_)
  refine take_at (i := 0) (d := 12) (v := .pointer (some ⟨G, 0, none⟩)) rfl rfl (by kernel_rfl) (by kernel_rfl) (by kernel_rfl) (fun _ _ _ h => h) (Or.inl ⟨by rfl, ?_⟩) (by assumption) ?_
  · intro X hX; go_simp
  (try simp only [Act.put, List.setIfInBounds_toArray, List.set_cons_zero, List.set_cons_succ])
  refine take_at (i := 1) (d := 13) (v := .pointer (some ⟨G, 0, none⟩)) rfl rfl (by kernel_rfl) (by kernel_rfl) (by kernel_rfl) (fun _ _ _ h => h) (Or.inl ⟨by rfl, ?_⟩) (by assumption) ?_
  · intro X hX; go_simp
  (try simp only [Act.put, List.setIfInBounds_toArray, List.set_cons_zero, List.set_cons_succ])
  refine take_at (i := 2) (d := 14) (v := .pointer (some ⟨G, 0, none⟩)) rfl rfl (by kernel_rfl) (by kernel_rfl) (by kernel_rfl) (fun _ _ _ h => h) (Or.inl ⟨by rfl, ?_⟩) (by assumption) ?_
  · intro X hX; go_simp
  (try simp only [Act.put, List.setIfInBounds_toArray, List.set_cons_zero, List.set_cons_succ])
  refine take_at (i := 3) (d := 15) (v := .pointer (some ⟨g, 0, none⟩)) rfl rfl (by kernel_rfl) (by kernel_rfl) (by kernel_rfl) (fun _ _ _ h => h) (Or.inl ⟨by rfl, ?_⟩) (by assumption) ?_
  · intro X hX; obtain ⟨t, hW⟩ := hX; have hc := hW.ptr; have d0 := hW.bx.c 0; have d1 := hW.bx.c 1; have d2 := hW.bx.c 2; have d3 := hW.bx.c 3; have d4 := hW.bx.c 4; have d5 := hW.bx.c 5; have d6 := hW.bx.c 6; have d7 := hW.bx.c 7; have d8 := hW.bx.c 8; have d9 := hW.bx.c 9; have d10 := hW.bx.c 10; have d11 := hW.bx.c 11; have d12 := hW.bx.c 12; have d13 := hW.bx.c 13; have d14 := hW.bx.c 14; simp only [List.getElem?_toArray, List.getElem?_cons_zero, List.getElem?_cons_succ] at d0 d1 d2 d3 d4 d5 d6 d7 d8 d9 d10 d11 d12 d13 d14; go_simp
  (try simp only [Act.put, List.setIfInBounds_toArray, List.set_cons_zero, List.set_cons_succ])
  refine take_at (i := 4) (d := 16) (v := .pointer (some ⟨gb, 1, none⟩)) rfl rfl (by kernel_rfl) (by kernel_rfl) (by kernel_rfl) (fun _ _ _ h => h) (Or.inl ⟨by rfl, ?_⟩) (by assumption) ?_
  · intro X hX; go_simp
  (try simp only [Act.put, List.setIfInBounds_toArray, List.set_cons_zero, List.set_cons_succ])
  refine take_at (i := 5) (d := 17) (v := .int .i64 x.flags) rfl rfl (by kernel_rfl) (by kernel_rfl) (by kernel_rfl) (fun _ _ _ h => h) (Or.inl ⟨by rfl, ?_⟩) (by assumption) ?_
  · intro X hX; obtain ⟨t, hW⟩ := hX; have hc := hW.ptr; have d0 := hW.bx.c 0; have d1 := hW.bx.c 1; have d2 := hW.bx.c 2; have d3 := hW.bx.c 3; have d4 := hW.bx.c 4; have d5 := hW.bx.c 5; have d6 := hW.bx.c 6; have d7 := hW.bx.c 7; have d8 := hW.bx.c 8; have d9 := hW.bx.c 9; have d10 := hW.bx.c 10; have d11 := hW.bx.c 11; have d12 := hW.bx.c 12; have d13 := hW.bx.c 13; have d14 := hW.bx.c 14; simp only [List.getElem?_toArray, List.getElem?_cons_zero, List.getElem?_cons_succ] at d0 d1 d2 d3 d4 d5 d6 d7 d8 d9 d10 d11 d12 d13 d14; go_simp
  (try simp only [Act.put, List.setIfInBounds_toArray, List.set_cons_zero, List.set_cons_succ])
  refine wpAnyH_ready (rs := [6]) (by kernel_rfl) (by simp) ?_
  refine AllReadyH.cons rfl (fun K hK => ?_) AllReadyH.nil
  go_simp
  refine hK.out _ _ (hHeld0.new _) (fun hHeld1 => ?_)
  clear hK K
  (try simp only [Act.put, List.setIfInBounds_toArray, List.set_cons_zero, List.set_cons_succ])
  refine wpAnyH_ready (rs := [7]) (by kernel_rfl) (by simp) ?_
  refine AllReadyH.cons rfl (fun K hK => ?_) AllReadyH.nil
  go_simp
  refine (HN.out).mono ?_
  rintro en wn ⟨rfl, hw⟩
  have HY2 := Lib.hid hw
  go_simp
  refine hK.out _ _ (⟨_, hw⟩) (fun hHeld2 => ?_)
  clear hK K
  (try simp only [Act.put, List.setIfInBounds_toArray, List.set_cons_zero, List.set_cons_succ])
  refine wpAnyH_done (by kernel_rfl) ?_ _
  have HX2 := Lib.hid (show Wx w F G g gb _ _ (im2 x s) _ from HY2.out)
  clear HN HY2 HX1 hHeld0
  go_upto_region 3 with (fail)
  have HN := Lib.hid ((wlSeg_any 1 p.sg.1 x.segs.length p.sg.2 x.segs BS 79 65568 (fun k => fSg (x.segs.getD k noSg)) _ HX2.out.wi ((HS1.out.keep fun k hk _ => HX2.out.kp.block k hk).weak fun _ hk => .inl hk) (fun _ _ => by go_simp) (fun k t hk => by have h1 := fSg_len (x.segs.getD k noSg) t; have h2 := HM.out.segs.2 _ (getD_mem (d := noSg) hk); unfold cSg at h1; omega) (by have := HM.out.segs.1; omega) (by have := HM.out.segs.1; have := L2.out; omega) (fun k t X hk hw hkp hl => wseg_any (x.segs.getD k noSg) (BS k) X hw (((HS2.out k hk).kp HX2.out.kp |>.weak fun _ hk => .inl hk).kp hkp) (HI.out.seg _ (getD_mem (d := noSg) hk)) (by have h2 := HM.out.segs.2 _ (getD_mem (d := noSg) hk); unfold cSg; omega))).mono fun _ _ k => HX2.out.step k)
  have hc := HX2.out.ptr
  have d0 := HX2.out.bx.c 0
  have d1 := HX2.out.bx.c 1
  have d2 := HX2.out.bx.c 2
  have d3 := HX2.out.bx.c 3
  have d4 := HX2.out.bx.c 4
  have d5 := HX2.out.bx.c 5
  have d6 := HX2.out.bx.c 6
  have d7 := HX2.out.bx.c 7
  have d8 := HX2.out.bx.c 8
  have d9 := HX2.out.bx.c 9
  have d10 := HX2.out.bx.c 10
  have d11 := HX2.out.bx.c 11
  have d12 := HX2.out.bx.c 12
  have d13 := HX2.out.bx.c 13
  have d14 := HX2.out.bx.c 14
  simp only [List.getElem?_toArray, List.getElem?_cons_zero, List.getElem?_cons_succ] at d0 d1 d2 d3 d4 d5 d6 d7 d8 d9 d10 d11 d12 d13 d14
  go_upto_region 4 with (go_at_call 78; (with_reducible refine (HN.out).mono ?_); rintro en wn ⟨rfl, hw⟩; have HX3 := Lib.hid (show Wx w F G g gb _ _ (im3 x s) _ from (wListF_list 1 x.segs noSg fSg _) ▸ hw); clear hw)
  clear HN hc d0 d1 d2 d3 d4 d5 d6 d7 d8 d9 d10 d11 d12 d13 d14 HX2
  have HN := Lib.hid ((wlNeed_any 1 p.nd.1 x.needed.length p.nd.2 x.needed BN 81 1400 (fun k => fNd (x.needed.getD k noNd)) _ HX3.out.wi ((HN1.out.keep fun k hk _ => HX3.out.kp.block k hk).weak fun _ hk => .inl hk) (fun _ _ => by go_simp) (fun k t hk => by have h1 := fNd_len (x.needed.getD k noNd) t; have h2 := HM.out.needed.2 _ (getD_mem (d := noNd) hk); omega) (by have := HM.out.needed.1; omega) (by have := HM.out.needed.1; have := L3.out; omega) (fun k t X hk hw hkp hl => wneed_any (x.needed.getD k noNd) (BN k) X hw (((HN2.out k hk).kp HX3.out.kp |>.weak fun _ hk => .inl hk).kp hkp) (by have h2 := HM.out.needed.2 _ (getD_mem (d := noNd) hk); omega))).mono fun _ _ k => HX3.out.step k)
  have hc := HX3.out.ptr
  have d0 := HX3.out.bx.c 0
  have d1 := HX3.out.bx.c 1
  have d2 := HX3.out.bx.c 2
  have d3 := HX3.out.bx.c 3
  have d4 := HX3.out.bx.c 4
  have d5 := HX3.out.bx.c 5
  have d6 := HX3.out.bx.c 6
  have d7 := HX3.out.bx.c 7
  have d8 := HX3.out.bx.c 8
  have d9 := HX3.out.bx.c 9
  have d10 := HX3.out.bx.c 10
  have d11 := HX3.out.bx.c 11
  have d12 := HX3.out.bx.c 12
  have d13 := HX3.out.bx.c 13
  have d14 := HX3.out.bx.c 14
  simp only [List.getElem?_toArray, List.getElem?_cons_zero, List.getElem?_cons_succ] at d0 d1 d2 d3 d4 d5 d6 d7 d8 d9 d10 d11 d12 d13 d14
  go_upto_region 5 with (go_at_call 80; (with_reducible refine (HN.out).mono ?_); rintro en wn ⟨rfl, hw⟩; have HX4 := Lib.hid (show Wx w F G g gb _ _ (im4 x s) _ from (wListF_list 1 x.needed noNd fNd _) ▸ hw); clear hw)
  clear HN hc d0 d1 d2 d3 d4 d5 d6 d7 d8 d9 d10 d11 d12 d13 d14 HX3
  have HN := Lib.hid ((wtexts_any p.rp.1 p.rp.2 x.run _ HX4.out.wi ((HIM.out.run.kp HX4.out.kp).weak fun _ hk => .inl hk) (by have := HM.out.run.2; have := L4.out; omega)).mono fun _ _ k => HX4.out.step k)
  have hc := HX4.out.ptr
  have d0 := HX4.out.bx.c 0
  have d1 := HX4.out.bx.c 1
  have d2 := HX4.out.bx.c 2
  have d3 := HX4.out.bx.c 3
  have d4 := HX4.out.bx.c 4
  have d5 := HX4.out.bx.c 5
  have d6 := HX4.out.bx.c 6
  have d7 := HX4.out.bx.c 7
  have d8 := HX4.out.bx.c 8
  have d9 := HX4.out.bx.c 9
  have d10 := HX4.out.bx.c 10
  have d11 := HX4.out.bx.c 11
  have d12 := HX4.out.bx.c 12
  have d13 := HX4.out.bx.c 13
  have d14 := HX4.out.bx.c 14
  simp only [List.getElem?_toArray, List.getElem?_cons_zero, List.getElem?_cons_succ] at d0 d1 d2 d3 d4 d5 d6 d7 d8 d9 d10 d11 d12 d13 d14
  go_upto_region 6 with (go_at_call 82; (with_reducible refine (HN.out).mono ?_); rintro en wn ⟨rfl, hw⟩; have HX5 := Lib.hid (show Wx w F G g gb _ _ (im5 x s) _ from hw); clear hw)
  clear HN hc d0 d1 d2 d3 d4 d5 d6 d7 d8 d9 d10 d11 d12 d13 d14 HX4
  have HN := Lib.hid ((wlSym_any 2 p.sy.1 x.syms.length p.sy.2 x.syms 84 200 (fun k => fSym (x.syms.getD k noSy)) _ HX5.out.wi ((HIM.out.syms.els.keep fun k hk _ => HX5.out.kp.block k hk).weak fun _ hk => .inl hk) (fun _ _ => by go_simp) (fun k t hk => by have h1 := fSym_len (x.syms.getD k noSy) t; have h2 := HM.out.syms.2 _ (getD_mem (d := noSy) hk); omega) (by have := HM.out.syms.1; omega) (by have := HM.out.syms.1; have := L5.out; omega) (fun k t X hk hw hkp hl => wsymbol_any (x.syms.getD k noSy) X hw (HI.out.sym _ (getD_mem (d := noSy) hk)) (by have h2 := HM.out.syms.2 _ (getD_mem (d := noSy) hk); omega))).mono fun _ _ k => HX5.out.step k)
  have hc := HX5.out.ptr
  have d0 := HX5.out.bx.c 0
  have d1 := HX5.out.bx.c 1
  have d2 := HX5.out.bx.c 2
  have d3 := HX5.out.bx.c 3
  have d4 := HX5.out.bx.c 4
  have d5 := HX5.out.bx.c 5
  have d6 := HX5.out.bx.c 6
  have d7 := HX5.out.bx.c 7
  have d8 := HX5.out.bx.c 8
  have d9 := HX5.out.bx.c 9
  have d10 := HX5.out.bx.c 10
  have d11 := HX5.out.bx.c 11
  have d12 := HX5.out.bx.c 12
  have d13 := HX5.out.bx.c 13
  have d14 := HX5.out.bx.c 14
  simp only [List.getElem?_toArray, List.getElem?_cons_zero, List.getElem?_cons_succ] at d0 d1 d2 d3 d4 d5 d6 d7 d8 d9 d10 d11 d12 d13 d14
  go_upto_region 7 with (go_at_call 83; (with_reducible refine (HN.out).mono ?_); rintro en wn ⟨rfl, hw⟩; have HX6 := Lib.hid (show Wx w F G g gb _ _ (im6 x s) _ from (wListF_list 2 x.syms noSy fSym _) ▸ hw); clear hw)
  clear HN hc d0 d1 d2 d3 d4 d5 d6 d7 d8 d9 d10 d11 d12 d13 d14 HX5
  have HN := Lib.hid ((wtable_any p.bk.1 p.bk.2 p.fw.1 p.fw.2 x.rows x.words x.shift _ HX6.out.wi ((HIM.out.tab.keep fun k hk _ => HX6.out.kp.block k hk).weak fun _ hk => .inl hk) (fun r hr => ⟨HM.out.rows.2 r hr, HI.out.row r hr⟩) (by have := HM.out.rows.1; omega) (by have := HM.out.words; omega) HI.out.shift (by have := HM.out.rows.1; have := HM.out.words; have := L6.out; omega)).mono fun _ _ k => HX6.out.step k)
  have hc := HX6.out.ptr
  have d0 := HX6.out.bx.c 0
  have d1 := HX6.out.bx.c 1
  have d2 := HX6.out.bx.c 2
  have d3 := HX6.out.bx.c 3
  have d4 := HX6.out.bx.c 4
  have d5 := HX6.out.bx.c 5
  have d6 := HX6.out.bx.c 6
  have d7 := HX6.out.bx.c 7
  have d8 := HX6.out.bx.c 8
  have d9 := HX6.out.bx.c 9
  have d10 := HX6.out.bx.c 10
  have d11 := HX6.out.bx.c 11
  have d12 := HX6.out.bx.c 12
  have d13 := HX6.out.bx.c 13
  have d14 := HX6.out.bx.c 14
  simp only [List.getElem?_toArray, List.getElem?_cons_zero, List.getElem?_cons_succ] at d0 d1 d2 d3 d4 d5 d6 d7 d8 d9 d10 d11 d12 d13 d14
  go_upto_region 8 with (go_at_call 85; (with_reducible refine (HN.out).mono ?_); rintro en wn ⟨rfl, hw⟩; have HX7 := Lib.hid (show Wx w F G g gb _ _ (im7 x s) _ from hw); clear hw)
  clear HN hc d0 d1 d2 d3 d4 d5 d6 d7 d8 d9 d10 d11 d12 d13 d14 HX6
  have HN := Lib.hid ((wlRel_any 2 p.rl.1 x.relocs.length p.rl.2 x.relocs 87 32 (fun k => fRl (x.relocs.getD k noRl)) _ HX7.out.wi ((HIM.out.relocs.els.keep fun k hk _ => HX7.out.kp.block k hk).weak fun _ hk => .inl hk) (fun _ _ => by go_simp) (fun k t hk => fRl_len _ t) (by have := HM.out.relocs; omega) (by have := HM.out.relocs; have := L7.out; omega) (fun k t X hk hw hkp hl => wreloc_any (x.relocs.getD k noRl) X hw (HI.out.reloc _ (getD_mem (d := noRl) hk)) hl)).mono fun _ _ k => HX7.out.step k)
  have hc := HX7.out.ptr
  have d0 := HX7.out.bx.c 0
  have d1 := HX7.out.bx.c 1
  have d2 := HX7.out.bx.c 2
  have d3 := HX7.out.bx.c 3
  have d4 := HX7.out.bx.c 4
  have d5 := HX7.out.bx.c 5
  have d6 := HX7.out.bx.c 6
  have d7 := HX7.out.bx.c 7
  have d8 := HX7.out.bx.c 8
  have d9 := HX7.out.bx.c 9
  have d10 := HX7.out.bx.c 10
  have d11 := HX7.out.bx.c 11
  have d12 := HX7.out.bx.c 12
  have d13 := HX7.out.bx.c 13
  have d14 := HX7.out.bx.c 14
  simp only [List.getElem?_toArray, List.getElem?_cons_zero, List.getElem?_cons_succ] at d0 d1 d2 d3 d4 d5 d6 d7 d8 d9 d10 d11 d12 d13 d14
  go_upto_region 9 with (go_at_call 86; (with_reducible refine (HN.out).mono ?_); rintro en wn ⟨rfl, hw⟩; have HX8 := Lib.hid (show Wx w F G g gb _ _ (im8 x s) _ from (wListF_list 2 x.relocs noRl fRl _) ▸ hw); clear hw)
  clear HN hc d0 d1 d2 d3 d4 d5 d6 d7 d8 d9 d10 d11 d12 d13 d14 HX7
  have HN := Lib.hid ((wlSlot_any 2 p.sl.1 x.slots.length p.sl.2 x.slots 89 24 (fun k => fSl (x.slots.getD k noSl)) _ HX8.out.wi ((HIM.out.slots.els.keep fun k hk _ => HX8.out.kp.block k hk).weak fun _ hk => .inl hk) (fun _ _ => by go_simp) (fun k t hk => fSl_len _ t) (by have := HM.out.slots; omega) (by have := HM.out.slots; have := L8.out; omega) (fun k t X hk hw hkp hl => wslot_any (x.slots.getD k noSl) X hw (HI.out.slot _ (getD_mem (d := noSl) hk)) hl)).mono fun _ _ k => HX8.out.step k)
  have hc := HX8.out.ptr
  have d0 := HX8.out.bx.c 0
  have d1 := HX8.out.bx.c 1
  have d2 := HX8.out.bx.c 2
  have d3 := HX8.out.bx.c 3
  have d4 := HX8.out.bx.c 4
  have d5 := HX8.out.bx.c 5
  have d6 := HX8.out.bx.c 6
  have d7 := HX8.out.bx.c 7
  have d8 := HX8.out.bx.c 8
  have d9 := HX8.out.bx.c 9
  have d10 := HX8.out.bx.c 10
  have d11 := HX8.out.bx.c 11
  have d12 := HX8.out.bx.c 12
  have d13 := HX8.out.bx.c 13
  have d14 := HX8.out.bx.c 14
  simp only [List.getElem?_toArray, List.getElem?_cons_zero, List.getElem?_cons_succ] at d0 d1 d2 d3 d4 d5 d6 d7 d8 d9 d10 d11 d12 d13 d14
  go_upto_region 10 with (go_at_call 88; (with_reducible refine (HN.out).mono ?_); rintro en wn ⟨rfl, hw⟩; have HX9 := Lib.hid (show Wx w F G g gb _ _ (im9 x s) _ from (wListF_list 2 x.slots noSl fSl _) ▸ hw); clear hw)
  clear HN hc d0 d1 d2 d3 d4 d5 d6 d7 d8 d9 d10 d11 d12 d13 d14 HX8
  have HN := Lib.hid ((wruns_any p.ini.1 p.ini.2 x.init _ HX9.out.wi ((HIM.out.init.kp HX9.out.kp).weak fun _ hk => .inl hk) HI.out.inits (by have := HM.out.init; have := L9.out; unfold cRow; omega)).mono fun _ _ k => HX9.out.step k)
  have hc := HX9.out.ptr
  have d0 := HX9.out.bx.c 0
  have d1 := HX9.out.bx.c 1
  have d2 := HX9.out.bx.c 2
  have d3 := HX9.out.bx.c 3
  have d4 := HX9.out.bx.c 4
  have d5 := HX9.out.bx.c 5
  have d6 := HX9.out.bx.c 6
  have d7 := HX9.out.bx.c 7
  have d8 := HX9.out.bx.c 8
  have d9 := HX9.out.bx.c 9
  have d10 := HX9.out.bx.c 10
  have d11 := HX9.out.bx.c 11
  have d12 := HX9.out.bx.c 12
  have d13 := HX9.out.bx.c 13
  have d14 := HX9.out.bx.c 14
  simp only [List.getElem?_toArray, List.getElem?_cons_zero, List.getElem?_cons_succ] at d0 d1 d2 d3 d4 d5 d6 d7 d8 d9 d10 d11 d12 d13 d14
  go_upto_region 11 with (go_at_call 90; (with_reducible refine (HN.out).mono ?_); rintro en wn ⟨rfl, hw⟩; have HX10 := Lib.hid (show Wx w F G g gb _ _ (im10 x s) _ from hw); clear hw)
  clear HN hc d0 d1 d2 d3 d4 d5 d6 d7 d8 d9 d10 d11 d12 d13 d14 HX9
  have HN := Lib.hid ((wruns_any p.fin.1 p.fin.2 x.fini _ HX10.out.wi ((HIM.out.fini.kp HX10.out.kp).weak fun _ hk => .inl hk) HI.out.finis (by have := HM.out.fini; have := L10.out; unfold cRow; omega)).mono fun _ _ k => HX10.out.step k)
  have hc := HX10.out.ptr
  have d0 := HX10.out.bx.c 0
  have d1 := HX10.out.bx.c 1
  have d2 := HX10.out.bx.c 2
  have d3 := HX10.out.bx.c 3
  have d4 := HX10.out.bx.c 4
  have d5 := HX10.out.bx.c 5
  have d6 := HX10.out.bx.c 6
  have d7 := HX10.out.bx.c 7
  have d8 := HX10.out.bx.c 8
  have d9 := HX10.out.bx.c 9
  have d10 := HX10.out.bx.c 10
  have d11 := HX10.out.bx.c 11
  have d12 := HX10.out.bx.c 12
  have d13 := HX10.out.bx.c 13
  have d14 := HX10.out.bx.c 14
  simp only [List.getElem?_toArray, List.getElem?_cons_zero, List.getElem?_cons_succ] at d0 d1 d2 d3 d4 d5 d6 d7 d8 d9 d10 d11 d12 d13 d14
  go_upto_region 12 with (go_at_call 90; (with_reducible refine (HN.out).mono ?_); rintro en wn ⟨rfl, hw⟩; have HX11 := Lib.hid (show Wx w F G g gb _ _ (im11 x s) _ from hw); clear hw)
  clear HN hc d0 d1 d2 d3 d4 d5 d6 d7 d8 d9 d10 d11 d12 d13 d14 HX10
  have HN := Lib.hid (HX11.out.nums1d 2 x.tlsSize HI.out.tlsSize (by have := L11.out; omega))
  refine wp_region_held_drew (S := WX w F G g gb (imA p x) 40) (by kernel_rfl) ⟨_, HX11.out.drew⟩ (fun hHeld0 => ?_)
  refine take_at (i := 0) (d := 66) (v := .pointer (some ⟨G, 0, none⟩)) rfl rfl (by kernel_rfl) (by kernel_rfl) (by kernel_rfl) (fun _ _ _ h => h) (Or.inl ⟨by rfl, ?_⟩) (by assumption) ?_
  · intro X hX; go_simp
  (try simp only [Act.put, List.setIfInBounds_toArray, List.set_cons_zero, List.set_cons_succ])
  refine take_at (i := 1) (d := 67) (v := .pointer (some ⟨G, 0, none⟩)) rfl rfl (by kernel_rfl) (by kernel_rfl) (by kernel_rfl) (fun _ _ _ h => h) (Or.inl ⟨by rfl, ?_⟩) (by assumption) ?_
  · intro X hX; go_simp
  (try simp only [Act.put, List.setIfInBounds_toArray, List.set_cons_zero, List.set_cons_succ])
  refine take_at (i := 2) (d := 68) (v := .pointer (some ⟨G, 0, none⟩)) rfl rfl (by kernel_rfl) (by kernel_rfl) (by kernel_rfl) (fun _ _ _ h => h) (Or.inl ⟨by rfl, ?_⟩) (by assumption) ?_
  · intro X hX; go_simp
  (try simp only [Act.put, List.setIfInBounds_toArray, List.set_cons_zero, List.set_cons_succ])
  refine take_at (i := 3) (d := 69) (v := .pointer (some ⟨g, 0, none⟩)) rfl rfl (by kernel_rfl) (by kernel_rfl) (by kernel_rfl) (fun _ _ _ h => h) (Or.inl ⟨by rfl, ?_⟩) (by assumption) ?_
  · intro X hX; obtain ⟨t, hW⟩ := hX; have hc := hW.ptr; have d0 := hW.bx.c 0; have d1 := hW.bx.c 1; have d2 := hW.bx.c 2; have d3 := hW.bx.c 3; have d4 := hW.bx.c 4; have d5 := hW.bx.c 5; have d6 := hW.bx.c 6; have d7 := hW.bx.c 7; have d8 := hW.bx.c 8; have d9 := hW.bx.c 9; have d10 := hW.bx.c 10; have d11 := hW.bx.c 11; have d12 := hW.bx.c 12; have d13 := hW.bx.c 13; have d14 := hW.bx.c 14; simp only [List.getElem?_toArray, List.getElem?_cons_zero, List.getElem?_cons_succ] at d0 d1 d2 d3 d4 d5 d6 d7 d8 d9 d10 d11 d12 d13 d14; go_simp
  (try simp only [Act.put, List.setIfInBounds_toArray, List.set_cons_zero, List.set_cons_succ])
  refine take_at (i := 4) (d := 70) (v := .pointer (some ⟨gb, 14, none⟩)) rfl rfl (by kernel_rfl) (by kernel_rfl) (by kernel_rfl) (fun _ _ _ h => h) (Or.inl ⟨by rfl, ?_⟩) (by assumption) ?_
  · intro X hX; go_simp
  (try simp only [Act.put, List.setIfInBounds_toArray, List.set_cons_zero, List.set_cons_succ])
  refine take_at (i := 5) (d := 71) (v := .int .i64 x.tlsSize) rfl rfl (by kernel_rfl) (by kernel_rfl) (by kernel_rfl) (fun _ _ _ h => h) (Or.inl ⟨by rfl, ?_⟩) (by assumption) ?_
  · intro X hX; obtain ⟨t, hW⟩ := hX; have hc := hW.ptr; have d0 := hW.bx.c 0; have d1 := hW.bx.c 1; have d2 := hW.bx.c 2; have d3 := hW.bx.c 3; have d4 := hW.bx.c 4; have d5 := hW.bx.c 5; have d6 := hW.bx.c 6; have d7 := hW.bx.c 7; have d8 := hW.bx.c 8; have d9 := hW.bx.c 9; have d10 := hW.bx.c 10; have d11 := hW.bx.c 11; have d12 := hW.bx.c 12; have d13 := hW.bx.c 13; have d14 := hW.bx.c 14; simp only [List.getElem?_toArray, List.getElem?_cons_zero, List.getElem?_cons_succ] at d0 d1 d2 d3 d4 d5 d6 d7 d8 d9 d10 d11 d12 d13 d14; go_simp
  (try simp only [Act.put, List.setIfInBounds_toArray, List.set_cons_zero, List.set_cons_succ])
  refine wpAnyH_ready (rs := [6]) (by kernel_rfl) (by simp) ?_
  refine AllReadyH.cons rfl (fun K hK => ?_) AllReadyH.nil
  go_simp
  refine hK.out _ _ (hHeld0.new _) (fun hHeld1 => ?_)
  clear hK K
  (try simp only [Act.put, List.setIfInBounds_toArray, List.set_cons_zero, List.set_cons_succ])
  refine wpAnyH_ready (rs := [7]) (by kernel_rfl) (by simp) ?_
  refine AllReadyH.cons rfl (fun K hK => ?_) AllReadyH.nil
  go_simp
  refine (HN.out).mono ?_
  rintro en wn ⟨rfl, hw⟩
  have HY12 := Lib.hid hw
  go_simp
  refine hK.out _ _ (⟨_, hw⟩) (fun hHeld2 => ?_)
  clear hK K
  (try simp only [Act.put, List.setIfInBounds_toArray, List.set_cons_zero, List.set_cons_succ])
  refine wpAnyH_done (by kernel_rfl) ?_ _
  have HX12 := Lib.hid (show Wx w F G g gb _ _ (im12 x s) _ from HY12.out)
  clear HN HY12 HX11 hHeld0
  go_upto_region 13 with (fail)
  have HN := Lib.hid (HX12.out.blockd p.tl.1 x.tls.length p.tl.2 x.tls HIM.out.tls (by have := HM.out.tls; have := L12.out; omega))
  refine wp_region_held_drew (S := WX w F G g gb (imA p x) 40) (by kernel_rfl) ⟨_, HX12.out.drew⟩ (fun hHeld0 => ?_)
  refine take_at (i := 0) (d := 74) (v := .pointer (some ⟨G, 0, none⟩)) rfl rfl (by kernel_rfl) (by kernel_rfl) (by kernel_rfl) (fun _ _ _ h => h) (Or.inl ⟨by rfl, ?_⟩) (by assumption) ?_
  · intro X hX; go_simp
  (try simp only [Act.put, List.setIfInBounds_toArray, List.set_cons_zero, List.set_cons_succ])
  refine take_at (i := 1) (d := 75) (v := .pointer (some ⟨G, 0, none⟩)) rfl rfl (by kernel_rfl) (by kernel_rfl) (by kernel_rfl) (fun _ _ _ h => h) (Or.inl ⟨by rfl, ?_⟩) (by assumption) ?_
  · intro X hX; go_simp
  (try simp only [Act.put, List.setIfInBounds_toArray, List.set_cons_zero, List.set_cons_succ])
  refine take_at (i := 2) (d := 76) (v := .pointer (some ⟨G, 0, none⟩)) rfl rfl (by kernel_rfl) (by kernel_rfl) (by kernel_rfl) (fun _ _ _ h => h) (Or.inl ⟨by rfl, ?_⟩) (by assumption) ?_
  · intro X hX; go_simp
  (try simp only [Act.put, List.setIfInBounds_toArray, List.set_cons_zero, List.set_cons_succ])
  refine take_at (i := 3) (d := 77) (v := .pointer (some ⟨g, 0, none⟩)) rfl rfl (by kernel_rfl) (by kernel_rfl) (by kernel_rfl) (fun _ _ _ h => h) (Or.inl ⟨by rfl, ?_⟩) (by assumption) ?_
  · intro X hX; obtain ⟨t, hW⟩ := hX; have hc := hW.ptr; have d0 := hW.bx.c 0; have d1 := hW.bx.c 1; have d2 := hW.bx.c 2; have d3 := hW.bx.c 3; have d4 := hW.bx.c 4; have d5 := hW.bx.c 5; have d6 := hW.bx.c 6; have d7 := hW.bx.c 7; have d8 := hW.bx.c 8; have d9 := hW.bx.c 9; have d10 := hW.bx.c 10; have d11 := hW.bx.c 11; have d12 := hW.bx.c 12; have d13 := hW.bx.c 13; have d14 := hW.bx.c 14; simp only [List.getElem?_toArray, List.getElem?_cons_zero, List.getElem?_cons_succ] at d0 d1 d2 d3 d4 d5 d6 d7 d8 d9 d10 d11 d12 d13 d14; go_simp
  (try simp only [Act.put, List.setIfInBounds_toArray, List.set_cons_zero, List.set_cons_succ])
  refine take_at (i := 4) (d := 78) (v := .pointer (some ⟨gb, 13, none⟩)) rfl rfl (by kernel_rfl) (by kernel_rfl) (by kernel_rfl) (fun _ _ _ h => h) (Or.inl ⟨by rfl, ?_⟩) (by assumption) ?_
  · intro X hX; go_simp
  (try simp only [Act.put, List.setIfInBounds_toArray, List.set_cons_zero, List.set_cons_succ])
  refine take_at (i := 5) (d := 79) (v := .slice p.tl.1 x.tls.length p.tl.2) rfl rfl (by kernel_rfl) (by kernel_rfl) (by kernel_rfl) (fun _ _ _ h => h) (Or.inl ⟨by rfl, ?_⟩) (by assumption) ?_
  · intro X hX; obtain ⟨t, hW⟩ := hX; have hc := hW.ptr; have d0 := hW.bx.c 0; have d1 := hW.bx.c 1; have d2 := hW.bx.c 2; have d3 := hW.bx.c 3; have d4 := hW.bx.c 4; have d5 := hW.bx.c 5; have d6 := hW.bx.c 6; have d7 := hW.bx.c 7; have d8 := hW.bx.c 8; have d9 := hW.bx.c 9; have d10 := hW.bx.c 10; have d11 := hW.bx.c 11; have d12 := hW.bx.c 12; have d13 := hW.bx.c 13; have d14 := hW.bx.c 14; simp only [List.getElem?_toArray, List.getElem?_cons_zero, List.getElem?_cons_succ] at d0 d1 d2 d3 d4 d5 d6 d7 d8 d9 d10 d11 d12 d13 d14; go_simp
  (try simp only [Act.put, List.setIfInBounds_toArray, List.set_cons_zero, List.set_cons_succ])
  refine wpAnyH_ready (rs := [6]) (by kernel_rfl) (by simp) ?_
  refine AllReadyH.cons rfl (fun K hK => ?_) AllReadyH.nil
  go_simp
  refine (HN.out).mono ?_
  rintro en wn ⟨rfl, hw⟩
  have HY13 := Lib.hid hw
  go_simp
  refine hK.out _ _ (⟨_, hw⟩) (fun hHeld1 => ?_)
  clear hK K
  (try simp only [Act.put, List.setIfInBounds_toArray, List.set_cons_zero, List.set_cons_succ])
  refine wpAnyH_done (by kernel_rfl) ?_ _
  have HX13 := Lib.hid (show Wx w F G g gb _ _ (im13 x s) _ from HY13.out)
  clear HN HY13 HX12 hHeld0
  try go_wp2_with fail
  first | go_end0 | skip
  exact HX13.out.done
end Go.Proofs.YtfljignkjmabpaaGreat
