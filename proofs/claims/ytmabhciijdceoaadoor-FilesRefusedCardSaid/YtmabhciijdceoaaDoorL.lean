/-
  The document's examples.
-/
import Derived.Test.YtmabhciijdceoaaDoorK
import Derived.Lib.UnsafeStr
namespace Go.Proofs.YtmabhciijdceoaaDoor
open Go.RowKit Go.Maps

def s0 : St := ⟨newD, 0⟩
def s1 : St := (putM s0 [47, 120] [98]).1
def s2 : St := (putM s1 [47, 120] [99]).1
def s3 : St := (mkdirM s2 [47, 100]).1
def s4 : St := (symM s3 [47, 100, 47, 108] [46, 46, 47, 120]).1
def s5 : St := (symM s4 [47, 108] [108]).1
theorem ex_clean : clean [47, 97, 47, 47, 46, 47, 98, 47, 46, 46, 47, 99] = ([47, 97, 47, 99], 0) := by decide +kernel
theorem ex_p1 : s1.puts = 1 := by decide +kernel
theorem ex_find : (fileOf s2.d [47, 120]).1.id = 2 ∧ (fileOf s2.d [47, 120]).2 = 0 := by decide +kernel
theorem ex_mk : (mkdirM s2 [47, 100]).2 = 0 := by decide +kernel
theorem ex_sym : (symM s3 [47, 100, 47, 108] [46, 46, 47, 120]).2 = 0 := by decide +kernel
theorem ex_read : (fileOf s4.d [47, 100, 47, 108]).1.text = [99] ∧ (fileOf s4.d [47, 100, 47, 108]).2 = 0 := by decide +kernel
theorem ex_loop : (fileOf s5.d [47, 108]).2 = 35 := by decide +kernel

/-- A literal of one byte, turned into a slice. -/
theorem conv_lit (w : World) (b : UInt8) (n : Int) (hn : n = (b.toNat : Int)) : ∃ w', (convert 28 28 (.slice (some ⟨w.heap.size, 0, none⟩) 1 1)).run Tryd.prog (w.alloc (.cells #[.int .u8 n] 5)) = .ok (.slice (some ⟨w.heap.size, 0, none⟩) 1 1) w' ∧
    Below w.heap.size w w' ∧ Src w' (fun _ => True) (some ⟨w.heap.size, 0, none⟩) 1 1 (cells [b]) := by
  subst hn
  have hsh : (w.alloc (.cells #[.int .u8 (b.toNat : Int)] 5)).shape? w.heap.size = some (5, 1) := by
    unfold World.shape?
    rw [heap_alloc_new]
    rfl
  refine ⟨(w.alloc (.cells #[.int .u8 (b.toNat : Int)] 5)).freeze ⟨w.heap.size, 1, none⟩ 1, ?_, Lib.below_freeze ((Below.refl _ _).alloc (Nat.le_refl _) _) (Nat.le_refl _) 1, ⟨rfl, (by intro h; cases h), Nat.le_refl _, (by intro _ _ _; trivial), ?_⟩⟩
  · simp [convert, run_underlying Tryd.underlying28, run_underlying Tryd.underlying5, markStringish, hsh, Result.andThen]
  · intro ad h j u hj
    cases h
    have h1 := cell_one_new w (.int .u8 (b.toNat : Int)) 5 j u hj
    have hj0 : j = 0 := by
      have := (List.getElem?_eq_some_iff.1 hj).1
      simp [cells] at this
      exact this
    subst hj0
    rw [show (⟨w.heap.size, 0, none⟩ : Addr).add 0 = ⟨w.heap.size, 0, none⟩ from rfl] at h1 ⊢
    have hg : ((w.alloc (.cells #[.int .u8 (b.toNat : Int)] 5)).freeze ⟨w.heap.size, 1, none⟩ 1).heap[w.heap.size]? = some (.cells #[.int .u8 (b.toNat : Int)] 5 (1, 2)) := by
      unfold World.freeze
      rw [if_neg (by decide)]
      simp only [Array.getElem?_modify, heap_alloc_new]
      rfl
    rw [cell_of_row _ _ 0 _ _ _ hg]
    exact hj

/-- A call that changes the store, told from where the examples began. -/
def Went (B : Nat) (w0 : World) (sb mb : Nat) (s : St) (k : Int) (e : Ending) (w' : World) : Prop := e = .returned (.int .i64 k) ∧ Sto w' sb mb s ∧ Below B w0 w'
theorem Does.went {B : Nat} {w0 w w' : World} {sb mb : Nat} {r : St × Int} {e : Ending} (h : Does w sb mb r e w') (hb : Below B w0 w) (h1 : B ≤ sb) (h2 : B ≤ mb) (h3 : B ≤ w.heap.size) : Went B w0 sb mb r.1 r.2 e w' :=
  ⟨h.1, h.2.1, hb.trans (h.2.2.below h1 h2 h3)⟩

/-- Where the examples stand. -/
structure At (w0 w : World) (sb mb : Nat) (s : St) : Prop where
  sto : Sto w sb mb s
  below : Below w0.heap.size w0 w
  sb : w0.heap.size ≤ sb
  mb : w0.heap.size ≤ mb
theorem At.on {w0 w w' : World} {sb mb : Nat} {s : St} (h : At w0 w sb mb s) (hb : Below w.heap.size w w') : At w0 w' sb mb s :=
  ⟨h.sto.below hb, h.below.trans (hb.mono h.below.size), h.sb, h.mb⟩
theorem At.does {w0 w w' : World} {sb mb : Nat} {s : St} {r : St × Int} {e : Ending} (h : At w0 w sb mb s) (hd : Does w sb mb r e w') : e = .returned (.int .i64 r.2) ∧ At w0 w' sb mb r.1 :=
  ⟨hd.1, hd.2.1, h.below.trans (hd.2.2.below h.sb h.mb h.below.size), h.sb, h.mb⟩

set_option maxRecDepth 100000 in
set_option maxHeartbeats 2000000 in
theorem awake_any (w : World) (hm : Ml w) : Calls Tryd.prog 8 #[] w fun e w' => e = .returned (.bool true) ∧ Below w.heap.size w w' := by
  have HN := Lib.hid (new_any w hm)
  clear hm
  go_enter Tryd.func8, Tryd.ntmps8
  go_wp2_with fail
  refine HN.out.mono ?_
  rintro e w1 ⟨sb, mb, rfl, h1, h2, h3, h4⟩
  have HA1 := Lib.hid (show At w w1 sb mb s0 from ⟨h3, h4, h1, h2⟩)
  have HC := Lib.hid (clean_any [47, 97, 47, 47, 46, 47, 98, 47, 46, 46, 47, 99] w1 (by decide) h3.ml)
  clear h1 h2 h3 h4 HN
  rw [ex_clean] at HC
  go_wp2_with fail
  refine HC.out.mono ?_
  rintro e w2 ⟨rfl, hb⟩
  obtain ⟨wl, hcv, hbl, hsl⟩ := conv_lit w2 98 98 rfl
  have HA2 := Lib.hid ((HA1.out.on hb).on hbl)
  have HP1 := Lib.hid (put_any sb mb s0 [47, 120] [98] _ _ 1 _ HA2.out.sto (by decide) hsl (by decide) (by decide))
  clear hb HC HA1 hbl hsl
  go_wp2_with fail
  refine HP1.out.mono ?_
  rintro e w3 hd
  obtain ⟨rfl, ha⟩ := HA2.out.does hd
  clear hcv
  obtain ⟨wl2, hcv2, hbl, hsl⟩ := conv_lit w3 99 99 rfl
  have HA3 := Lib.hid ((show At w w3 sb mb s1 from ha).on hbl)
  have HP2 := Lib.hid (put_any sb mb s1 [47, 120] [99] _ _ 1 _ HA3.out.sto (by decide) hsl (by rw [ex_p1]; decide) (by decide))
  clear hd ha HP1 HA2 hbl hsl
  generalize (putM s0 [47, 120] [98]).2 = k1
  go_wp2_with fail
  refine HP2.out.mono ?_
  rintro e w4 hd
  obtain ⟨rfl, ha⟩ := HA3.out.does hd
  have HA4 := Lib.hid (show At w w4 sb mb s2 from ha)
  have HF := Lib.hid (find_any sb mb s2 [47, 120] _ HA4.out.sto (by decide))
  rw [ex_find.1, ex_find.2] at HF
  clear hd ha HP2 HA3 hcv2
  generalize (putM s1 [47, 120] [99]).2 = k2
  go_wp2_with fail
  refine HF.out.mono ?_
  rintro e w5 ⟨rfl, hb⟩
  have HA5 := Lib.hid (HA4.out.on hb)
  have HK := Lib.hid (mkdir_any sb mb s2 [47, 100] _ HA5.out.sto (by decide))
  clear hb HF HA4
  go_wp2_with fail
  refine HK.out.mono ?_
  rintro e w6 hd
  obtain ⟨rfl, ha⟩ := HA5.out.does hd
  rw [ex_mk]
  have HA6 := Lib.hid (show At w w6 sb mb s3 from ha)
  have HY := Lib.hid (sym_any sb mb s3 [47, 100, 47, 108] [46, 46, 47, 120] _ HA6.out.sto (by decide) (by decide))
  clear hd ha HK HA5
  go_wp2_with fail
  refine HY.out.mono ?_
  rintro e w7 hd
  obtain ⟨rfl, ha⟩ := HA6.out.does hd
  rw [ex_sym]
  have HA7 := Lib.hid (show At w w7 sb mb s4 from ha)
  have HR := Lib.hid (read_any sb mb s4 [47, 100, 47, 108] _ HA7.out.sto (by decide))
  rw [ex_read.1, ex_read.2] at HR
  clear hd ha HY HA6
  go_wp2_with fail
  refine HR.out.mono ?_
  rintro e w8 ⟨g, c, rfl, hsr, hb⟩
  have HA8 := Lib.hid (HA7.out.on hb)
  have HSR := Lib.hid hsr
  have HA7S := Lib.hid HA7.out.sto.lt
  have HY := Lib.hid (sym_any sb mb s4 [47, 108] [108] _ HA8.out.sto (by decide) (by decide))
  clear hb hsr HR HA7
  go_wp2_with fail
  refine HY.out.mono ?_
  rintro e w9 hd
  have hT := hd.2.2
  obtain ⟨rfl, ha⟩ := HA8.out.does hd
  have HA9 := Lib.hid (show At w w9 sb mb s5 from ha)
  have HS9S := Lib.hid hT.size
  have HS9 := Lib.hid (HSR.out.keep (w' := w9) fun k hk hk2 => hT.block k hk2 (fun e => by have := HA7S.out; omega) (fun e => by have := HA7S.out; omega))
  have HR := Lib.hid (read_any sb mb s5 [47, 108] _ HA9.out.sto (by decide))
  rw [ex_loop] at HR
  clear hd ha HY HA8 hT HSR
  generalize (symM s4 [47, 108] [108]).2 = k3
  go_wp2_with fail
  refine HR.out.mono ?_
  rintro e w10 ⟨g2, c2, rfl, _, hb⟩
  have hcv : (convert 28 9 (.slice (some ⟨g, 0, none⟩) 1 c)).run Tryd.prog w10 = .ok (str [99]) w10 := conv_string (HS9.out.below hb fun k hk => by have := HS9S.out; omega)
  have HA10 := Lib.hid (HA9.out.on hb)
  clear hb HR HA9
  go_wp2
  go_ret
  exact ⟨rfl, HA10.out.below⟩
end Go.Proofs.YtmabhciijdceoaaDoor
