/- The program's table in memory; contracts of maps.Copy at it, of twin. -/
import Derived.Test.YtahhkffghhgojaaDoorZMapS
namespace Go.Proofs.YtahhkffghhgojaaDoor
open Go.RowKit
set_option maxRecDepth 100000

abbrev KS : TypeId := 9
theorem keyKS : Tryd.prog.underlying KS = some .string := Tryd.underlying9
theorem undDd : Tryd.prog.underlying 62 = some (.map KS 56) := Tryd.underlying62
theorem zeroDd (w : World) : (zeroValue 56).run Tryd.prog w = .ok (.agg #[.string ⟨#[]⟩, .int .u64 0, .int .u64 0, .int .u64 0, .int .u64 0]) w := by kernel_rfl

/-- The program's table at g: its map m, the lines in it X, in whatever order. -/
structure Dd (w : World) (g : Nat) (m : Option Nat) (X : List Ln) : Prop where
  tab : Whole w g 64 #[.map m]
  map : MapSl Tryd.prog KS w m X.length X
  fits : ∀ x ∈ X, x.fits
theorem Dd.ne {w : World} {g : Nat} {m : Option Nat} {X : List Ln} (h : Dd w g m X) : ∀ b, m = some b → b ≠ g := by
  intro b hb
  rcases h.map with ⟨h1, _⟩ | ⟨b', h1, h2⟩
  · rw [h1] at hb; cases hb
  · rw [h1] at hb; cases hb; exact h2.ne h.tab
theorem Dd.keep {w w' : World} {g : Nat} {m : Option Nat} {X : List Ln} {S : List Nat} (h : Dd w g m X) (hf : Frm S w w') (hg : g ∉ S) (hm : ∀ b, m = some b → b ∉ S) : Dd w' g m X :=
  ⟨hf.whole h.tab hg, h.map.keep hf hm, h.fits⟩
theorem Dd.perm {w : World} {g : Nat} {m : Option Nat} {X Y : List Ln} (h : Dd w g m X) (p : X.Perm Y) : Dd w g m Y :=
  ⟨h.tab, by rw [← p.length_eq]; exact h.map.perm p, fun x hx => h.fits x (p.mem_iff.2 hx)⟩

set_option maxHeartbeats 4000000 in
/-- maps.Copy into a map that is empty. -/
theorem dcopy_any (bd : Nat) (m : Option Nat) (X : List Ln) (w : World) (hd : MapS Tryd.prog KS w bd 0 []) (hs : MapSl Tryd.prog KS w m X.length X) (hne : m ≠ some bd) (hlen : X.length < 1000000) :
    Calls Tryd.prog 49 #[.map (some bd), .map m] w fun e w' => e = .returned (.tuple #[]) ∧ MapS Tryd.prog KS w' bd X.length X ∧ Frm [bd] w w' := by
  rcases hs with ⟨rfl, rfl⟩ | ⟨b, rfl, hs⟩
  · have hrg := run_range_nilMap (P := Tryd.prog) w 62 KS 56 undDd
    have hnx : ∀ ty, (Instr.next (.pointer (some ⟨w.heap.size, 0, none⟩)) false ty).run Tryd.prog (w.alloc (.mapIter none 0 #[] 0)) = _ := fun ty => run_next_nilMap _ ty 0 0 #[]
    have hd' : MapS Tryd.prog KS (w.alloc (.mapIter none 0 #[] 0)) bd 0 [] := hd.keep (S := []) ((Frm.refl _ _).alloc _) (by simp)
    have hf' : Frm [bd] w (w.alloc (.mapIter none 0 #[] 0)) := (Frm.refl _ _).alloc _
    have HD := Lib.hid hd'
    have HF := Lib.hid hf'
    clear hd hd' hf' hlen hne
    go_enter Tryd.func49, Tryd.ntmps49
    go_wp2
    refine wp_loop_rounds 1 ?_
    rw [rounds_succ]
    go_wp2
    go_end0
    exact ⟨rfl, HD.out, HF.out⟩
  · have hbd : bd ≠ b := fun e => hne (by rw [e])
    have HS := Lib.hid hs
    have HD := Lib.hid hd
    have HB := Lib.hid hbd
    have HLT := Lib.hid hs.lt
    have HLT2 := Lib.hid hd.lt
    clear hs hd hbd hne
    go_enter Tryd.func49, Tryd.ntmps49
    go_wp2_with (first
      | (at_range; refine wpList_rangeS _ rfl _ 62 56 rfl undDd b _ X rfl HS.out ?_; intro w0 hr0 hf0; have HR0 := Lib.hid hr0; have HF0 := Lib.hid hf0; clear hr0 hf0)
      | go_in)
    go_frame
    go_loopw [8] (fun _ wr => ∃ (S : List Ln) (cnt : Nat), Hid (RgS Tryd.prog KS wr b w.heap.size X.length X S cnt) ∧ Hid (MapS Tryd.prog KS wr bd S.length S) ∧ Hid (Frm [bd] w wr)) (fun _ wr => wr.rangeLeft b w.heap.size)
    case atStart => exact ⟨[], _, HR0, Lib.hid (HD.out.keep HF0.out (by simp)), Lib.hid (HF0.out.weak (by simp))⟩
    case round =>
      obtain ⟨S, cnt, HR, HM, HF⟩ := hrel
      have HLE : Hid (wr.rangeLeft b w.heap.size = cnt) := Lib.hid HR.out.left_eq
      go_wp2_with (first
        | (at_next; refine wpList_nextS _ rfl _ rfl b w.heap.size X.length X S cnt rfl HR.out ?_ ?_)
        | go_in)
      · intro hp
        have HP := Lib.hid hp
        clear hp
        go_wp2
        go_end0
        exact ⟨rfl, by have h := HM.out.perm HP.out.symm; rw [← HP.out.length_eq] at h; exact h, HF.out⟩
      · intro x w1 cnt1 hx hnew hrg1 hlt hf1 hen
        obtain ⟨xn, xt, xd, xl, xe⟩ := x
        have HX := Lib.hid hx
        have HNEW := Lib.hid hnew
        have HR1 := Lib.hid hrg1
        have HF1 : Hid (Frm [bd] w w1) := Lib.hid (HF.out.trans hf1 (fun x h => h) (fun x h => by simp at h; subst h; exact .inr (Nat.le_refl _)))
        have HM1 : Hid (MapS Tryd.prog KS w1 bd S.length S) := Lib.hid (HM.out.keep hf1 (by have := HLT2.out; simp; omega))
        have hxm : xn.size ≤ maxLen := HR1.out.map.short _ hx
        have HXM := Lib.hid hxm
        have hcnt : S.length < 1000000 := by have := HR1.out.count; simp at this; omega
        have hcnt' : S.length < maxLen := by unfold maxLen; omega
        have HC := Lib.hid hcnt'
        clear hx hnew hrg1 hf1 hxm hcnt hcnt'
        simp only [Ln.val] at hen ⊢
        go_wp2_with (first
          | (at_mapUpdate; refine wpList_putS _ rfl _ _ _ 62 56 rfl undDd bd S.length S rfl (HM1.out.keep (S := []) ((Frm.refl _ _).alloc _) (by simp)) HC.out ⟨xn, xt, xd, xl, xe⟩ HXM.out rfl rfl ?_; intro w2 hm2 hf2; have HM2 := Lib.hid hm2; have HF2 := Lib.hid hf2; clear hm2 hf2; go_frame)
          | go_in)
        have hf12 : Frm [bd] w1 w2 := Frm.trans (S := []) ((Frm.refl [] w1).alloc _) HF2.out (by simp) (fun x h => .inl h)
        have hr2 := HR1.out.keep hf12 (by have := HB.out; simp; omega) (by have := HLT2.out; simp; omega)
        have hnl : lookL S xn = none := lookL_none.2 HNEW.out
        have hpt : putL S ⟨xn, xt, xd, xl, xe⟩ = S ++ [⟨xn, xt, xd, xl, xe⟩] := by unfold putL; simp [hnl]
        have HR2 := Lib.hid hr2
        have HF12 := Lib.hid hf12
        have HPT := Lib.hid hpt
        clear hf12 hr2 hnl hpt
        go_roundw
        case rel =>
          refine ⟨_, cnt1, HR2, Lib.hid ?_, Lib.hid (HF1.out.trans HF12.out (fun x h => h) (fun x h => .inl h))⟩
          have h := HM2.out
          rw [HPT.out] at h
          simpa using h
        case measure => rw [HR2.out.left_eq, HLE.out]; exact hlt
end Go.Proofs.YtahhkffghhgojaaDoor
