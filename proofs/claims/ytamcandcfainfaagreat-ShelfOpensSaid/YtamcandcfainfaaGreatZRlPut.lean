/- Contract of the document's put. -/
import Derived.Test.YtamcandcfainfaaGreatMX
import Derived.Test.YtamcandcfainfaaGreatZRlPutM
import Derived.Test.YtamcandcfainfaaGreatZOwnVals
import Derived.Deep.RegionLaw
import Derived.Deep.QuietTactic
import Derived.Deep.Cut
import Derived.Deep.CutRange
import Derived.Deep.DeepCutAuto
import Derived.BigQuiet
import Derived.Outline
namespace Go.Proofs.YtamcandcfainfaaGreat
open Go.RowKit
set_option maxRecDepth 100000

/-- What put leaves: the ledger at i with the entry k. -/
def RlPutEnd (w : World) (B : Nat) (F : List Nat) (q : Nat) (dv : Value) (La : Option Addr) (Lc : Nat) (R : List Rl) (m i k : Nat) (d : List Nat) (e : Ending) (w' : World) : Prop :=
  ∃ y : Rl, e = .returned (.tuple #[]) ∧ y.id = (R.getD i default).id ∧ y.lg = { (R.getD i default).lg with ents := putE (its (R.getD i default).X) k d } ∧ Rs w' B F q dv La Lc (R.set i y) (m + 1) ∧ Frm (rwB q La R) w w' ∧ ∀ x ∈ rwB q La (R.set i y), x ∈ rwB q La R ∨ w.heap.size ≤ x

/-- The end of put of an old entry: its bytes are new ones. -/
theorem rput_old_end {w w2 : World} {B : Nat} {F : List Nat} {q g : Nat} {dv : Value} {Lc : Nat} {R : List Rl} {m i k j ga n c : Nat} {d : List Nat} {r : Rl} {av : Option Addr} {cv xn : Nat} (h : Rs w B F q dv (some ⟨g, 0, none⟩) Lc R m) (hF : ∀ x ∈ F, x < w.heap.size) (hi : i < R.length) (hk : k < N64)
    (hr : r = R.getD i default) (hn : n = r.X.length) (ha : some ⟨ga, 0, none⟩ = r.a) (hc : c = r.c) (hj : j = ixN r.X k) (hin : j < n) (hf : Frm [] w w2) (ho : w2.ownsRow B 57 2 (.slice (some ⟨ga, 0, none⟩) n c) n (ic r.X)) (hxn : xn = d.length)
    (hv : w2.ownsRow w.heap.size 5 1 (.slice av xn cv) xn (d.map u8v)) (h8 : ∀ x ∈ d, x < 256) :
    RlPutEnd w B F q dv (some ⟨g, 0, none⟩) Lc R m i k d (.returned (.tuple #[])) (w2.setCell ⟨ga, j * 2 + 1, none⟩ (.slice av xn cv)) := by
  have hjl : j < r.X.length := by omega
  have hmem : r ∈ R := by rw [hr]; simp [hi]
  have hrok := h.all r hmem
  have hkey : (r.X.getD j default).t.1 = k := by rw [hj]; exact ixN_key (by omega)
  have hb := bytes_of_own (hxn ▸ hv) h8
  have hnew : ∀ x, av = some x → w.heap.size ≤ x.block := fun x hx => (own_block_lt hv (g := x.block) (by rw [hx]; rfl)).1
  have hga : ga ∈ blk r.a := by rw [← ha]; simp
  have hgaw : ga ∈ rwB q (some ⟨g, 0, none⟩) R := rwB_row hmem hga
  have hs : Frm [ga] w2 (w2.setCell ⟨ga, j * 2 + 1, none⟩ (.slice av xn cv)) := (Frm.refl _ _).setCell (.inl (by simp)) _
  have hall : Frm [ga] w (w2.setCell ⟨ga, j * 2 + 1, none⟩ (.slice av xn cv)) := hf.trans hs (by simp) (fun x hx => .inl hx)
  obtain ⟨o1, _⟩ := World.ownsRow.stored ho (j * 2 + 1) (.slice av xn cv)
  have hset := ic_set r.X ⟨(k, d), av, cv⟩ j hjl hkey.symm
  rw [show (⟨(k, d), av, cv⟩ : Ix).t.2.length = xn from hxn.symm] at hset
  obtain ⟨k1, k2, k3⟩ := h.kinds
  have hgg : g ≠ ga := fun e => k3 r hmem g (by simp) (by rw [e]; exact hga)
  have hits : its (r.X.set j ⟨(k, d), av, cv⟩) = putE (its r.X) k d := by rw [hj]; exact its_old hrok.rise (by omega)
  refine ⟨{ r with X := r.X.set j ⟨(k, d), av, cv⟩ }, rfl, by rw [← hr], by rw [← hr]; unfold Rl.lg; simp only [hits], ?_, hall.weak (fun x hx => by simp at hx; subst hx; exact .inl hgaw), fun x hx => rwB_set hi (n := w.heap.size) (fun y hy => by rw [← hr]; exact .inl hy) hx⟩
  refine h.set hF hi (by rw [← hr]) hall (fun x hx => by simp at hx; subst hx; rw [← hr]; exact .inr (.inl hga)) ?_ ?_ (fun y hy => by rw [← hr]; exact .inl hy) (by omega) (by rw [List.length_set]; have := h.few.2 r hmem; omega)
  · have e : rc (R.set i { r with X := r.X.set j ⟨(k, d), av, cv⟩ }) = rc R := by
      rw [rc_items R _ i hi (by rw [← hr]) (by rw [← hr]) (by rw [← hr]) (by rw [← hr])]
      obtain ⟨_, _, _, _, n4⟩ := rc_at R i hi
      rw [← hr] at n4
      apply List.ext_getElem?
      intro t
      rw [List.getElem?_set]
      split
      · rename_i ht; subst ht
        split
        · rw [n4]; simp
        · rename_i hlt; rw [List.getElem?_eq_none (by omega)] at n4; cases n4
      · rfl
    rw [e]
    exact hall.own h.own (fun y hy hm => by simp at hm; subst hm; simp [Value.ownBlock] at hy; exact hgg hy)
  · have hW : ∀ x ∈ rwB q (some ⟨g, 0, none⟩) (R.set i { r with X := r.X.set j ⟨(k, d), av, cv⟩ }) ++ F, x ∈ rwB q (some ⟨g, 0, none⟩) R ++ F ∨ w.heap.size ≤ x := fun x hx => by
      rcases List.mem_append.1 hx with h1 | h1
      · rcases rwB_set hi (n := w.heap.size) (fun y hy => by rw [← hr]; exact .inl hy) h1 with h2 | h2
        · exact .inl (by simp [h2])
        · exact .inr h2
      · exact .inl (by simp [h1])
    have hWlt : ∀ x ∈ rwB q (some ⟨g, 0, none⟩) (R.set i { r with X := r.X.set j ⟨(k, d), av, cv⟩ }) ++ F, x < w.heap.size := fun x hx => by
      rcases List.mem_append.1 hx with h1 | h1
      · rcases rwB_cases h1 with rfl | h2 | ⟨y, hy, h2⟩
        · exact h.box.lt
        · exact h.lt x (by unfold rwB; exact List.mem_cons_of_mem _ (List.mem_append_left _ h2))
        · rcases mem_set_other hy with rfl | ⟨t, ht, _, rfl⟩
          · exact h.lt x (rwB_row hmem h2)
          · exact h.lt x (rwB_row (List.getElem_mem ht) h2)
      · exact hF x h1
    refine ⟨?_, fun y hy => ?_, by rw [hits]; exact riseE_put hrok.rise k d, hrok.num⟩
    · rw [hset, List.length_set, ← ha, ← hn, ← hc]; exact o1
    · rcases List.mem_or_eq_of_mem_set hy with h1 | h1
      · exact (hrok.ok y h1).keep hall (fun x hx => by simp at hx; subst hx; exact .inl (by simp [hgaw])) hW
      · subst h1
        have hav : d ≠ [] → ∀ x, av = some x → x.block ∉ rwB q (some ⟨g, 0, none⟩) (R.set i { r with X := r.X.set j ⟨(k, d), av, cv⟩ }) ++ F := fun hne x hx hm => by
          have h1 := hnew x hx
          have h2 := hWlt _ hm
          omega
        refine ⟨hs.bytes' hb.2.1 (fun hne x hx hm => ?_), hav, hb.2.2, hk⟩
        simp at hm
        have h1 := hnew x hx
        have h2 := h.lt ga hgaw
        omega

set_option maxHeartbeats 8000000 in
theorem rput_old' {w : World} {B : Nat} {F : List Nat} {q g : Nat} {dv : Value} {Lc : Nat} {R : List Rl} {m : Nat} (i k : Nat) (xa : Option Addr) (xn xc : Nat) (d : List Nat) (h : Rs w B F q dv (some ⟨g, 0, none⟩) Lc R m) (hF : ∀ x ∈ F, x < w.heap.size) (hm : m ≤ 1000000) (hi : i < R.length) (hk : k < N64) (hb : Bytes w xa d) (hxn : xn = d.length) (hnil : xa = none → xc = 0) (hd : d.length ≤ 1000000) (hin0 : ixN (R.getD i default).X k < (R.getD i default).X.length) :
    Calls Tryz.prog 59 #[.pointer (some ⟨g, i * 5, none⟩), .agg #[.int .u64 (k : Nat), .slice xa xn xc]] w (RlPutEnd w B F q dv (some ⟨g, 0, none⟩) Lc R m i k d) := by
  obtain ⟨i0, hinf, hz0, hz1, hz2⟩ := info_parts infoIt2
  obtain ⟨i1, uinf, uz0, uz1, uz2⟩ := info_parts Tryz.info5
  obtain ⟨g', hg', c0, c1, c2, c3, c4⟩ := h.at hi
  cases hg'
  have hmem : R.getD i default ∈ R := by simp [hi]
  have hrok := h.all _ hmem
  have hfew := h.few.2 _ hmem
  obtain ⟨r, hr⟩ : ∃ r, r = R.getD i default := ⟨_, rfl⟩
  rw [← hr] at c4 hrok hfew hin0
  obtain ⟨n, hn⟩ : ∃ n, n = r.X.length := ⟨_, rfl⟩
  rw [← hn] at c4 hfew hin0
  obtain ⟨a, ha⟩ : ∃ a, a = r.a := ⟨_, rfl⟩
  obtain ⟨c, hc⟩ : ∃ c, c = r.c := ⟨_, rfl⟩
  rw [← ha, ← hc] at c4
  have hown : w.ownsRow B 57 2 (.slice a n c) n (ic r.X) := by rw [ha, hc, hn]; exact hrok.row
  have hil : IL w [] a r.X := by
    have : IOwn w B 57 [] r.a r.c r.X := ⟨hrok.row, hrok.ok.keep (S := []) (Frm.refl _ _) (by simp) (fun x hx => by simp at hx; exact .inl (List.mem_append_left _ (rwB_row (r := r) (by rw [hr]; exact hmem) hx))), by simp⟩
    rw [ha]; exact this.il
  have hIT : ∀ z, Frm [] w z → Calls Tryz.prog 26 #[.pointer (some ⟨g, i * 5, none⟩), .int .u64 (k : Nat)] z fun e w' => e = .returned (.int .i64 (ixI r.X k)) ∧ z = w' := fun z hz =>
    ritem_any (F := []) g (i * 5) k n c a r.X ((hz.cell (p := ⟨g, i * 5 + 4, none⟩) (block_lt_of_cell c4) (by simp)).trans c4) hn (hil.keep (F' := []) hz (by simp) (by simp)) (by omega)
  have H := Lib.hid h
  have HF := Lib.hid hF
  have HR := Lib.hid hr
  have HN := Lib.hid hn
  have HA := Lib.hid ha
  have HC := Lib.hid hc
  have HOW := Lib.hid hown
  have HIL := Lib.hid hil
  have HROK := Lib.hid hrok
  have HB := Lib.hid hb
  have HXN := Lib.hid hxn
  have HNIL := Lib.hid hnil
  have HINF := Lib.hid hinf
  have UI := Lib.hid uinf
  have free := h.own
  clear h hF hr hn ha hc hown hil hrok hb hxn hnil hinf uinf c0 c1 c2 c3 hmem
  have hin := hin0
  clear hin0
  have hI : ixI r.X k = (ixN r.X k : Nat) := by unfold ixI; rw [if_pos (by rw [← HN.out]; exact hin)]
  rw [hI] at hIT
  obtain ⟨j, hj⟩ : ∃ j, j = ixN r.X k := ⟨_, rfl⟩
  rw [← hj] at hI hIT hin
  have HJ := Lib.hid hj
  have HIT := Lib.hid hIT
  clear hI hIT hj
  obtain ⟨ga, rfl⟩ : ∃ ga, a = some ⟨ga, 0, none⟩ := by
    rcases HOW.out.2 with ⟨_, h0⟩ | ⟨ga, _, _, hv, _⟩
    · omega
    · simp only [Value.slice.injEq] at hv
      exact ⟨ga, hv.1⟩
  have hxfit : xn ≤ 1000000 := by have := HXN.out; omega
  have HIC := Lib.hid (ic_at r.X j (by have := HN.out; omega)).2
  have hj0 : decide ((0 : Int) ≤ (j : Int)) = true := decide_eq_true (by omega)
  go_enter Tryz.func59, Tryz.ntmps59
  go_wp2_with fail
  obtain ⟨gx, hgx⟩ : ∃ gx, gx = w.heap.size := ⟨_, rfl⟩
  have hWx := Whole.made w 57 #[.int .u64 (k : Nat), .slice xa xn xc]
  have hfx : Frm [] w (w.alloc (.cells #[.int .u64 (k : Nat), .slice xa xn xc] 57)) := (Frm.refl [] w).alloc _
  rw [← hgx] at hWx ⊢
  generalize w.alloc (.cells #[.int .u64 (k : Nat), .slice xa xn xc] 57) = w0 at hWx hfx ⊢
  (with_reducible refine (HIT.out _ hfx).mono ?_)
  rintro e w' ⟨rfl, rfl⟩
  have d4 := (hfx.cell (p := ⟨g, i * 5 + 4, none⟩) (block_lt_of_cell c4) (by simp)).trans c4
  have x1 := hWx.cell 1
  simp at x1
  have hgl : g < w0.heap.size := block_lt_of_cell d4
  have HGX := Lib.hid hgx
  have C4 := Lib.hid c4
  have HFX := Lib.hid hfx
  have f00 : Frm [] w0 (w0.alloc (.cells #[] 5)).drew := ((Frm.refl [] w0).alloc _).drew
  have x2 : (w0.alloc (.cells #[] 5)).cell? ⟨gx, 1, none⟩ = some (.slice xa xn xc) := (f00.cell (p := ⟨gx, 1, none⟩) hWx.lt (by simp)).trans x1
  have LIT : Hid ((w0.alloc (.cells #[] 5)).drew.ownsRow w.heap.size 5 1 (.slice (some ⟨w0.heap.size, 0, none⟩) 0 0) 0 []) := Lib.hid (by
    have h1 : (w0.alloc (.cells #[] 5)).ownsRow w.heap.size 5 1 (.slice (some ⟨w0.heap.size, 0, none⟩) 0 0) 0 [] := World.ownsRow_lit w0 #[] 0 hfx.size (by unfold maxLen; omega) rfl
    exact h1)
  have BY : Hid (Bytes (w0.alloc (.cells #[] 5)).drew xa d) := Lib.hid (f00.bytes' (hfx.bytes' HB.out (by simp)) (by simp))
  have SZ : Hid (w.heap.size ≤ (w0.alloc (.cells #[] 5)).drew.heap.size) := Lib.hid (Nat.le_trans hfx.size f00.size)
  have F00 := Lib.hid f00
  have LB : Hid (∀ y, (Value.slice (some ⟨w0.heap.size, 0, none⟩) 0 0).ownBlock = some y → w.heap.size ≤ y) := Lib.hid fun y hy => by
    have h1 := hfx.size
    simp [Value.ownBlock] at hy; omega
  clear c4 hgx hfx hWx HIT f00
  go_wp2_with fail
  go_region_law (refine step_app rfl (.tmp 18) (.tmp 20) 35 rfl w.heap.size 5 i1 Tryz.underlying35 UI.out uz0 uz1 uz2 _ 0 [] rfl LIT.out _ _ _ d rfl BY.out HXN.out HNIL.out (by omega) SZ.out ?_; intro av cv w2 happ; have hf2 : Frm [] w w2 := (HFX.out.trans F00.out (U := []) (by simp) (by simp)).grown happ.grown (fun y hy => .inr (LB.out y hy)); have ho2 := hf2.own HOW.out (by simp); have s1 := (World.ownsRow.cellAt ho2 (j * 2 + 1) (by omega)).trans HIC.out; have s2 := World.ownsRow.frozenAt ho2 (j * 2 + 1); have d5 := (hf2.cell (p := ⟨g, i * 5 + 4, none⟩) (block_lt_of_cell C4.out) (by simp)).trans C4.out; have HAP := Lib.hid happ; have HF2 := Lib.hid hf2; have HO2 := Lib.hid ho2; clear happ hf2 ho2)
  all_goals
    have HE := Lib.hid (rput_old_end H.out HF.out hi hk HR.out HN.out HA.out HC.out HJ.out hin HF2.out HO2.out HXN.out (by have := HAP.out.own; simpa using this) HB.out.1)
    clear HAP
    go_wp2
    exact bodyPost_ret (v := .tuple #[]) (by simp [results, Tryz.results59, go_sem]) rfl HE.out
end Go.Proofs.YtamcandcfainfaaGreat
