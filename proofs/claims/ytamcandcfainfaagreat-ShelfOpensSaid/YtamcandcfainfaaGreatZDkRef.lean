/- The document's disk (mailcoachref03.Disk): what it reads as (Rf); contracts of its Append, Cut, Crash. -/
import Derived.Test.YtamcandcfainfaaGreatMX
import Derived.Test.YtamcandcfainfaaGreatZDkMath
namespace Go.Proofs.YtamcandcfainfaaGreat
open Go.RowKit

/-- The document's disk at block m; its blocks, all from B on, are G. -/
def Rf (w : World) (B m : Nat) (G : List Nat) (l : List Nat) (s room : Nat) : Prop :=
  ((∀ c ∈ l, c < 256) ∧ B ≤ m ∧ s ≤ l.length ∧ l.length ≤ room ∧ room ≤ 16777216) ∧
  ∃ a cap, Whole w m 37 #[.int .i64 (room : Nat), .int .i64 (s : Nat), .slice a l.length cap] ∧ Hd w B 5 a cap l ∧ G = m :: blk a
def RfTo (w w' : World) (B m : Nat) (G : List Nat) (l' : List Nat) (s' room : Nat) : Prop :=
  ∃ G', Rf w' B m G' l' s' room ∧ Frm G w w' ∧ ∀ x ∈ G', x ∈ G ∨ w.heap.size ≤ x
def RfRet (w : World) (B m : Nat) (G : List Nat) (l' : List Nat) (s' room : Nat) (v : Value) (e : Ending) (w' : World) : Prop := e = .returned v ∧ RfTo w w' B m G l' s' room

theorem Rf.lt {w : World} {B m : Nat} {G l : List Nat} {s room : Nat} (h : Rf w B m G l s room) : ∀ x ∈ G, B ≤ x ∧ x < w.heap.size := by
  obtain ⟨hs, a, cap, hm, hh, rfl⟩ := h
  intro x hx
  simp only [List.mem_cons] at hx
  rcases hx with rfl | hx
  · exact ⟨hs.2.1, hm.lt⟩
  · exact hh.blk_lt x hx
theorem Rf.keep {w w' : World} {B m : Nat} {G S l : List Nat} {s room : Nat} (h : Rf w B m G l s room) (hf : Frm S w w') (hS : ∀ x ∈ G, x ∉ S) : Rf w' B m G l s room := by
  obtain ⟨hs, a, cap, hm, hh, rfl⟩ := h
  exact ⟨hs, a, cap, hf.whole hm (hS m (by simp)), hh.keep hf (fun g hg => hS g (by simp [hg])), rfl⟩
theorem Rf.zero (w : World) (room : Nat) (h : room ≤ 16777216) (B : Nat) (hB : B ≤ w.heap.size) : Rf (w.alloc (.cells #[.int .i64 (room : Nat), .int .i64 0, .slice none 0 0] 37)) B w.heap.size [w.heap.size] [] 0 room :=
  ⟨⟨by simp, hB, Nat.le_refl _, Nat.zero_le _, h⟩, none, 0, Whole.made _ _ _, Hd.nil _ _ _, rfl⟩
theorem Rf.mem {w : World} {B m : Nat} {G l : List Nat} {s room : Nat} (h : Rf w B m G l s room) : m ∈ G := by
  obtain ⟨_, a, cap, _, _, rfl⟩ := h; simp

theorem rappend_full {w : World} {B m : Nat} {G l : List Nat} {s room : Nat} (ad : Option Addr) (n c : Nat) (h : Rf w B m G l s room) (hn : n ≤ 1000000) (hf : room < l.length + n) :
    Calls Tryz.prog 54 #[.pointer (some ⟨m, 0, none⟩), .slice ad n c] w (Same w (.int .i64 8)) := by
  obtain ⟨hs, a, cap, hm, hh, rfl⟩ := h
  obtain ⟨k, hk⟩ : ∃ k, k = l.length := ⟨_, rfl⟩
  rw [← hk] at hm hf hs
  have hk2 : k ≤ 16777216 := by omega
  have c0 := hm.cell 0
  have c2 := hm.cell 2
  simp at c0 c2
  have hsum : IntKind.i64.wrap ((k : Int) + (n : Int)) = (k : Int) + n := IntWalk.i64_in _ (by omega)
  have hd : decide ((room : Int) < (k : Int) + (n : Int)) = true := by simp; omega
  have hd2 : decide (room < k + n) = true := by simp; omega
  clear hm hh hk hs
  go_enter Tryz.func54, Tryz.ntmps54
  go_wp2
  go_quiet (fail)
  go_wp2
  go_ret
  exact ⟨rfl, _, rfl⟩

/-- A store to the slice of the document's disk. -/
theorem Rf.stored {w w1 : World} {B m : Nat} {a' : Option Addr} {cap' : Nat} {l' : List Nat} {s room : Nat} {G : List Nat} {x0 : Value} (hm : Whole w1 m 37 #[.int .i64 (room : Nat), .int .i64 (s : Nat), x0])
    (hh : Hd w1 B 5 a' cap' l') (hs : (∀ c ∈ l', c < 256) ∧ B ≤ m ∧ s ≤ l'.length ∧ l'.length ≤ room ∧ room ≤ 16777216) (hf : Frm [] w w1) (hG : m ∈ G) (hb : ∀ g ∈ blk a', g ∈ G ∨ w.heap.size ≤ g) :
    RfTo w (w1.setCell ⟨m, 2, none⟩ (.slice a' l'.length cap')) B m G l' s room := by
  have h2 := hm.put 2 (.slice a' l'.length cap')
  have hn := hd_ne hh hm (by decide)
  have hfs : Frm [m] w1 (w1.setCell ⟨m, 2, none⟩ (.slice a' l'.length cap')) := (Frm.refl _ _).setCell (.inl (by simp)) _
  refine ⟨m :: blk a', ⟨hs, a', cap', by simpa using h2, hh.keep hfs (fun g hg hm' => ?_), rfl⟩, hf.trans hfs (by simp) (fun x hx => ?_), fun x hx => ?_⟩
  · simp at hm'; subst hm'; exact hn hg
  · simp at hx; subst hx; exact .inl hG
  · simp only [List.mem_cons] at hx
    rcases hx with rfl | hx
    · exact .inl hG
    · exact hb x hx

set_option maxHeartbeats 1000000 in
theorem rappend_ok {w : World} {B m : Nat} {G l : List Nat} {s room : Nat} (ad : Option Addr) (n c : Nat) (b : List Nat) (h : Rf w B m G l s room) (hb : Bytes w ad b) (hn : n = b.length) (hnil : ad = none → c = 0) (hf : l.length + b.length ≤ room) :
    Calls Tryz.prog 54 #[.pointer (some ⟨m, 0, none⟩), .slice ad n c] w (RfRet w B m G (l ++ b) s room (.int .i64 0)) := by
  have hBw : B ≤ w.heap.size := by have := h.lt m h.mem; omega
  obtain ⟨hs, a, cap, hm, hh, rfl⟩ := h
  obtain ⟨k, hk⟩ : ∃ k, k = l.length := ⟨_, rfl⟩
  rw [← hk] at hm
  have hk2 : k + n ≤ 16777216 := by omega
  have c0 := hm.cell 0
  have c2 := hm.cell 2
  simp at c0 c2
  have hsum : IntKind.i64.wrap ((k : Int) + (n : Int)) = (k : Int) + n := IntWalk.i64_in _ (by omega)
  have hd : decide ((room : Int) < (k : Int) + (n : Int)) = false := by simp; omega
  have hd2 : decide (room < k + n) = false := by simp; omega
  obtain ⟨i0, hi, hz0, hz1, hz2⟩ := info_parts Tryz.info5
  have HI := Lib.hid hi; clear hi
  have HZ0 := Lib.hid hz0; clear hz0
  have HZ1 := Lib.hid hz1; clear hz1
  have HZ2 := Lib.hid hz2; clear hz2
  have HB := Lib.hid hb; clear hb
  have HN := Lib.hid hn; clear hn
  have HK := Lib.hid hk; clear hk
  have HS := Lib.hid hs; clear hs
  have HM := Lib.hid hm; clear hm
  have HH := Lib.hid hh; clear hh
  have HFT := Lib.hid hf; clear hf
  go_enter Tryz.func54, Tryz.ntmps54
  go_wp2
  go_quiet (fail)
  have f1 : Frm [] w ((w.drewN nq).alloc (.cells #[] 5)) := ((Frm.refl [] w).drewN nq).alloc _
  have HF1 := Lib.hid f1
  have hm1 := f1.whole HM.out (by simp)
  have k2 := hm1.cell 2
  simp at k2
  clear f1 hm1 c0 c2
  go_wp2_with (at_builtin; refine wpList_append_bytes rfl (.tmp 19) (.tmp 23) 35 rfl w.heap.size 5 i0 Tryz.underlying35 HI.out HZ0.out HZ1.out HZ2.out _ 0 [] rfl ?own1 _ _ _ l rfl ?b1 HK.out HH.out.none_cap ?fit1 ?base1 ?_)
  case own1 => exact World.ownsRow_lit (w.drewN nq) #[] 0 (Nat.le_refl _) (by unfold maxLen; omega) rfl
  case b1 => exact HF1.out.bytes (HH.out.bytes HS.out.1) (by simp)
  case fit1 => omega
  case base1 => simp
  intro a2 cap2 w2 hown2 hg2
  have HF2 := Lib.hid (HF1.out.grown hg2 (fun k hk => by simp [Value.ownBlock] at hk; right; omega))
  clear hg2 k2
  have hz2 : w.heap.size ≤ w2.heap.size := HF2.out.size
  go_wp2_with (at_builtin; refine wpList_append_bytes rfl (.tmp 24) (.tmp 25) 35 rfl w.heap.size 5 i0 Tryz.underlying35 HI.out HZ0.out HZ1.out HZ2.out _ k (l.map u8v) rfl hown2 _ _ _ b rfl ?b2 HN.out hnil ?fit2 ?base2 ?_)
  case b2 => exact HF2.out.bytes HB.out (by simp)
  case fit2 => omega
  case base2 => exact hz2
  intro a3 cap3 w3 hown3 hg3
  have HF3 := Lib.hid (HF2.out.grown hg3 (fun k hk => .inr (hown2.lt k hk).1))
  rw [← List.map_append] at hown3
  have HO3 := Lib.hid hown3
  have hm3 := HF3.out.whole HM.out (by simp)
  have k2 := hm3.cell 2
  have g2 := hm3.free 2
  simp at k2
  clear hown2 hown3 hg3 hm3
  go_wp2
  go_ret
  have hlen : (l ++ b).length = k + n := by rw [List.length_append, HK.out, HN.out]
  have hh3 := (Hd.ofOwn HO3.out).2
  have hlt := HO3.out.lt
  refine ⟨rfl, ?_⟩
  rw [← hlen]
  refine Rf.stored (HF3.out.whole HM.out (by simp)) (Hd.rebase hh3 (B' := B) hBw) ⟨?_, HS.out.2.1, ?_, ?_, HS.out.2.2.2.2⟩ HF3.out (by simp) (fun g hg => .inr ?_)
  · intro c hc
    rcases List.mem_append.1 hc with h | h
    · exact HS.out.1 c h
    · exact HB.out.1 c h
  · have := HS.out.2.2.1; simp; omega
  · have := HFT.out; simp; omega
  · obtain ⟨x, rfl, rfl⟩ := mem_blk.1 hg
    exact (hlt x.block rfl).1
end Go.Proofs.YtamcandcfainfaaGreat
