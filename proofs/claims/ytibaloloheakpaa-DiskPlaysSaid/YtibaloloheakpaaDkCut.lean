/- Contract of cut: just the first n bytes, as sure as they were. -/
import Derived.Test.YtibaloloheakpaaDkBase
import Derived.WalkLawsBesides
namespace Go.Proofs.Ytibaloloheakpaa
open Go.RowKit

/-- What a change of the disk leaves: the bytes l', s' of them sure. -/
def DkTo (w w' : World) (B p : Nat) (F : List Nat) (l' : List Nat) (s' room : Nat) : Prop :=
  ∃ F', Dk w' B p F' l' s' room ∧ Frm F w w' ∧ ∀ x ∈ F', x ∈ F ∨ w.heap.size ≤ x
/-- What cut leaves: there is a row now. -/
def CutTo (w w' : World) (B p : Nat) (F : List Nat) (l' : List Nat) (s' room : Nat) : Prop :=
  ∃ r a cap, DkOn w' B p r a cap l' s' room ∧ ((∀ c ∈ l', c < 256) ∧ B ≤ p ∧ s' ≤ l'.length ∧ l'.length ≤ room ∧ room ≤ 16777216) ∧ Frm F w w' ∧ ∀ x ∈ p :: r :: blk a, x ∈ F ∨ w.heap.size ≤ x
theorem CutTo.dk {w w' : World} {B p : Nat} {F l' : List Nat} {s' room : Nat} (h : CutTo w w' B p F l' s' room) : DkTo w w' B p F l' s' room := by
  obtain ⟨r, a, cap, hon, hs, hf, hF⟩ := h
  exact ⟨_, ⟨hs, .inr ⟨r, a, cap, hon, rfl⟩⟩, hf, hF⟩
def CutEnd (w : World) (B p : Nat) (F : List Nat) (l' : List Nat) (s' room : Nat) (e : Ending) (w' : World) : Prop := e = .returned (.tuple #[]) ∧ CutTo w w' B p F l' s' room
def DkEnd (w : World) (B p : Nat) (F : List Nat) (l' : List Nat) (s' room : Nat) (e : Ending) (w' : World) : Prop := e = .returned (.tuple #[]) ∧ DkTo w w' B p F l' s' room

theorem Whole.drewN {w : World} {g : Nat} {t : TypeId} {cs : Array Value} (h : Whole w g t cs) (n : Nat) : Whole (w.drewN n) g t cs := h
theorem hd_ne {w : World} {B : Nat} {a : Option Addr} {cap : Nat} {l : List Nat} {g : Nat} {t : TypeId} {cs : Array Value} (h : Hd w B 5 a cap l) (hg : Whole w g t cs) (hne : 5 ≠ t) : g ∉ blk a := by
  intro hm
  rcases h with ⟨rfl, _⟩ | ⟨g', cur, rfl, _, hh, _⟩
  · simp at hm
  · simp at hm
    subst hm
    exact Whole.ne (t := 5) hh hg hne rfl

/-- What cut's three stores leave. -/
theorem cut_end {w : World} {B p : Nat} {F : List Nat} {a : Option Addr} {n m room : Nat} {l' : List Nat} {x0 x1 x2 : Value} (q : Nat) (hp : Whole w p 49 #[x0, x1, x2, .int .i64 (room : Nat)])
    (hh : Hd w B 5 a n l') (hl : l'.length = n) (h8 : ∀ c ∈ l', c < 256) (hB : B ≤ p) (hm : m ≤ n) (hnr : n ≤ room) (hroom : room ≤ 16777216) (hpF : p ∈ F) (haF : ∀ g ∈ blk a, g ∈ F) :
    CutTo w (((((w.drewN q).alloc (.cells #[.slice a n n] 54)).setCell ⟨p, 0, none⟩ (.pointer (some ⟨w.heap.size, 0, none⟩))).setCell ⟨p, 1, none⟩ (.int .i64 (n : Nat))).setCell ⟨p, 2, none⟩ (.int .i64 (m : Nat))) B p F l' m room := by
  have hplt := hp.lt
  have hne : p ∉ blk a := hd_ne hh hp (by decide)
  have hp1 := (((hp.drewN q).alloc (.cells #[.slice a n n] 54)).put 0 (.pointer (some ⟨w.heap.size, 0, none⟩))).put 1 (.int .i64 (n : Nat)) |>.put 2 (.int .i64 (m : Nat))
  have hr0 : Whole ((w.drewN q).alloc (.cells #[.slice a n n] 54)) w.heap.size 54 #[.slice a n n] := Whole.made (w.drewN q) 54 #[.slice a n n]
  have hr1 := ((hr0.other (p := ⟨p, 0, none⟩) (by simp; omega) (.pointer (some ⟨w.heap.size, 0, none⟩))).other (p := ⟨p, 1, none⟩) (by simp; omega) (.int .i64 (n : Nat))).other (p := ⟨p, 2, none⟩) (by simp; omega) (.int .i64 (m : Nat))
  have hf : Frm [p] w (((((w.drewN q).alloc (.cells #[.slice a n n] 54)).setCell ⟨p, 0, none⟩ (.pointer (some ⟨w.heap.size, 0, none⟩))).setCell ⟨p, 1, none⟩ (.int .i64 (n : Nat))).setCell ⟨p, 2, none⟩ (.int .i64 (m : Nat))) :=
    (((((Frm.refl [p] w).drewN q).alloc _).setCell (.inl (by simp)) _).setCell (.inl (by simp)) _).setCell (.inl (by simp)) _
  subst hl
  refine ⟨w.heap.size, a, l'.length, ⟨by simpa using hp1, hr1, hh.keep hf ?_, by omega⟩, ⟨h8, hB, hm, hnr, hroom⟩, hf.weak ?_, ?_⟩
  · intro g hg; simp; rintro rfl; exact hne hg
  · intro x hx; simp at hx; subst hx; exact .inl hpF
  · intro x hx
    simp only [List.mem_cons] at hx
    rcases hx with rfl | rfl | hx
    · exact .inl hpF
    · exact .inr (Nat.le_refl _)
    · exact .inl (haF x hx)

set_option maxHeartbeats 1000000 in
theorem cut_on (B p r : Nat) (a : Option Addr) (cap : Nat) (l : List Nat) (s room n : Nat) (w : World) (h : DkOn w B p r a cap l s room) (hs : (∀ c ∈ l, c < 256) ∧ B ≤ p ∧ s ≤ l.length ∧ l.length ≤ room ∧ room ≤ 16777216) (hn : n ≤ l.length) :
    Calls Try.prog 19 #[.pointer (some ⟨p, 0, none⟩), .int .i64 (n : Nat)] w (CutEnd w B p (p :: r :: blk a) (l.take n) (min s n) room) := by
  have hcl := h.head.cap_le
  obtain ⟨k, hk⟩ : ∃ k, k = l.length := ⟨_, rfl⟩
  have hp := h.disk
  have hr := h.row
  rw [← hk] at hp hr hcl
  have hcut := fun w => run_head_hm Try.underlying29 sizeU8 w a k cap n n (Nat.le_refl _) (by omega)
  have hn2 : n ≤ 16777216 := by omega
  have hs2 : s ≤ 16777216 := by omega
  have c0 := hp.cell 0
  have c1 := hp.cell 1
  have c2 := hp.cell 2
  have f0 := hp.free 0
  have f1 := hp.free 1
  have f2 := hp.free 2
  simp at c0 c1 c2
  have HS := Lib.hid hs; clear hs
  have HK := Lib.hid hk; clear hk
  have HH := Lib.hid h; clear h
  have HP := Lib.hid hp; clear hp
  have HR := Lib.hid hr; clear hr
  go_enter Try.func19, Try.ntmps19
  go_wp2_with fail
  refine (all_on p r a k cap s room w HP.out HR.out hcl.1).mono ?_
  rintro e w' ⟨rfl, q, rfl⟩
  clear c0 c1 c2 f0 f1 f2
  have hp2 := (HP.out.drewN q).alloc (.cells #[.slice a n n] 54)
  have c0 := hp2.cell 0
  have c1 := hp2.cell 1
  have c2 := hp2.cell 2
  have f0 := hp2.free 0
  have f1 := hp2.free 1
  have f2 := hp2.free 2
  simp at c0 c1 c2
  clear hp2
  go_wp2
  all_goals
    go_end0
    have hs := HS.out
    have hk := HK.out
    have hl : (l.take n).length = n := by simp; omega
    have h8 : ∀ c ∈ l.take n, c < 256 := fun c hc => hs.1 c (List.mem_of_mem_take hc)
    refine ⟨rfl, ?_⟩
  · rw [show min s n = n by omega]
    exact cut_end q HP.out (HH.out.head.tight n hn) hl h8 hs.2.1 (by omega) (by omega) hs.2.2.2.2 (by simp) (fun g hg => by simp [hg])
  · rw [show min s n = s by omega]
    exact cut_end q HP.out (HH.out.head.tight n hn) hl h8 hs.2.1 (by omega) (by omega) hs.2.2.2.2 (by simp) (fun g hg => by simp [hg])

set_option maxHeartbeats 1000000 in
theorem cut_off (B p room : Nat) (w : World) (hp : Whole w p 49 #[.pointer none, .int .i64 0, .int .i64 0, .int .i64 (room : Nat)]) (hB : B ≤ p) (hroom : room ≤ 16777216) :
    Calls Try.prog 19 #[.pointer (some ⟨p, 0, none⟩), .int .i64 0] w (CutEnd w B p [p] [] 0 room) := by
  have hcut := fun w => run_head_hm Try.underlying29 sizeU8 w none 0 0 0 0 (Nat.le_refl _) (by omega)
  simp only [Int.natCast_zero] at hcut
  have HP := Lib.hid hp; clear hp
  go_enter Try.func19, Try.ntmps19
  go_wp2_with fail
  refine (all_nil p room w HP.out).mono ?_
  rintro e w' ⟨rfl, rfl⟩
  have hp2 := HP.out.alloc (.cells #[.slice none 0 0] 54)
  have c0 := hp2.cell 0
  have c1 := hp2.cell 1
  have c2 := hp2.cell 2
  have f0 := hp2.free 0
  have f1 := hp2.free 1
  have f2 := hp2.free 2
  simp at c0 c1 c2
  clear hp2
  go_wp2
  go_end0
  exact ⟨rfl, cut_end 0 HP.out (Hd.nil _ _ _) rfl (by simp) hB (Nat.le_refl _) (by omega) hroom (by simp) (by simp)⟩

/-- cut, whether or not there is a row. -/
theorem cut_any {w : World} {B p : Nat} {F l : List Nat} {s room : Nat} (n : Nat) (h : Dk w B p F l s room) (hn : n ≤ l.length) :
    Calls Try.prog 19 #[.pointer (some ⟨p, 0, none⟩), .int .i64 (n : Nat)] w (DkEnd w B p F (l.take n) (min s n) room) := by
  obtain ⟨hs, ⟨rfl, rfl, hp⟩ | ⟨r, a, cap, hon, rfl⟩⟩ := h
  · have hn0 : n = 0 := by simpa using hn
    have hs0 : s = 0 := by simpa using hs.2.2.1
    subst hn0 hs0
    exact (cut_off B p room w hp hs.2.1 hs.2.2.2.2).mono fun _ _ h => ⟨h.1, h.2.dk⟩
  · exact (cut_on B p r a cap l s room n w hon hs hn).mono fun _ _ h => ⟨h.1, h.2.dk⟩
end Go.Proofs.Ytibaloloheakpaa
