/- Contracts of the disk's own calls: New, Append, Sync, Cut, Bytes, Sure; of nil ones. -/
import Derived.Test.YtibaloloheakpaaDkTurn
namespace Go.Proofs.Ytibaloloheakpaa
open Go.RowKit

theorem new_bad (room : Int) (w : World) (h : room < 0 ∨ 16777216 < room) :
    Calls Try.prog 8 #[.int .i64 room] w fun e w' => e = .returned (.tuple #[.pointer none, .int .i64 2]) ∧ w = w' := by
  rcases h with h | h
  · go_enter Try.func8, Try.ntmps8
    go_wp2
    go_ret2
    exact ⟨rfl, rfl⟩
  · have h' : ¬ room < 0 := by omega
    go_enter Try.func8, Try.ntmps8
    go_wp2
    go_ret2
    exact ⟨rfl, rfl⟩

def NewEnd (w : World) (room : Nat) (e : Ending) (w' : World) : Prop :=
  e = .returned (.tuple #[.pointer (some ⟨w.heap.size, 0, none⟩), .int .i64 0]) ∧ Dk w' w.heap.size w.heap.size [w.heap.size] [] 0 room ∧ Frm [] w w' ∧ w'.heap.size = w.heap.size + 1
theorem new_ok (room : Nat) (w : World) (h : room ≤ 16777216) : Calls Try.prog 8 #[.int .i64 (room : Nat)] w (NewEnd w room) := by
  go_enter Try.func8, Try.ntmps8
  go_wp2
  go_ret2
  exact ⟨rfl, ⟨⟨by simp, Nat.le_refl _, Nat.le_refl _, Nat.zero_le _, h⟩, .inl ⟨rfl, rfl, Whole.made _ _ _⟩⟩, (Frm.refl _ _).alloc _, by simp⟩

/-- A call of the disk that changes nothing. -/
def Same (w : World) (v : Value) (e : Ending) (w' : World) : Prop := e = .returned v ∧ ∃ n, w' = w.drewN n
/-- A call of the disk that answers v and leaves the bytes l', s' of them sure. -/
def DkRet (w : World) (B p : Nat) (F : List Nat) (l' : List Nat) (s' room : Nat) (v : Value) (e : Ending) (w' : World) : Prop := e = .returned v ∧ DkTo w w' B p F l' s' room

theorem append_full {w : World} {B p : Nat} {F l : List Nat} {s room : Nat} (ad : Option Addr) (n c : Nat) (h : Dk w B p F l s room) (hn : n ≤ 9223372036854775807) (hf : room < l.length + n) :
    Calls Try.prog 9 #[.pointer (some ⟨p, 0, none⟩), .slice ad n c] w (Same w (.int .i64 8)) := by
  obtain ⟨x0, hp⟩ := h.size
  have hs := h.1.2.2
  obtain ⟨k, hk⟩ : ∃ k, k = l.length := ⟨_, rfl⟩
  rw [← hk] at hp hf hs
  have c1 := hp.cell 1
  have c3 := hp.cell 3
  simp at c1 c3
  have hsub : IntKind.i64.wrap ((room : Int) - (k : Int)) = (room : Int) - k := IntWalk.i64_in _ (by omega)
  have hd : decide ((room : Int) - (k : Int) < (n : Int)) = true := by simp; omega
  clear hp h hk
  go_enter Try.func9, Try.ntmps9
  go_wp2
  go_quiet (fail)
  go_wp2
  go_ret
  exact ⟨rfl, _, rfl⟩

theorem append_ok {w : World} {B p : Nat} {F l : List Nat} {s room : Nat} (ad : Option Addr) (n c : Nat) (b : List Nat) (h : Dk w B p F l s room) (hb : Bytes w ad b) (hn : n = b.length) (hnil : ad = none → c = 0) (hf : l.length + b.length ≤ room) :
    Calls Try.prog 9 #[.pointer (some ⟨p, 0, none⟩), .slice ad n c] w (DkRet w B p F (l ++ b) s room (.int .i64 0)) := by
  obtain ⟨x0, hp⟩ := h.size
  have hs := h.1.2.2
  obtain ⟨k, hk⟩ : ∃ k, k = l.length := ⟨_, rfl⟩
  rw [← hk] at hp hs
  have hnk : k + n ≤ room := by omega
  have c1 := hp.cell 1
  have c3 := hp.cell 3
  simp at c1 c3
  have hsub : IntKind.i64.wrap ((room : Int) - (k : Int)) = (room : Int) - k := IntWalk.i64_in _ (by omega)
  have hd : decide ((room : Int) - (k : Int) < (n : Int)) = false := by simp; omega
  have H := Lib.hid h
  have HB := Lib.hid hb
  have HN := Lib.hid hn
  have HF := Lib.hid hf
  clear hp h hk hb hn hf
  go_enter Try.func9, Try.ntmps9
  go_wp2
  go_quiet (fail)
  go_wp2_with fail
  have hfq : Frm [] w (w.drewN nq) := (Frm.refl [] w).drewN nq
  refine (lay_any ad n c b (H.out.keep hfq (by simp)) (hfq.bytes HB.out (by simp)) HN.out hnil HF.out).mono ?_
  rintro e w1 ⟨rfl, hd1⟩
  have HD1 := Lib.hid (hd1.early hfq); clear hd1 hfq
  go_wp2
  go_ret
  exact ⟨rfl, HD1.out⟩

theorem sync_any {w : World} {B p : Nat} {F l : List Nat} {s room : Nat} (h : Dk w B p F l s room) :
    Calls Try.prog 11 #[.pointer (some ⟨p, 0, none⟩)] w (DkEnd w B p F l l.length room) := by
  obtain ⟨hs, ⟨rfl, rfl, hp⟩ | ⟨r, a, cap, hon, rfl⟩⟩ := h
  · have c1 := hp.cell 1
    have f2 := hp.free 2
    have c2 := hp.cell 2
    simp at c1 c2
    have HP := Lib.hid hp; clear hp
    have HS := Lib.hid hs; clear hs
    go_enter Try.func11, Try.ntmps11
    go_wp2
    go_end0
    have hp2 := HP.out.put 2 (.int .i64 0)
    exact ⟨rfl, [p], ⟨⟨by simp, HS.out.2.1, Nat.le_refl _, Nat.zero_le _, HS.out.2.2.2.2⟩, .inl ⟨rfl, rfl, by simpa using hp2⟩⟩, (Frm.refl _ _).setCell (.inl (by simp)) _, fun x hx => .inl hx⟩
  · obtain ⟨k, hk⟩ : ∃ k, k = l.length := ⟨_, rfl⟩
    have hp := hon.disk
    rw [← hk] at hp ⊢
    have c1 := hp.cell 1
    have f2 := hp.free 2
    have c2 := hp.cell 2
    simp at c1 c2
    have HO := Lib.hid hon; clear hon hp
    have HS := Lib.hid hs; clear hs
    have HK := Lib.hid hk; clear hk
    go_enter Try.func11, Try.ntmps11
    go_wp2
    go_end0
    have hon := HO.out
    have hs := HS.out
    have hk := HK.out
    subst hk
    have hne := hon.disk.ne hon.row (by decide)
    have hp2 := hon.disk.put 2 (.int .i64 (l.length : Nat))
    have hr2 := hon.row.other (p := ⟨p, 2, none⟩) (Ne.symm hne) (.int .i64 (l.length : Nat))
    have hf : Frm [p] w (w.setCell ⟨p, 2, none⟩ (.int .i64 (l.length : Nat))) := (Frm.refl _ _).setCell (.inl (by simp)) _
    have hb := hd_ne hon.head hon.disk (by decide)
    exact ⟨rfl, _, ⟨⟨hs.1, hs.2.1, Nat.le_refl _, hs.2.2.2.1, hs.2.2.2.2⟩, .inr ⟨r, a, cap, ⟨by simpa using hp2, hr2, hon.head.keep hf (fun g hg hm => by simp at hm; subst hm; exact hb hg), hon.hr⟩, rfl⟩⟩, hf.weak (fun x hx => .inl (by simp at hx; simp [hx])), fun x hx => .inl hx⟩

theorem cutm_bad {w : World} {B p : Nat} {F l : List Nat} {s room : Nat} (n : Int) (h : Dk w B p F l s room) (hn : n < 0 ∨ (l.length : Int) < n) :
    Calls Try.prog 12 #[.pointer (some ⟨p, 0, none⟩), .int .i64 n] w fun e w' => e = .returned (.int .i64 2) ∧ w = w' := by
  obtain ⟨x0, hp⟩ := h.size
  obtain ⟨k, hk⟩ : ∃ k, k = l.length := ⟨_, rfl⟩
  rw [← hk] at hp hn
  have c1 := hp.cell 1
  simp at c1
  clear hp h hk
  rcases hn with hn | hn
  · go_enter Try.func12, Try.ntmps12
    go_wp2
    go_ret
    exact ⟨rfl, rfl⟩
  · have h' : ¬ n < 0 := by omega
    go_enter Try.func12, Try.ntmps12
    go_wp2
    go_ret
    exact ⟨rfl, rfl⟩

theorem cutm_ok {w : World} {B p : Nat} {F l : List Nat} {s room : Nat} (n : Nat) (h : Dk w B p F l s room) (hn : n ≤ l.length) :
    Calls Try.prog 12 #[.pointer (some ⟨p, 0, none⟩), .int .i64 (n : Nat)] w (DkRet w B p F (l.take n) (min s n) room (.int .i64 0)) := by
  obtain ⟨x0, hp⟩ := h.size
  obtain ⟨k, hk⟩ : ∃ k, k = l.length := ⟨_, rfl⟩
  have hnk : n ≤ k := by omega
  rw [← hk] at hp
  have c1 := hp.cell 1
  simp at c1
  have H := Lib.hid h
  have HN := Lib.hid hn
  clear hp h hk hn
  go_enter Try.func12, Try.ntmps12
  go_wp2_with fail
  refine (cut_any n H.out HN.out).mono ?_
  rintro e w1 ⟨rfl, hd1⟩
  have HD1 := Lib.hid hd1; clear hd1
  go_wp2
  go_ret
  exact ⟨rfl, HD1.out⟩

theorem Own.drewN {w w' : World} {l : List Nat} {e : Ending} {n : Nat} (h : Own (w.drewN n) w' l e) : Own w w' l e := by
  obtain ⟨a', cap', he, ho, hf⟩ := h
  exact ⟨a', cap', he, ho, hf.os, hf.tape, hf.output, hf.size, hf.block⟩

theorem bytes_any {w : World} {B p : Nat} {F l : List Nat} {s room : Nat} (h : Dk w B p F l s room) :
    Calls Try.prog 16 #[.pointer (some ⟨p, 0, none⟩)] w fun e w' => Own w w' l e := by
  obtain ⟨hs, ⟨rfl, rfl, hp⟩ | ⟨r, a, cap, hon, rfl⟩⟩ := h
  · have HP := Lib.hid hp; clear hp hs
    go_enter Try.func16, Try.ntmps16
    go_wp2_with fail
    refine (all_nil p room w HP.out).mono ?_
    rintro e w' ⟨rfl, rfl⟩
    go_wp2_with fail
    refine (clone_any none 0 0 [] w (⟨by simp, by simp, .inl rfl⟩) rfl (fun _ => rfl) (by omega)).mono ?_
    rintro e w' ⟨a', cap', rfl, ho, hf⟩
    have HO := Lib.hid ho; clear ho
    have HF := Lib.hid hf; clear hf
    go_wp2
    go_ret
    exact ⟨a', cap', rfl, HO.out, HF.out⟩
  · have HO := Lib.hid hon; clear hon
    have HS := Lib.hid hs; clear hs
    obtain ⟨k, hk⟩ : ∃ k, k = l.length := ⟨_, rfl⟩
    have HK := Lib.hid hk; clear hk
    go_enter Try.func16, Try.ntmps16
    go_wp2_with fail
    refine (all_on p r a k cap s room w (by rw [HK.out]; exact HO.out.disk) (by rw [HK.out]; exact HO.out.row) (by rw [HK.out]; exact HO.out.head.cap_le.1)).mono ?_
    rintro e w' ⟨rfl, q, rfl⟩
    go_wp2_with fail
    refine (clone_any a k cap l (w.drewN q) (((Frm.refl [] w).drewN q).bytes (HO.out.head.bytes HS.out.1) (by simp)) HK.out HO.out.head.none_cap (by have := HS.out.2.2.2; have := HK.out; omega)).mono ?_
    rintro e w' ⟨a', cap', rfl, ho, hf⟩
    have HO2 := Lib.hid ho; clear ho
    have HF := Lib.hid hf; clear hf
    go_wp2
    go_ret
    exact Own.drewN ⟨a', cap', rfl, HO2.out, HF.out⟩

theorem sure_any {w : World} {B p : Nat} {F l : List Nat} {s room : Nat} (h : Dk w B p F l s room) :
    Calls Try.prog 17 #[.pointer (some ⟨p, 0, none⟩)] w fun e w' => e = .returned (.int .i64 (s : Nat)) ∧ w = w' := by
  obtain ⟨x0, hp⟩ := h.size
  have c2 := hp.cell 2
  simp at c2
  clear hp h
  go_enter Try.func17, Try.ntmps17
  go_wp2
  go_ret
  exact ⟨rfl, rfl⟩
end Go.Proofs.Ytibaloloheakpaa
