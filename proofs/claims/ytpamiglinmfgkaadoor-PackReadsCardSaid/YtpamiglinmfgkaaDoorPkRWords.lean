/- Contracts of Reader.U8, U16, U32, U64, counted, Bytes. -/
import Derived.Test.YtpamiglinmfgkaaDoorPkRNum
namespace Go.Proofs.YtpamiglinmfgkaaDoor
open Go.RowKit

theorem Rdr.h8 {w : World} {rb cb db : Nat} {l : List Nat} (h : Rdr w rb cb db l) : ∀ c ∈ l, c < 256 := by
  obtain ⟨a, cap, _, _, h3, _⟩ := h
  exact h3.1
theorem Rdr.fits {w : World} {rb cb db : Nat} {l : List Nat} (h : Rdr w rb cb db l) : l.length ≤ 9223372036854775807 := by
  obtain ⟨a, cap, _, _, h3, _⟩ := h
  exact h3.2.1
theorem val_take_lt {w : World} {rb cb db : Nat} {l : List Nat} (h : Rdr w rb cb db l) (k : Nat) (hk : k ≤ l.length) : val (l.take k) < 256 ^ k := by
  have := val_lt (l.take k) (fun c hc => h.h8 c (List.mem_of_mem_take hc))
  rwa [List.length_take, Nat.min_eq_left hk] at this

theorem ru8_ok {w : World} {rb cb db : Nat} {l : List Nat} (h : Rdr w rb cb db l) (hl : 1 ≤ l.length) (hdb : db < w.heap.size) :
    Calls Tryd.prog 23 #[.pointer (some ⟨rb, 0, none⟩)] w (Got w rb cb db l 1 (.int .u8 (val (l.take 1) : Nat))) := by
  have hv : val (l.take 1) < 256 := val_take_lt h 1 hl
  have HN := Lib.hid (rnumber_ok 1 h (by omega) hl hdb)
  clear h
  obtain ⟨v, hve⟩ : ∃ v, v = val (l.take 1) := ⟨_, rfl⟩
  rw [← hve] at hv HN ⊢
  have HVE := Lib.hid hve; clear hve
  go_enter Tryd.func23, Tryd.ntmps23
  go_wp2_with fail
  refine HN.out.mono ?_
  rintro e w' ⟨rfl, hr, hf⟩
  have HR := Lib.hid hr; clear hr
  go_wp2
  go_ret
  exact ⟨rfl, HR.out, hf⟩
theorem ru8_short {w : World} {rb cb db : Nat} {l : List Nat} (h : Rdr w rb cb db l) (hl : l.length < 1) :
    Calls Tryd.prog 23 #[.pointer (some ⟨rb, 0, none⟩)] w (Thrown w rb cb 4) := by
  have HN := Lib.hid (rnumber_short 1 h (by omega) hl)
  clear h
  go_enter Tryd.func23, Tryd.ntmps23
  go_wp2_with fail
  refine HN.out.mono ?_
  rintro e w' ⟨rfl, h1, h2⟩
  exact ⟨rfl, rfl, h1, h2⟩

theorem ru16_ok {w : World} {rb cb db : Nat} {l : List Nat} (h : Rdr w rb cb db l) (hl : 2 ≤ l.length) (hdb : db < w.heap.size) :
    Calls Tryd.prog 15 #[.pointer (some ⟨rb, 0, none⟩)] w (Got w rb cb db l 2 (.int .u16 (val (l.take 2) : Nat))) := by
  have hv : val (l.take 2) < 65536 := val_take_lt h 2 hl
  have HN := Lib.hid (rnumber_ok 2 h (by omega) hl hdb)
  clear h
  obtain ⟨v, hve⟩ : ∃ v, v = val (l.take 2) := ⟨_, rfl⟩
  rw [← hve] at hv HN ⊢
  have HVE := Lib.hid hve; clear hve
  go_enter Tryd.func15, Tryd.ntmps15
  go_wp2_with fail
  refine HN.out.mono ?_
  rintro e w' ⟨rfl, hr, hf⟩
  have HR := Lib.hid hr; clear hr
  go_wp2
  go_ret
  exact ⟨rfl, HR.out, hf⟩
theorem ru16_short {w : World} {rb cb db : Nat} {l : List Nat} (h : Rdr w rb cb db l) (hl : l.length < 2) :
    Calls Tryd.prog 15 #[.pointer (some ⟨rb, 0, none⟩)] w (Thrown w rb cb 4) := by
  have HN := Lib.hid (rnumber_short 2 h (by omega) hl)
  clear h
  go_enter Tryd.func15, Tryd.ntmps15
  go_wp2_with fail
  refine HN.out.mono ?_
  rintro e w' ⟨rfl, h1, h2⟩
  exact ⟨rfl, rfl, h1, h2⟩

theorem ru32_ok {w : World} {rb cb db : Nat} {l : List Nat} (h : Rdr w rb cb db l) (hl : 4 ≤ l.length) (hdb : db < w.heap.size) :
    Calls Tryd.prog 24 #[.pointer (some ⟨rb, 0, none⟩)] w (Got w rb cb db l 4 (.int .u32 (val (l.take 4) : Nat))) := by
  have hv : val (l.take 4) < 4294967296 := val_take_lt h 4 hl
  have HN := Lib.hid (rnumber_ok 4 h (by omega) hl hdb)
  clear h
  obtain ⟨v, hve⟩ : ∃ v, v = val (l.take 4) := ⟨_, rfl⟩
  rw [← hve] at hv HN ⊢
  have HVE := Lib.hid hve; clear hve
  go_enter Tryd.func24, Tryd.ntmps24
  go_wp2_with fail
  refine HN.out.mono ?_
  rintro e w' ⟨rfl, hr, hf⟩
  have HR := Lib.hid hr; clear hr
  go_wp2
  go_ret
  exact ⟨rfl, HR.out, hf⟩
theorem ru32_short {w : World} {rb cb db : Nat} {l : List Nat} (h : Rdr w rb cb db l) (hl : l.length < 4) :
    Calls Tryd.prog 24 #[.pointer (some ⟨rb, 0, none⟩)] w (Thrown w rb cb 4) := by
  have HN := Lib.hid (rnumber_short 4 h (by omega) hl)
  clear h
  go_enter Tryd.func24, Tryd.ntmps24
  go_wp2_with fail
  refine HN.out.mono ?_
  rintro e w' ⟨rfl, h1, h2⟩
  exact ⟨rfl, rfl, h1, h2⟩

theorem ru64_ok {w : World} {rb cb db : Nat} {l : List Nat} (h : Rdr w rb cb db l) (hl : 8 ≤ l.length) (hdb : db < w.heap.size) :
    Calls Tryd.prog 25 #[.pointer (some ⟨rb, 0, none⟩)] w (Got w rb cb db l 8 (.int .u64 (val (l.take 8) : Nat))) := by
  have hv : val (l.take 8) < 18446744073709551616 := val_take_lt h 8 hl
  have HN := Lib.hid (rnumber_ok 8 h (by omega) hl hdb)
  clear h
  obtain ⟨v, hve⟩ : ∃ v, v = val (l.take 8) := ⟨_, rfl⟩
  rw [← hve] at hv HN ⊢
  have HVE := Lib.hid hve; clear hve
  go_enter Tryd.func25, Tryd.ntmps25
  go_wp2_with fail
  refine HN.out.mono ?_
  rintro e w' ⟨rfl, hr, hf⟩
  have HR := Lib.hid hr; clear hr
  go_wp2
  go_ret
  exact ⟨rfl, HR.out, hf⟩
theorem ru64_short {w : World} {rb cb db : Nat} {l : List Nat} (h : Rdr w rb cb db l) (hl : l.length < 8) :
    Calls Tryd.prog 25 #[.pointer (some ⟨rb, 0, none⟩)] w (Thrown w rb cb 4) := by
  have HN := Lib.hid (rnumber_short 8 h (by omega) hl)
  clear h
  go_enter Tryd.func25, Tryd.ntmps25
  go_wp2_with fail
  refine HN.out.mono ?_
  rintro e w' ⟨rfl, h1, h2⟩
  exact ⟨rfl, rfl, h1, h2⟩

theorem counted_short {w : World} {rb cb db : Nat} {l : List Nat} (h : Rdr w rb cb db l) (hl : l.length < 4) :
    Calls Tryd.prog 33 #[.pointer (some ⟨rb, 0, none⟩)] w (Thrown w rb cb 4) := by
  have HN := Lib.hid (rnumber_short 4 h (by omega) hl)
  clear h
  go_enter Tryd.func33, Tryd.ntmps33
  go_wp2_with fail
  refine HN.out.mono ?_
  rintro e w' ⟨rfl, h1, h2⟩
  exact ⟨rfl, rfl, h1, h2⟩
theorem counted_less {w : World} {rb cb db : Nat} {l : List Nat} (h : Rdr w rb cb db l) (hl : 4 ≤ l.length) (hdb : db < w.heap.size) (hn : l.length - 4 < val (l.take 4)) :
    Calls Tryd.prog 33 #[.pointer (some ⟨rb, 0, none⟩)] w (Thrown w rb cb 4) := by
  have hv : val (l.take 4) < 4294967296 := val_take_lt h 4 hl
  have HN := Lib.hid (rnumber_ok 4 h (by omega) hl hdb)
  clear h
  obtain ⟨v, hve⟩ : ∃ v, v = val (l.take 4) := ⟨_, rfl⟩
  rw [← hve] at hv HN hn
  have HVE := Lib.hid hve; clear hve
  go_enter Tryd.func33, Tryd.ntmps33
  go_wp2_with fail
  refine HN.out.mono ?_
  rintro e w' ⟨rfl, hr, hf⟩
  have HR := Lib.hid hr; clear hr
  go_wp2_with fail
  refine (take_short v HR.out (by simp; omega) (by omega)).mono ?_
  rintro e w2 ⟨rfl, h1, h2⟩
  exact ⟨rfl, Thrown.early ⟨rfl, h1, h2⟩ hf⟩
/-- What a counted call takes. -/
def Counted (w : World) (rb cb db : Nat) (l : List Nat) (n : Nat) (e : Ending) (w' : World) : Prop :=
  ∃ a cap, e = .returned (.slice a n cap) ∧ Bytes w' a ((l.drop 4).take n) ∧ n ≤ cap ∧ cap ≤ 9223372036854775807 ∧ (a = none → cap = 0) ∧ (∀ x, a = some x → x.block = db) ∧ Rdr w' rb cb db (l.drop (4 + n)) ∧ Frm [rb] w w'
theorem counted_ok {w : World} {rb cb db : Nat} {l : List Nat} (h : Rdr w rb cb db l) (hl : 4 ≤ l.length) (hdb : db < w.heap.size) (n : Nat) (hn : val (l.take 4) = n) (hn2 : n ≤ l.length - 4) :
    Calls Tryd.prog 33 #[.pointer (some ⟨rb, 0, none⟩)] w (Counted w rb cb db l n) := by
  have HN := Lib.hid (rnumber_ok 4 h (by omega) hl hdb)
  clear h
  rw [hn] at HN
  clear hn
  go_enter Tryd.func33, Tryd.ntmps33
  go_wp2_with fail
  refine HN.out.mono ?_
  rintro e w' ⟨rfl, hr, hf⟩
  have HR := Lib.hid hr; clear hr
  go_wp2_with fail
  refine (take_ok n HR.out (by simp; omega)).mono ?_
  rintro e w2 ⟨a, cap, rfl, ht⟩
  have HT := Lib.hid ht; clear ht
  go_wp2
  go_ret
  obtain ⟨h1, h2, h3, h4, h5, h6, h7⟩ := HT.out
  rw [List.drop_drop] at h6
  exact ⟨a, cap, rfl, h1, h2, h3, h4, h5, h6, hf.trans h7 (fun x hx => hx) (fun x hx => .inl hx)⟩

theorem rbytes_short {w : World} {rb cb db : Nat} {l : List Nat} (h : Rdr w rb cb db l) (hl : l.length < 4) :
    Calls Tryd.prog 27 #[.pointer (some ⟨rb, 0, none⟩)] w (Thrown w rb cb 4) := by
  have HN := Lib.hid (counted_short h hl)
  clear h
  go_enter Tryd.func27, Tryd.ntmps27
  go_wp2_with fail
  refine HN.out.mono ?_
  rintro e w' ⟨rfl, h1, h2⟩
  exact ⟨rfl, rfl, h1, h2⟩
theorem rbytes_less {w : World} {rb cb db : Nat} {l : List Nat} (h : Rdr w rb cb db l) (hl : 4 ≤ l.length) (hdb : db < w.heap.size) (hn : l.length - 4 < val (l.take 4)) :
    Calls Tryd.prog 27 #[.pointer (some ⟨rb, 0, none⟩)] w (Thrown w rb cb 4) := by
  have HN := Lib.hid (counted_less h hl hdb hn)
  clear h hn
  go_enter Tryd.func27, Tryd.ntmps27
  go_wp2_with fail
  refine HN.out.mono ?_
  rintro e w' ⟨rfl, h1, h2⟩
  exact ⟨rfl, rfl, h1, h2⟩
/-- What Bytes hands back. -/
def GotBytes (w : World) (rb cb db : Nat) (l : List Nat) (n : Nat) (e : Ending) (w' : World) : Prop :=
  ∃ a cap, e = .returned (.slice a n cap) ∧ Bytes w' a ((l.drop 4).take n) ∧ (a = none → cap = 0) ∧ Rdr w' rb cb db (l.drop (4 + n)) ∧ Frm [rb] w w'
theorem rbytes_ok {w : World} {rb cb db : Nat} {l : List Nat} (h : Rdr w rb cb db l) (hl : 4 ≤ l.length) (hdb : db < w.heap.size) (n : Nat) (hn : val (l.take 4) = n) (hn2 : n ≤ l.length - 4) (hfit : n ≤ 140737488355328) :
    Calls Tryd.prog 27 #[.pointer (some ⟨rb, 0, none⟩)] w (GotBytes w rb cb db l n) := by
  have HN := Lib.hid (counted_ok h hl hdb n hn hn2)
  have H8 := Lib.hid h.h8
  clear h hn
  have hlen : ((l.drop 4).take n).length = n := by simp; omega
  have HL := Lib.hid hlen; clear hlen
  go_enter Tryd.func27, Tryd.ntmps27
  go_wp2_with fail
  refine HN.out.mono ?_
  rintro e w1 ⟨a, cap, rfl, ht⟩
  have HT := Lib.hid ht; clear ht
  go_wp2_with fail
  refine (clone_any a n cap _ _ HT.out.1 HL.out.symm HT.out.2.2.2.1 hfit).mono ?_
  rintro e w2 ⟨a', cap', rfl, ho, hf⟩
  have HO := Lib.hid ho; clear ho
  have HF := Lib.hid hf; clear hf
  rw [HL.out]
  rw [HL.out] at HO
  go_wp2
  go_ret
  obtain ⟨h1, h2, h3, h4, h5, h6, h7⟩ := HT.out
  have hb := bytes_of_own HO.out (fun c hc => H8.out c (List.mem_of_mem_drop (List.mem_of_mem_take hc)))
  exact ⟨a', cap', rfl, hb.2.1, hb.2.2, h6.keep HF.out (by simp) (by simp) (by simp), h7.trans HF.out (fun x hx => hx) (by simp)⟩
end Go.Proofs.YtpamiglinmfgkaaDoor
