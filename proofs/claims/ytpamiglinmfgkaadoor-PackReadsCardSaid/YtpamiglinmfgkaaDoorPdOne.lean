/- (For PackReads' own seat.) 'one': a thing, taken on both sides: right, with as much left on both; or thrown, with the same fault on both. -/
import Derived.Test.YtpamiglinmfgkaaDoorPdText
import Derived.Deep.RegionWith
namespace Go.Proofs.YtpamiglinmfgkaaDoor
open Go.RowKit

theorem Frm.drew1 (w : World) : Frm [] w w.drew := (Frm.refl _ _).drew
/-- Both readers have the bytes l left. -/
structure Two (w : World) (rb cb db qb : Nat) (l : List Nat) (B : Nat) : Prop where
  rdr : Rdr w rb cb db l
  rq : RQ w qb l B
  tabs : Tabs w
  b2 : 2 ≤ B
  bq : B ≤ qb
  br : B ≤ rb
  bc : B ≤ cb
  bd : B ≤ db
  dlt : db < w.heap.size
  n1 : qb ≠ rb
  n2 : qb ≠ cb
  n3 : qb ≠ db
/-- One thing more, by its kind: what is left, or the fault. -/
def took (V : List Nat → Bool) (k : Nat) (l : List Nat) : List Nat ⊕ Nat :=
  if k % 6 < 4 then (if l.length < 2 ^ (k % 6) then .inr 4 else .inl (l.drop (2 ^ (k % 6))))
  else if l.length < 4 ∨ l.length - 4 < val (l.take 4) then .inr 4
  else if k % 6 = 4 ∨ V ((l.drop 4).take (val (l.take 4))) = true then .inl (l.drop (4 + val (l.take 4))) else .inr 6

theorem Two.keep {w w' : World} {rb cb db qb : Nat} {l : List Nat} {B : Nat} {S : List Nat} (h : Two w rb cb db qb l B) (hf : Frm S w w') (hS : ∀ x ∈ S, B ≤ x ∧ x ≠ rb ∧ x ≠ cb ∧ x ≠ db ∧ x ≠ qb) : Two w' rb cb db qb l B :=
  ⟨h.rdr.keep hf (fun hm => (hS _ hm).2.1 rfl) (fun hm => (hS _ hm).2.2.1 rfl) (fun hm => (hS _ hm).2.2.2.1 rfl), h.rq.keep hf (fun hm => (hS _ hm).2.2.2.2 rfl) (fun x hx => (hS x hx).1), h.tabs.keep hf (fun x hx => Nat.le_trans h.b2 (hS x hx).1), h.b2, h.bq, h.br, h.bc, h.bd, Nat.lt_of_lt_of_le h.dlt hf.size, h.n1, h.n2, h.n3⟩
theorem Two.both {w w1 w2 : World} {rb cb db qb : Nat} {l l' : List Nat} {B : Nat} (h : Two w rb cb db qb l B) (f1 : Frm [qb] w w1) (q : RQ w1 qb l' B) (f2 : Frm [rb] w1 w2) (r : Rdr w2 rb cb db l') : Two w2 rb cb db qb l' B ∧ Frm [rb, qb] w w2 := by
  have f : Frm [rb, qb] w w2 := f1.trans f2 (by simp) (by simp)
  have hb2 := h.b2; have hbq := h.bq; have hbr := h.br
  exact ⟨⟨r, q.keep f2 (by simp; exact h.n1) (fun x hx => by simp at hx; omega), h.tabs.keep f (fun x hx => by simp at hx; omega), h.b2, h.bq, h.br, h.bc, h.bd, Nat.lt_of_lt_of_le h.dlt f.size, h.n1, h.n2, h.n3⟩, f⟩
/-- Thrown, with the fault on both sides. -/
def Er2 (w : World) (rb cb qb : Nat) (c : Nat) (e : Ending) (w' : World) : Prop :=
  e = .panicked [{ v := .iface 45 (.pointer (some ⟨cb, 0, none⟩)), recovered := false }] ∧ Whole w' cb 47 #[.bool false, .int .i64 c] ∧ RFault w' qb c ∧ Frm [rb, cb, qb] w w'
theorem Two.er {w w1 w2 : World} {rb cb db qb : Nat} {l : List Nat} {B c : Nat} {e : Ending} (h : Two w rb cb db qb l B) (f1 : Frm [qb] w w1) (q : RFault w1 qb c) (t : Thrown w1 rb cb c e w2) : Er2 w rb cb qb c e w2 :=
  ⟨t.1, t.2.1, q.keep t.2.2 (by simp; exact ⟨h.n1, h.n2⟩), f1.trans t.2.2 (by simp) (by simp)⟩
def Ok2 (w : World) (rb cb db qb : Nat) (l' : List Nat) (B : Nat) (e : Ending) (w' : World) : Prop := e = .returned (.bool true) ∧ Two w' rb cb db qb l' B ∧ Frm [rb, qb] w w'


set_option maxHeartbeats 1000000 in
theorem one0_ok {w : World} {rb cb db qb : Nat} {l : List Nat} {B k : Nat} (h : Two w rb cb db qb l B) (hk : k % 6 = 0) (hl : 1 ≤ l.length) :
    Calls Tryd.prog 10 #[.pointer (some ⟨rb, 0, none⟩), .pointer (some ⟨qb, 0, none⟩), .int .u8 k] w (Ok2 w rb cb db qb (l.drop 1) B) := by
  have hkz : (k : Int) % 6 = 0 := by omega
  have HN := Lib.hid (rqnum_ok 1 h.rq hl (by omega))
  have hv : val (l.take 1) < 256 := val_take_lt h.rdr 1 hl
  have RU := Lib.hid (fun (W : World) (hf : Frm [qb] w W) => ru8_ok (h.rdr.keep hf (by simp; exact h.n1.symm) (by simp; exact h.n2.symm) (by simp; exact h.n3.symm)) hl (Nat.lt_of_lt_of_le h.dlt hf.size))
  unfold Numb at HN
  unfold Got at RU
  obtain ⟨x, hx⟩ : ∃ x, x = val (l.take 1) := ⟨_, rfl⟩
  rw [← hx] at HN RU hv
  have H := Lib.hid h
  clear hk hl h hx
  go_enter Tryd.func10, Tryd.ntmps10
  go_wp2_with fail
  refine HN.out.mono ?_
  rintro e w1 ⟨rfl, hq, hf⟩
  have Q := Lib.hid hq
  have F := Lib.hid hf
  clear hq hf
  go_wp2_with fail
  refine (RU.out w1 F.out).mono ?_
  rintro e w2 ⟨rfl, hr, hf⟩
  have T := Lib.hid (H.out.both F.out Q.out hf hr)
  clear hr hf
  go_wp2
  go_ret
  exact ⟨rfl, T.out⟩
set_option maxHeartbeats 1000000 in
theorem one0_er {w : World} {rb cb db qb : Nat} {l : List Nat} {B k : Nat} (h : Two w rb cb db qb l B) (hk : k % 6 = 0) (hl : l.length < 1) :
    Calls Tryd.prog 10 #[.pointer (some ⟨rb, 0, none⟩), .pointer (some ⟨qb, 0, none⟩), .int .u8 k] w (Er2 w rb cb qb 4) := by
  have hkz : (k : Int) % 6 = 0 := by omega
  have HN := Lib.hid (rqnum_short 1 h.rq hl)
  have RU := Lib.hid (fun (W : World) (hf : Frm [qb] w W) => ru8_short (h.rdr.keep hf (by simp; exact h.n1.symm) (by simp; exact h.n2.symm) (by simp; exact h.n3.symm)) hl)
  have H := Lib.hid h
  clear hk hl h
  go_enter Tryd.func10, Tryd.ntmps10
  go_wp2_with fail
  refine HN.out.mono ?_
  rintro e w1 ⟨rfl, hq, hf⟩
  have Q := Lib.hid hq
  have F := Lib.hid hf
  clear hq hf
  go_wp2_with fail
  refine (RU.out w1 F.out).mono ?_
  rintro e w2 ht
  obtain ⟨rfl, _, _⟩ := id ht
  exact ⟨rfl, H.out.er F.out Q.out ht⟩


set_option maxHeartbeats 1000000 in
theorem one1_ok {w : World} {rb cb db qb : Nat} {l : List Nat} {B k : Nat} (h : Two w rb cb db qb l B) (hk : k % 6 = 1) (hl : 2 ≤ l.length) :
    Calls Tryd.prog 10 #[.pointer (some ⟨rb, 0, none⟩), .pointer (some ⟨qb, 0, none⟩), .int .u8 k] w (Ok2 w rb cb db qb (l.drop 2) B) := by
  have hkz : (k : Int) % 6 = 1 := by omega
  have HN := Lib.hid (rqnum_ok 2 h.rq hl (by omega))
  have hv : val (l.take 2) < 65536 := val_take_lt h.rdr 2 hl
  have RU := Lib.hid (fun (W : World) (hf : Frm [qb] w W) => ru16_ok (h.rdr.keep hf (by simp; exact h.n1.symm) (by simp; exact h.n2.symm) (by simp; exact h.n3.symm)) hl (Nat.lt_of_lt_of_le h.dlt hf.size))
  unfold Numb at HN
  unfold Got at RU
  obtain ⟨x, hx⟩ : ∃ x, x = val (l.take 2) := ⟨_, rfl⟩
  rw [← hx] at HN RU hv
  have H := Lib.hid h
  clear hk hl h hx
  go_enter Tryd.func10, Tryd.ntmps10
  go_wp2_with fail
  refine HN.out.mono ?_
  rintro e w1 ⟨rfl, hq, hf⟩
  have Q := Lib.hid hq
  have F := Lib.hid hf
  clear hq hf
  go_wp2_with fail
  refine (RU.out w1 F.out).mono ?_
  rintro e w2 ⟨rfl, hr, hf⟩
  have T := Lib.hid (H.out.both F.out Q.out hf hr)
  clear hr hf
  go_wp2
  go_ret
  exact ⟨rfl, T.out⟩
set_option maxHeartbeats 1000000 in
theorem one1_er {w : World} {rb cb db qb : Nat} {l : List Nat} {B k : Nat} (h : Two w rb cb db qb l B) (hk : k % 6 = 1) (hl : l.length < 2) :
    Calls Tryd.prog 10 #[.pointer (some ⟨rb, 0, none⟩), .pointer (some ⟨qb, 0, none⟩), .int .u8 k] w (Er2 w rb cb qb 4) := by
  have hkz : (k : Int) % 6 = 1 := by omega
  have HN := Lib.hid (rqnum_short 2 h.rq hl)
  have RU := Lib.hid (fun (W : World) (hf : Frm [qb] w W) => ru16_short (h.rdr.keep hf (by simp; exact h.n1.symm) (by simp; exact h.n2.symm) (by simp; exact h.n3.symm)) hl)
  have H := Lib.hid h
  clear hk hl h
  go_enter Tryd.func10, Tryd.ntmps10
  go_wp2_with fail
  refine HN.out.mono ?_
  rintro e w1 ⟨rfl, hq, hf⟩
  have Q := Lib.hid hq
  have F := Lib.hid hf
  clear hq hf
  go_wp2_with fail
  refine (RU.out w1 F.out).mono ?_
  rintro e w2 ht
  obtain ⟨rfl, _, _⟩ := id ht
  exact ⟨rfl, H.out.er F.out Q.out ht⟩


set_option maxHeartbeats 1000000 in
theorem one2_ok {w : World} {rb cb db qb : Nat} {l : List Nat} {B k : Nat} (h : Two w rb cb db qb l B) (hk : k % 6 = 2) (hl : 4 ≤ l.length) :
    Calls Tryd.prog 10 #[.pointer (some ⟨rb, 0, none⟩), .pointer (some ⟨qb, 0, none⟩), .int .u8 k] w (Ok2 w rb cb db qb (l.drop 4) B) := by
  have hkz : (k : Int) % 6 = 2 := by omega
  have HN := Lib.hid (rqnum_ok 4 h.rq hl (by omega))
  have hv : val (l.take 4) < 4294967296 := val_take_lt h.rdr 4 hl
  have RU := Lib.hid (fun (W : World) (hf : Frm [qb] w W) => ru32_ok (h.rdr.keep hf (by simp; exact h.n1.symm) (by simp; exact h.n2.symm) (by simp; exact h.n3.symm)) hl (Nat.lt_of_lt_of_le h.dlt hf.size))
  unfold Numb at HN
  unfold Got at RU
  obtain ⟨x, hx⟩ : ∃ x, x = val (l.take 4) := ⟨_, rfl⟩
  rw [← hx] at HN RU hv
  have H := Lib.hid h
  clear hk hl h hx
  go_enter Tryd.func10, Tryd.ntmps10
  go_wp2_with fail
  refine HN.out.mono ?_
  rintro e w1 ⟨rfl, hq, hf⟩
  have Q := Lib.hid hq
  have F := Lib.hid hf
  clear hq hf
  go_wp2_with fail
  refine (RU.out w1 F.out).mono ?_
  rintro e w2 ⟨rfl, hr, hf⟩
  have T := Lib.hid (H.out.both F.out Q.out hf hr)
  clear hr hf
  go_wp2
  go_ret
  exact ⟨rfl, T.out⟩
set_option maxHeartbeats 1000000 in
theorem one2_er {w : World} {rb cb db qb : Nat} {l : List Nat} {B k : Nat} (h : Two w rb cb db qb l B) (hk : k % 6 = 2) (hl : l.length < 4) :
    Calls Tryd.prog 10 #[.pointer (some ⟨rb, 0, none⟩), .pointer (some ⟨qb, 0, none⟩), .int .u8 k] w (Er2 w rb cb qb 4) := by
  have hkz : (k : Int) % 6 = 2 := by omega
  have HN := Lib.hid (rqnum_short 4 h.rq hl)
  have RU := Lib.hid (fun (W : World) (hf : Frm [qb] w W) => ru32_short (h.rdr.keep hf (by simp; exact h.n1.symm) (by simp; exact h.n2.symm) (by simp; exact h.n3.symm)) hl)
  have H := Lib.hid h
  clear hk hl h
  go_enter Tryd.func10, Tryd.ntmps10
  go_wp2_with fail
  refine HN.out.mono ?_
  rintro e w1 ⟨rfl, hq, hf⟩
  have Q := Lib.hid hq
  have F := Lib.hid hf
  clear hq hf
  go_wp2_with fail
  refine (RU.out w1 F.out).mono ?_
  rintro e w2 ht
  obtain ⟨rfl, _, _⟩ := id ht
  exact ⟨rfl, H.out.er F.out Q.out ht⟩


set_option maxHeartbeats 1000000 in
theorem one3_ok {w : World} {rb cb db qb : Nat} {l : List Nat} {B k : Nat} (h : Two w rb cb db qb l B) (hk : k % 6 = 3) (hl : 8 ≤ l.length) :
    Calls Tryd.prog 10 #[.pointer (some ⟨rb, 0, none⟩), .pointer (some ⟨qb, 0, none⟩), .int .u8 k] w (Ok2 w rb cb db qb (l.drop 8) B) := by
  have hkz : (k : Int) % 6 = 3 := by omega
  have HN := Lib.hid (rqnum_ok 8 h.rq hl (by omega))
  have hv : val (l.take 8) < 18446744073709551616 := val_take_lt h.rdr 8 hl
  have RU := Lib.hid (fun (W : World) (hf : Frm [qb] w W) => ru64_ok (h.rdr.keep hf (by simp; exact h.n1.symm) (by simp; exact h.n2.symm) (by simp; exact h.n3.symm)) hl (Nat.lt_of_lt_of_le h.dlt hf.size))
  unfold Numb at HN
  unfold Got at RU
  obtain ⟨x, hx⟩ : ∃ x, x = val (l.take 8) := ⟨_, rfl⟩
  rw [← hx] at HN RU hv
  have H := Lib.hid h
  clear hk hl h hx
  go_enter Tryd.func10, Tryd.ntmps10
  go_wp2_with fail
  refine HN.out.mono ?_
  rintro e w1 ⟨rfl, hq, hf⟩
  have Q := Lib.hid hq
  have F := Lib.hid hf
  clear hq hf
  go_wp2_with fail
  refine (RU.out w1 F.out).mono ?_
  rintro e w2 ⟨rfl, hr, hf⟩
  have T := Lib.hid (H.out.both F.out Q.out hf hr)
  clear hr hf
  go_wp2
  go_ret
  exact ⟨rfl, T.out⟩
set_option maxHeartbeats 1000000 in
theorem one3_er {w : World} {rb cb db qb : Nat} {l : List Nat} {B k : Nat} (h : Two w rb cb db qb l B) (hk : k % 6 = 3) (hl : l.length < 8) :
    Calls Tryd.prog 10 #[.pointer (some ⟨rb, 0, none⟩), .pointer (some ⟨qb, 0, none⟩), .int .u8 k] w (Er2 w rb cb qb 4) := by
  have hkz : (k : Int) % 6 = 3 := by omega
  have HN := Lib.hid (rqnum_short 8 h.rq hl)
  have RU := Lib.hid (fun (W : World) (hf : Frm [qb] w W) => ru64_short (h.rdr.keep hf (by simp; exact h.n1.symm) (by simp; exact h.n2.symm) (by simp; exact h.n3.symm)) hl)
  have H := Lib.hid h
  clear hk hl h
  go_enter Tryd.func10, Tryd.ntmps10
  go_wp2_with fail
  refine HN.out.mono ?_
  rintro e w1 ⟨rfl, hq, hf⟩
  have Q := Lib.hid hq
  have F := Lib.hid hf
  clear hq hf
  go_wp2_with fail
  refine (RU.out w1 F.out).mono ?_
  rintro e w2 ht
  obtain ⟨rfl, _, _⟩ := id ht
  exact ⟨rfl, H.out.er F.out Q.out ht⟩


set_option maxHeartbeats 2000000 in
theorem one4_er {w : World} {rb cb db qb : Nat} {l : List Nat} {B k : Nat} (h : Two w rb cb db qb l B) (hk : k % 6 = 4) (hl : l.length < 4 ∨ l.length - 4 < val (l.take 4)) :
    Calls Tryd.prog 10 #[.pointer (some ⟨rb, 0, none⟩), .pointer (some ⟨qb, 0, none⟩), .int .u8 k] w (Er2 w rb cb qb 4) := by
  have hkz : (k : Int) % 6 = 4 := by omega
  have HN : Hid (Calls Tryd.prog 26 #[.pointer (some ⟨qb, 0, none⟩)] w (Faulted w qb (.slice none 0 0) 4)) := by
    rcases Nat.lt_or_ge l.length 4 with h4 | h4
    · exact rqbytes_short h.rq h4
    · exact rqbytes_less h.rq h4 (hl.resolve_left (by omega))
  have RU : Hid (∀ (W : World), Frm [qb] w W → Calls Tryd.prog 27 #[.pointer (some ⟨rb, 0, none⟩)] W (Thrown W rb cb 4)) := fun W hf => by
    have hr := h.rdr.keep hf (by simp; exact h.n1.symm) (by simp; exact h.n2.symm) (by simp; exact h.n3.symm)
    rcases Nat.lt_or_ge l.length 4 with h4 | h4
    · exact rbytes_short hr h4
    · exact rbytes_less hr h4 (Nat.lt_of_lt_of_le h.dlt hf.size) (hl.resolve_left (by omega))
  have H := Lib.hid h
  clear hk hl h
  go_enter Tryd.func10, Tryd.ntmps10
  go_wp2_with fail
  refine HN.out.mono ?_
  rintro e w1 ⟨rfl, hq, hf⟩
  have Q := Lib.hid hq
  have F := Lib.hid hf
  clear hq hf
  have hcv0 := fun (W : World) => run_to_string (P := Tryd.prog) (src := 22) (dst := 9) (e := 5) Tryd.underlying22 Tryd.underlying5 Tryd.underlying9 (n := 0) (c := 0) (Bytes.nil (w := W) none) rfl
  have FIN := Lib.hid (fun (e : Ending) (w2 : World) (ht : Thrown w1.drew rb cb 4 e w2) => H.out.er (F.out.trans (Frm.drew1 w1) (U := [qb]) (by simp) (by simp)) (Q.out.keep (Frm.drew1 w1) (by simp)) ht)
  have RD := Lib.hid (RU.out w1.drew (F.out.trans (Frm.drew1 w1) (U := [qb]) (by simp) (by simp)))
  clear RU
  go_wp2
  refine wp_region_any (by kernel_rfl) ?_
  change wpAny _ _ _ _ _ _ _ (World.drew _)
  refine wpAny_take (i := 0) (v := ?_) rfl (by kernel_rfl) (by kernel_rfl) (by kernel_rfl) (fun _ _ _ h => h) (Or.inl ⟨by rfl, ?_⟩) ?_
  rotate_left 1
  · intro w; go_simp; try with_reducible rfl
  refine wpAny_take (i := 3) (v := ?_) rfl (by kernel_rfl) (by kernel_rfl) (by kernel_rfl) (fun _ _ _ h => h) (Or.inl ⟨by rfl, ?_⟩) ?_
  rotate_left 1
  · intro w; go_simp; try with_reducible rfl
  refine wpAny_ready (rs := [1, 4]) (by kernel_rfl) (by simp) ?_
  refine AllReady.cons rfl (fun K hK => ?_) (AllReady.cons rfl (fun K hK => ?_) AllReady.nil)
  · go_simp
    refine RD.out.mono ?_
    rintro e w2 ht
    obtain ⟨rfl, _, _⟩ := id ht
    exact ⟨rfl, FIN.out _ _ ht⟩
  · go_simp
    refine hK _ _ ?_
    refine wpAny_ready (rs := [1]) (by kernel_rfl) (by simp) ?_
    refine AllReady.cons rfl (fun K hK => ?_) AllReady.nil
    go_simp
    refine RD.out.mono ?_
    rintro e w2 ht
    obtain ⟨rfl, _, _⟩ := id ht
    exact ⟨rfl, FIN.out _ _ ht⟩

set_option maxHeartbeats 2000000 in
theorem one4_ok {w : World} {rb cb db qb : Nat} {l : List Nat} {B k : Nat} (h : Two w rb cb db qb l B) (hk : k % 6 = 4) (hl : 4 ≤ l.length) (z : Nat) (hz : val (l.take 4) = z) (hn : z ≤ l.length - 4) (hfit : l.length ≤ 100000) :
    Calls Tryd.prog 10 #[.pointer (some ⟨rb, 0, none⟩), .pointer (some ⟨qb, 0, none⟩), .int .u8 k] w (Ok2 w rb cb db qb (l.drop (4 + z)) B) := by
  have hkz : (k : Int) % 6 = 4 := by omega
  have HN := Lib.hid (rqbytes_ok h.rq h.bq hl z hz hn)
  have RU := Lib.hid (fun (W : World) (hf : Frm [qb] w W) => rbytes_ok (h.rdr.keep hf (by simp; exact h.n1.symm) (by simp; exact h.n2.symm) (by simp; exact h.n3.symm)) hl (Nat.lt_of_lt_of_le h.dlt hf.size) z hz hn (by omega))
  have HL : Hid (z = ((l.drop 4).take z).length) := by show z = _; simp; omega
  unfold GotBytes at RU
  have H := Lib.hid h
  clear hk hl h hz hn hfit
  go_enter Tryd.func10, Tryd.ntmps10
  go_wp2_with fail
  refine HN.out.mono ?_
  rintro e w1 ⟨qa, qc, rfl, hqb, _, hql, hq, hf⟩
  have Q := Lib.hid hq
  have F := Lib.hid hf
  have QB := Lib.hid hqb
  have QL := Lib.hid hql
  clear hq hf hqb hql
  have RD := Lib.hid (RU.out w1.drew (F.out.trans (Frm.drew1 w1) (U := [qb]) (by simp) (by simp)))
  have hcq : ∀ W, Frm [rb] w1 W → (convert 22 9 (.slice qa z qc)).run Tryd.prog W = .ok (.string (strOf ((l.drop 4).take z))) W := fun W hf =>
    run_to_string (P := Tryd.prog) (src := 22) (dst := 9) (e := 5) Tryd.underlying22 Tryd.underlying5 Tryd.underlying9 (n := z) (c := qc) (hf.bytes' QB.out (fun hne x hx hm => by have h1 := QL.out hne x hx; have h2 := H.out.br; simp at hm; omega)) HL.out
  clear RU
  go_wp2
  have f0 : Frm [rb] w1 w1.drew := (Frm.refl _ _).drew
  go_region_with ((go_at_call 27; refine RD.out.mono ?_; rintro e w2 ⟨a2, c2, rfl, hb2, hnil2, hr2, hf2⟩; have T : Frm [rb] w1 w2 := (Frm.drew1 w1).trans hf2 (by simp) (by simp); have hcv2 := run_to_string (P := Tryd.prog) (src := 22) (dst := 9) (e := 5) Tryd.underlying22 Tryd.underlying5 Tryd.underlying9 (n := z) (c := c2) hb2 HL.out))
  all_goals
    have FIN := Lib.hid (H.out.both F.out Q.out T hr2)
    clear hcq hb2 hr2 hf2 hcv2 T f0
    go_wp2
    go_ret
    exact ⟨rfl, FIN.out⟩

set_option maxHeartbeats 2000000 in
theorem one5_er {w : World} {rb cb db qb : Nat} {l : List Nat} {B k : Nat} (h : Two w rb cb db qb l B) (hk : k % 6 = 5) (hl : l.length < 4 ∨ l.length - 4 < val (l.take 4)) :
    Calls Tryd.prog 10 #[.pointer (some ⟨rb, 0, none⟩), .pointer (some ⟨qb, 0, none⟩), .int .u8 k] w (Er2 w rb cb qb 4) := by
  have hkz : (k : Int) % 6 = 5 := by omega
  have HN : Hid (Calls Tryd.prog 28 #[.pointer (some ⟨qb, 0, none⟩)] w (FaultS w qb 4)) := by
    rcases Nat.lt_or_ge l.length 4 with h4 | h4
    · exact rqtext_none (rqbytes_short h.rq h4)
    · exact rqtext_none (rqbytes_less h.rq h4 (hl.resolve_left (by omega)))
  have RU : Hid (∀ (W : World), Frm [qb] w W → Calls Tryd.prog 29 #[.pointer (some ⟨rb, 0, none⟩)] W (Thrown W rb cb 4)) := fun W hf => by
    have hr := h.rdr.keep hf (by simp; exact h.n1.symm) (by simp; exact h.n2.symm) (by simp; exact h.n3.symm)
    rcases Nat.lt_or_ge l.length 4 with h4 | h4
    · exact rtext_none (counted_short hr h4)
    · exact rtext_none (counted_less hr h4 (Nat.lt_of_lt_of_le h.dlt hf.size) (hl.resolve_left (by omega)))
  have H := Lib.hid h
  clear hk hl h
  go_enter Tryd.func10, Tryd.ntmps10
  go_wp2_with fail
  refine HN.out.mono ?_
  rintro e w1 ⟨s, rfl, hq, hf⟩
  have Q := Lib.hid hq
  have F := Lib.hid hf
  clear hq hf
  go_wp2_with fail
  refine (RU.out w1 F.out).mono ?_
  rintro e w2 ht
  obtain ⟨rfl, _, _⟩ := id ht
  exact ⟨rfl, H.out.er F.out Q.out ht⟩

set_option maxHeartbeats 2000000 in
theorem one5_some {V : List Nat → Bool} (hV : VOk V) {w : World} {rb cb db qb : Nat} {l : List Nat} {B k : Nat} (h : Two w rb cb db qb l B) (hk : k % 6 = 5) (hl : 4 ≤ l.length) (z : Nat) (hz : val (l.take 4) = z) (hn : z ≤ l.length - 4) (hfit : l.length ≤ 100000) :
    Calls Tryd.prog 10 #[.pointer (some ⟨rb, 0, none⟩), .pointer (some ⟨qb, 0, none⟩), .int .u8 k] w
      (fun e w' => (V ((l.drop 4).take z) = true ∧ Ok2 w rb cb db qb (l.drop (4 + z)) B e w') ∨ (V ((l.drop 4).take z) = false ∧ Er2 w rb cb qb 6 e w')) := by
  have hkz : (k : Int) % 6 = 5 := by omega
  have HN := Lib.hid (rqtext_some hV h.rq h.tabs h.b2 h.bq hl z hz hn hfit)
  have RU := Lib.hid (fun (W : World) (hf : Frm [qb] w W) => rtext_some hV (h.rdr.keep hf (by simp; exact h.n1.symm) (by simp; exact h.n2.symm) (by simp; exact h.n3.symm)) (h.tabs.keep hf (fun x hx => by simp at hx; have := h.b2; have := h.bq; omega)) (Nat.le_trans h.b2 h.br) hl (Nat.lt_of_lt_of_le h.dlt hf.size) z hz hn hfit)
  have H := Lib.hid h
  clear hk hl h hz hn hfit
  go_enter Tryd.func10, Tryd.ntmps10
  go_wp2_with fail
  refine HN.out.mono ?_
  rintro e w1 (⟨hv, rfl, hq, hf⟩ | ⟨hv, s, rfl, hq, hf⟩)
  · have Q := Lib.hid hq
    have F := Lib.hid hf
    have HV := Lib.hid hv
    clear hq hf hv
    go_wp2_with fail
    refine (RU.out w1 F.out).mono ?_
    rintro e w2 (⟨_, rfl, hr, hf⟩ | ⟨hv, _⟩)
    · have T := Lib.hid (H.out.both F.out Q.out hf hr)
      clear hr hf
      go_wp2
      go_ret
      exact .inl ⟨HV.out, rfl, T.out⟩
    · rw [HV.out] at hv; cases hv
  · have Q := Lib.hid hq
    have F := Lib.hid hf
    have HV := Lib.hid hv
    clear hq hf hv
    go_wp2_with fail
    refine (RU.out w1 F.out).mono ?_
    rintro e w2 (⟨hv, _⟩ | ⟨_, ht⟩)
    · rw [HV.out] at hv; cases hv
    · obtain ⟨rfl, _, _⟩ := id ht
      exact ⟨rfl, .inr ⟨HV.out, H.out.er F.out Q.out ht⟩⟩

/-- Whatever the kind. -/
theorem one_any {V : List Nat → Bool} (hV : VOk V) {w : World} {rb cb db qb : Nat} {l : List Nat} {B : Nat} (k : Nat) (h : Two w rb cb db qb l B) (hfit : l.length ≤ 100000) :
    Calls Tryd.prog 10 #[.pointer (some ⟨rb, 0, none⟩), .pointer (some ⟨qb, 0, none⟩), .int .u8 k] w
      (fun e w' => match took V k l with | .inl l' => Ok2 w rb cb db qb l' B e w' | .inr c => Er2 w rb cb qb c e w') := by
  have hm : k % 6 = 0 ∨ k % 6 = 1 ∨ k % 6 = 2 ∨ k % 6 = 3 ∨ k % 6 = 4 ∨ k % 6 = 5 := by omega
  unfold took
  rcases hm with hm | hm | hm | hm | hm | hm
  · rw [hm, if_pos (by decide)]
    by_cases hl : l.length < 2 ^ 0
    · rw [if_pos hl]; exact one0_er h hm hl
    · rw [if_neg hl]; exact one0_ok h hm (by simp at hl; exact List.length_pos_iff.2 hl)
  · rw [hm, if_pos (by decide)]
    by_cases hl : l.length < 2 ^ 1
    · rw [if_pos hl]; exact one1_er h hm hl
    · rw [if_neg hl]; exact one1_ok h hm (by omega)
  · rw [hm, if_pos (by decide)]
    by_cases hl : l.length < 2 ^ 2
    · rw [if_pos hl]; exact one2_er h hm hl
    · rw [if_neg hl]; exact one2_ok h hm (by omega)
  · rw [hm, if_pos (by decide)]
    by_cases hl : l.length < 2 ^ 3
    · rw [if_pos hl]; exact one3_er h hm hl
    · rw [if_neg hl]; exact one3_ok h hm (by omega)
  · rw [hm, if_neg (by decide)]
    by_cases hl : l.length < 4 ∨ l.length - 4 < val (l.take 4)
    · rw [if_pos hl]; exact one4_er h hm hl
    · rw [if_neg hl, if_pos (.inl rfl)]; exact one4_ok h hm (by omega) _ rfl (by omega) hfit
  · rw [hm, if_neg (by decide)]
    by_cases hl : l.length < 4 ∨ l.length - 4 < val (l.take 4)
    · rw [if_pos hl]; exact one5_er h hm hl
    · rw [if_neg hl]
      refine (one5_some hV h hm (by omega) _ rfl (by omega) hfit).mono ?_
      rintro e w' (⟨hv, hh⟩ | ⟨hv, hh⟩)
      · rw [if_pos (.inr hv)]; exact hh
      · rw [if_neg (by rw [hv]; decide)]; exact hh
end Go.Proofs.YtpamiglinmfgkaaDoor
