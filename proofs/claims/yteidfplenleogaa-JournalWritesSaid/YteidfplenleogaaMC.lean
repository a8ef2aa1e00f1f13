/- Contracts and mathematics that the proofs of this seat stand on: JnOps, JnAwake. -/
import Derived.Test.YteidfplenleogaaMB
import Derived.Lib.SlBytesConst
/- Contracts of journal's calls: Open, Lay, Write; of a nil one and of a nil disk. -/
namespace Go.Proofs.Yteidfplenleogaa
open Go.RowKit

/-- The Journal at q has the disk at p. -/
def Jn (w : World) (q p : Nat) : Prop := Whole w q 55 #[.pointer (some ⟨p, 0, none⟩)]
theorem Jn.notin {w : World} {q p B p' : Nat} {F l : List Nat} {s room : Nat} (h : Jn w q p) (hd : Dk w B p' F l s room) : q ∉ F := by
  intro hm
  obtain ⟨_, ⟨_, rfl, hp⟩ | ⟨r, a, cap, hon, rfl⟩⟩ := hd
  · simp at hm
    subst hm
    exact Whole.ne h hp (by decide) rfl
  · simp only [List.mem_cons] at hm
    rcases hm with rfl | rfl | hm
    · exact Whole.ne h hon.disk (by decide) rfl
    · exact Whole.ne h hon.row (by decide) rfl
    · exact hd_ne hon.head h (by decide) hm
theorem Jn.keep {w w' : World} {q p : Nat} {S : List Nat} (h : Jn w q p) (hf : Frm S w w') (hn : q ∉ S) : Jn w' q p := hf.whole h hn

/-- What Lay and Write answer; the bytes on the disk behind it; how many of them are sure behind Write. -/
def jc (l b : List Nat) (room : Nat) : Nat := if 4096 < b.length then 3 else if room < l.length + (b.length + 8) then 8 else 0
def jl (l b : List Nat) (room : Nat) : List Nat := if jc l b room = 0 then l ++ fr b else l
def js (l b : List Nat) (s room : Nat) : Nat := if jc l b room = 0 then (l ++ fr b).length else s
def JEnd (w : World) (B p : Nat) (F : List Nat) (l b : List Nat) (s' room : Nat) (e : Ending) (w' : World) : Prop := e = .returned (.int .i64 (jc l b room : Nat)) ∧ DkTo w w' B p F (jl l b room) s' room
theorem Dk.stay {w w' : World} {B p : Nat} {F l : List Nat} {s room : Nat} (h : Dk w B p F l s room) (hf : Frm [] w w') : DkTo w w' B p F l s room := ⟨F, h.keep hf (by simp), hf.weak (by simp), fun _ h => .inl h⟩
theorem DkTo.late {w w1 w' : World} {B p : Nat} {F l : List Nat} {s room : Nat} (h : DkTo w w1 B p F l s room) (hf : Frm [] w1 w') : DkTo w w' B p F l s room := h.trans fun _ hd => hd.stay hf

theorem lay_nil (v : Value) (w : World) : Calls Try.prog 19 #[.pointer none, v] w fun e w' => e = .returned (.int .i64 1) ∧ w = w' := by
  go_enter Try.func19, Try.ntmps19
  go_wp2
  go_ret
  exact ⟨rfl, rfl⟩
theorem write_nil (v : Value) (w : World) : Calls Try.prog 17 #[.pointer none, v] w fun e w' => e = .returned (.int .i64 1) ∧ w = w' := by
  go_enter Try.func17, Try.ntmps17
  go_wp2_with fail
  refine (lay_nil v w).mono ?_
  rintro e w' ⟨rfl, rfl⟩
  go_wp2
  go_ret
  exact ⟨rfl, rfl⟩
theorem open_nil (w : World) : Calls Try.prog 12 #[.pointer none] w fun e w' => e = .returned (.tuple #[.pointer none, .slice none 0 0, .int .i64 1]) ∧ w = w' := by
  go_enter Try.func12, Try.ntmps12
  go_wp2
  go_ret3
  exact ⟨rfl, rfl⟩

set_option maxHeartbeats 1000000 in
theorem jlay_any {w : World} {B p q : Nat} {F l : List Nat} {s room : Nat} (ad : Option Addr) (n c : Nat) (b : List Nat) (h : Dk w B p F l s room) (hj : Jn w q p) (hb : Bytes w ad b) (hn : n = b.length) (hnil : ad = none → c = 0) :
    Calls Try.prog 19 #[.pointer (some ⟨q, 0, none⟩), .slice ad n c] w (JEnd w B p F l b s room) := by
  have hb63 := hb.2.1
  have hlr := h.1.2.2
  have H := Lib.hid h; clear h
  have HJ := Lib.hid hj; clear hj
  have HB := Lib.hid hb; clear hb
  have HN := Lib.hid hn; clear hn
  have HNIL := Lib.hid hnil; clear hnil
  by_cases h4 : 4096 < n
  · have hjc : jc l b room = 3 := by unfold jc; rw [if_pos (by have := HN.out; omega)]
    have hjl : jl l b room = l := by unfold jl; rw [hjc]; rfl
    have HC := Lib.hid hjc; clear hjc
    have HJL := Lib.hid hjl; clear hjl
    go_enter Try.func19, Try.ntmps19
    go_wp2_with fail
    refine (frame_long ad n c w h4 (by have := HN.out; omega)).mono ?_
    rintro e w1 ⟨rfl, rfl⟩
    go_wp2
    go_ret
    exact ⟨by rw [HC.out]; rfl, by rw [HJL.out]; exact H.out.stay (Frm.refl _ _)⟩
  · have hfl : (fr b).length = n + 8 := by rw [fr_length, HN.out]
    have HFR := Lib.hid (fr_lt HB.out.1)
    have HFL := Lib.hid hfl; clear hfl
    by_cases hfull : room < l.length + (n + 8)
    · have hjc : jc l b room = 8 := by unfold jc; rw [if_neg (by have := HN.out; omega), if_pos (by have := HN.out; omega)]
      have hjl : jl l b room = l := by unfold jl; rw [hjc]; rfl
      have HC := Lib.hid hjc; clear hjc
      have HJL := Lib.hid hjl; clear hjl
      go_enter Try.func19, Try.ntmps19
      go_wp2_with fail
      refine (frame_ok ad n c b w HB.out HN.out HNIL.out (by omega)).mono ?_
      rintro e w1 ⟨af, cf, rfl, hof, hff⟩
      rw [HFL.out]
      have c0 := (HJ.out.keep hff (by simp)).cell 0
      simp at c0
      have HFF := Lib.hid hff
      clear hof hff
      go_wp2_with fail
      refine (append_full af (n + 8) cf (H.out.keep HFF.out (by simp)) (by omega) hfull).mono ?_
      rintro e w2 ⟨rfl, m, rfl⟩
      go_wp2
      go_ret
      exact ⟨by rw [HC.out]; rfl, by rw [HJL.out]; exact H.out.stay (HFF.out.drewN _)⟩
    · have hjc : jc l b room = 0 := by unfold jc; rw [if_neg (by have := HN.out; omega), if_neg (by have := HN.out; omega)]
      have hjl : jl l b room = l ++ fr b := by unfold jl; rw [hjc]; rfl
      have HC := Lib.hid hjc; clear hjc
      have HJL := Lib.hid hjl; clear hjl
      go_enter Try.func19, Try.ntmps19
      go_wp2_with fail
      refine (frame_ok ad n c b w HB.out HN.out HNIL.out (by omega)).mono ?_
      rintro e w1 ⟨af, cf, rfl, hof, hff⟩
      have hob := own_bytes hof HFR.out
      have HOB := Lib.hid hob
      have HL2 : Hid (n + 8 = (fr b).length) := HFL.out.symm
      rw [HFL.out]
      have c0 := (HJ.out.keep hff (by simp)).cell 0
      simp at c0
      have HFF := Lib.hid hff
      clear hof hff hob
      go_wp2_with fail
      refine (append_ok af (n + 8) cf (fr b) (H.out.keep HFF.out (by simp)) HOB.out.1 HL2.out HOB.out.2 (by have := HL2.out; omega)).mono ?_
      rintro e w2 ⟨rfl, hd2⟩
      have HD2 := Lib.hid (hd2.early HFF.out); clear hd2
      go_wp2
      go_ret
      exact ⟨by rw [HC.out]; rfl, by rw [HJL.out]; exact HD2.out⟩

set_option maxHeartbeats 1000000 in
theorem jwrite_any {w : World} {B p q : Nat} {F l : List Nat} {s room : Nat} (ad : Option Addr) (n c : Nat) (b : List Nat) (h : Dk w B p F l s room) (hj : Jn w q p) (hb : Bytes w ad b) (hn : n = b.length) (hnil : ad = none → c = 0) :
    Calls Try.prog 17 #[.pointer (some ⟨q, 0, none⟩), .slice ad n c] w (JEnd w B p F l b (js l b s room) room) := by
  have HL := Lib.hid (jlay_any ad n c b h hj hb hn hnil)
  have HNI := Lib.hid (hj.notin h)
  have HJ := Lib.hid hj
  clear h hj hb hn hnil
  by_cases h0 : jc l b room = 0
  · have hjs : js l b s room = (jl l b room).length := by unfold js jl; rw [if_pos h0, if_pos h0]
    have HS := Lib.hid hjs; clear hjs
    have H0 := Lib.hid h0; clear h0
    go_enter Try.func17, Try.ntmps17
    go_wp2_with fail
    refine HL.out.mono ?_
    rintro e w1 ⟨rfl, F1, hd1, hf1, hx1⟩
    rw [H0.out]
    have c0 := (HJ.out.keep hf1 HNI.out).cell 0
    simp at c0
    have HD1 := Lib.hid hd1
    have HF1 := Lib.hid hf1
    have HX1 := Lib.hid hx1
    clear hd1 hf1 hx1
    go_wp2_with fail
    refine (sync_any HD1.out).mono ?_
    rintro e w2 ⟨rfl, hd2⟩
    have HD2 := Lib.hid hd2; clear hd2
    go_wp2
    go_ret
    refine ⟨by rw [H0.out]; rfl, ?_⟩
    rw [HS.out]
    obtain ⟨F2, hd2, hf2, hx2⟩ := HD2.out
    refine ⟨F2, hd2, HF1.out.trans hf2 (fun x h => h) HX1.out, fun x h => ?_⟩
    rcases hx2 x h with h1 | h1
    · exact HX1.out x h1
    · right; have := HF1.out.size; omega
  · obtain ⟨k, hk⟩ : ∃ k, k = jc l b room := ⟨_, rfl⟩
    have hjs : js l b s room = s := by unfold js; rw [if_neg h0]
    have HS := Lib.hid hjs; clear hjs
    rw [← hk] at h0
    have HK := Lib.hid hk; clear hk
    go_enter Try.func17, Try.ntmps17
    go_wp2_with fail
    refine HL.out.mono ?_
    rintro e w1 ⟨rfl, hd1⟩
    rw [← HK.out]
    have HD1 := Lib.hid hd1; clear hd1
    go_wp2
    go_ret
    exact ⟨by rw [← HK.out]; rfl, by rw [HS.out]; exact HD1.out⟩

/-- What Open leaves. -/
structure Opened (w w' : World) (B p : Nat) (F l : List Nat) (room q : Nat) (F' : List Nat) (a : Option Addr) (cap : Nat) (vs : List Value) : Prop where
  dk : Dk w' B p F' (l.take (recN l)) (recN l) room
  frm : Frm F w w'
  new : ∀ x ∈ F', x ∈ F ∨ w.heap.size ≤ x
  jn : Jn w' q p
  qlt : w.heap.size ≤ q
  own : OwnL w' w.heap.size 22 F' a cap (recs l) vs
def OpenEnd (w : World) (B p : Nat) (F l : List Nat) (room : Nat) (e : Ending) (w' : World) : Prop :=
  ∃ q F' a cap vs, e = .returned (.tuple #[.pointer (some ⟨q, 0, none⟩), .slice a (recs l).length cap, .int .i64 0]) ∧ Opened w w' B p F l room q F' a cap vs

set_option maxHeartbeats 1000000 in
theorem jopen_any {w : World} {B p : Nat} {F l : List Nat} {s room : Nat} (h : Dk w B p F l s room) :
    Calls Try.prog 12 #[.pointer (some ⟨p, 0, none⟩)] w (OpenEnd w B p F l room) := by
  have hlr := h.1.2.2
  have hlt := h.lt
  have HW := Lib.hid (recs_whole l h.1.1)
  have H := Lib.hid h; clear h
  have HLT := Lib.hid hlt; clear hlt
  go_enter Try.func12, Try.ntmps12
  go_wp2_with fail
  refine (dbytes_any H.out).mono ?_
  rintro e w1 ⟨a1, c1, rfl, ho1, hf1⟩
  have hcl := own_cl ho1 H.out.1.1
  have HC1 := Lib.hid hcl
  have HF1 := Lib.hid hf1
  have hc1m := hcl.fits
  clear ho1 hf1 hcl
  obtain ⟨n, hn⟩ : ∃ n, n = l.length := ⟨_, rfl⟩
  rw [← hn] at hlr ⊢
  have HN := Lib.hid hn; clear hn
  go_wp2_with fail
  refine (bodies_any a1 n c1 l F w1 HC1.out.bytes HN.out (by rw [HN.out]; exact HC1.out.le) HC1.out.nil (by omega) (by omega) (fun x hx => by have := (HLT.out x hx).2; have := HF1.out.size; omega)).mono ?_
  rintro e w2 ⟨a2, c2, vs, rfl, hown, hf2⟩
  have HF2 := Lib.hid (HF1.out.trans hf2 (U := []) (by simp) (by simp))
  have HO2 := Lib.hid hown
  have HS12 := Lib.hid HF1.out.size
  clear hown hf2
  obtain ⟨m, hm⟩ : ∃ m, m = recN l := ⟨_, rfl⟩
  have HML : Hid (m ≤ l.length) := by have := HW.out.2.2.2; show m ≤ _; omega
  rw [← hm]
  have HM := Lib.hid hm; clear hm
  obtain ⟨k, hk⟩ : ∃ k, k = (recs l).length := ⟨_, rfl⟩
  rw [← hk]
  have HK := Lib.hid hk; clear hk
  go_wp2_with fail
  refine (cutm_ok m (H.out.keep HF2.out (by simp)) HML.out).mono ?_
  rintro e w3 ⟨rfl, F3, hd3, hf3, hx3⟩
  have HD3 := Lib.hid hd3
  have HF3 := Lib.hid hf3
  have HX3 := Lib.hid hx3
  clear hd3 hf3 hx3
  go_wp2_with fail
  refine (sync_any HD3.out).mono ?_
  rintro e w4 ⟨rfl, F4, hd4, hf4, hx4⟩
  have HD4 := Lib.hid hd4
  have HF4 := Lib.hid hf4
  have HX4 := Lib.hid hx4
  clear hd4 hf4 hx4
  go_wp2
  go_ret3
  have hf5 : Frm [] w4 (w4.alloc (.cells #[.pointer (some ⟨p, 0, none⟩)] 55)) := (Frm.refl _ _).alloc _
  have hln : (l.take m).length = m := by rw [List.length_take]; have := HML.out; omega
  have hd4 := HD4.out
  rw [hln] at hd4
  have f24 : Frm F w w4 := (HF2.out.weak (U := F) (by simp)).trans (HF3.out.trans HF4.out (fun x h => h) HX3.out) (fun x h => h) (fun x h => .inl h)
  have x34 : ∀ x ∈ F4, x ∈ F ∨ w2.heap.size ≤ x := fun x h => by
    rcases HX4.out x h with h1 | h1
    · exact HX3.out x h1
    · right; have := HF3.out.size; omega
  refine ⟨w4.heap.size, F4, a2, c2, vs, by rw [← HK.out]; rfl, ⟨by rw [← HM.out]; exact hd4.keep hf5 (by simp), f24.trans hf5 (fun x h => h) (by simp), fun x h => ?_, Whole.made _ _ _, f24.size, ?_⟩⟩
  · rcases x34 x h with h1 | h1
    · exact .inl h1
    · right; have := HF2.out.size; omega
  · have h1 := HO2.out.keep (F' := F3) HF3.out (fun x h => .inl h) HX3.out
    have h2 := h1.keep (F' := F4) HF4.out (fun x h => .inl h) HX4.out
    have h3 := h2.keep (F' := F4) hf5 (by simp) (fun x h => .inl h)
    have hb := HS12.out
    exact ⟨own_base h3.own hb, h3.ents, h3.away⟩
end Go.Proofs.Yteidfplenleogaa
/- Contract of Awake (the fixed fact of layer 5): it answers true and writes nothing that was there. -/
namespace Go.Proofs.Yteidfplenleogaa
open Go.RowKit

theorem u8_at (w : World) (x : Nat) (hx : x < 256) (t : TypeId) (m : Nat × Nat) : Bytes (w.alloc (.cells #[.int .u8 x] t m)) (some ⟨w.heap.size, 0, none⟩) [x] := by
  refine ⟨by simp [hx], by simp, .inr ⟨_, _, rfl, fun i hi => ?_⟩⟩
  rw [cell_of_row _ w.heap.size _ #[.int .u8 (x : Int)] t m (heap_alloc_new w _)]
  simp at hi
  subst hi
  simp
theorem fit_ab : Fit [[97]] ∧ Fit [[98]] := ⟨Fit.one (by decide) (by decide), Fit.one (by decide) (by decide)⟩
theorem jc_awake1 : jc [] [97] 100 = 0 := by decide
theorem fr_len1 (x : Nat) : (fr [x]).length = 9 := by rw [fr_length]; rfl
theorem jc_awake2 : jc (fr [97]) [98] 100 = 0 := by
  unfold jc; rw [fr_len1]; decide
theorem crashed_awake5 : recs (crashed (fr [97] ++ fr [98]) 9 3 (-1)) = [[97]] := by
  rw [crashed_plain (by omega)]
  have h : keptN (fr [97] ++ fr [98]) 9 3 = 3 := by unfold keptN; rw [List.length_append, fr_len1, fr_len1]; rfl
  have e : (fr [97] ++ fr [98]).take (9 + 3) = fr [97] ++ (fr [98]).take 3 := by
    have := List.take_length_add_append (l₁ := fr [97]) (l₂ := fr [98]) (i := 3)
    rwa [fr_len1] at this
  rw [h, e, (recs_fr _ (by decide) (by decide)).1, recs_stop (short_stop (by rw [List.length_take]; omega))]
theorem str_a : strOf [97] = ⟨#[97]⟩ := by decide

set_option maxRecDepth 100000 in
set_option maxHeartbeats 2000000 in
theorem awake5_any (w : World) :
    Calls Try.prog 8 #[] w fun e w' => e = .returned (.bool true) ∧ Below w.heap.size w w' := by
  have kc := fun (w : World) (C : Array Value) (n c : Nat) => Lib.run_convert_bytes_const (P := Try.prog) w 22 5 C n c Try.underlying22 Try.underlying5
  go_enter Try.func8, Try.ntmps8
  go_wp2_with fail
  refine (new_ok 100 w (by omega)).mono ?_
  rintro e w1 ⟨rfl, hd, hf, hz⟩
  have HD1 := Lib.hid hd; clear hd
  have HF1 := Lib.hid hf; clear hf
  have HZ1 := Lib.hid hz; clear hz
  obtain ⟨p, hp⟩ : ∃ p, p = w.heap.size := ⟨_, rfl⟩
  rw [← hp] at HD1
  have HP := Lib.hid hp
  rw [← hp]
  clear hp
  go_wp2_with fail
  refine (jopen_any HD1.out).mono ?_
  rintro e w2 ⟨q, F2, a2, c2, vs2, rfl, op2⟩
  have hd2 := op2.dk
  rw [recs_nil.2] at hd2
  have HD2 : Hid (Dk w2 p p F2 [] 0 100) := hd2
  have HJ2 := Lib.hid op2.jn
  have HF2 := Lib.hid (HF1.out.dk (by have := HP.out; omega) HD1.out op2.frm)
  clear op2 hd2
  go_wp2_with fail
  have f2 : Frm [] w2 (w2.alloc (.cells #[.int .u8 97] 5 (1, 2))) := (Frm.refl _ _).alloc _
  refine (jwrite_any _ _ _ [97] (HD2.out.keep f2 (by simp)) (HJ2.out.keep f2 (by simp)) (u8_at w2 97 (by omega) 5 (1, 2)) rfl (by simp)).mono ?_
  rintro e w3 ⟨rfl, hd3⟩
  rw [jc_awake1]
  have hl3 : jl [] [97] 100 = fr [97] ∧ js [] [97] 0 100 = 9 := by
    unfold jl js; rw [if_pos jc_awake1, if_pos jc_awake1]; exact ⟨rfl, by rw [List.nil_append, fr_len1]⟩
  rw [hl3.1, hl3.2] at hd3
  obtain ⟨F3, hd3, hf3, hx3⟩ := hd3.early f2
  have HF3 := Lib.hid (HF2.out.dk (by have := HP.out; omega) HD2.out hf3)
  have HD3 := Lib.hid hd3
  have HJ3 := Lib.hid (HJ2.out.keep hf3 (HJ2.out.notin HD2.out))
  clear hd3 hf3 hx3 f2 HF2 HD2 HJ2 hl3
  go_wp2_with fail
  have f3 : Frm [] w3 (w3.alloc (.cells #[.int .u8 98] 5 (1, 2))) := (Frm.refl _ _).alloc _
  refine (jlay_any _ _ _ [98] (HD3.out.keep f3 (by simp)) (HJ3.out.keep f3 (by simp)) (u8_at w3 98 (by omega) 5 (1, 2)) rfl (by simp)).mono ?_
  rintro e w4 ⟨rfl, hd4⟩
  rw [jc_awake2]
  have hl4 : jl (fr [97]) [98] 100 = fr [97] ++ fr [98] := by unfold jl; rw [if_pos jc_awake2]
  rw [hl4] at hd4
  obtain ⟨F4, hd4, hf4, hx4⟩ := hd4.early f3
  have HF4 := Lib.hid (HF3.out.dk (by have := HP.out; omega) HD3.out hf4)
  have HD4 := Lib.hid hd4
  clear hd4 hf4 hx4 f3 HF3 HD3 HJ3 hl4
  go_wp2_with fail
  refine (crash_any 3 (-1) HD4.out).mono ?_
  rintro e w5 ⟨rfl, F5, hd5, hf5, hx5⟩
  have HF5 := Lib.hid (HF4.out.dk (by have := HP.out; omega) HD4.out hf5)
  have HD5 := Lib.hid hd5
  clear hd5 hf5 hx5 HF4 HD4
  go_wp2_with fail
  refine (jopen_any HD5.out).mono ?_
  rintro e w6 ⟨q6, F6, a6, c6, vs6, rfl, op6⟩
  have hll := op6.own.ll
  rw [crashed_awake5] at hll ⊢
  obtain ⟨b6, o6, rfl, p6, r6, e1, e2, _⟩ := hll.at (i := 0) (by simp)
  have hcv := run_to_string (P := Try.prog) (src := 22) (dst := 9) (e := 5) Try.underlying22 Try.underlying5 Try.underlying9 (n := 1) (c := r6) e2 rfl
  have e0 : ([[97]] : List (List Nat)).getD 0 [] = [97] := rfl
  rw [e0, str_a] at hcv
  rw [e0] at e1
  have e3 : w6.cell? ⟨b6, o6, none⟩ = some (.slice p6 1 r6) := e1
  have HF6 := Lib.hid (HF5.out.dk (by have := HP.out; omega) HD5.out op6.frm)
  have hlen : ([[97]] : List (List Nat)).length = 1 := rfl
  rw [hlen]
  clear hll op6 e1 e2 e0 hlen HF5 HD5
  go_wp2
  go_ret
  exact ⟨rfl, HF6.out.new⟩
end Go.Proofs.Yteidfplenleogaa
