/- Contracts and mathematics that the proofs of this seat stand on: PkPutAny, PkNumber, PkWords, TkMath, TbPerm, TbSort, TkEnc, TbBytes. -/
import Derived.Test.YtahhkffghhgojaaCA
import Derived.Lib.ConvBytes
/- Contract of Writer.put, whether or not something was put ahead. -/
namespace Go.Proofs.Ytahhkffghhgojaa
open Go.RowKit

set_option maxHeartbeats 1000000 in
/-- put where nothing was put. -/
theorem put_off (B p : Nat) (a : Option Addr) (n cap : Nat) (b : List Nat) (w : World)
    (hp : Whole w p 57 #[.pointer none, .int .i64 0]) (hBp : B ≤ p)
    (hb : Bytes w a b) (hap : b ≠ [] → ∀ x, a = some x → x.block ≠ p) (hn : n = b.length) (hnil : a = none → cap = 0) (hfit : n ≤ 140737488355328) :
    Calls Try.prog 65 #[.pointer (some ⟨p, 0, none⟩), .slice a n cap] w (PutEnd w B p [p] [] b) := by
  have hBw : B ≤ w.heap.size := Nat.le_of_lt (Nat.lt_of_le_of_lt hBp hp.lt)
  have hlt := hp.lt
  obtain ⟨i0, hi, hz0, hz1, hz2⟩ := info_parts Try.info5
  have c0 := hp.cell 0
  have f0 := hp.free 0
  simp at c0
  have HP := Lib.hid hp; clear hp
  have HB := Lib.hid hb; clear hb
  have HN := Lib.hid hn; clear hn
  have HA := Lib.hid hap; clear hap
  go_enter Try.func65, Try.ntmps65
  go_wp2
  go_quiet (fail)
  go_wp2_with fail
  refine (done_nil p _ (by exact HP.out)).mono ?_
  rintro e w' ⟨rfl, rfl⟩
  clear c0 f0
  have HP2 := ((show Whole (w.drewN nq) p _ _ from HP.out).alloc (.cells #[.slice none 0 0] 75))
  have HR2 := Whole.made (w.drewN nq) 75 #[.slice none 0 0]
  have HF2 : Frm [p] w ((w.drewN nq).alloc (.cells #[.slice none 0 0] 75)) := ((Frm.refl [p] w).drewN nq).alloc _
  have k0 := HP2.cell 0
  have k1 := HP2.free 0
  simp at k0
  have hpr : p ≠ w.heap.size := by omega
  have HP3 := Lib.hid (HP2.put 0 (.pointer (some ⟨w.heap.size, 0, none⟩))); clear HP2
  have HR3 := Lib.hid (HR2.other (p := ⟨p, 0, none⟩) (by exact Ne.symm hpr) (.pointer (some ⟨w.heap.size, 0, none⟩))); clear HR2
  have HF3 := Lib.hid (HF2.setCell (p := ⟨p, 0, none⟩) (.inl (by simp)) (.pointer (some ⟨w.heap.size, 0, none⟩))); clear HF2
  go_wp2
  clear k0 k1
  obtain ⟨r, hr⟩ : ∃ r, r = w.heap.size := ⟨_, rfl⟩
  rw [← hr] at HP3 HR3 HF3 hpr ⊢
  obtain ⟨w3, hw3⟩ : ∃ w3, w3 = ((w.drewN nq).alloc (Obj.cells #[Value.slice none 0 0] 75)).setCell ⟨p, 0, none⟩ (Value.pointer (some ⟨r, 0, none⟩)) := ⟨_, rfl⟩
  rw [← hw3] at HP3 HF3 ⊢
  replace HR3 : Hid (Whole w3 r 75 #[.slice none 0 0]) := by rw [hw3]; simpa [← hr] using HR3
  have hBw3 : B ≤ w3.heap.size := Nat.le_trans hBw HF3.out.size
  have hBr : B ≤ r := by omega
  have HB3 : Hid (Bytes w3 a b) := HF3.out.bytes' HB.out (fun hne x hx => by have := HA.out hne x hx; simpa using this)
  have h8b := HB.out.1
  have hp3 := HP3.out
  have hr3 := HR3.out
  simp at hp3
  have FIN := Lib.hid (fun (m : Nat) (w1 : World) (a' : Option Addr) (cap' : Nat) => put_end (B := B) (p := p) (r := r) (sa := none) (scap := 0) (k := 0) (n := n) (l := []) (b := b) (w := w3) (w1 := w1) (m := m) (a' := a') (cap' := cap') rfl HN.out (by simp) h8b hp3 hr3 (World.ownsRow_nil _ _ _ _) hBr hBp)
  have keep : ∀ (m : Nat) (w1 : World), (w3.drewN m).grownBy w1 none → Whole w1 p 57 #[.pointer (some ⟨r, 0, none⟩), .int .i64 0] ∧ Whole w1 r 75 #[.slice none 0 0] := fun m w1 hg =>
    ⟨(hg.block p hp3.lt (by simp)).trans hp3, (hg.block r hr3.lt (by simp)).trans hr3⟩
  have KEEP := Lib.hid keep; clear keep
  have END : Hid (∀ w', Put w3 w' B p (p :: r :: (Value.slice none 0 0).ownBlock.toList) [] b → Put w w' B p [p] [] b) := by
    rintro w' ⟨F', hw, hf, hF⟩
    refine ⟨F', hw, HF3.out.trans hf (by simp) ?_, fun x hx => ?_⟩
    · intro x hx
      simp [Value.ownBlock] at hx
      rcases hx with rfl | rfl
      · left; simp
      · right; omega
    · rcases hF x hx with h | h
      · simp [Value.ownBlock] at h
        rcases h with rfl | rfl
        · left; simp
        · right; omega
      · right; have := HF3.out.size; omega
  have c0 := hp3.cell 0
  have c1 := hp3.cell 1
  have cr := hr3.cell 0
  have fp0 := hp3.free 0
  have fp1 := hp3.free 1
  have fr := hr3.free 0
  simp at c0 c1 cr
  clear hp3 hr3 HP3 HR3 HF3 h8b HB HA
  have HR := Lib.hid hr; clear hr
  have HW := Lib.hid hw3; clear hw3
  go_region_law ((refine step_app rfl (.tmp 43) (.tmp 44) 47 rfl B 5 i0 Try.underlying47 hi hz0 hz1 hz2 (.slice none 0 0) 0 [] rfl (World.ownsRow_nil _ _ _ _) _ _ _ b rfl ?_ HN.out hnil ?_ ?_ ?_; (exact HB3.out); (omega); (exact hBw3); intro a' cap' w1 happ; have HA := Lib.hid happ; obtain ⟨hp1, hr1⟩ := KEEP.out _ _ happ.grown; have q0 := hp1.cell 0; have q1 := hr1.cell 0; have q2 := hr1.free 0; simp at q0 q1; clear happ hp1 hr1))
  all_goals
    obtain ⟨hp1, hr1⟩ := KEEP.out _ _ HA.out.grown
    have hp2 := (hp1.other (p := ⟨r, 0, none⟩) hpr (.slice a' (0 + n) cap'))
    have hr2 := (hr1.put 0 (.slice a' (0 + n) cap'))
    have s0 := hp2.cell 0
    have s1 := hr2.cell 0
    have s2 := hp2.cell 1
    have s3 := hp2.free 1
    simp at s0 s1 s2 s3
    clear hp1 hr1 hp2 hr2
    go_wp2
    go_end0
    have := END.out _ (FIN.out _ _ _ _ HA.out)
    simp at this
    exact ⟨rfl, this⟩

theorem put_any {w : World} {B p : Nat} {F : List Nat} {l : List Nat} {a : Option Addr} {n cap : Nat} {b : List Nat} (h : Wr w B p F l)
    (hb : Bytes w a b) (hap : b ≠ [] → ∀ x, a = some x → x.block ≠ p) (hn : n = b.length) (hnil : a = none → cap = 0) (hfit : l.length + n ≤ 140737488355328) :
    Calls Try.prog 65 #[.pointer (some ⟨p, 0, none⟩), .slice a n cap] w (PutEnd w B p F l b) := by
  obtain ⟨h8, hBp, ⟨rfl, rfl, hp⟩ | ⟨r, sa, scap, hp, hr, hown, hBr, rfl⟩⟩ := h
  · exact put_off B p a n cap b w hp hBp hb hap hn hnil (by simp at hfit; exact hfit)
  · exact put_on B p r sa scap l a n cap b w h8 hp hr hown hBr hBp hb hn hnil hfit
end Go.Proofs.Ytahhkffghhgojaa
/- Contracts of Writer.number, U8, U16, U32, U64, Bytes, Text. -/
namespace Go.Proofs.Ytahhkffghhgojaa
open Go.RowKit

theorem own_block_lt {w : World} {base : Nat} {e : TypeId} {size n : Nat} {v : Value} {xs : List Value} (h : w.ownsRow base e size v n xs) {g : Nat} (hg : v.ownBlock = some g) : base ≤ g ∧ g < w.heap.size := h.lt g hg

theorem Wr.keep {w w' : World} {B p : Nat} {F S : List Nat} {l : List Nat} (h : Wr w B p F l) (hf : Frm S w w') (hS : ∀ x ∈ F, x ∉ S) : Wr w' B p F l := by
  obtain ⟨h8, hBp, h⟩ := h
  refine ⟨h8, hBp, ?_⟩
  rcases h with ⟨rfl, rfl, hp⟩ | ⟨r, a, cap, hp, hr, hown, hBr, rfl⟩
  · exact .inl ⟨rfl, rfl, hf.whole hp (hS p (by simp))⟩
  · exact .inr ⟨r, a, cap, hf.whole hp (hS p (by simp)), hf.whole hr (hS r (by simp)), hf.own hown (fun g hg => hS g (by rw [hg]; simp)), hBr, rfl⟩
theorem Wr.lt {w : World} {B p : Nat} {F : List Nat} {l : List Nat} (h : Wr w B p F l) : ∀ x ∈ F, B ≤ x ∧ x < w.heap.size := by
  obtain ⟨h8, hBp, h⟩ := h
  rcases h with ⟨rfl, rfl, hp⟩ | ⟨r, a, cap, hp, hr, hown, hBr, rfl⟩
  · intro x hx; simp at hx; subst hx; exact ⟨hBp, hp.lt⟩
  · intro x hx
    simp only [List.mem_cons] at hx
    rcases hx with rfl | rfl | hx
    · exact ⟨hBp, hp.lt⟩
    · exact ⟨hBr, hr.lt⟩
    · cases hg : (Value.slice a l.length cap).ownBlock with
      | none => rw [hg] at hx; simp at hx
      | some g => rw [hg] at hx; simp at hx; subst hx; exact own_block_lt hown hg
theorem Wr.mem {w : World} {B p : Nat} {F : List Nat} {l : List Nat} (h : Wr w B p F l) : p ∈ F := by
  obtain ⟨h8, hBp, h⟩ := h
  rcases h with ⟨rfl, rfl, hp⟩ | ⟨r, a, cap, hp, hr, hown, hBr, rfl⟩ <;> simp
/-- What was put from a later world on. -/
theorem Put.early {w0 w w' : World} {B p : Nat} {F l b : List Nat} (h : Put w w' B p F l b) (hf : Frm [] w0 w) : Put w0 w' B p F l b := by
  obtain ⟨F', hw, hF, hx⟩ := h
  refine ⟨F', hw, hf.trans hF (by simp) (fun x hx => .inl hx), fun x h => ?_⟩
  rcases hx x h with h1 | h1
  · exact .inl h1
  · right; have := hf.size; omega
/-- Two puts, one behind the other. -/
theorem Put.more {w w1 w2 : World} {B p : Nat} {F l b c : List Nat} (h : Put w w1 B p F l b) (h2 : ∀ F', Wr w1 B p F' (l ++ b) → Put w1 w2 B p F' (l ++ b) c) : Put w w2 B p F l (b ++ c) := by
  obtain ⟨F1, hw1, hf1, hx1⟩ := h
  obtain ⟨F2, hw2, hf2, hx2⟩ := h2 F1 hw1
  refine ⟨F2, by rw [← List.append_assoc]; exact hw2, hf1.trans hf2 (fun x h => h) hx1, fun x h => ?_⟩
  rcases hx2 x h with h1 | h1
  · exact hx1 x h1
  · right; have := hf1.size; omega

/-- The last k of eight bytes, as they lie in a block of their own. -/
theorem eight_bytes {w : World} {g k n d0 d1 d2 d3 d4 d5 d6 d7 : Nat} (off : Nat) (t : TypeId) (hd : be 8 n = [d0, d1, d2, d3, d4, d5, d6, d7]) (hb : (be 8 n).drop off = be k n) (h8 : ∀ c ∈ be k n, c < 256) (hl : (be k n).length = k) (hk : k + off = 8)
    (h : Whole w g t #[.int .u8 d0, .int .u8 d1, .int .u8 d2, .int .u8 d3, .int .u8 d4, .int .u8 d5, .int .u8 d6, .int .u8 d7]) : Bytes w (some ⟨g, off, none⟩) (be k n) := by
  refine ⟨h8, by omega, .inr ⟨g, off, rfl, fun i hi => ?_⟩⟩
  rw [h.cell, ← hb, hd]
  have hj : off + i < 8 := by omega
  have e : (List.drop off [d0, d1, d2, d3, d4, d5, d6, d7]).getD i 0 = [d0, d1, d2, d3, d4, d5, d6, d7].getD (off + i) 0 := by
    simp [List.getD, List.getElem?_drop]
  rw [e]
  generalize off + i = j at *
  match j, hj with
  | 0, _ | 1, _ | 2, _ | 3, _ | 4, _ | 5, _ | 6, _ | 7, _ => rfl

set_option maxHeartbeats 1000000 in
theorem number_any {w : World} {B p : Nat} {F : List Nat} {l : List Nat} (n k : Nat) (h : Wr w B p F l) (hk : k = 1 ∨ k = 2 ∨ k = 4 ∨ k = 8) (hn : n < 18446744073709551616) (hfit : l.length + k ≤ 140737488355328) :
    Calls Try.prog 57 #[.pointer (some ⟨p, 0, none⟩), .int .u64 n, .int .i64 k] w (PutEnd w B p F l (be k n)) := by
  have hplt := (h.lt p h.mem).2
  have H := Lib.hid h; clear h
  have hbd := be_drop k n (by omega)
  have hbl := be_length k n
  have hbL := be_lt k n
  have HD := Lib.hid hbd; clear hbd
  have HL := Lib.hid hbl; clear hbl
  have H8 := Lib.hid hbL; clear hbL
  have HFIT := Lib.hid hfit; clear hfit
  rcases hk with rfl | rfl | rfl | rfl
  all_goals
    go_enter Try.func57, Try.ntmps57
    go_wp2_with fail
    refine (digits_any n _ hn).mono ?_
    rintro e w1 ⟨d0, d1, d2, d3, d4, d5, d6, d7, hd, rfl, hb⟩
    have HDD := Lib.hid hd; clear hd
    have HB := Lib.hid hb; clear hb
    go_wp2_with fail
    have hB := HB.out
    have hf := (Frm.ofBelow hB).alloc (.cells #[.int .u8 d0, .int .u8 d1, .int .u8 d2, .int .u8 d3, .int .u8 d4, .int .u8 d5, .int .u8 d6, .int .u8 d7] 106)
    have hx : ∀ (o : Nat) (x : Addr), (some ⟨w1.heap.size, o, none⟩ : Option Addr) = some x → x.block ≠ p := by
      have := hB.size
      intro o x hx
      cases hx
      simp; omega
    refine (put_any (F := F) (l := l) (H.out.keep hf (by simp)) (eight_bytes _ _ HDD.out HD.out H8.out HL.out (by omega) (Whole.made _ _ _)) (fun _ => hx _) HL.out.symm (by simp) HFIT.out).mono ?_
    rintro e w' ⟨rfl, hput⟩
    have HP := Lib.hid (hput.early hf); clear hput hf
    go_wp2
    go_end0
    exact ⟨rfl, HP.out⟩
end Go.Proofs.Ytahhkffghhgojaa
/- Contracts of Writer.U8, U16, U32, U64, Bytes, Text. -/
namespace Go.Proofs.Ytahhkffghhgojaa
open Go.RowKit

theorem u8_any {w : World} {B p : Nat} {F : List Nat} {l : List Nat} (n : Nat) (h : Wr w B p F l) (hn : n < 256) (hfit : l.length + 1 ≤ 140737488355328) :
    Calls Try.prog 42 #[.pointer (some ⟨p, 0, none⟩), .int .u8 n] w (PutEnd w B p F l (be 1 n)) := by
  have H := Lib.hid h; clear h
  have HFIT := Lib.hid hfit; clear hfit
  go_enter Try.func42, Try.ntmps42
  go_wp2_with fail
  refine (number_any n 1 H.out (by omega) (by omega) HFIT.out).mono ?_
  rintro e w' ⟨rfl, hput⟩
  have HP := Lib.hid hput; clear hput
  go_wp2
  go_end0
  exact ⟨rfl, HP.out⟩

theorem u32_any {w : World} {B p : Nat} {F : List Nat} {l : List Nat} (n : Nat) (h : Wr w B p F l) (hn : n < 4294967296) (hfit : l.length + 4 ≤ 140737488355328) :
    Calls Try.prog 66 #[.pointer (some ⟨p, 0, none⟩), .int .u32 n] w (PutEnd w B p F l (be 4 n)) := by
  have H := Lib.hid h; clear h
  have HFIT := Lib.hid hfit; clear hfit
  go_enter Try.func66, Try.ntmps66
  go_wp2_with fail
  refine (number_any n 4 H.out (by omega) (by omega) HFIT.out).mono ?_
  rintro e w' ⟨rfl, hput⟩
  have HP := Lib.hid hput; clear hput
  go_wp2
  go_end0
  exact ⟨rfl, HP.out⟩

theorem u64_any {w : World} {B p : Nat} {F : List Nat} {l : List Nat} (n : Nat) (h : Wr w B p F l) (hn : n < 18446744073709551616) (hfit : l.length + 8 ≤ 140737488355328) :
    Calls Try.prog 44 #[.pointer (some ⟨p, 0, none⟩), .int .u64 n] w (PutEnd w B p F l (be 8 n)) := by
  have H := Lib.hid h; clear h
  have HFIT := Lib.hid hfit; clear hfit
  go_enter Try.func44, Try.ntmps44
  go_wp2_with fail
  refine (number_any n 8 H.out (by omega) (by omega) HFIT.out).mono ?_
  rintro e w' ⟨rfl, hput⟩
  have HP := Lib.hid hput; clear hput
  go_wp2
  go_end0
  exact ⟨rfl, HP.out⟩

theorem Put.then {w w1 w2 : World} {B p : Nat} {F F1 l b c : List Nat} (hf1 : Frm F w w1) (hx1 : ∀ x ∈ F1, x ∈ F ∨ w.heap.size ≤ x) (h2 : Put w1 w2 B p F1 (l ++ b) c) : Put w w2 B p F l (b ++ c) := by
  obtain ⟨F2, hw2, hf2, hx2⟩ := h2
  refine ⟨F2, by rw [← List.append_assoc]; exact hw2, hf1.trans hf2 (fun x h => h) hx1, fun x h => ?_⟩
  rcases hx2 x h with h1 | h1
  · exact hx1 x h1
  · right; have := hf1.size; omega

/-- '[]byte(s)': the world behind it; what it reads as. -/
theorem conv_frm (w : World) (e : TypeId) (s : ByteArray) : Frm [] w (Lib.bytesWorld w e s) :=
  ⟨rfl, rfl, rfl, by rw [Lib.bytesWorld_size]; omega, fun k hk _ => Lib.bytesWorld_at_old w e s k hk⟩
theorem conv_bytes (w : World) (e : TypeId) (s : ByteArray) (hs : s.size ≤ 9223372036854775807) : Bytes (Lib.bytesWorld w e s) (some ⟨w.heap.size, 0, none⟩) (strL s) := by
  refine ⟨strL_lt s, by rw [strL_length]; exact hs, .inr ⟨_, _, rfl, fun i hi => ?_⟩⟩
  rw [strL_length] at hi
  rw [Nat.zero_add, Lib.bytesWorld_cell w e s i hi]
  have h2 : i < s.data.toList.length := by simpa using hi
  simp [strL, List.getD, hi]

theorem bytes_any {w : World} {B p : Nat} {F : List Nat} {l : List Nat} {a : Option Addr} {n cap : Nat} {b : List Nat} (h : Wr w B p F l)
    (hb : Bytes w a b) (hap : b ≠ [] → ∀ x, a = some x → x.block ∉ F) (hn : n = b.length) (hnil : a = none → cap = 0) (hn32 : n < 4294967296) (hfit : l.length + 4 + n ≤ 140737488355328) :
    Calls Try.prog 58 #[.pointer (some ⟨p, 0, none⟩), .slice a n cap] w (PutEnd w B p F l (be 4 n ++ b)) := by
  have HS := Lib.hid h; clear h
  have HFIT := Lib.hid hfit; clear hfit
  have HB := Lib.hid hb; clear hb
  have HA := Lib.hid hap; clear hap
  have HN := Lib.hid hn; clear hn
  have HNIL := Lib.hid hnil; clear hnil
  go_enter Try.func58, Try.ntmps58
  go_wp2_with fail
  refine (u32_any n HS.out hn32 (by have := HFIT.out; omega)).mono ?_
  rintro e w1 ⟨rfl, F1, hw1, hf1, hF1⟩
  have HW1 := Lib.hid hw1; clear hw1
  have HX1 := Lib.hid hf1; clear hf1
  have HF1 := Lib.hid hF1; clear hF1
  go_wp2_with fail
  refine (put_any HW1.out (HX1.out.bytes' HB.out HA.out) (fun hne x hx e => HA.out hne x hx (by rw [e]; exact HS.out.mem)) HN.out HNIL.out (by rw [List.length_append, be_length]; have := HFIT.out; omega)).mono ?_
  rintro e w2 ⟨rfl, hput⟩
  have HP := Lib.hid (Put.then HX1.out HF1.out hput); clear hput
  go_wp2
  go_end0
  exact ⟨rfl, HP.out⟩

theorem text_any {w : World} {B p : Nat} {F : List Nat} {l : List Nat} (s : ByteArray) (h : Wr w B p F l) (hn32 : s.size < 4294967296) (hfit : l.length + 4 + s.size ≤ 140737488355328) :
    Calls Try.prog 43 #[.pointer (some ⟨p, 0, none⟩), .string s] w (PutEnd w B p F l (be 4 s.size ++ strL s)) := by
  have hcv := fun (w : World) => Lib.run_convert_string_bytes (P := Try.prog) w 9 47 5 s Try.underlying9 Try.underlying47 Try.underlying5
  have HS := Lib.hid h; clear h
  have HFIT := Lib.hid hfit; clear hfit
  go_enter Try.func43, Try.ntmps43
  go_wp2_with fail
  have hf := conv_frm w 5 s
  refine (bytes_any (HS.out.keep hf (by simp)) (conv_bytes w 5 s (by omega)) ?_ (strL_length s).symm (by simp) hn32 HFIT.out).mono ?_
  · intro _ x hx hm
    cases hx
    have := (HS.out.lt _ hm).2
    simp at this
  rintro e w2 ⟨rfl, hput⟩
  have HP := Lib.hid (hput.early hf); clear hput hf hcv
  go_wp2
  go_end0
  exact ⟨rfl, HP.out⟩
end Go.Proofs.Ytahhkffghhgojaa
/- What taking a table of bytes answers, as functions of the bytes (V: which bytes are texts). They speak of no program. -/
namespace Go.Proofs.Ytahhkffghhgojaa
open Go.RowKit
set_option maxRecDepth 100000

/-- A number of k bytes; a text: what it is and what is left, or the fault. -/
def pN (k : Nat) (l : List Nat) : (Nat × List Nat) ⊕ Nat := if l.length < k then .inr 4 else .inl (val (l.take k), l.drop k)
def pT (V : List Nat → Bool) (l : List Nat) : (ByteArray × List Nat) ⊕ Nat :=
  if l.length < 4 ∨ l.length - 4 < val (l.take 4) then .inr 4 else
  if V ((l.drop 4).take (val (l.take 4))) = true then .inl (strOf ((l.drop 4).take (val (l.take 4))), l.drop (4 + val (l.take 4))) else .inr 6
def thn {α β : Type} (x : (α × List Nat) ⊕ Nat) (f : α → List Nat → (β × List Nat) ⊕ Nat) : (β × List Nat) ⊕ Nat :=
  match x with
  | .inr c => .inr c
  | .inl (a, l) => f a l
/-- A line. -/
def pLn (V : List Nat → Bool) (l : List Nat) : (Ln × List Nat) ⊕ Nat :=
  thn (pT V l) fun s l1 => thn (pN 8 l1) fun d l2 => thn (pN 8 l2) fun a l3 => thn (pN 8 l3) fun e l4 => .inl (⟨s, d, d, a, e⟩, l4)
/-- Is a line that was taken whole not to stand behind these? -/
def badL (out : List Ln) (x : Ln) : Bool :=
  decide (x.nm.size = 0) || decide (64 < x.nm.size) || decide (x.done = 0) || decide (out.length = 16) || (decide (0 < out.length) && !kl (out.getD (out.length - 1) default).nm x.nm)
def pLns (V : List Nat → Bool) : Nat → List Ln → List Nat → (List Ln × List Nat) ⊕ Nat
  | 0, out, l => .inl (out, l)
  | n + 1, out, l => thn (pLn V l) fun x l1 => if badL out x = true then .inr 23 else pLns V n (out ++ [x]) l1
def pTb (V : List Nat → Bool) (l : List Nat) : (List Ln × List Nat) ⊕ Nat := thn (pN 1 l) fun n l1 => pLns V n [] l1
/-- Bytes that are a table and nothing more. -/
def endTb (V : List Nat → Bool) (l : List Nat) : List Ln ⊕ Nat :=
  match pTb V l with
  | .inr c => .inr c
  | .inl (out, l1) => if l1 = [] then .inl out else .inr 5
/-- A number that is taken behind whatever: what it is, and what is left or the fault. -/
def nxN (k : Nat) (x : List Nat ⊕ Nat) : Nat × (List Nat ⊕ Nat) :=
  match x with
  | .inr c => (0, .inr c)
  | .inl l => match pN k l with
    | .inr c => (0, .inr c)
    | .inl (n, l') => (n, .inl l')
def NxT (V : List Nat → Bool) (x : List Nat ⊕ Nat) (s : ByteArray) (x' : List Nat ⊕ Nat) : Prop :=
  (∃ l l', x = .inl l ∧ pT V l = .inl (s, l') ∧ x' = .inl l') ∨ (∃ l c, x = .inl l ∧ pT V l = .inr c ∧ x' = .inr c)
/-- A line that is taken, piece by piece. -/
def LnR (V : List Nat → Bool) (l : List Nat) (X : Ln) (x' : List Nat ⊕ Nat) : Prop :=
  (∃ l', x' = .inl l' ∧ pLn V l = .inl (X, l') ∧ l'.length ≤ l.length) ∨ (∃ c, x' = .inr c ∧ pLn V l = .inr c)
/-- Fail: a fault, if there was none. -/
def nxF (k : Nat) (x : List Nat ⊕ Nat) : List Nat ⊕ Nat := match x with
  | .inr c => .inr c
  | .inl _ => .inr k
/-- End: the fault, or that something is left. -/
def endN (x : List Nat ⊕ Nat) : Nat := match x with
  | .inr c => c
  | .inl l => if l = [] then 0 else 5
/-- In the midst of taking lines: what all comes to is R. -/
def LnsAt (V : List Nat → Bool) (m : Nat) (out : List Ln) (x : List Nat ⊕ Nat) (R : (List Ln × List Nat) ⊕ Nat) : Prop :=
  (∃ l, x = .inl l ∧ R = pLns V m out l ∧ l.length ≤ 100000) ∨ (∃ c, x = .inr c ∧ R = .inr c)
end Go.Proofs.Ytahhkffghhgojaa
/- Tables in any order: what they answer, and what they are when sorted, hangs on their lines alone. It speaks of no program. -/
namespace Go.Proofs.Ytahhkffghhgojaa
open Go.RowKit
set_option maxRecDepth 100000

/-- Each name once; names of 1 to 64 bytes; at most 16 lines, whose numbers fit. -/
structure TbOk (X : List Ln) : Prop where
  dist : X.Pairwise fun x y => x.nm ≠ y.nm
  size : ∀ x ∈ X, 1 ≤ x.nm.size ∧ x.nm.size ≤ 64
  few : X.length ≤ 16
  fits : ∀ x ∈ X, x.fits
def Dist (X : List Ln) : Prop := X.Pairwise fun x y => x.nm ≠ y.nm
def SrtL (X : List Ln) : Prop := X.Pairwise fun x y => kl x.nm y.nm = true
theorem SrtL.dist {X : List Ln} (h : SrtL X) : Dist X := h.imp fun h1 => kl_ne h1
theorem Dist.perm {X Y : List Ln} (h : Dist X) (p : X.Perm Y) : Dist Y := p.pairwise h (fun h1 => h1.symm)
theorem Dist.uniq {X : List Ln} (d : Dist X) {x y : Ln} (hx : x ∈ X) (hy : y ∈ X) (h : x.nm = y.nm) : x = y := by
  obtain ⟨i, hi, rfl⟩ := List.getElem_of_mem hx
  obtain ⟨j, hj, rfl⟩ := List.getElem_of_mem hy
  rcases Nat.lt_trichotomy i j with h1 | rfl | h1
  · exact absurd h (List.pairwise_iff_getElem.1 d _ _ hi hj h1)
  · rfl
  · exact absurd h.symm (List.pairwise_iff_getElem.1 d _ _ hj hi h1)
/-- A name's line, if it has one. -/
def lookL (X : List Ln) (s : ByteArray) : Option Ln := X.find? fun x => decide (x.nm = s)
theorem lookL_at (X : List Ln) (s : ByteArray) : lookL X s = if atL X s < X.length then some (X.getD (atL X s) default) else none := by
  by_cases h : atL X s < X.length
  · rw [if_pos h]
    unfold lookL
    have h2 : (X.getD (atL X s) default) = X[atL X s] := ln_get h
    rw [h2]
    unfold atL
    rw [List.find?_eq_some_iff_getElem]
    have h1 := List.findIdx_getElem (p := fun x : Ln => decide (x.nm = s)) (w := h)
    exact ⟨h1, _, h, rfl, fun j hj => by simpa using List.not_of_lt_findIdx hj⟩
  · rw [if_neg h]
    unfold lookL
    rw [List.find?_eq_none]
    intro x hx
    have h1 : atL X s = X.length := by have := atL_le X s; omega
    have := List.findIdx_eq_length.1 h1 x hx
    simpa using this
theorem lookL_some {X : List Ln} {s : ByteArray} {x : Ln} (d : Dist X) : lookL X s = some x ↔ x ∈ X ∧ x.nm = s := by
  constructor
  · intro h
    have := List.find?_some h
    exact ⟨List.mem_of_find?_eq_some h, by simpa using this⟩
  · rintro ⟨hx, rfl⟩
    cases h : lookL X x.nm with
    | none =>
      have := List.find?_eq_none.1 h x hx
      simp at this
    | some y =>
      have h1 := List.mem_of_find?_eq_some h
      have h2 : y.nm = x.nm := by simpa using List.find?_some h
      congr 1
      exact d.uniq h1 hx h2
theorem lookL_none {X : List Ln} {s : ByteArray} : lookL X s = none ↔ ∀ x ∈ X, x.nm ≠ s := by
  unfold lookL
  rw [List.find?_eq_none]
  simp
theorem lookL_perm {X Y : List Ln} (d : Dist X) (p : X.Perm Y) (s : ByteArray) : lookL X s = lookL Y s := by
  cases h : lookL Y s with
  | none =>
    rw [lookL_none] at h ⊢
    exact fun x hx => h x (p.mem_iff.1 hx)
  | some y =>
    rw [lookL_some (d.perm p)] at h
    rw [lookL_some d]
    exact ⟨p.mem_iff.2 h.1, h.2⟩
/-- What is answered, by a name's line. -/
def begK (o : Option Ln) (n : Nat) (s : ByteArray) (q : Nat) : Nat :=
  if s.size < 1 ∨ 64 < s.size then 10 else if q = 0 then 2 else
  match o with
  | some x => if q ≤ x.done then 40 else if q ≤ x.top then 41 else 0
  | none => if n = 16 then 14 else 0
def donK (o : Option Ln) (q : Nat) : Nat :=
  match o with
  | some x => if x.top < q then 11 else if q ≤ x.done then 40 else 0
  | none => 11
theorem begC_look (X : List Ln) (s : ByteArray) (q : Nat) : begC X s q = begK (lookL X s) X.length s q := by
  unfold begC begK
  rw [lookL_at]
  by_cases h : atL X s < X.length <;> simp [h]
theorem donC_look (X : List Ln) (s : ByteArray) (q : Nat) : donC X s q = donK (lookL X s) q := by
  unfold donC donK
  rw [lookL_at]
  by_cases h : atL X s < X.length <;> simp [h]
/-- A line is laid anew by its name. -/
def updL (X : List Ln) (s : ByteArray) (f : Ln → Ln) : List Ln := X.map fun x => if x.nm = s then f x else x
theorem set_upd {X : List Ln} (d : Dist X) (s : ByteArray) (f : Ln → Ln) (h : atL X s < X.length) : X.set (atL X s) (f (X.getD (atL X s) default)) = updL X s f := by
  have hk := atL_key h
  apply List.ext_getElem
  · simp [updL]
  · intro i h1 h2
    simp only [updL, List.getElem_map, List.getElem_set]
    have hi : i < X.length := by simpa using h1
    by_cases e : atL X s = i
    · subst e
      rw [if_pos rfl]
      rw [ln_get h] at hk ⊢
      rw [if_pos hk]
    · rw [if_neg e, if_neg]
      intro hc
      have h3 : X[i].nm = X[atL X s].nm := by rw [hc, ← ln_get h, hk]
      rcases Nat.lt_or_gt_of_ne e with h4 | h4
      · exact (List.pairwise_iff_getElem.1 d _ _ h hi h4) h3.symm
      · exact (List.pairwise_iff_getElem.1 d _ _ hi h h4) h3
theorem updL_perm {X Y : List Ln} (p : X.Perm Y) (s : ByteArray) (f : Ln → Ln) : (updL X s f).Perm (updL Y s f) := p.map _
theorem updL_names {X : List Ln} (s : ByteArray) (f : Ln → Ln) (hf : ∀ x, (f x).nm = x.nm) : (updL X s f).map Ln.nm = X.map Ln.nm := by
  unfold updL
  rw [List.map_map]
  apply List.map_congr_left
  intro x _
  simp only [Function.comp]
  split
  · exact hf x
  · rfl
theorem dist_names {X Y : List Ln} (h : X.map Ln.nm = Y.map Ln.nm) (d : Dist X) : Dist Y := by
  unfold Dist at *
  have h1 : (X.map Ln.nm).Pairwise (fun a b => a ≠ b) := List.pairwise_map.2 d
  rw [h] at h1
  exact List.pairwise_map.1 h1
end Go.Proofs.Ytahhkffghhgojaa
/- All lines by their names: sorted, the same ones; what the calls leave, sorted. It speaks of no program. -/
namespace Go.Proofs.Ytahhkffghhgojaa
open Go.RowKit
set_option maxRecDepth 100000

theorem insL_perm (x : Ln) (Y : List Ln) : (insL x Y).Perm (x :: Y) := by
  unfold insL
  have h := List.perm_middle (a := x) (l₁ := Y.take (posL Y x.nm)) (l₂ := Y.drop (posL Y x.nm))
  rw [List.take_append_drop] at h
  simpa using h
theorem allX_perm (X : List Ln) : (allX X).Perm X := by
  have key : ∀ (Z Y : List Ln), (Z.foldl (fun Y x => insL x Y) Y).Perm (Y ++ Z) := by
    intro Z
    induction Z with
    | nil => intro Y; simp
    | cons z Z ih =>
      intro Y
      refine (ih (insL z Y)).trans ?_
      refine ((insL_perm z Y).append_right Z).trans ?_
      exact List.perm_middle.symm
  exact key X []
theorem kl_or {a b : ByteArray} (h : kl a b = false) (hne : a ≠ b) : kl b a = true := by
  cases e : kl b a with
  | true => rfl
  | false => exact absurd (kl_tot h e) hne
theorem insL_srt {x : Ln} {Y : List Ln} (h : SrtL Y) (hx : ∀ y ∈ Y, y.nm ≠ x.nm) : SrtL (insL x Y) := by
  have lo : ∀ y ∈ Y.take (posL Y x.nm), kl y.nm x.nm = true := by
    intro y hy
    obtain ⟨i, hi, rfl⟩ := List.getElem_of_mem hy
    rw [List.length_take] at hi
    have h1 := posL_before (Y := Y) (K := x.nm) (j := i) (by omega)
    rw [ln_get (by omega)] at h1
    rw [List.getElem_take]; exact h1
  have hi : ∀ y ∈ Y.drop (posL Y x.nm), kl x.nm y.nm = true := by
    intro y hy
    obtain ⟨i, hi, rfl⟩ := List.getElem_of_mem hy
    rw [List.length_drop] at hi
    have hp : posL Y x.nm < Y.length := by omega
    have h1 := posL_at hp
    rw [ln_get hp] at h1
    have h2 := kl_or h1 (hx _ (List.getElem_mem hp))
    rw [List.getElem_drop]
    rcases Nat.eq_zero_or_pos i with rfl | h0
    · exact h2
    · exact kl_trans h2 (List.pairwise_iff_getElem.1 h (posL Y x.nm) (posL Y x.nm + i) hp (by omega) (by omega))
  unfold insL SrtL
  rw [List.pairwise_append]
  refine ⟨List.Pairwise.sublist (List.take_sublist _ _) h, ?_, ?_⟩
  · rw [List.singleton_append, List.pairwise_cons]
    exact ⟨hi, List.Pairwise.sublist (List.drop_sublist _ _) h⟩
  · intro y hy z hz
    rcases List.mem_append.1 hz with h1 | h1
    · simp at h1; subst h1; exact lo y hy
    · exact kl_trans (lo y hy) (hi z h1)
theorem allX_srt {X : List Ln} (d : Dist X) : SrtL (allX X) := by
  have key : ∀ (Z Y : List Ln), SrtL Y → Dist (Y ++ Z) → SrtL (Z.foldl (fun Y x => insL x Y) Y) := by
    intro Z
    induction Z with
    | nil => intro Y h _; exact h
    | cons z Z ih =>
      intro Y h hd
      have hz : ∀ y ∈ Y, y.nm ≠ z.nm := fun y hy => (List.pairwise_append.1 hd).2.2 y hy z (by simp)
      refine ih (insL z Y) (insL_srt h hz) (hd.perm ?_)
      exact List.perm_middle.trans ((insL_perm z Y).symm.append_right Z)
  exact key X [] List.Pairwise.nil d
theorem srt_eq {X Y : List Ln} (hX : SrtL X) (hY : SrtL Y) (p : X.Perm Y) : X = Y :=
  p.eq_of_pairwise (fun a b _ _ h1 h2 => by have := kl_asym h1; rw [h2] at this; cases this) hX hY
theorem allX_eq {X Y : List Ln} (d : Dist X) (p : X.Perm Y) : allX X = allX Y :=
  srt_eq (allX_srt d) (allX_srt (d.perm p)) ((allX_perm X).trans (p.trans (allX_perm Y).symm))
theorem TbOk.perm {X Y : List Ln} (h : TbOk X) (p : X.Perm Y) : TbOk Y :=
  ⟨Dist.perm h.dist p, fun x hx => h.size x (p.mem_iff.2 hx), by rw [← p.length_eq]; exact h.few, fun x hx => h.fits x (p.mem_iff.2 hx)⟩
theorem TbOk.nil : TbOk [] := ⟨List.Pairwise.nil, by simp, by simp, by simp⟩
theorem begC_perm {X Y : List Ln} (d : Dist X) (p : X.Perm Y) (s : ByteArray) (q : Nat) : begC X s q = begC Y s q := by
  rw [begC_look, begC_look, lookL_perm d p, p.length_eq]
theorem donC_perm {X Y : List Ln} (d : Dist X) (p : X.Perm Y) (s : ByteArray) (q : Nat) : donC X s q = donC Y s q := by
  rw [donC_look, donC_look, lookL_perm d p]
theorem atL_perm {X Y : List Ln} (d : Dist X) (p : X.Perm Y) (s : ByteArray) : (atL X s < X.length) ↔ (atL Y s < Y.length) := by
  have h := lookL_perm d p s
  rw [lookL_at, lookL_at] at h
  by_cases h1 : atL X s < X.length <;> by_cases h2 : atL Y s < Y.length <;> simp [h1, h2] at h ⊢
theorem begX_perm {X Y : List Ln} (d : Dist X) (p : X.Perm Y) (s : ByteArray) (q : Nat) : (begX X s q).Perm (begX Y s q) := by
  unfold begX
  rw [begC_perm d p s q]
  split
  · by_cases h : atL X s < X.length
    · have h2 := (atL_perm d p s).1 h
      rw [if_pos h, if_pos h2, set_upd d s (fun x => x.wtop q) h, set_upd (d.perm p) s (fun x => x.wtop q) h2]
      exact updL_perm p s _
    · rw [if_neg h, if_neg (fun h2 => h ((atL_perm d p s).2 h2))]
      exact p.append_right _
  · exact p
theorem donC_zero {X : List Ln} {s : ByteArray} {q : Nat} (h : donC X s q = 0) : atL X s < X.length := by
  unfold donC at h
  split at h
  · assumption
  · cases h
theorem donX_perm {X Y : List Ln} (d : Dist X) (p : X.Perm Y) (s : ByteArray) (q l e : Nat) : (donX X s q l e).Perm (donX Y s q l e) := by
  unfold donX
  rw [donC_perm d p s q]
  split
  · rename_i h
    have h2 := donC_zero h
    have h1 := (atL_perm d p s).2 h2
    rw [set_upd d s (fun x => x.wdone q l e) h1, set_upd (d.perm p) s (fun x => x.wdone q l e) h2]
    exact updL_perm p s _
  · exact p
theorem forX_perm {X Y : List Ln} (p : X.Perm Y) : (forX X).Perm (forX Y) := (p.filter _).map _
/-- What holds of a table goes on holding. -/
theorem TbOk.beg {X : List Ln} (h : TbOk X) (s : ByteArray) (q : Nat) (hq : q < 18446744073709551616) : TbOk (begX X s q) := by
  unfold begX
  split
  · rename_i h0
    have hs : 1 ≤ s.size ∧ s.size ≤ 64 := by
      unfold begC at h0
      split at h0
      · cases h0
      · omega
    by_cases h1 : atL X s < X.length
    · rw [if_pos h1, set_upd h.dist s (fun x => x.wtop q) h1]
      refine ⟨dist_names (updL_names s (fun x => x.wtop q) (fun x => rfl)).symm h.dist, fun x hx => ?_, by unfold updL; rw [List.length_map]; exact h.few, fun x hx => ?_⟩
      · obtain ⟨y, hy, rfl⟩ := List.mem_map.1 hx
        have := h.size y hy
        split
        · exact this
        · exact this
      · obtain ⟨y, hy, rfl⟩ := List.mem_map.1 hx
        have := h.fits y hy
        split
        · exact ⟨hq, this.2⟩
        · exact this
    · rw [if_neg h1]
      have h16 : X.length ≠ 16 := by
        intro h16
        unfold begC at h0
        rw [if_neg (by omega), if_neg h1, if_pos h16] at h0
        split at h0 <;> cases h0
      have hno : ∀ x ∈ X, x.nm ≠ s := by
        rw [← lookL_none, lookL_at, if_neg h1]
      refine ⟨?_, fun x hx => ?_, by have := h.few; simp; omega, fun x hx => ?_⟩
      · rw [List.pairwise_append]
        exact ⟨h.dist, by simp, fun x hx y hy => by simp at hy; subst hy; exact hno x hx⟩
      · rcases List.mem_append.1 hx with h2 | h2
        · exact h.size x h2
        · simp at h2; subst h2; exact hs
      · rcases List.mem_append.1 hx with h2 | h2
        · exact h.fits x h2
        · simp at h2; subst h2; exact ⟨hq, (by show (0 : Nat) < _; decide), (by show (0 : Nat) < _; decide), (by show (0 : Nat) < _; decide)⟩
  · exact h
theorem TbOk.don {X : List Ln} (h : TbOk X) (s : ByteArray) (q l e : Nat) (hq : q < 18446744073709551616) (hl : l < 18446744073709551616) (he : e < 18446744073709551616) : TbOk (donX X s q l e) := by
  unfold donX
  split
  · rename_i h0
    have h1 := donC_zero h0
    rw [set_upd h.dist s (fun x => x.wdone q l e) h1]
    refine ⟨dist_names (updL_names s (fun x => x.wdone q l e) (fun x => rfl)).symm h.dist, fun x hx => ?_, by unfold updL; rw [List.length_map]; exact h.few, fun x hx => ?_⟩
    · obtain ⟨y, hy, rfl⟩ := List.mem_map.1 hx
      have := h.size y hy
      split
      · exact this
      · exact this
    · obtain ⟨y, hy, rfl⟩ := List.mem_map.1 hx
      have := h.fits y hy
      split
      · exact ⟨this.1, hq, hl, he⟩
      · exact this
  · exact h
theorem forX_names (X : List Ln) : (forX X).map Ln.nm = (X.filter fun x => decide (0 < x.done)).map Ln.nm := by
  unfold forX; rw [List.map_map]; rfl
theorem TbOk.forg {X : List Ln} (h : TbOk X) : TbOk (forX X) := by
  refine ⟨dist_names (forX_names X).symm (List.Pairwise.sublist (List.filter_sublist) h.dist), fun x hx => ?_, by have := forX_len X; have := h.few; omega, fun x hx => ?_⟩
  · obtain ⟨y, hy, rfl⟩ := List.mem_map.1 hx
    exact h.size y (List.mem_filter.1 hy).1
  · obtain ⟨y, hy, rfl⟩ := List.mem_map.1 hx
    have := h.fits y (List.mem_filter.1 hy).1
    exact ⟨this.2.1, this.2⟩
end Go.Proofs.Ytahhkffghhgojaa
/- What was put is what is taken: tables as bytes and back. It speaks of no program. -/
namespace Go.Proofs.Ytahhkffghhgojaa
open Go.RowKit
set_option maxRecDepth 100000

/-- A line as it is put. -/
def encL (x : Ln) : List Nat := be 4 x.nm.size ++ (strL x.nm ++ (be 8 x.done ++ (be 8 x.l ++ be 8 x.e)))
/-- A table as it is put. -/
def encY (Y : List Ln) : List Nat := be 1 Y.length ++ Y.flatMap encL
end Go.Proofs.Ytahhkffghhgojaa
/- Contract of the document's Bytes. -/
namespace Go.Proofs.Ytahhkffghhgojaa
open Go.RowKit
set_option maxRecDepth 100000

/-- What is done. -/
def doneX (Y : List Ln) : List Ln := Y.filter fun x => decide (0 < x.done)
theorem encL_length (x : Ln) : (encL x).length = x.nm.size + 28 := by simp [encL, be_length, strL_length]; omega
theorem encLs_few (Y : List Ln) (h : ∀ x ∈ Y, x.nm.size ≤ 64) : (Y.flatMap encL).length ≤ Y.length * 92 := by
  induction Y with
  | nil => simp
  | cons x Y ih =>
    rw [List.flatMap_cons, List.length_append, encL_length, List.length_cons]
    have h1 := ih (fun y hy => h y (by simp [hy]))
    have h2 := h x (by simp)
    omega
theorem doneX_take {X : List Ln} {k : Nat} (h : k < X.length) : doneX (X.take (k + 1)) = doneX (X.take k) ++ if 0 < (X.getD k default).done then [X.getD k default] else [] := by
  rw [ln_get h]
  unfold doneX
  rw [List.take_succ_eq_append_getElem h, List.filter_append]
  congr 1
  by_cases h1 : 0 < X[k].done <;> simp [h1]
theorem allX_mem (X : List Ln) : ∀ x ∈ allX X, x ∈ X := by
  have key : ∀ (Z Y : List Ln), (∀ x ∈ Y, x ∈ X) → (∀ x ∈ Z, x ∈ X) → ∀ x ∈ Z.foldl (fun Y x => insL x Y) Y, x ∈ X := by
    intro Z
    induction Z with
    | nil => intro Y hY _ x hx; exact hY x hx
    | cons z Z ih =>
      intro Y hY hZ x hx
      refine ih (insL z Y) (fun y hy => ?_) (fun y hy => hZ y (by simp [hy])) x hx
      unfold insL at hy
      rcases List.mem_append.1 hy with h1 | h1
      · exact hY y (List.mem_of_mem_take h1)
      · rcases List.mem_append.1 h1 with h2 | h2
        · simp at h2; subst h2; exact hZ y (by simp)
        · exact hY y (List.mem_of_mem_drop h2)
  exact key X [] (by simp) (fun x hx => hx)
theorem lnflat_take (Z : List Ln) {k : Nat} (h : k < Z.length) : (Z.take (k + 1)).flatMap encL = (Z.take k).flatMap encL ++ encL (Z.getD k default) := by
  rw [List.take_succ_eq_append_getElem h, List.flatMap_append, ln_get h]
  simp

set_option linter.unusedSimpArgs false in
set_option maxHeartbeats 8000000 in
theorem rtbytes_any {w : World} {B p : Nat} {F : List Nat} {a : Option Addr} {cap : Nat} {X : List Ln} (h : Tb w B p F a cap X) (hF : ∀ x ∈ F, x < w.heap.size) (hnm : ∀ x ∈ X, x.nm.size ≤ 64) :
    Calls Try.prog 20 #[.pointer (some ⟨p, 0, none⟩), .slice none 0 0] w (RcE w (encY (doneX (allX X)))) := by
  obtain ⟨i0, hi, hz0, hz1, hz2⟩ := info_parts infoLn
  have HI := Lib.hid hi; clear hi
  have HZ0 := Lib.hid hz0; clear hz0
  have HZ1 := Lib.hid hz1; clear hz1
  have HZ2 := Lib.hid hz2; clear hz2
  have ALL := Lib.hid (rall_any h hF)
  obtain ⟨Y, hY⟩ : ∃ Y, Y = allX X := ⟨_, rfl⟩
  have YL : Hid (Y.length ≤ 16) := Lib.hid (by have h1 := allX_len X X.length (Nat.le_refl _); rw [List.take_length] at h1; rw [hY, h1]; exact h.few)
  have YN : Hid (∀ x ∈ Y, x.nm.size ≤ 64) := Lib.hid (fun x hx => hnm x (allX_mem X x (by rw [← hY]; exact hx)))
  rw [← hY] at ALL ⊢
  obtain ⟨Q, hQ⟩ : ∃ Q, Q = RcE w (encY (doneX Y)) := ⟨_, rfl⟩
  rw [← hQ]
  have HQ := Lib.hid hQ
  unfold AllEnd at ALL
  clear hQ hY h hF hnm
  go_enter Try.func20, Try.ntmps20
  go_wp2_with fail
  (with_reducible refine ALL.out.mono ?_)
  rintro e W ⟨aY, cY, rfl, hown, hf⟩
  have OY : Hid (LnL W [] aY Y) := Lib.hid (hown.sl.keep (S := []) (F' := []) (Frm.refl _ _) (by simp) (by simp))
  have FW := Lib.hid hf
  clear hown hf
  obtain ⟨n, hn⟩ : ∃ n, n = Y.length := ⟨_, rfl⟩
  have hn16 : n ≤ 16 := by rw [hn]; exact YL.out
  rw [← hn]
  have HN := Lib.hid hn; clear hn
  go_wp2
  go_loopw [5, 7] (fun u5 u7 wr => ∃ (k : Nat) (a' : Option Addr) (c' m : Nat), k ≤ n ∧ m ≤ k ∧ u5 = .slice a' m c' ∧ u7 = .int .i64 (k : Nat) ∧ Hid (m = (doneX (Y.take k)).length) ∧ Hid (LnOwn wr W.heap.size 42 [] a' c' (doneX (Y.take k))) ∧ Hid (Frm [] W wr)) (fun _ u7 _ => n - (intOf u7).toNat)
  case atStart => exact ⟨0, none, 0, 0, Nat.zero_le _, Nat.le_refl _, rfl, rfl, Lib.hid rfl, Lib.hid (LnOwn.nil _ _ _ _), Lib.hid (Frm.refl _ _)⟩
  case round =>
    obtain ⟨k, a', c', m, hk, hmk, rfl, rfl, HM, HO, HF⟩ := hrel
    by_cases hlt : k < n
    · have hlt' : (k : Int) < (n : Int) := by omega
      have hkL : k < Y.length := by have := HN.out; omega
      obtain ⟨b, off, rfl, p0, p1, p2, p3, p4, hfit⟩ := (OY.out.sub HF.out).at hkL
      have hst := doneX_take hkL
      obtain ⟨x, hx⟩ : ∃ x, x = Y.getD k default := ⟨_, rfl⟩
      rw [← hx] at p0 p1 p2 p3 p4 hst hfit
      obtain ⟨xn, xt, xd, xl, xe⟩ := x
      simp only at p0 p1 p2 p3 p4 hst
      have HST := Lib.hid hst
      have HFIT := Lib.hid hfit
      clear hx hst hfit hkL
      by_cases hd : 0 < xd
      · have hd' : (0 : Int) < (xd : Int) := by omega
        have ST2 : Hid (doneX (Y.take (k + 1)) = doneX (Y.take k) ++ [⟨xn, xt, xd, xl, xe⟩]) := Lib.hid (by rw [HST.out, if_pos hd])
        have OWN : Hid ((wr.alloc (.cells #[.string xn, .int .u64 (xt : Nat), .int .u64 (xd : Nat), .int .u64 (xl : Nat), .int .u64 (xe : Nat)] 42)).ownsRow W.heap.size 42 5 (.slice a' m c') m (lnc (doneX (Y.take k)))) := Lib.hid (by
          have := (HO.out.keep (S := []) (F' := []) ((Frm.refl [] wr).alloc (.cells #[.string xn, .int .u64 (xt : Nat), .int .u64 (xd : Nat), .int .u64 (xl : Nat), .int .u64 (xe : Nat)] 42)) (by simp) (by simp)).own
          rwa [← HM.out] at this)
        have ONE : Hid (ValsAt (wr.alloc (.cells #[.string xn, .int .u64 (xt : Nat), .int .u64 (xd : Nat), .int .u64 (xl : Nat), .int .u64 (xe : Nat)] 42)) (some ⟨wr.heap.size, 0, none⟩) (lnc [⟨xn, xt, xd, xl, xe⟩])) := Lib.hid (lncvals_one wr ⟨xn, xt, xd, xl, xe⟩ 42)
        have hbz : W.heap.size ≤ (wr.alloc (.cells #[.string xn, .int .u64 (xt : Nat), .int .u64 (xd : Nat), .int .u64 (xl : Nat), .int .u64 (xe : Nat)] 42)).heap.size := by have := HF.out.size; simp; omega
        have hfit1 : m + 1 ≤ 1000000000 := by omega
        go_wp2_with (at_builtin; refine wpList_appS (by rfl) (.tmp 23) (.tmp 28) 27 rfl W.heap.size 42 i0 (.agg #[.string ⟨#[]⟩, .int .u64 0, .int .u64 0, .int .u64 0, .int .u64 0]) 5 48 Try.underlying27 HI.out HZ0.out rfl (by decide) HZ1.out HZ2.out (by decide) (.slice a' m c') m _ rfl OWN.out _ 1 1 _ rfl ONE.out rfl (lnc_one _) (fun h => by cases h) hfit1 hbz ?_)
        intro a3 c3 w3 happ
        have AL := (Frm.refl [] wr).alloc (.cells #[.string xn, .int .u64 (xt : Nat), .int .u64 (xd : Nat), .int .u64 (xl : Nat), .int .u64 (xe : Nat)] 42)
        obtain ⟨g1, g2, g3, g4⟩ := (HO.out.keep (S := []) (F' := []) AL (by simp) (by simp)).app (Y := [⟨xn, xt, xd, xl, xe⟩]) HM.out (by intro z hz; simp at hz; subst hz; exact HFIT.out) (m := 1) rfl (by simp) happ
        have N1 : Hid (m + 1 = (doneX (Y.take (k + 1))).length) := Lib.hid (by rw [ST2.out]; exact g4)
        have N2 : Hid (LnOwn w3 W.heap.size 42 [] a3 c3 (doneX (Y.take (k + 1)))) := Lib.hid (by rw [ST2.out]; exact g1)
        have N3 : Hid (Frm [] W w3) := Lib.hid ((HF.out.trans AL (U := []) (by simp) (by simp)).trans g2 (by simp) (fun x hx => .inr (HO.out.blk_lt x hx).1))
        clear happ g1 g2 g3 g4 AL hbz OWN ONE p0 p1 p2 p3 p4
        go_wp2
        go_roundw
        case rel => exact ⟨k + 1, a3, c3, m + 1, by omega, by omega, by rfl, by go_num, N1, N2, N3⟩
        case measure => simp [intOf]; omega
      · have hd' : ¬ (0 : Int) < (xd : Int) := by omega
        have ST2 : Hid (doneX (Y.take (k + 1)) = doneX (Y.take k)) := Lib.hid (by rw [HST.out, if_neg hd, List.append_nil])
        have N1 : Hid (m = (doneX (Y.take (k + 1))).length) := Lib.hid (by rw [ST2.out]; exact HM.out)
        have N2 : Hid (LnOwn wr W.heap.size 42 [] a' c' (doneX (Y.take (k + 1)))) := Lib.hid (by rw [ST2.out]; exact HO.out)
        go_wp2
        go_roundw
        case rel => exact ⟨k + 1, a', c', m, by omega, by omega, by rfl, by go_num, N1, N2, HF⟩
        case measure => simp [intOf]; omega
    · obtain rfl : k = n := by omega
      have hkx : Y.take k = Y := List.take_of_length_le (by have := HN.out; omega)
      rw [hkx] at HM HO
      obtain ⟨D, hD⟩ : ∃ D, D = doneX Y := ⟨_, rfl⟩
      rw [← hD] at HM HO HQ
      have DN : Hid (∀ x ∈ D, x.nm.size ≤ 64) := Lib.hid (fun x hx => YN.out x (by rw [hD] at hx; exact (List.mem_filter.1 hx).1))
      have OD := Lib.hid HO.out.sl
      have m16 : m ≤ 16 := by omega
      have EL : Hid (∀ j, ((D.take j).flatMap encL).length ≤ 1472) := Lib.hid (fun j => by
        have h1 := encLs_few (D.take j) (fun x hx => DN.out x (List.mem_of_mem_take hx))
        have h2 := List.length_take_le' j D
        have h3 := HM.out
        have h4 : (D.take j).length * 92 ≤ 16 * 92 := Nat.mul_le_mul_right _ (by omega)
        omega)
      have W0 := Lib.hid (RcW.start wr)
      have wn : IntKind.u64.wrap (m : Int) = (m : Int) := by simp [IntKind.wrap, IntKind.bits, IntKind.signed]; omega
      have R0 : Hid (∀ e z, RcE wr (encY D) e z → Q e z) := Lib.hid (fun e z hz => by
        rw [HQ.out]
        obtain ⟨a1, n1, c1, h1, h2⟩ := hz
        exact ⟨a1, n1, c1, h1, Lib.hid (h2.out.lift (FW.out.trans HF.out (by simp) (by simp)))⟩)
      obtain ⟨V, rfl⟩ : ∃ V, V = wr := ⟨_, rfl⟩
      clear hD hkx
      go_wp2_with fail
      (with_reducible refine (rc_put m 1 1 rfl W0.out (by omega) (by decide) (by simp)).mono ?_)
      rintro e v3 ⟨a3, n3, c3, rfl, hq3⟩
      have R3 := Lib.hid hq3.out
      rw [List.nil_append] at R3
      clear hq3 wn
      go_wp2
      go_loopw [1, 8] (fun s1 s8 wr => ∃ (j : Nat) (a' : Option Addr) (n' c' : Nat), j ≤ m ∧ s8 = .int .i64 (j : Nat) ∧ s1 = .slice a' n' c' ∧ Hid (RcW V wr a' n' c' (be 1 m ++ (D.take j).flatMap encL))) (fun _ s8 _ => m - (intOf s8).toNat)
      case atStart => exact ⟨0, a3, n3, c3, Nat.zero_le _, rfl, rfl, Lib.hid (by simpa using R3.out)⟩
      case round =>
        obtain ⟨j, aj, nj, cj, hj, rfl, rfl, HJ⟩ := hrel
        by_cases hlj : j < m
        · have hlj' : (j : Int) < (m : Int) := by omega
          have jD : j < D.length := by have := HM.out; omega
          have h1at := fun z (hz : Frm [] V z) => (OD.out.sub hz).at (i := j) jD
          obtain ⟨b, off, rfl, _⟩ := h1at _ (Frm.refl _ _)
          have FIT := Lib.hid (OD.out.fits (D.getD j default) (by simp [jD]))
          have XN := Lib.hid (DN.out (D.getD j default) (by simp [jD]))
          have TJ := Lib.hid (lnflat_take D jD)
          have DX : Hid (∀ z, Frm [] V z → z.cell? ⟨b, off + j * 5, none⟩ = some (.string (D.getD j default).nm) ∧ z.cell? ⟨b, off + j * 5 + 2, none⟩ = some (.int .u64 ((D.getD j default).done : Nat)) ∧ z.cell? ⟨b, off + j * 5 + 3, none⟩ = some (.int .u64 ((D.getD j default).l : Nat)) ∧ z.cell? ⟨b, off + j * 5 + 4, none⟩ = some (.int .u64 ((D.getD j default).e : Nat))) := Lib.hid (fun z hz => by
            obtain ⟨b', off', e, q0, _, q2, q3, q4, _⟩ := h1at z hz
            cases e
            exact ⟨q0, q2, q3, q4⟩)
          obtain ⟨x, hx⟩ : ∃ x, x = D.getD j default := ⟨_, rfl⟩
          rw [← hx] at FIT XN TJ DX
          obtain ⟨xn, xt, xd, xl, xe⟩ := x
          simp only at XN DX
          have FIT : Hid (xt < 18446744073709551616 ∧ xd < 18446744073709551616 ∧ xl < 18446744073709551616 ∧ xe < 18446744073709551616) := FIT
          have EJ := Lib.hid (EL.out j)
          clear hx jD h1at
          have x0 := (DX.out _ HJ.out.frm).1
          have hs64 : xn.size ≤ 64 := XN.out
          have hcv := fun (w : World) => Lib.run_convert_string_bytes (P := Try.prog) w 9 47 5 xn Try.underlying9 Try.underlying47 Try.underlying5
          go_wp2_with fail
          have R4 := Lib.hid (HJ.out.keep (conv_frm wr 5 xn))
          have BB := Lib.hid (conv_bytes wr 5 xn (by omega))
          have NOB : Hid (∀ x, some (⟨wr.heap.size, 0, none⟩ : Addr) = some x → x.block ∉ ob aj) := Lib.hid (fun x hx hm => by
            cases hx
            have := (HJ.out.own.lt _ (ob_some.2 hm)).2
            simp at this)
          obtain ⟨bl, hbl⟩ : ∃ bl, bl = be 1 m ++ (D.take j).flatMap encL := ⟨_, rfl⟩
          have BL : Hid (bl.length ≤ 1473) := Lib.hid (by rw [hbl, List.length_append, be_length]; have := EJ.out; omega)
          rw [← hbl] at R4
          have HBL := Lib.hid hbl; clear hbl
          (with_reducible refine (rc_bytes (some ⟨wr.heap.size, 0, none⟩) xn.size _ (strL xn) R4.out BB.out (fun _ => NOB.out) (strL_length xn).symm (by simp) (by have := BL.out; omega) (by omega)).mono ?_)
          rintro e v5 ⟨a5, n5, c5, rfl, hq5⟩
          have R5 := Lib.hid hq5.out
          clear hq5 hcv x0
          obtain ⟨b5, hb5⟩ : ∃ b5, b5 = bl ++ (be 4 xn.size ++ strL xn) := ⟨_, rfl⟩
          have B5 : Hid (b5.length ≤ 1541) := Lib.hid (by rw [hb5]; have := BL.out; simp only [List.length_append, be_length, strL_length]; omega)
          rw [← hb5] at R5
          have HB5 := Lib.hid hb5; clear hb5
          have t2 : ∀ z, Frm [] V z → z.cell? ⟨b, off + j * 5 + 2, none⟩ = some (.int .u64 (xd : Nat)) := fun z hz => (DX.out z hz).2.1
          have t3 : ∀ z, Frm [] V z → z.cell? ⟨b, off + j * 5 + 3, none⟩ = some (.int .u64 (xl : Nat)) := fun z hz => (DX.out z hz).2.2.1
          have t4 : ∀ z, Frm [] V z → z.cell? ⟨b, off + j * 5 + 3 + 1, none⟩ = some (.int .u64 (xe : Nat)) := fun z hz => (DX.out z hz).2.2.2
          have F5d := Lib.hid R5.out.frm.drew
          go_upto_region 13 with (fail)
          refine wp_region_held_drew (S := fun w' => Frm [] V w') (by kernel_rfl) F5d.out (fun hHeld => ?_)
          refine wpAnyH_take (i := 0) (oi := ⟨some 49, _, _, _, _, _⟩) (v := ?_) rfl (by kernel_rfl) (by kernel_rfl) (by kernel_rfl) (fun _ _ _ h => h) (Or.inl ⟨by rfl, ?_⟩) (by assumption) ?_
          rotate_left 1
          · (intro w hSw; (try dsimp only at hSw); go_simp; all_goals with_reducible rfl)
          try simp only [Act.put, List.setIfInBounds_toArray, List.set_cons_zero, List.set_cons_succ]
          refine wpAnyH_take (i := 1) (oi := ⟨some 50, _, _, _, _, _⟩) (v := ?_) rfl (by kernel_rfl) (by kernel_rfl) (by kernel_rfl) (fun _ _ _ h => h) (Or.inl ⟨by rfl, ?_⟩) (by assumption) ?_
          rotate_left 1
          · (intro w hSw; (try dsimp only at hSw); go_simp; all_goals with_reducible rfl)
          try simp only [Act.put, List.setIfInBounds_toArray, List.set_cons_zero, List.set_cons_succ]
          refine wpAnyH_take (i := 2) (oi := ⟨some 51, _, _, _, _, _⟩) (v := ?_) rfl (by kernel_rfl) (by kernel_rfl) (by kernel_rfl) (fun _ _ _ h => h) (Or.inl ⟨by rfl, ?_⟩) (by assumption) ?_
          rotate_left 1
          · (intro w hSw; (try dsimp only at hSw); go_simp; all_goals with_reducible rfl)
          try simp only [Act.put, List.setIfInBounds_toArray, List.set_cons_zero, List.set_cons_succ]
          refine wpAnyH_take (i := 3) (oi := ⟨some 52, _, _, _, _, _⟩) (v := ?_) rfl (by kernel_rfl) (by kernel_rfl) (by kernel_rfl) (fun _ _ _ h => h) (Or.inl ⟨by rfl, ?_⟩) (by assumption) ?_
          rotate_left 1
          · (intro w hSw; (try dsimp only at hSw); go_simp; all_goals with_reducible rfl)
          try simp only [Act.put, List.setIfInBounds_toArray, List.set_cons_zero, List.set_cons_succ]
          refine wpAnyH_take (i := 4) (oi := ⟨some 53, _, _, _, _, _⟩) (v := ?_) rfl (by kernel_rfl) (by kernel_rfl) (by kernel_rfl) (fun _ _ _ h => h) (Or.inl ⟨by rfl, ?_⟩) (by assumption) ?_
          rotate_left 1
          · (intro w hSw; (try dsimp only at hSw); go_simp; all_goals with_reducible rfl)
          try simp only [Act.put, List.setIfInBounds_toArray, List.set_cons_zero, List.set_cons_succ]
          refine wpAnyH_take (i := 5) (oi := ⟨some 54, _, _, _, _, _⟩) (v := ?_) rfl (by kernel_rfl) (by kernel_rfl) (by kernel_rfl) (fun _ _ _ h => h) (Or.inl ⟨by rfl, ?_⟩) (by assumption) ?_
          rotate_left 1
          · (intro w hSw; (try dsimp only at hSw); go_simp; all_goals with_reducible rfl)
          try simp only [Act.put, List.setIfInBounds_toArray, List.set_cons_zero, List.set_cons_succ]
          refine wpAnyH_take (i := 7) (oi := ⟨some 56, _, _, _, _, _⟩) (v := ?_) rfl (by kernel_rfl) (by kernel_rfl) (by kernel_rfl) (fun _ _ _ h => h) (Or.inl ⟨by rfl, ?_⟩) (by assumption) ?_
          rotate_left 1
          · (intro w hSw; (try dsimp only at hSw); go_simp; all_goals with_reducible rfl)
          try simp only [Act.put, List.setIfInBounds_toArray, List.set_cons_zero, List.set_cons_succ]
          refine wpAnyH_take (i := 8) (oi := ⟨some 57, _, _, _, _, _⟩) (v := ?_) rfl (by kernel_rfl) (by kernel_rfl) (by kernel_rfl) (fun _ _ _ h => h) (Or.inl ⟨by rfl, ?_⟩) (by assumption) ?_
          rotate_left 1
          · (intro w hSw; (try dsimp only at hSw); go_simp; all_goals with_reducible rfl)
          try simp only [Act.put, List.setIfInBounds_toArray, List.set_cons_zero, List.set_cons_succ]
          refine wpAnyH_take (i := 9) (oi := ⟨some 58, _, _, _, _, _⟩) (v := ?_) rfl (by kernel_rfl) (by kernel_rfl) (by kernel_rfl) (fun _ _ _ h => h) (Or.inl ⟨by rfl, ?_⟩) (by assumption) ?_
          rotate_left 1
          · (intro w hSw; (try dsimp only at hSw); go_simp; all_goals with_reducible rfl)
          try simp only [Act.put, List.setIfInBounds_toArray, List.set_cons_zero, List.set_cons_succ]
          refine wpAnyH_take (i := 10) (oi := ⟨some 59, _, _, _, _, _⟩) (v := ?_) rfl (by kernel_rfl) (by kernel_rfl) (by kernel_rfl) (fun _ _ _ h => h) (Or.inl ⟨by rfl, ?_⟩) (by assumption) ?_
          rotate_left 1
          · (intro w hSw; (try dsimp only at hSw); go_simp; all_goals with_reducible rfl)
          try simp only [Act.put, List.setIfInBounds_toArray, List.set_cons_zero, List.set_cons_succ]
          refine wpAnyH_take (i := 11) (oi := ⟨some 60, _, _, _, _, _⟩) (v := ?_) rfl (by kernel_rfl) (by kernel_rfl) (by kernel_rfl) (fun _ _ _ h => h) (Or.inl ⟨by rfl, ?_⟩) (by assumption) ?_
          rotate_left 1
          · (intro w hSw; (try dsimp only at hSw); go_simp; all_goals with_reducible rfl)
          try simp only [Act.put, List.setIfInBounds_toArray, List.set_cons_zero, List.set_cons_succ]
          refine wpAnyH_take (i := 12) (oi := ⟨some 61, _, _, _, _, _⟩) (v := ?_) rfl (by kernel_rfl) (by kernel_rfl) (by kernel_rfl) (fun _ _ _ h => h) (Or.inl ⟨by rfl, ?_⟩) (by assumption) ?_
          rotate_left 1
          · (intro w hSw; (try dsimp only at hSw); go_simp; all_goals with_reducible rfl)
          try simp only [Act.put, List.setIfInBounds_toArray, List.set_cons_zero, List.set_cons_succ]
          refine wpAnyH_take (i := 14) (oi := ⟨some 63, _, _, _, _, _⟩) (v := ?_) rfl (by kernel_rfl) (by kernel_rfl) (by kernel_rfl) (fun _ _ _ h => h) (Or.inl ⟨by rfl, ?_⟩) (by assumption) ?_
          rotate_left 1
          · (intro w hSw; (try dsimp only at hSw); go_simp; all_goals with_reducible rfl)
          try simp only [Act.put, List.setIfInBounds_toArray, List.set_cons_zero, List.set_cons_succ]
          refine wpAnyH_take (i := 15) (oi := ⟨some 64, _, _, _, _, _⟩) (v := ?_) rfl (by kernel_rfl) (by kernel_rfl) (by kernel_rfl) (fun _ _ _ h => h) (Or.inl ⟨by rfl, ?_⟩) (by assumption) ?_
          rotate_left 1
          · (intro w hSw; (try dsimp only at hSw); go_simp; all_goals with_reducible rfl)
          try simp only [Act.put, List.setIfInBounds_toArray, List.set_cons_zero, List.set_cons_succ]
          refine wpAnyH_take (i := 16) (oi := ⟨some 65, _, _, _, _, _⟩) (v := ?_) rfl (by kernel_rfl) (by kernel_rfl) (by kernel_rfl) (fun _ _ _ h => h) (Or.inl ⟨by rfl, ?_⟩) (by assumption) ?_
          rotate_left 1
          · (intro w hSw; (try dsimp only at hSw); go_simp; all_goals with_reducible rfl)
          try simp only [Act.put, List.setIfInBounds_toArray, List.set_cons_zero, List.set_cons_succ]
          refine wpAnyH_take (i := 17) (oi := ⟨some 66, _, _, _, _, _⟩) (v := ?_) rfl (by kernel_rfl) (by kernel_rfl) (by kernel_rfl) (fun _ _ _ h => h) (Or.inl ⟨by rfl, ?_⟩) (by assumption) ?_
          rotate_left 1
          · (intro w hSw; (try dsimp only at hSw); go_simp; all_goals with_reducible rfl)
          try simp only [Act.put, List.setIfInBounds_toArray, List.set_cons_zero, List.set_cons_succ]
          refine wpAnyH_take (i := 18) (oi := ⟨some 67, _, _, _, _, _⟩) (v := ?_) rfl (by kernel_rfl) (by kernel_rfl) (by kernel_rfl) (fun _ _ _ h => h) (Or.inl ⟨by rfl, ?_⟩) (by assumption) ?_
          rotate_left 1
          · (intro w hSw; (try dsimp only at hSw); go_simp; all_goals with_reducible rfl)
          try simp only [Act.put, List.setIfInBounds_toArray, List.set_cons_zero, List.set_cons_succ]
          refine wpAnyH_take (i := 19) (oi := ⟨some 68, _, _, _, _, _⟩) (v := ?_) rfl (by kernel_rfl) (by kernel_rfl) (by kernel_rfl) (fun _ _ _ h => h) (Or.inl ⟨by rfl, ?_⟩) (by assumption) ?_
          rotate_left 1
          · (intro w hSw; (try dsimp only at hSw); go_simp; all_goals with_reducible rfl)
          try simp only [Act.put, List.setIfInBounds_toArray, List.set_cons_zero, List.set_cons_succ]
          refine wpAnyH_ready (rs := [6]) (by kernel_rfl) (by simp) ?_
          refine AllReadyH.cons (o := ⟨some 55, _, _, _, _, _⟩) rfl (fun K hK => ?_) AllReadyH.nil
          go_simp
          go_at_call 32; (with_reducible refine (rc_put xd 8 8 rfl (R5.out.keep (Frm.drew (Frm.refl _ _))) FIT.out.2.1 (by decide) (by have h1 := B5.out; omega)).mono ?_); rintro e v6 ⟨a6, n6, c6, rfl, hq6⟩; have R6 := Lib.hid hq6.out; clear hq6; have hHeld1 : Frm [] V v6 := R6.out.frm
          go_wp2_with fail
          refine hK.out _ _ (by assumption) (fun hHeld => ?_)
          clear hK K
          try simp only [Act.put, List.setIfInBounds_toArray, List.set_cons_zero, List.set_cons_succ]
          refine wpAnyH_ready (rs := [13]) (by kernel_rfl) (by simp) ?_
          refine AllReadyH.cons (o := ⟨some 62, _, _, _, _, _⟩) rfl (fun K hK => ?_) AllReadyH.nil
          go_simp
          go_at_call 32; (with_reducible refine (rc_put xl 8 8 rfl R6.out FIT.out.2.2.1 (by decide) (by have h1 := B5.out; simp only [List.length_append, be_length]; omega)).mono ?_); rintro e v7 ⟨a7, n7, c7, rfl, hq7⟩; have R7 := Lib.hid hq7.out; clear hq7; have hHeld2 : Frm [] V v7 := R7.out.frm
          go_wp2_with fail
          refine hK.out _ _ (by assumption) (fun hHeld => ?_)
          clear hK K
          try simp only [Act.put, List.setIfInBounds_toArray, List.set_cons_zero, List.set_cons_succ]
          refine wpAnyH_ready (rs := [20]) (by kernel_rfl) (by simp) ?_
          refine AllReadyH.cons (o := ⟨some 69, _, _, _, _, _⟩) rfl (fun K hK => ?_) AllReadyH.nil
          go_simp
          go_at_call 32; (with_reducible refine (rc_put xe 8 8 rfl R7.out FIT.out.2.2.2 (by decide) (by have h1 := B5.out; simp only [List.length_append, be_length]; omega)).mono ?_); rintro e v8 ⟨a8, n8, c8, rfl, hq8⟩; have R8 := Lib.hid hq8.out; clear hq8; have hHeld3 : Frm [] V v8 := R8.out.frm
          go_wp2_with fail
          refine hK.out _ _ (by assumption) (fun hHeld => ?_)
          clear hK K
          try simp only [Act.put, List.setIfInBounds_toArray, List.set_cons_zero, List.set_cons_succ]
          refine wpAnyH_take (i := 21) (oi := ⟨some 1, _, _, _, _, _⟩) (v := ?_) rfl (by kernel_rfl) (by kernel_rfl) (by kernel_rfl) (fun _ _ _ h => h) (Or.inl ⟨by rfl, ?_⟩) (by assumption) ?_
          rotate_left 1
          · (intro w hSw; (try dsimp only at hSw); go_simp; all_goals with_reducible rfl)
          try simp only [Act.put, List.setIfInBounds_toArray, List.set_cons_zero, List.set_cons_succ]
          refine wpAnyH_done (by kernel_rfl) ?_ _
          have NX : Hid (RcW V v8 a8 n8 c8 (be 1 m ++ (D.take (j + 1)).flatMap encL)) := Lib.hid (by
            have h1 := R8.out
            rw [TJ.out, ← List.append_assoc, ← HBL.out]
            rw [HB5.out] at h1
            unfold encL
            simp only [List.append_assoc] at h1 ⊢
            exact h1)
          clear t2 t3 t4
          go_wp2
          go_roundw
          case rel => exact ⟨j + 1, a8, n8, c8, by omega, by go_num, rfl, NX⟩
          case measure => simp [intOf]; omega
        · obtain rfl : j = m := by omega
          have HE : Hid (Q (.returned (.slice aj nj cj)) wr) := Lib.hid (R0.out _ _ ⟨aj, nj, cj, rfl, Lib.hid (by
            have h1 := HJ.out
            rw [List.take_of_length_le (by rw [← HM.out]; exact Nat.le_refl _)] at h1
            unfold encY
            rw [← HM.out]
            exact h1)⟩)
          go_wp2
          exact HE.out
end Go.Proofs.Ytahhkffghhgojaa
