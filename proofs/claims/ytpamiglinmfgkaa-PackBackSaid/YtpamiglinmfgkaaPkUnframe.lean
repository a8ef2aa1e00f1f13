/- Contract of Unframe: the frame with which bytes begin, and what is left; or which error. -/
import Derived.Test.YtpamiglinmfgkaaPkFrame
import Derived.Test.YtpamiglinmfgkaaCut
namespace Go.Proofs.Ytpamiglinmfgkaa
open Go.RowKit

theorem enters_unframe (args : Array Value) (w : World) : (callFunc 46 args).run Try.prog w = .ok (.enter 46 args) w := by kernel_rfl

/-- What the reader of a frame's head leaves: the two numbers, in their variables. -/
def Head (w0 : World) (zb sb : Nat) (l : List Nat) (w2 : World) (rest : List Nat) : Prop :=
  rest = l.drop 8 ∧ Frm [zb, sb] w0 w2 ∧ Whole w2 zb 39 #[.int .u32 (val (l.take 4) : Nat)] ∧ Whole w2 sb 39 #[.int .u32 (val ((l.drop 4).take 4) : Nat)]

theorem head_ret (zb sb : Nat) (x y : Value) (w w1 : World) (rb cb db : Nat) (l : List Nat) (h : Told w w1 rb cb db l) (hz : Whole w zb 39 #[x]) (hs : Whole w sb 39 #[y]) (hzs : zb ≠ sb) (hl : 8 ≤ l.length) :
    Calls Try.prog 46 (#[.pointer (some ⟨rb, 0, none⟩)] ++ #[.pointer (some ⟨zb, 0, none⟩), .pointer (some ⟨sb, 0, none⟩)]) w1 (ByRet w w1 rb cb db (Head w zb sb l)) := by
  have H := Lib.hid h; clear h
  have HZ := Lib.hid hz; clear hz
  have HS := Lib.hid hs; clear hs
  show Calls Try.prog 46 #[.pointer (some ⟨rb, 0, none⟩), .pointer (some ⟨zb, 0, none⟩), .pointer (some ⟨sb, 0, none⟩)] w1 _
  go_enter Try.func46, Try.ntmps46
  go_wp2_with fail
  refine (ru32_ok H.out.rdr (by omega) H.out.dlt).mono ?_
  rintro e w2 ⟨rfl, hr2, hf2⟩
  have HR2 := Lib.hid hr2; clear hr2
  have HF2 := Lib.hid hf2; clear hf2
  go_wp2_with fail
  refine (ru32_ok HR2.out (by simp; omega) (Nat.lt_of_lt_of_le H.out.dlt HF2.out.size)).mono ?_
  rintro e w3 ⟨rfl, hr3, hf3⟩
  have h := H.out
  have zlt := HZ.out.lt
  have slt := HS.out.lt
  have hge := h.hr
  have hgc := h.hc
  have hgd := h.hd
  have hf13 : Frm [rb] w1 w3 := HF2.out.trans hf3 (fun x hx => hx) (fun x hx => .inl hx)
  have hf03 : Frm [] w w3 := h.frm.trans hf13 (by simp) (fun x hx => by simp at hx; subst hx; exact .inr hge)
  have hz3 := hf03.whole HZ.out (by simp)
  have hs3 := hf03.whole HS.out (by simp)
  have z0 := hz3.cell 0
  have z1 := hz3.free 0
  obtain ⟨v1, hv1⟩ : ∃ v, v = val (l.take 4) := ⟨_, rfl⟩
  obtain ⟨v2, hv2⟩ : ∃ v, v = val ((l.drop 4).take 4) := ⟨_, rfl⟩
  rw [← hv1, ← hv2]
  have s0 := (hs3.other (p := ⟨zb, 0, none⟩) (Ne.symm hzs) (.int .u32 (v1 : Nat))).cell 0
  have s1 := (hs3.other (p := ⟨zb, 0, none⟩) (Ne.symm hzs) (.int .u32 (v1 : Nat))).free 0
  simp at z0 s0
  have hzz := (hz3.put 0 (.int .u32 (v1 : Nat))).other (p := ⟨sb, 0, none⟩) hzs (.int .u32 (v2 : Nat))
  have hss := (hs3.other (p := ⟨zb, 0, none⟩) (Ne.symm hzs) (.int .u32 (v1 : Nat))).put 0 (.int .u32 (v2 : Nat))
  have hfr : Frm [zb, sb] w ((w3.setCell ⟨zb, 0, none⟩ (.int .u32 (v1 : Nat))).setCell ⟨sb, 0, none⟩ (.int .u32 (v2 : Nat))) := ((hf03.weak (by simp)).setCell (.inl (by simp)) _).setCell (.inl (by simp)) _
  have hfr2 : Frm [rb, zb, sb] w1 ((w3.setCell ⟨zb, 0, none⟩ (.int .u32 (v1 : Nat))).setCell ⟨sb, 0, none⟩ (.int .u32 (v2 : Nat))) := ((hf13.weak (fun x hx => .inl (by simp at hx; simp [hx]))).setCell (.inl (by simp)) _).setCell (.inl (by simp)) _
  have hk : Frm [zb, sb] w3 ((w3.setCell ⟨zb, 0, none⟩ (.int .u32 (v1 : Nat))).setCell ⟨sb, 0, none⟩ (.int .u32 (v2 : Nat))) := ((Frm.refl _ _).setCell (.inl (by simp)) _).setCell (.inl (by simp)) _
  have hrr := hr3.keep hk (by simp; omega) (by simp; omega) (by simp; omega)
  rw [List.drop_drop] at hrr
  have FIN : ByRet w w1 rb cb db (Head w zb sb l) (.returned (.tuple #[])) ((w3.setCell ⟨zb, 0, none⟩ (.int .u32 (v1 : Nat))).setCell ⟨sb, 0, none⟩ (.int .u32 (v2 : Nat))) :=
    ⟨rfl, l.drop 8, [rb, zb, sb], ⟨rfl, hfr, by rw [← hv1]; simpa using hzz, by rw [← hv2]; simpa using hss⟩, hrr, hfr2, by simp; omega⟩
  have FH := Lib.hid FIN
  clear FIN hrr hk hfr hfr2 hzz hss hf13 hf03 hz3 hs3 hr3 hf3 hv1 hv2 h
  go_wp2
  go_end0
  exact FH.out

theorem head_short (zb sb : Nat) (w w1 : World) (rb cb db : Nat) (l : List Nat) (h : Told w w1 rb cb db l) (hl : l.length < 8) :
    Calls Try.prog 46 (#[.pointer (some ⟨rb, 0, none⟩)] ++ #[.pointer (some ⟨zb, 0, none⟩), .pointer (some ⟨sb, 0, none⟩)]) w1 (ByThrow w w1 rb cb 4 (Frm [] w)) := by
  have H := Lib.hid h; clear h
  show Calls Try.prog 46 #[.pointer (some ⟨rb, 0, none⟩), .pointer (some ⟨zb, 0, none⟩), .pointer (some ⟨sb, 0, none⟩)] w1 _
  have FIN : Hid (∀ w2, Whole w2 cb 78 #[.bool false, .int .i64 4] → Frm [rb, cb] w1 w2 → ByThrow w w1 rb cb 4 (Frm [] w) (.panicked [{ v := .iface 76 (.pointer (some ⟨cb, 0, none⟩)), recovered := false }]) w2) := by
    intro w2 h1 h2
    have h := H.out
    exact ⟨rfl, [rb, cb], h.frm.trans h2 (by simp) (fun x hx => by have := h.hr; have := h.hc; simp at hx; right; rcases hx with rfl | rfl <;> assumption), h1, h2, by simp⟩
  by_cases h4 : l.length < 4
  · go_enter Try.func46, Try.ntmps46
    go_wp2_with fail
    refine (ru32_short H.out.rdr h4).mono ?_
    rintro e w2 ⟨rfl, h1, h2⟩
    exact ⟨rfl, FIN.out _ h1 h2⟩
  · go_enter Try.func46, Try.ntmps46
    go_wp2_with fail
    refine (ru32_ok H.out.rdr (by omega) H.out.dlt).mono ?_
    rintro e w2 ⟨rfl, hr2, hf2⟩
    have HR2 := Lib.hid hr2; clear hr2
    go_wp2_with fail
    refine (ru32_short HR2.out (by simp; omega)).mono ?_
    rintro e w3 ⟨rfl, h1, h2⟩
    exact ⟨rfl, FIN.out _ h1 (hf2.trans h2 (by simp) (fun x hx => .inl hx))⟩
/- == unframe -/
theorem size_byte (w : World) : (Go.sizeOf 5).run Try.prog w = .ok 1 w := by kernel_rfl
theorem flip_quiet {P : Program} {f : FuncId} {args : Array Value} {w : World} {n : Nat} {v : Value}
    (h : Calls P f args (w.drewN n) fun e w' => e = .returned v ∧ w.drewN n = w') : Calls P f args (w.drewN n) fun e w'' => e = .returned v ∧ ∃ m, w'' = w.drewN m :=
  Calls.quiet_of_same (h.mono fun _ _ ⟨he, hm⟩ => ⟨he, hm.symm⟩)

/-- Unframe answers an error. -/
def UnfErr (w : World) (c : Int) (e : Ending) (w' : World) : Prop := e = .returned (.tuple #[.slice none 0 0, .slice none 0 0, .int .i64 c]) ∧ Frm [] w w'
/-- A slice that was cloned. -/
structure Cl (w : World) (l : List Nat) (a : Option Addr) (cap : Nat) : Prop where
  bytes : Bytes w a l
  nil : a = none → cap = 0
  le : l.length ≤ cap
  fits : cap ≤ 9223372036854775807
  lt : ∀ x, a = some x → x.block < w.heap.size
theorem Cl.keep {w w' : World} {l : List Nat} {a : Option Addr} {cap : Nat} (h : Cl w l a cap) (hf : Frm [] w w') : Cl w' l a cap :=
  ⟨hf.bytes h.bytes (by simp), h.nil, h.le, h.fits, fun x hx => Nat.lt_of_lt_of_le (h.lt x hx) hf.size⟩
theorem own_cl {w' : World} {base : Nat} {l : List Nat} {a : Option Addr} {cap : Nat} (h : w'.ownsRow base 5 1 (.slice a l.length cap) l.length (l.map u8v)) (h8 : ∀ c ∈ l, c < 256) : Cl w' l a cap := by
  have hb := bytes_of_own h h8
  have hc : l.length ≤ cap ∧ cap ≤ 9223372036854775807 := by
    rcases h.2 with ⟨h, h0⟩ | ⟨g, cap, cur, hv, _, _, hnc, hm, _⟩
    · injection h with _ _ h; omega
    · injection hv with _ _ h; unfold maxLen at hm; omega
  exact ⟨hb.2.1, hb.2.2, hc.1, hc.2, fun x hx => (h.lt x.block (by rw [hx]; rfl)).2⟩
/-- Unframe answers a body of so many bytes, and the rest. -/
def UnfOk (w : World) (l : List Nat) (z : Nat) (e : Ending) (w' : World) : Prop :=
  ∃ a1 cap1 a2 cap2, e = .returned (.tuple #[.slice a1 z cap1, .slice a2 (l.length - (8 + z)) cap2, .int .i64 0]) ∧ Cl w' ((l.drop 8).take z) a1 cap1 ∧ Cl w' (l.drop (8 + z)) a2 cap2 ∧ Frm [] w w'

set_option maxHeartbeats 1000000 in
theorem unframe_short (a : Option Addr) (n cap : Nat) (l : List Nat) (w : World) (hl : Bytes w a l) (hn : n = l.length) (hnc : n ≤ cap) (hnil : a = none → cap = 0) (hcap : n ≤ 140737488355328) (_hcm : cap ≤ 9223372036854775807) (h8 : n < 8) :
    Calls Try.prog 24 #[.slice a n cap] w (UnfErr w 4) := by
  have hmf : ∀ (fn : Fn) (first cap : Array Value) (w : World), (Instr.makeFunc fn first cap).run Try.prog w = .ok (.func fn first cap) w := fun _ _ _ _ => rfl
  have HL := Lib.hid hl; clear hl
  have HN := Lib.hid hn; clear hn
  have HNIL := Lib.hid hnil; clear hnil
  have hg0 : (Whole ((w.alloc (.cells #[.int .u32 0] 39)).alloc (.cells #[.int .u32 0] 39)) w.heap.size 39 #[.int .u32 0]) := (Whole.made w _ _).alloc _
  have hg1 : (Whole ((w.alloc (.cells #[.int .u32 0] 39)).alloc (.cells #[.int .u32 0] 39)) (w.heap.size + 1) 39 #[.int .u32 0]) := Whole.made' _ _ (by simp)
  have hf0 : Frm [] w ((w.alloc (.cells #[.int .u32 0] 39)).alloc (.cells #[.int .u32 0] 39)) := ((Frm.refl _ _).alloc _).alloc _
  have HG0 := Lib.hid hg0; clear hg0
  have HG1 := Lib.hid hg1; clear hg1
  have HF0 := Lib.hid hf0; clear hf0
  go_enter Try.func24, Try.ntmps24
  go_wp2_with fail
  refine (read_throw 46 _ _ _ _ l _ (Frm [] _) 4 (HF0.out.bytes HL.out (by simp)) HN.out HNIL.out hcap enters_unframe (fun w1 rb cb db h => head_short _ _ _ w1 rb cb db l h (by have := HN.out; omega))).mono ?_
  rintro e w3 ⟨w2, c, T, rfl, ⟨hf2, rfl⟩, hf3, hT⟩
  have HF := Lib.hid (HF0.out.trans (hf2.trans hf3 (U := []) (by simp) (fun x hx => .inr (hT x hx))) (U := []) (by simp) (by simp)); clear hf2 hf3 hT
  go_wp2
  go_ret3
  exact ⟨rfl, HF.out⟩

set_option maxHeartbeats 1000000 in
theorem unframe_long (a : Option Addr) (n cap : Nat) (l : List Nat) (w : World) (hl : Bytes w a l) (hn : n = l.length) (hnc : n ≤ cap) (hnil : a = none → cap = 0) (hcap : n ≤ 140737488355328) (_hcm : cap ≤ 9223372036854775807) (z s : Nat) (hz : val (l.take 4) = z) (hs : val ((l.drop 4).take 4) = s) (h8 : 8 ≤ n) (hz4 : 4096 < z) :
    Calls Try.prog 24 #[.slice a n cap] w (UnfErr w 3) := by
  have hz32 : z < 4294967296 := by
    have := val_lt (l.take 4) (fun c hc => hl.1 c (List.mem_of_mem_take hc))
    rw [List.length_take, Nat.min_eq_left (by omega), hz] at this
    simpa using this
  have hs32 : s < 4294967296 := by
    have := val_lt ((l.drop 4).take 4) (fun c hc => hl.1 c (List.mem_of_mem_drop (List.mem_of_mem_take hc)))
    rw [List.length_take, Nat.min_eq_left (by simp; omega), hs] at this
    simpa using this
  have HZ := Lib.hid hz; clear hz
  have HS := Lib.hid hs; clear hs
  have hmf : ∀ (fn : Fn) (first cap : Array Value) (w : World), (Instr.makeFunc fn first cap).run Try.prog w = .ok (.func fn first cap) w := fun _ _ _ _ => rfl
  have HL := Lib.hid hl; clear hl
  have HN := Lib.hid hn; clear hn
  have HNIL := Lib.hid hnil; clear hnil
  have hg0 : (Whole ((w.alloc (.cells #[.int .u32 0] 39)).alloc (.cells #[.int .u32 0] 39)) w.heap.size 39 #[.int .u32 0]) := (Whole.made w _ _).alloc _
  have hg1 : (Whole ((w.alloc (.cells #[.int .u32 0] 39)).alloc (.cells #[.int .u32 0] 39)) (w.heap.size + 1) 39 #[.int .u32 0]) := Whole.made' _ _ (by simp)
  have hf0 : Frm [] w ((w.alloc (.cells #[.int .u32 0] 39)).alloc (.cells #[.int .u32 0] 39)) := ((Frm.refl _ _).alloc _).alloc _
  have HG0 := Lib.hid hg0; clear hg0
  have HG1 := Lib.hid hg1; clear hg1
  have HF0 := Lib.hid hf0; clear hf0
  have hmin : ∀ (w : World), (Builtin.min_ #[3, 3] 3 #[.int .i64 (n : Int), .int .i64 8]).run Try.prog w = .ok (.int .i64 8) w := by
    intro w
    by_cases h9 : n = 8
    · subst h9; kernel_rfl
    · simp [go_sem]; omega
  go_enter Try.func24, Try.ntmps24
  go_wp2_with fail
  refine (read_ret 46 _ _ _ _ (l.take 8) _ (Head _ w.heap.size (w.heap.size + 1) (l.take 8)) ((HF0.out.bytes HL.out (by simp)).take 8) (by simp; have := HN.out; omega) HNIL.out (by omega) enters_unframe (fun w1 rb cb db h => head_ret w.heap.size (w.heap.size + 1) _ _ _ w1 rb cb db (l.take 8) h HG0.out HG1.out (by omega) (by simp; have := HN.out; omega))).mono ?_
  rintro e w3 ⟨w2, c, T, rfl, ⟨rest, ⟨hrest, hf2, hz2, hs2⟩, hc⟩, hf3, hT⟩
  have hr0 : rest = [] := by rw [hrest]; simp
  obtain rfl : c = 0 := by rw [hc, if_pos hr0]
  have hsz2 : ((w.alloc (.cells #[.int .u32 0] 39)).alloc (.cells #[.int .u32 0] 39)).heap.size = w.heap.size + 2 := by simp
  have hz3 := hf3.whole hz2 (fun hm => by have := hT _ hm; omega)
  have hs3 := hf3.whole hs2 (fun hm => by have := hT _ hm; omega)
  have e1 : (l.take 8).take 4 = l.take 4 := by rw [List.take_take]; rfl
  have e2 : ((l.take 8).drop 4).take 4 = (l.drop 4).take 4 := by rw [List.drop_take, List.take_take]; rfl
  rw [e1, HZ.out] at hz3
  rw [e2, HS.out] at hs3
  have HF := Lib.hid ((HF0.out.fresh (F := [w.heap.size, w.heap.size + 1]) (by simp) hf2).fresh (F := T) (fun x hx => by have := hT x hx; omega) hf3)
  have z0 := hz3.cell 0
  have s0 := hs3.cell 0
  simp at z0 s0
  clear hf2 hf3 hT hz2 hs2 hz3 hs3 e1 e2 hrest hr0 hc hsz2 HG0 HG1
  go_wp2
  go_ret3
  exact ⟨rfl, HF.out⟩

set_option maxHeartbeats 1000000 in
theorem unframe_less (a : Option Addr) (n cap : Nat) (l : List Nat) (w : World) (hl : Bytes w a l) (hn : n = l.length) (hnc : n ≤ cap) (hnil : a = none → cap = 0) (hcap : n ≤ 140737488355328) (_hcm : cap ≤ 9223372036854775807) (z s : Nat) (hz : val (l.take 4) = z) (hs : val ((l.drop 4).take 4) = s) (h8 : 8 ≤ n) (hz4 : z ≤ 4096) (hzn : n < 8 + z) :
    Calls Try.prog 24 #[.slice a n cap] w (UnfErr w 4) := by
  have hz32 : z < 4294967296 := by
    have := val_lt (l.take 4) (fun c hc => hl.1 c (List.mem_of_mem_take hc))
    rw [List.length_take, Nat.min_eq_left (by omega), hz] at this
    simpa using this
  have hs32 : s < 4294967296 := by
    have := val_lt ((l.drop 4).take 4) (fun c hc => hl.1 c (List.mem_of_mem_drop (List.mem_of_mem_take hc)))
    rw [List.length_take, Nat.min_eq_left (by simp; omega), hs] at this
    simpa using this
  have HZ := Lib.hid hz; clear hz
  have HS := Lib.hid hs; clear hs
  have hmf : ∀ (fn : Fn) (first cap : Array Value) (w : World), (Instr.makeFunc fn first cap).run Try.prog w = .ok (.func fn first cap) w := fun _ _ _ _ => rfl
  have HL := Lib.hid hl; clear hl
  have HN := Lib.hid hn; clear hn
  have HNIL := Lib.hid hnil; clear hnil
  have hg0 : (Whole ((w.alloc (.cells #[.int .u32 0] 39)).alloc (.cells #[.int .u32 0] 39)) w.heap.size 39 #[.int .u32 0]) := (Whole.made w _ _).alloc _
  have hg1 : (Whole ((w.alloc (.cells #[.int .u32 0] 39)).alloc (.cells #[.int .u32 0] 39)) (w.heap.size + 1) 39 #[.int .u32 0]) := Whole.made' _ _ (by simp)
  have hf0 : Frm [] w ((w.alloc (.cells #[.int .u32 0] 39)).alloc (.cells #[.int .u32 0] 39)) := ((Frm.refl _ _).alloc _).alloc _
  have HG0 := Lib.hid hg0; clear hg0
  have HG1 := Lib.hid hg1; clear hg1
  have HF0 := Lib.hid hf0; clear hf0
  have hmin : ∀ (w : World), (Builtin.min_ #[3, 3] 3 #[.int .i64 (n : Int), .int .i64 8]).run Try.prog w = .ok (.int .i64 8) w := by
    intro w
    by_cases h9 : n = 8
    · subst h9; kernel_rfl
    · simp [go_sem]; omega
  go_enter Try.func24, Try.ntmps24
  go_wp2_with fail
  refine (read_ret 46 _ _ _ _ (l.take 8) _ (Head _ w.heap.size (w.heap.size + 1) (l.take 8)) ((HF0.out.bytes HL.out (by simp)).take 8) (by simp; have := HN.out; omega) HNIL.out (by omega) enters_unframe (fun w1 rb cb db h => head_ret w.heap.size (w.heap.size + 1) _ _ _ w1 rb cb db (l.take 8) h HG0.out HG1.out (by omega) (by simp; have := HN.out; omega))).mono ?_
  rintro e w3 ⟨w2, c, T, rfl, ⟨rest, ⟨hrest, hf2, hz2, hs2⟩, hc⟩, hf3, hT⟩
  have hr0 : rest = [] := by rw [hrest]; simp
  obtain rfl : c = 0 := by rw [hc, if_pos hr0]
  have hsz2 : ((w.alloc (.cells #[.int .u32 0] 39)).alloc (.cells #[.int .u32 0] 39)).heap.size = w.heap.size + 2 := by simp
  have hz3 := hf3.whole hz2 (fun hm => by have := hT _ hm; omega)
  have hs3 := hf3.whole hs2 (fun hm => by have := hT _ hm; omega)
  have e1 : (l.take 8).take 4 = l.take 4 := by rw [List.take_take]; rfl
  have e2 : ((l.take 8).drop 4).take 4 = (l.drop 4).take 4 := by rw [List.drop_take, List.take_take]; rfl
  rw [e1, HZ.out] at hz3
  rw [e2, HS.out] at hs3
  have HF := Lib.hid ((HF0.out.fresh (F := [w.heap.size, w.heap.size + 1]) (by simp) hf2).fresh (F := T) (fun x hx => by have := hT x hx; omega) hf3)
  have z0 := hz3.cell 0
  have s0 := hs3.cell 0
  simp at z0 s0
  clear hf2 hf3 hT hz2 hs2 hz3 hs3 e1 e2 hrest hr0 hc hsz2 HG0 HG1
  go_wp2
  go_ret3
  exact ⟨rfl, HF.out⟩

set_option maxHeartbeats 1000000 in
theorem unframe_sum (a : Option Addr) (n cap : Nat) (l : List Nat) (w : World) (hl : Bytes w a l) (hn : n = l.length) (hnc : n ≤ cap) (hnil : a = none → cap = 0) (hcap : n ≤ 140737488355328) (_hcm : cap ≤ 9223372036854775807) (z s : Nat) (hz : val (l.take 4) = z) (hs : val ((l.drop 4).take 4) = s) (h8 : 8 ≤ n) (hz4 : z ≤ 4096) (hzn : 8 + z ≤ n) (m : Nat) (hm : sumN ((l.drop 8).take z) = m) (hne : m ≠ s) :
    Calls Try.prog 24 #[.slice a n cap] w (UnfErr w 7) := by
  have HSUM := Lib.hid hm; clear hm
  have hz32 : z < 4294967296 := by
    have := val_lt (l.take 4) (fun c hc => hl.1 c (List.mem_of_mem_take hc))
    rw [List.length_take, Nat.min_eq_left (by omega), hz] at this
    simpa using this
  have hs32 : s < 4294967296 := by
    have := val_lt ((l.drop 4).take 4) (fun c hc => hl.1 c (List.mem_of_mem_drop (List.mem_of_mem_take hc)))
    rw [List.length_take, Nat.min_eq_left (by simp; omega), hs] at this
    simpa using this
  have HZ := Lib.hid hz; clear hz
  have HS := Lib.hid hs; clear hs
  have hmf : ∀ (fn : Fn) (first cap : Array Value) (w : World), (Instr.makeFunc fn first cap).run Try.prog w = .ok (.func fn first cap) w := fun _ _ _ _ => rfl
  have HL := Lib.hid hl; clear hl
  have HN := Lib.hid hn; clear hn
  have HNIL := Lib.hid hnil; clear hnil
  have hg0 : (Whole ((w.alloc (.cells #[.int .u32 0] 39)).alloc (.cells #[.int .u32 0] 39)) w.heap.size 39 #[.int .u32 0]) := (Whole.made w _ _).alloc _
  have hg1 : (Whole ((w.alloc (.cells #[.int .u32 0] 39)).alloc (.cells #[.int .u32 0] 39)) (w.heap.size + 1) 39 #[.int .u32 0]) := Whole.made' _ _ (by simp)
  have hf0 : Frm [] w ((w.alloc (.cells #[.int .u32 0] 39)).alloc (.cells #[.int .u32 0] 39)) := ((Frm.refl _ _).alloc _).alloc _
  have HG0 := Lib.hid hg0; clear hg0
  have HG1 := Lib.hid hg1; clear hg1
  have HF0 := Lib.hid hf0; clear hf0
  have hmin : ∀ (w : World), (Builtin.min_ #[3, 3] 3 #[.int .i64 (n : Int), .int .i64 8]).run Try.prog w = .ok (.int .i64 8) w := by
    intro w
    by_cases h9 : n = 8
    · subst h9; kernel_rfl
    · simp [go_sem]; omega
  have hcut2 : ∀ w, (Instr.slice 26 (.slice a n cap) (some (.int .i64 8)) (some (.int .i64 (8 + (z : Int)))) none).run Try.prog w = .ok (.slice (cutAt a cap 8) z (cap - 8)) w := fun w => by
    have := run_cut_lh (P := Try.prog) Try.underlying26 size_byte w a n cap 8 (8 + z) 8 (8 + (z : Int)) (by omega) (by omega) (by omega) (by omega)
    rwa [show 8 + z - 8 = z by omega] at this
  have HC1 := Lib.hid (fun (w' : World) (hB : Bytes w' a l) => ((cut_bytes hB (by have := HN.out; omega) 8 : Bytes w' (cutAt a cap 8) (l.drop 8)).take z))
  have HCL : Hid (z = ((l.drop 8).take z).length) := by show z = _; simp; have := HN.out; omega
  have HCN := Lib.hid (fun (h : cutAt a cap 8 = none) => cut_none HNIL.out h)
  obtain ⟨a1, ha1⟩ : ∃ a1, a1 = cutAt a cap 8 := ⟨_, rfl⟩
  obtain ⟨c1, hc1⟩ : ∃ c1, c1 = cap - 8 := ⟨_, rfl⟩
  rw [← ha1, ← hc1] at hcut2
  rw [← ha1] at HC1 HCN
  rw [← hc1] at HCN
  clear ha1 hc1
  have hnb : ((m : Int) == (s : Int)) = false := by simp; omega
  have hnb2 : ((m : Int) != (s : Int)) = true := by simp; omega
  clear hne
  go_enter Try.func24, Try.ntmps24
  go_wp2_with fail
  refine (read_ret 46 _ _ _ _ (l.take 8) _ (Head _ w.heap.size (w.heap.size + 1) (l.take 8)) ((HF0.out.bytes HL.out (by simp)).take 8) (by simp; have := HN.out; omega) HNIL.out (by omega) enters_unframe (fun w1 rb cb db h => head_ret w.heap.size (w.heap.size + 1) _ _ _ w1 rb cb db (l.take 8) h HG0.out HG1.out (by omega) (by simp; have := HN.out; omega))).mono ?_
  rintro e w3 ⟨w2, c, T, rfl, ⟨rest, ⟨hrest, hf2, hz2, hs2⟩, hc⟩, hf3, hT⟩
  have hr0 : rest = [] := by rw [hrest]; simp
  obtain rfl : c = 0 := by rw [hc, if_pos hr0]
  have hsz2 : ((w.alloc (.cells #[.int .u32 0] 39)).alloc (.cells #[.int .u32 0] 39)).heap.size = w.heap.size + 2 := by simp
  have hz3 := hf3.whole hz2 (fun hm => by have := hT _ hm; omega)
  have hs3 := hf3.whole hs2 (fun hm => by have := hT _ hm; omega)
  have e1 : (l.take 8).take 4 = l.take 4 := by rw [List.take_take]; rfl
  have e2 : ((l.take 8).drop 4).take 4 = (l.drop 4).take 4 := by rw [List.drop_take, List.take_take]; rfl
  rw [e1, HZ.out] at hz3
  rw [e2, HS.out] at hs3
  have HF := Lib.hid ((HF0.out.fresh (F := [w.heap.size, w.heap.size + 1]) (by simp) hf2).fresh (F := T) (fun x hx => by have := hT x hx; omega) hf3)
  have z0 := hz3.cell 0
  have s0 := hs3.cell 0
  simp at z0 s0
  clear hf2 hf3 hT hz2 hs2 hz3 hs3 e1 e2 hrest hr0 hc hsz2 HG0 HG1
  go_wp2
  have HBW := Lib.hid (HF.out.bytes HL.out (by simp))
  go_quiet ((go_at_call 43; exact flip_quiet (sum_eq _ _ _ ((l.drop 8).take z) _ m HSUM.out (by exact HC1.out _ HBW.out) HCL.out)))
  go_wp2
  go_ret3
  exact ⟨rfl, HF.out.drewN _⟩

set_option maxHeartbeats 2000000 in
theorem unframe_ok (a : Option Addr) (n cap : Nat) (l : List Nat) (w : World) (hl : Bytes w a l) (hn : n = l.length) (hnc : n ≤ cap) (hnil : a = none → cap = 0) (hcap : n ≤ 140737488355328) (_hcm : cap ≤ 9223372036854775807) (z s : Nat) (hz : val (l.take 4) = z) (hs : val ((l.drop 4).take 4) = s) (h8 : 8 ≤ n) (hz4 : z ≤ 4096) (hzn : 8 + z ≤ n) (hm : sumN ((l.drop 8).take z) = s) :
    Calls Try.prog 24 #[.slice a n cap] w (UnfOk w l z) := by
  have HSUM := Lib.hid hm; clear hm
  have H8 := Lib.hid hl.1
  have hz32 : z < 4294967296 := by
    have := val_lt (l.take 4) (fun c hc => hl.1 c (List.mem_of_mem_take hc))
    rw [List.length_take, Nat.min_eq_left (by omega), hz] at this
    simpa using this
  have hs32 : s < 4294967296 := by
    have := val_lt ((l.drop 4).take 4) (fun c hc => hl.1 c (List.mem_of_mem_drop (List.mem_of_mem_take hc)))
    rw [List.length_take, Nat.min_eq_left (by simp; omega), hs] at this
    simpa using this
  have HZ := Lib.hid hz; clear hz
  have HS := Lib.hid hs; clear hs
  have hmf : ∀ (fn : Fn) (first cap : Array Value) (w : World), (Instr.makeFunc fn first cap).run Try.prog w = .ok (.func fn first cap) w := fun _ _ _ _ => rfl
  have HL := Lib.hid hl; clear hl
  have HN := Lib.hid hn; clear hn
  have HNIL := Lib.hid hnil; clear hnil
  have hg0 : (Whole ((w.alloc (.cells #[.int .u32 0] 39)).alloc (.cells #[.int .u32 0] 39)) w.heap.size 39 #[.int .u32 0]) := (Whole.made w _ _).alloc _
  have hg1 : (Whole ((w.alloc (.cells #[.int .u32 0] 39)).alloc (.cells #[.int .u32 0] 39)) (w.heap.size + 1) 39 #[.int .u32 0]) := Whole.made' _ _ (by simp)
  have hf0 : Frm [] w ((w.alloc (.cells #[.int .u32 0] 39)).alloc (.cells #[.int .u32 0] 39)) := ((Frm.refl _ _).alloc _).alloc _
  have HG0 := Lib.hid hg0; clear hg0
  have HG1 := Lib.hid hg1; clear hg1
  have HF0 := Lib.hid hf0; clear hf0
  have hmin : ∀ (w : World), (Builtin.min_ #[3, 3] 3 #[.int .i64 (n : Int), .int .i64 8]).run Try.prog w = .ok (.int .i64 8) w := by
    intro w
    by_cases h9 : n = 8
    · subst h9; kernel_rfl
    · simp [go_sem]; omega
  have hcut2 : ∀ w, (Instr.slice 26 (.slice a n cap) (some (.int .i64 8)) (some (.int .i64 (8 + (z : Int)))) none).run Try.prog w = .ok (.slice (cutAt a cap 8) z (cap - 8)) w := fun w => by
    have := run_cut_lh (P := Try.prog) Try.underlying26 size_byte w a n cap 8 (8 + z) 8 (8 + (z : Int)) (by omega) (by omega) (by omega) (by omega)
    rwa [show 8 + z - 8 = z by omega] at this
  have HC1 := Lib.hid (fun (w' : World) (hB : Bytes w' a l) => ((cut_bytes hB (by have := HN.out; omega) 8 : Bytes w' (cutAt a cap 8) (l.drop 8)).take z))
  have HCL : Hid (z = ((l.drop 8).take z).length) := by show z = _; simp; have := HN.out; omega
  have HCN := Lib.hid (fun (h : cutAt a cap 8 = none) => cut_none HNIL.out h)
  obtain ⟨a1, ha1⟩ : ∃ a1, a1 = cutAt a cap 8 := ⟨_, rfl⟩
  obtain ⟨c1, hc1⟩ : ∃ c1, c1 = cap - 8 := ⟨_, rfl⟩
  rw [← ha1, ← hc1] at hcut2
  rw [← ha1] at HC1 HCN
  rw [← hc1] at HCN
  clear ha1 hc1
  have hcut3 : ∀ w, (Instr.slice 26 (.slice a n cap) (some (.int .i64 (8 + (z : Int)))) none none).run Try.prog w = .ok (.slice (cutAt a cap (8 + z)) (n - (8 + z)) (cap - (8 + z))) w := fun w =>
    run_cut_l (P := Try.prog) Try.underlying26 size_byte w a n cap (8 + z) (8 + (z : Int)) (by omega) (by omega)
  have HD1 := Lib.hid (fun (w' : World) (hB : Bytes w' a l) => (cut_bytes hB (by have := HN.out; omega) (8 + z) : Bytes w' (cutAt a cap (8 + z)) (l.drop (8 + z))))
  obtain ⟨m, hm⟩ : ∃ m, m = n - (8 + z) := ⟨_, rfl⟩
  have HDL : Hid (m = (l.drop (8 + z)).length) := by show m = _; simp; have := HN.out; omega
  have HDN := Lib.hid (fun (h : cutAt a cap (8 + z) = none) => cut_none HNIL.out h)
  obtain ⟨a2, ha2⟩ : ∃ a2, a2 = cutAt a cap (8 + z) := ⟨_, rfl⟩
  obtain ⟨c2, hc2⟩ : ∃ c2, c2 = cap - (8 + z) := ⟨_, rfl⟩
  rw [← ha2, ← hm, ← hc2] at hcut3
  rw [← ha2] at HD1 HDN
  rw [← hc2] at HDN
  have hmfit : m ≤ 140737488355328 := by omega
  have HM := Lib.hid hm; clear hm
  clear ha2 hc2
  have hnb : ((s : Int) != (s : Int)) = false := by simp
  go_enter Try.func24, Try.ntmps24
  go_wp2_with fail
  refine (read_ret 46 _ _ _ _ (l.take 8) _ (Head _ w.heap.size (w.heap.size + 1) (l.take 8)) ((HF0.out.bytes HL.out (by simp)).take 8) (by simp; have := HN.out; omega) HNIL.out (by omega) enters_unframe (fun w1 rb cb db h => head_ret w.heap.size (w.heap.size + 1) _ _ _ w1 rb cb db (l.take 8) h HG0.out HG1.out (by omega) (by simp; have := HN.out; omega))).mono ?_
  rintro e w3 ⟨w2, c, T, rfl, ⟨rest, ⟨hrest, hf2, hz2, hs2⟩, hc⟩, hf3, hT⟩
  have hr0 : rest = [] := by rw [hrest]; simp
  obtain rfl : c = 0 := by rw [hc, if_pos hr0]
  have hsz2 : ((w.alloc (.cells #[.int .u32 0] 39)).alloc (.cells #[.int .u32 0] 39)).heap.size = w.heap.size + 2 := by simp
  have hz3 := hf3.whole hz2 (fun hm => by have := hT _ hm; omega)
  have hs3 := hf3.whole hs2 (fun hm => by have := hT _ hm; omega)
  have e1 : (l.take 8).take 4 = l.take 4 := by rw [List.take_take]; rfl
  have e2 : ((l.take 8).drop 4).take 4 = (l.drop 4).take 4 := by rw [List.drop_take, List.take_take]; rfl
  rw [e1, HZ.out] at hz3
  rw [e2, HS.out] at hs3
  have HF := Lib.hid ((HF0.out.fresh (F := [w.heap.size, w.heap.size + 1]) (by simp) hf2).fresh (F := T) (fun x hx => by have := hT x hx; omega) hf3)
  have z0 := hz3.cell 0
  have s0 := hs3.cell 0
  simp at z0 s0
  clear hf2 hf3 hT hz2 hs2 hz3 hs3 e1 e2 hrest hr0 hc hsz2 HG0 HG1
  go_wp2
  have HBW := Lib.hid (HF.out.bytes HL.out (by simp))
  go_quiet ((go_at_call 43; exact flip_quiet (sum_eq _ _ _ ((l.drop 8).take z) _ s HSUM.out (by exact HC1.out _ HBW.out) HCL.out)))
  have HFQ := Lib.hid (HF.out.drewN nq)
  go_wp2
  go_region_held3 (fun w' => Frm [] w w') (first | assumption | exact HFQ.out | exact HFQ.out.drew | exact HF.out.drewN _ | exact (HF.out.drewN _).drew) (first | (go_at_call_of 36 (Value.slice a1 z c1); refine (clone_any a1 z c1 ((l.drop 8).take z) _ (HC1.out _ (Frm.bytes (S := []) (by assumption) HL.out (by simp))) HCL.out HCN.out (by omega)).mono ?_; rintro e wx ⟨ax, capx, rfl, hox, hfx⟩; have hSx : Frm [] w wx := Frm.trans (by assumption) hfx (by simp) (by simp)) | (go_at_call_of 36 (Value.slice a2 m c2); refine (clone_any a2 m c2 (l.drop (8 + z)) _ (HD1.out _ (Frm.bytes (S := []) (by assumption) HL.out (by simp))) HDL.out HDN.out hmfit).mono ?_; rintro e wy ⟨ay, capy, rfl, hoy, hfy⟩; have hSy : Frm [] w wy := Frm.trans (by assumption) hfy (by simp) (by simp)))
  all_goals
    have e1 : min z (l.length - 8) = z := by have := HN.out; omega
    have h8a : ∀ c ∈ (l.drop 8).take z, c < 256 := fun c hc => H8.out c (List.mem_of_mem_drop (List.mem_of_mem_take hc))
    have h8b : ∀ c ∈ l.drop (8 + z), c < 256 := fun c hc => H8.out c (List.mem_of_mem_drop hc)
    have hkx := own_cl hox h8a
    have hky := own_cl hoy h8b
    have HKX := Lib.hid hkx
    have HKY := Lib.hid hky
    have HSX := Lib.hid hSx
    have HSY := Lib.hid hSy
    have HFX := Lib.hid hfx
    have HFY := Lib.hid hfy
    rw [e1]
    clear hox hoy hkx hky hSx hSy hfx hfy h8a h8b e1
    go_wp2
    go_ret3
    first
      | exact ⟨ax, capx, ay, capy, rfl, HKX.out.keep HFY.out, HKY.out, HSY.out⟩
      | exact ⟨ax, capx, ay, capy, rfl, HKX.out, HKY.out.keep HFX.out, HSX.out⟩

end Go.Proofs.Ytpamiglinmfgkaa
