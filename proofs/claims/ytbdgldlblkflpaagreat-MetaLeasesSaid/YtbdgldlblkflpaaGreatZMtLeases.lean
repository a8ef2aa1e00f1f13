/- MetaLeases: the walk. -/
import Derived.Test.YtbdgldlblkflpaaGreatZMtKv
import Derived.Deep.LoopGhost
import Derived.IntWalk
namespace Go.Proofs.YtbdgldlblkflpaaGreat
open Go.RowKit
set_option maxRecDepth 100000
/-- The keys of the law. -/
def kMine : ByteArray := ⟨#[109, 105, 110, 101]⟩
def kOurs : ByteArray := ⟨#[111, 117, 114, 115]⟩
def lsS (now e l : Nat) : MS := ⟨now, [⟨kMine, [], 1, 1⟩, ⟨kOurs, [], 1, 0⟩], 1, [⟨1, e, l⟩]⟩
def lsG (now : Nat) : MS := ⟨now, [⟨kOurs, [], 1, 0⟩], 1, []⟩

theorem lsS_live {now e l : Nat} (h : now < e) : liveS (lsS now e l).ses 1 now = true := by
  show liveS [⟨1, e, l⟩] 1 now = true
  unfold liveS
  rw [show atS [⟨1, e, l⟩] 1 = 0 from rfl]
  simpa using h
/-- Opened, put, put. -/
theorem ls_open {l : Nat} (h1 : 1 ≤ l) (h2 : l ≤ 256) : doE {} { kind := 3, ticks := l } = 0 ∧ doN {} { kind := 3, ticks := l } = 1 ∧ doS {} { kind := 3, ticks := l } = ⟨0, [], 1, [⟨1, l, l⟩]⟩ := by
  have hc : openC 0 0 l = 0 := by unfold openC; rw [if_pos (by omega), if_neg (by omega)]
  refine ⟨hc, ?_, ?_⟩
  · show openR 0 0 l = 1
    unfold openR; rw [if_pos hc]
  · show (⟨0, [], openT 0 0 l, openS [] 0 0 l⟩ : MS) = _
    have hc' : openC 0 ([] : List Sn).length l = 0 := hc
    unfold openT openS
    rw [if_pos hc, if_pos hc']
    show (⟨0, [], 1, [⟨1, sumU 0 l, l⟩]⟩ : MS) = _
    unfold sumU
    rw [if_pos (by omega), Nat.zero_add]
theorem ls_mine {l : Nat} (h : 0 < l) : doE ⟨0, [], 1, [⟨1, l, l⟩]⟩ { kind := 1, key := kMine, ses := 1 } = 0 ∧ doN ⟨0, [], 1, [⟨1, l, l⟩]⟩ { kind := 1, key := kMine, ses := 1 } = 1 ∧ doS ⟨0, [], 1, [⟨1, l, l⟩]⟩ { kind := 1, key := kMine, ses := 1 } = ⟨0, [⟨kMine, [], 1, 1⟩], 1, [⟨1, l, l⟩]⟩ := by
  have hx : expS ⟨0, [], 1, [⟨1, l, l⟩]⟩ 1 = false := by
    unfold expS expB
    rw [show liveS [⟨1, l, l⟩] 1 0 = true from by unfold liveS; rw [show atS [⟨1, l, l⟩] 1 = 0 from rfl]; simpa using h]
    rfl
  unfold doE doN doS
  rw [if_pos rfl, if_pos rfl, if_pos rfl]
  simp only [hx]
  exact ⟨rfl, rfl, rfl⟩
theorem ls_ours {l : Nat} : doE ⟨0, [⟨kMine, [], 1, 1⟩], 1, [⟨1, l, l⟩]⟩ { kind := 1, key := kOurs } = 0 ∧ doN ⟨0, [⟨kMine, [], 1, 1⟩], 1, [⟨1, l, l⟩]⟩ { kind := 1, key := kOurs } = 1 ∧ doS ⟨0, [⟨kMine, [], 1, 1⟩], 1, [⟨1, l, l⟩]⟩ { kind := 1, key := kOurs } = lsS 0 l l := by
  have hx : expS ⟨0, [⟨kMine, [], 1, 1⟩], 1, [⟨1, l, l⟩]⟩ 0 = false := by
    unfold expS expB; rfl
  have h1 : putNC [⟨kMine, [], 1, 1⟩] kOurs [] 0 = 0 := by kernel_rfl
  have h2 : putNR [⟨kMine, [], 1, 1⟩] kOurs [] 0 = 1 := by kernel_rfl
  have h3 : isN [⟨kMine, [], 1, 1⟩] kOurs = false := by kernel_rfl
  have h4 : ixN [⟨kMine, [], 1, 1⟩] kOurs = 1 := by kernel_rfl
  have h5 : putNL [⟨kMine, [], 1, 1⟩] kOurs [] 0 0 = [⟨kMine, [], 1, 1⟩, ⟨kOurs, [], 1, 0⟩] := by
    unfold putNL
    rw [if_neg (by omega), h3, if_neg (by simp), h4]
    rfl
  unfold doE doN doS
  rw [if_pos rfl, if_pos rfl, if_pos rfl]
  simp only [hx]
  refine ⟨h1, h2, ?_⟩
  show (⟨0, putNL [⟨kMine, [], 1, 1⟩] kOurs [] 0 0, 1, [⟨1, l, l⟩]⟩ : MS) = _
  rw [h5]
  rfl
/-- A tick ahead of the end; the end. -/
theorem ls_tick {now l n : Nat} (hn : n < l) (hb : now + l ≤ 1000000) : doE (lsS now (now + l) l) { kind := 6, ticks := n } = 0 ∧ doN (lsS now (now + l) l) { kind := 6, ticks := n } = now + n ∧ doS (lsS now (now + l) l) { kind := 6, ticks := n } = lsS (now + n) (now + l) l := by
  have ht : tickT now n = now + n := by unfold tickT; omega
  have ho : overS (now + n) (⟨1, now + l, l⟩ : Sn) = false := decide_eq_false (by show ¬ now + l ≤ now + n; omega)
  refine ⟨rfl, ht, ?_⟩
  show (⟨tickT now n, dropAll (goneS (tickT now n) [⟨1, now + l, l⟩]) [⟨kMine, [], 1, 1⟩, ⟨kOurs, [], 1, 0⟩], 1, leftS (tickT now n) [⟨1, now + l, l⟩]⟩ : MS) = _
  rw [ht]
  unfold goneS leftS
  rw [List.filter_cons, List.filter_cons, ho]
  rfl
theorem ls_end {now l : Nat} (hb : now + l ≤ 1000000) : doE (lsS now (now + l) l) { kind := 6, ticks := l } = 0 ∧ doN (lsS now (now + l) l) { kind := 6, ticks := l } = now + l ∧ doS (lsS now (now + l) l) { kind := 6, ticks := l } = lsG (now + l) := by
  have ht : tickT now l = now + l := by unfold tickT; omega
  have ho : overS (now + l) (⟨1, now + l, l⟩ : Sn) = true := decide_eq_true (by show now + l ≤ now + l; omega)
  refine ⟨rfl, ht, ?_⟩
  show (⟨tickT now l, dropAll (goneS (tickT now l) [⟨1, now + l, l⟩]) [⟨kMine, [], 1, 1⟩, ⟨kOurs, [], 1, 0⟩], 1, leftS (tickT now l) [⟨1, now + l, l⟩]⟩ : MS) = _
  rw [ht]
  unfold goneS leftS
  rw [List.filter_cons, List.filter_cons, ho]
  rfl
theorem ls_close {now l : Nat} : doE (lsS now (now + l) l) { kind := 5, ses := 1 } = 0 ∧ doN (lsS now (now + l) l) { kind := 5, ses := 1 } = 0 ∧ doS (lsS now (now + l) l) { kind := 5, ses := 1 } = lsG now := ⟨rfl, rfl, rfl⟩
/-- Renewed in time. -/
theorem ls_renew {now e l : Nat} (h : now < e) (he : e ≤ now + l) (hb : now + l ≤ 1000000) : doE (lsS now e l) { kind := 4, ses := 1 } = 0 ∧ doN (lsS now e l) { kind := 4, ses := 1 } = 0 ∧ doS (lsS now e l) { kind := 4, ses := 1 } = lsS now (now + l) l := by
  have hx : expS (lsS now e l) 1 = false := by
    unfold expS expB
    rw [show liveS (lsS now e l).ses 1 (lsS now e l).now = true from lsS_live h]
    rfl
  have hc : renewC [⟨1, e, l⟩] 1 now = 0 := by
    unfold renewC
    rw [show atS [⟨1, e, l⟩] 1 = 0 from rfl, if_pos (by simp)]
    exact if_neg (by show ¬ e ≤ now; omega)
  have hl : renewL [⟨1, e, l⟩] 1 now = [⟨1, now + l, l⟩] := by
    unfold renewL
    rw [if_pos hc]
    unfold renewS
    rw [show atS [⟨1, e, l⟩] 1 = 0 from rfl]
    show [(⟨1, max e (sumU now l), l⟩ : Sn)] = [⟨1, now + l, l⟩]
    unfold sumU
    rw [if_pos (by omega), Nat.max_eq_right he]
  refine ⟨?_, rfl, ?_⟩
  · unfold doE
    rw [if_neg (by decide), if_neg (by decide), if_neg (by decide), if_pos rfl, if_neg (by rw [hx]; simp)]
    exact hc
  · unfold doS
    rw [if_neg (by decide), if_neg (by decide), if_neg (by decide), if_pos rfl, if_neg (by rw [hx]; simp)]
    show (⟨now, _, 1, renewL [⟨1, e, l⟩] 1 now⟩ : MS) = _
    rw [hl]
    rfl
theorem ls_gone {now : Nat} : doE (lsG now) { kind := 1, key := kMine, ses := 1 } = 15 := rfl
theorem lsS_ver {now e l : Nat} : ∀ d ∈ (lsS now e l).nodes, d.ver ≠ 0 := by intro d hd; simp [lsS] at hd; rcases hd with rfl | rfl <;> decide
theorem lsG_ver {now : Nat} : ∀ d ∈ (lsG now).nodes, d.ver ≠ 0 := by intro d hd; simp [lsG] at hd; subst hd; decide

/-- So many waits are over. -/
def LvRel (w : World) (k l n : Nat) (s74 : Value) (wr : World) : Prop :=
  ∃ (j now : Nat) (lb : List Nat), j ≤ n ∧ j ≤ 31 ∧ now ≤ 256 * j ∧ s74 = .int .i64 (j : Nat) ∧ lb.length ≤ 1000 + 1000 * j ∧ Hid (Kv w wr k (lsS now (now + l) l) lb 1048576)

set_option maxHeartbeats 16000000 in
theorem metaLeases_walk (life : Nat) (a0 : Option Addr) (n cap : Nat) (ws : List Nat) (closes : Bool) (w : World) (hl : life < 256) (hn : n = ws.length) (hb : Bytes w a0 ws) (_hc : n ≤ cap) (_hnil : a0 = none → cap = 0) :
    Calls Tryz.prog 6 #[.int .u8 (life : Nat), .slice a0 n cap, .bool closes] w fun e w' => e = .returned (.bool true) ∧ Below w.heap.size w w' := by
  have HAW := Lib.hid (awake8_any w)
  have HN := Lib.hid hn
  have H := Lib.hid hb
  have hn63 : n ≤ 9223372036854775807 := by rw [hn]; exact hb.2.1
  obtain ⟨l, hll⟩ : ∃ l, l = 1 + life := ⟨_, rfl⟩
  have ea : IntKind.u64.wrap (life : Int) = (life : Int) := by simp [IntKind.wrap, IntKind.bits, IntKind.signed]; omega
  have ea2 : (life : Int) % 18446744073709551616 = (life : Int) := by omega
  have fa2 : (1 + (life : Int)) % 18446744073709551616 = (l : Int) := by omega
  have fa : IntKind.u64.wrap (1 + (life : Int)) = (l : Int) := by rw [← fa2]; simp [IntKind.wrap, IntKind.bits, IntKind.signed]
  have hl1 : 1 ≤ l := by omega
  have hl2 : l ≤ 256 := by omega
  have HDN := Lib.hid (fun w1 => new_ok 1048576 w1 (by omega))
  rw [show ((1048576 : Nat) : Int) = 1048576 from rfl] at HDN
  clear hll hn hb
  go_enter Tryz.func6, Tryz.ntmps6
  go_wp2_with fail
  (with_reducible refine HAW.out.mono ?_)
  rintro e w1 ⟨rfl, hb1⟩
  have HF1 := Lib.hid (Frm.ofBelow hb1); clear hb1 HAW
  go_wp2_with fail
  (with_reducible refine (HDN.out _).mono ?_)
  rintro e w2 ⟨rfl, hd2, hf2, hz2⟩
  obtain ⟨dp, hdp⟩ : ∃ dp, dp = w1.heap.size := ⟨_, rfl⟩
  rw [← hdp] at hd2 ⊢
  have HO := Lib.hid (kv_open w w2 dp 1048576 hd2 (HF1.out.trans hf2 (U := []) (by simp) (by simp)) (by rw [hdp]; exact HF1.out.size))
  clear hd2 hf2 hz2 hdp HF1 HDN
  go_wp2_with fail
  (with_reducible refine HO.out.mono ?_)
  rintro e w3 ⟨k, rfl, hk3⟩
  have O1 := kv_do { kind := 3, ticks := l } none 0 hk3 (by simp) (aw_ok 3 ⟨#[]⟩ 0 0 l (by omega) (by decide) (by omega) (by omega) (by omega)) (Bytes.nil _) (fun _ => rfl) (ls_open hl1 hl2).1 (ls_open hl1 hl2).2.1 (ls_open hl1 hl2).2.2 (by show (3 : Nat) ≠ 7; decide) (by show (⟨#[]⟩ : ByteArray).size + 0 ≤ 4000; decide) (by simp)
  rw [show cmdV { kind := 3, ticks := l } none 0 = .agg #[.int .u8 3, .string ⟨#[]⟩, .slice none 0 0, .int .u64 0, .int .u64 0, .int .u64 (l : Nat)] from rfl, show ((1 : Nat) : Int) = 1 from rfl] at O1
  have HO1 := Lib.hid O1
  clear hk3 O1 HO
  go_wp2_with fail
  (with_reducible refine HO1.out.mono ?_)
  rintro e w4 ⟨_, _, _, l4, rfl, hk4, hl4⟩
  have hl4 : l4.length ≤ 41 := hl4
  have O2 := kv_do { kind := 1, key := kMine, ses := 1 } none 0 hk4 (by simp) (aw_ok 1 kMine 0 1 0 (by omega) (by decide) (by omega) (by omega) (by omega)) (Bytes.nil _) (fun _ => rfl) (ls_mine (by omega)).1 (ls_mine (by omega)).2.1 (ls_mine (by omega)).2.2 (by decide) (by decide) (by omega)
  rw [show cmdV { kind := 1, key := kMine, ses := 1 } none 0 = .agg #[.int .u8 1, .string ⟨#[109, 105, 110, 101]⟩, .slice none 0 0, .int .u64 0, .int .u64 1, .int .u64 0] from rfl, show ((1 : Nat) : Int) = 1 from rfl] at O2
  have HO2 := Lib.hid O2
  have HL4 : Hid (l4.length ≤ 41) := Lib.hid hl4
  clear hk4 O2 HO1 hl4
  go_wp2_with fail
  (with_reducible refine HO2.out.mono ?_)
  rintro e w5 ⟨_, _, _, l5, rfl, hk5, hl5⟩
  have hl5' : l5.length ≤ 100 := by have := HL4.out; have h6 : l5.length ≤ l4.length + 41 + (4 + 0) := hl5; omega
  have O3 := kv_do { kind := 1, key := kOurs } none 0 hk5 (by simp) (aw_ok 1 kOurs 0 0 0 (by omega) (by decide) (by omega) (by omega) (by omega)) (Bytes.nil _) (fun _ => rfl) ls_ours.1 ls_ours.2.1 ls_ours.2.2 (by decide) (by decide) (by omega)
  rw [show cmdV { kind := 1, key := kOurs } none 0 = .agg #[.int .u8 1, .string ⟨#[111, 117, 114, 115]⟩, .slice none 0 0, .int .u64 0, .int .u64 0, .int .u64 0] from rfl, show ((1 : Nat) : Int) = 1 from rfl] at O3
  have HO3 := Lib.hid O3
  have HL5 := Lib.hid hl5'
  clear hk5 O3 HO2 hl5 hl5' HL4
  go_wp2_with fail
  (with_reducible refine HO3.out.mono ?_)
  rintro e w6 ⟨_, _, _, l6, rfl, hk6, hl6⟩
  have HR0 : Hid (LvRel w k l n (.int .i64 (0 : Nat)) w6) := Lib.hid ⟨0, 0, l6, Nat.zero_le _, by omega, by omega, rfl, by have := HL5.out; have h6 : l6.length ≤ l5.length + 41 + (4 + 0) := hl6; omega, Lib.hid (by rw [Nat.zero_add]; exact hk6)⟩
  clear hk6 hl6 HO3 HL5 ea ea2 fa2 fa hl
  go_wp2
  go_loopw [74] (fun s74 wr => LvRel w k l n s74 wr) (fun s74 _ => n - (intOf s74).toNat)
  case atStart => exact HR0.out
  case round =>
    clear HR0
    obtain ⟨j, now, lb, hj, hj31, hnow, rfl, hlb, HK⟩ := hrel
    by_cases hlt : j < n
    · by_cases h30 : 30 < j
      · obtain ⟨jq, dq, Fq, _, hfw, _⟩ := HK.out
        obtain ⟨b, off, rfl, p0⟩ : ∃ b off, a0 = some ⟨b, off, none⟩ ∧ wr.cell? ⟨b, off + j, none⟩ = some (.int .u8 (ws.getD j 0 : Nat)) := by
          rcases (hfw.bytes H.out (by simp)).2.2 with h0 | ⟨b, off, rfl, hc⟩
          · have := HN.out; rw [h0] at this; simp at this; omega
          · exact ⟨b, off, rfl, hc j (by have := HN.out; omega)⟩
        clear hfw
        have hgt : decide ((30 : Int) < (j : Int)) = true := decide_eq_true (by omega)
        have G1 := Lib.hid (kv_get kMine true HK.out (by kernel_rfl))
        rw [show kMine = ⟨#[109, 105, 110, 101]⟩ from rfl] at G1
        go_wp2_with fail
        (with_reducible refine G1.out.mono ?_)
        rintro e w7 ⟨x1, y1, z1, a1, m1, c1, rfl, hk7⟩
        have hf7 := hk7.here ((Frm.refl [] w7).alloc (.cells #[.string x1, .slice a1 m1 c1, .int .u64 (y1 : Nat), .int .u64 (z1 : Nat)] 59))
        clear hk7 G1 HK
        cases closes
        · have te := ls_end (now := now) (l := l) (by omega)
          have T1 := kv_do { kind := 6, ticks := l } none 0 hf7 lsS_ver (aw_ok 6 ⟨#[]⟩ 0 0 l (by omega) (by decide) (by omega) (by omega) (by omega)) (Bytes.nil _) (fun _ => rfl) te.1 te.2.1 te.2.2 (by show (6 : Nat) ≠ 7; decide) (by show (⟨#[]⟩ : ByteArray).size + 0 ≤ 4000; decide) (by omega)
          rw [show cmdV { kind := 6, ticks := l } none 0 = .agg #[.int .u8 6, .string ⟨#[]⟩, .slice none 0 0, .int .u64 0, .int .u64 0, .int .u64 (l : Nat)] from rfl] at T1
          have HT1 := Lib.hid T1
          clear hf7 T1 te
          go_wp2_with fail
          (with_reducible refine HT1.out.mono ?_)
          rintro e w8 ⟨_, _, _, l8, rfl, hk8, _⟩
          clear HT1
          have G2 := Lib.hid (kv_get kMine false hk8 (by kernel_rfl))
          rw [show kMine = ⟨#[109, 105, 110, 101]⟩ from rfl] at G2
          go_wp2_with fail
          (with_reducible refine G2.out.mono ?_)
          rintro e w9 ⟨x2, y2, z2, a2, m2, c2, rfl, hk9⟩
          have hf9 := hk9.here ((Frm.refl [] w9).alloc (.cells #[.string x2, .slice a2 m2 c2, .int .u64 (y2 : Nat), .int .u64 (z2 : Nat)] 59))
          have G3 := Lib.hid (kv_get kOurs true hf9 (by kernel_rfl))
          rw [show kOurs = ⟨#[111, 117, 114, 115]⟩ from rfl] at G3
          clear hk8 hk9 G2 hf9
          go_wp2_with fail
          (with_reducible refine G3.out.mono ?_)
          rintro e w10 ⟨x3, y3, z3, a3, m3, c3, rfl, hk10⟩
          have hf10 := hk10.here ((Frm.refl [] w10).alloc (.cells #[.string x3, .slice a3 m3 c3, .int .u64 (y3 : Nat), .int .u64 (z3 : Nat)] 59))
          have B1 := kv_bad { kind := 1, key := kMine, ses := 1 } none 0 hf10 lsG_ver (aw_ok 1 kMine 0 1 0 (by omega) (by decide) (by omega) (by omega) (by omega)) (Bytes.nil _) (fun _ => rfl) ls_gone (by omega)
          rw [show cmdV { kind := 1, key := kMine, ses := 1 } none 0 = .agg #[.int .u8 1, .string ⟨#[109, 105, 110, 101]⟩, .slice none 0 0, .int .u64 0, .int .u64 1, .int .u64 0] from rfl, show ((15 : Nat) : Int) = 15 from rfl] at B1
          have HB1 := Lib.hid B1
          clear hk10 hf10 G3 B1
          go_wp2_with fail
          (with_reducible refine HB1.out.mono ?_)
          rintro e w11 ⟨_, _, rfl, hk11⟩
          have LV := Lib.hid (kv_live 1 false hk11 rfl)
          rw [show ((1 : Nat) : Int) = 1 from rfl] at LV
          clear hk11 HB1
          go_wp2_with fail
          (with_reducible refine LV.out.mono ?_)
          rintro e w12 ⟨rfl, jq2, dq2, Fq2, _, hfw2, _⟩
          clear LV
          go_wp2
          go_ret
          exact ⟨rfl, hfw2.below (by simp) (Nat.le_refl _)⟩
        · have tc := ls_close (now := now) (l := l)
          have T1 := kv_do { kind := 5, ses := 1 } none 0 hf7 lsS_ver (aw_ok 5 ⟨#[]⟩ 0 1 0 (by omega) (by decide) (by omega) (by omega) (by omega)) (Bytes.nil _) (fun _ => rfl) tc.1 tc.2.1 tc.2.2 (by show (5 : Nat) ≠ 7; decide) (by show (⟨#[]⟩ : ByteArray).size + 0 ≤ 4000; decide) (by omega)
          rw [show cmdV { kind := 5, ses := 1 } none 0 = .agg #[.int .u8 5, .string ⟨#[]⟩, .slice none 0 0, .int .u64 0, .int .u64 1, .int .u64 0] from rfl, show ((0 : Nat) : Int) = 0 from rfl] at T1
          have HT1 := Lib.hid T1
          clear hf7 T1 tc
          go_wp2_with fail
          (with_reducible refine HT1.out.mono ?_)
          rintro e w8 ⟨_, _, _, l8, rfl, hk8, _⟩
          clear HT1
          have G2 := Lib.hid (kv_get kMine false hk8 (by kernel_rfl))
          rw [show kMine = ⟨#[109, 105, 110, 101]⟩ from rfl] at G2
          go_wp2_with fail
          (with_reducible refine G2.out.mono ?_)
          rintro e w9 ⟨x2, y2, z2, a2, m2, c2, rfl, hk9⟩
          have hf9 := hk9.here ((Frm.refl [] w9).alloc (.cells #[.string x2, .slice a2 m2 c2, .int .u64 (y2 : Nat), .int .u64 (z2 : Nat)] 59))
          have G3 := Lib.hid (kv_get kOurs true hf9 (by kernel_rfl))
          rw [show kOurs = ⟨#[111, 117, 114, 115]⟩ from rfl] at G3
          clear hk8 hk9 G2 hf9
          go_wp2_with fail
          (with_reducible refine G3.out.mono ?_)
          rintro e w10 ⟨x3, y3, z3, a3, m3, c3, rfl, hk10⟩
          have hf10 := hk10.here ((Frm.refl [] w10).alloc (.cells #[.string x3, .slice a3 m3 c3, .int .u64 (y3 : Nat), .int .u64 (z3 : Nat)] 59))
          have B1 := kv_bad { kind := 1, key := kMine, ses := 1 } none 0 hf10 lsG_ver (aw_ok 1 kMine 0 1 0 (by omega) (by decide) (by omega) (by omega) (by omega)) (Bytes.nil _) (fun _ => rfl) ls_gone (by omega)
          rw [show cmdV { kind := 1, key := kMine, ses := 1 } none 0 = .agg #[.int .u8 1, .string ⟨#[109, 105, 110, 101]⟩, .slice none 0 0, .int .u64 0, .int .u64 1, .int .u64 0] from rfl, show ((15 : Nat) : Int) = 15 from rfl] at B1
          have HB1 := Lib.hid B1
          clear hk10 hf10 G3 B1
          go_wp2_with fail
          (with_reducible refine HB1.out.mono ?_)
          rintro e w11 ⟨_, _, rfl, hk11⟩
          have LV := Lib.hid (kv_live 1 false hk11 rfl)
          rw [show ((1 : Nat) : Int) = 1 from rfl] at LV
          clear hk11 HB1
          go_wp2_with fail
          (with_reducible refine LV.out.mono ?_)
          rintro e w12 ⟨rfl, jq2, dq2, Fq2, _, hfw2, _⟩
          clear LV
          go_wp2
          go_ret
          exact ⟨rfl, hfw2.below (by simp) (Nat.le_refl _)⟩
      · obtain ⟨jq, dq, Fq, _, hfw, _⟩ := HK.out
        obtain ⟨b, off, rfl, p0, hx8⟩ : ∃ b off, a0 = some ⟨b, off, none⟩ ∧ wr.cell? ⟨b, off + j, none⟩ = some (.int .u8 (ws.getD j 0 : Nat)) ∧ ws.getD j 0 < 256 := by
          have h8 := H.out.1
          rcases (hfw.bytes H.out (by simp)).2.2 with h0 | ⟨b, off, rfl, hc⟩
          · have := HN.out; rw [h0] at this; simp at this; omega
          · exact ⟨b, off, rfl, hc j (by have := HN.out; omega), h8 _ (by have := HN.out; simp [show j < ws.length by omega])⟩
        generalize ws.getD j 0 = x at p0 hx8
        obtain ⟨r, hr⟩ : ∃ r, r = x % l := ⟨_, rfl⟩
        have hrl : r < l := by rw [hr]; exact Nat.mod_lt _ (by omega)
        have g1 : IntKind.u64.wrap (x : Int) = (x : Int) := by simp [IntKind.wrap, IntKind.bits, IntKind.signed]; omega
        have g2 : (x : Int) % 18446744073709551616 = (x : Int) := by omega
        have g3 : (x : Int).tmod (l : Int) = (r : Int) := by rw [hr]; exact (Int.ofNat_tmod x l).symm
        have g4 : (x : Int) % (l : Int) = (r : Int) := by rw [hr]; omega
        have g5 : ((l : Int) == 0) = false := by rw [beq_eq_false_iff_ne]; omega
        have tk := ls_tick (now := now) (l := l) (n := r) hrl (by omega)
        have T1 := kv_do { kind := 6, ticks := r } none 0 HK.out lsS_ver (aw_ok 6 ⟨#[]⟩ 0 0 r (by omega) (by decide) (by omega) (by omega) (by omega)) (Bytes.nil _) (fun _ => rfl) tk.1 tk.2.1 tk.2.2 (by show (6 : Nat) ≠ 7; decide) (by show (⟨#[]⟩ : ByteArray).size + 0 ≤ 4000; decide) (by omega)
        rw [show cmdV { kind := 6, ticks := r } none 0 = .agg #[.int .u8 6, .string ⟨#[]⟩, .slice none 0 0, .int .u64 0, .int .u64 0, .int .u64 (r : Nat)] from rfl] at T1
        have HT1 := Lib.hid T1
        have HRL := Lib.hid hrl
        clear hfw T1 tk hr hrl
        go_wp2_with fail
        (with_reducible refine HT1.out.mono ?_)
        rintro e w7 ⟨_, _, _, l7, rfl, hk7, hl7⟩
        have hl7 : l7.length ≤ lb.length + 41 := hl7
        have rn := ls_renew (now := now + r) (e := now + l) (l := l) (by have := HRL.out; omega) (by omega) (by have := HRL.out; omega)
        have R1 := kv_do { kind := 4, ses := 1 } none 0 hk7 lsS_ver (aw_ok 4 ⟨#[]⟩ 0 1 0 (by omega) (by decide) (by omega) (by omega) (by omega)) (Bytes.nil _) (fun _ => rfl) rn.1 rn.2.1 rn.2.2 (by show (4 : Nat) ≠ 7; decide) (by show (⟨#[]⟩ : ByteArray).size + 0 ≤ 4000; decide) (by omega)
        rw [show cmdV { kind := 4, ses := 1 } none 0 = .agg #[.int .u8 4, .string ⟨#[]⟩, .slice none 0 0, .int .u64 0, .int .u64 1, .int .u64 0] from rfl, show ((0 : Nat) : Int) = 0 from rfl] at R1
        have HR1 := Lib.hid R1
        have HL7 := Lib.hid hl7
        clear hk7 R1 rn hl7 HT1 HK p0 g1 g2 g3 g4 g5
        go_wp2_with fail
        (with_reducible refine HR1.out.mono ?_)
        rintro e w8 ⟨_, _, _, l8, rfl, hk8, hl8⟩
        have hl8 : l8.length ≤ l7.length + 41 := hl8
        have HREL : Hid (LvRel w k l n (.int .i64 ((j + 1 : Nat) : Nat)) w8) := Lib.hid ⟨j + 1, now + r, l8, hlt, by omega, by have := HRL.out; omega, rfl, by have := HL7.out; omega, Lib.hid hk8⟩
        clear hk8 hl8 HR1 HL7
        go_wp2
        go_roundw
        case rel => exact HREL.out
        case measure => simp [intOf]; omega
    · have hge : decide ((j : Int) < (n : Int)) = false := decide_eq_false (by omega)
      have G1 := Lib.hid (kv_get kMine true HK.out (by kernel_rfl))
      rw [show kMine = ⟨#[109, 105, 110, 101]⟩ from rfl] at G1
      go_wp2_with fail
      (with_reducible refine G1.out.mono ?_)
      rintro e w7 ⟨x1, y1, z1, a1, m1, c1, rfl, hk7⟩
      have hf7 := hk7.here ((Frm.refl [] w7).alloc (.cells #[.string x1, .slice a1 m1 c1, .int .u64 (y1 : Nat), .int .u64 (z1 : Nat)] 59))
      clear hk7 G1 HK
      cases closes
      · have te := ls_end (now := now) (l := l) (by omega)
        have T1 := kv_do { kind := 6, ticks := l } none 0 hf7 lsS_ver (aw_ok 6 ⟨#[]⟩ 0 0 l (by omega) (by decide) (by omega) (by omega) (by omega)) (Bytes.nil _) (fun _ => rfl) te.1 te.2.1 te.2.2 (by show (6 : Nat) ≠ 7; decide) (by show (⟨#[]⟩ : ByteArray).size + 0 ≤ 4000; decide) (by omega)
        rw [show cmdV { kind := 6, ticks := l } none 0 = .agg #[.int .u8 6, .string ⟨#[]⟩, .slice none 0 0, .int .u64 0, .int .u64 0, .int .u64 (l : Nat)] from rfl] at T1
        have HT1 := Lib.hid T1
        clear hf7 T1 te
        go_wp2_with fail
        (with_reducible refine HT1.out.mono ?_)
        rintro e w8 ⟨_, _, _, l8, rfl, hk8, _⟩
        clear HT1
        have G2 := Lib.hid (kv_get kMine false hk8 (by kernel_rfl))
        rw [show kMine = ⟨#[109, 105, 110, 101]⟩ from rfl] at G2
        go_wp2_with fail
        (with_reducible refine G2.out.mono ?_)
        rintro e w9 ⟨x2, y2, z2, a2, m2, c2, rfl, hk9⟩
        have hf9 := hk9.here ((Frm.refl [] w9).alloc (.cells #[.string x2, .slice a2 m2 c2, .int .u64 (y2 : Nat), .int .u64 (z2 : Nat)] 59))
        have G3 := Lib.hid (kv_get kOurs true hf9 (by kernel_rfl))
        rw [show kOurs = ⟨#[111, 117, 114, 115]⟩ from rfl] at G3
        clear hk8 hk9 G2 hf9
        go_wp2_with fail
        (with_reducible refine G3.out.mono ?_)
        rintro e w10 ⟨x3, y3, z3, a3, m3, c3, rfl, hk10⟩
        have hf10 := hk10.here ((Frm.refl [] w10).alloc (.cells #[.string x3, .slice a3 m3 c3, .int .u64 (y3 : Nat), .int .u64 (z3 : Nat)] 59))
        have B1 := kv_bad { kind := 1, key := kMine, ses := 1 } none 0 hf10 lsG_ver (aw_ok 1 kMine 0 1 0 (by omega) (by decide) (by omega) (by omega) (by omega)) (Bytes.nil _) (fun _ => rfl) ls_gone (by omega)
        rw [show cmdV { kind := 1, key := kMine, ses := 1 } none 0 = .agg #[.int .u8 1, .string ⟨#[109, 105, 110, 101]⟩, .slice none 0 0, .int .u64 0, .int .u64 1, .int .u64 0] from rfl, show ((15 : Nat) : Int) = 15 from rfl] at B1
        have HB1 := Lib.hid B1
        clear hk10 hf10 G3 B1
        go_wp2_with fail
        (with_reducible refine HB1.out.mono ?_)
        rintro e w11 ⟨_, _, rfl, hk11⟩
        have LV := Lib.hid (kv_live 1 false hk11 rfl)
        rw [show ((1 : Nat) : Int) = 1 from rfl] at LV
        clear hk11 HB1
        go_wp2_with fail
        (with_reducible refine LV.out.mono ?_)
        rintro e w12 ⟨rfl, jq2, dq2, Fq2, _, hfw2, _⟩
        clear LV
        go_wp2
        go_ret
        exact ⟨rfl, hfw2.below (by simp) (Nat.le_refl _)⟩
      · have tc := ls_close (now := now) (l := l)
        have T1 := kv_do { kind := 5, ses := 1 } none 0 hf7 lsS_ver (aw_ok 5 ⟨#[]⟩ 0 1 0 (by omega) (by decide) (by omega) (by omega) (by omega)) (Bytes.nil _) (fun _ => rfl) tc.1 tc.2.1 tc.2.2 (by show (5 : Nat) ≠ 7; decide) (by show (⟨#[]⟩ : ByteArray).size + 0 ≤ 4000; decide) (by omega)
        rw [show cmdV { kind := 5, ses := 1 } none 0 = .agg #[.int .u8 5, .string ⟨#[]⟩, .slice none 0 0, .int .u64 0, .int .u64 1, .int .u64 0] from rfl, show ((0 : Nat) : Int) = 0 from rfl] at T1
        have HT1 := Lib.hid T1
        clear hf7 T1 tc
        go_wp2_with fail
        (with_reducible refine HT1.out.mono ?_)
        rintro e w8 ⟨_, _, _, l8, rfl, hk8, _⟩
        clear HT1
        have G2 := Lib.hid (kv_get kMine false hk8 (by kernel_rfl))
        rw [show kMine = ⟨#[109, 105, 110, 101]⟩ from rfl] at G2
        go_wp2_with fail
        (with_reducible refine G2.out.mono ?_)
        rintro e w9 ⟨x2, y2, z2, a2, m2, c2, rfl, hk9⟩
        have hf9 := hk9.here ((Frm.refl [] w9).alloc (.cells #[.string x2, .slice a2 m2 c2, .int .u64 (y2 : Nat), .int .u64 (z2 : Nat)] 59))
        have G3 := Lib.hid (kv_get kOurs true hf9 (by kernel_rfl))
        rw [show kOurs = ⟨#[111, 117, 114, 115]⟩ from rfl] at G3
        clear hk8 hk9 G2 hf9
        go_wp2_with fail
        (with_reducible refine G3.out.mono ?_)
        rintro e w10 ⟨x3, y3, z3, a3, m3, c3, rfl, hk10⟩
        have hf10 := hk10.here ((Frm.refl [] w10).alloc (.cells #[.string x3, .slice a3 m3 c3, .int .u64 (y3 : Nat), .int .u64 (z3 : Nat)] 59))
        have B1 := kv_bad { kind := 1, key := kMine, ses := 1 } none 0 hf10 lsG_ver (aw_ok 1 kMine 0 1 0 (by omega) (by decide) (by omega) (by omega) (by omega)) (Bytes.nil _) (fun _ => rfl) ls_gone (by omega)
        rw [show cmdV { kind := 1, key := kMine, ses := 1 } none 0 = .agg #[.int .u8 1, .string ⟨#[109, 105, 110, 101]⟩, .slice none 0 0, .int .u64 0, .int .u64 1, .int .u64 0] from rfl, show ((15 : Nat) : Int) = 15 from rfl] at B1
        have HB1 := Lib.hid B1
        clear hk10 hf10 G3 B1
        go_wp2_with fail
        (with_reducible refine HB1.out.mono ?_)
        rintro e w11 ⟨_, _, rfl, hk11⟩
        have LV := Lib.hid (kv_live 1 false hk11 rfl)
        rw [show ((1 : Nat) : Int) = 1 from rfl] at LV
        clear hk11 HB1
        go_wp2_with fail
        (with_reducible refine LV.out.mono ?_)
        rintro e w12 ⟨rfl, jq2, dq2, Fq2, _, hfw2, _⟩
        clear LV
        go_wp2
        go_ret
        exact ⟨rfl, hfw2.below (by simp) (Nat.le_refl _)⟩
end Go.Proofs.YtbdgldlblkflpaaGreat
