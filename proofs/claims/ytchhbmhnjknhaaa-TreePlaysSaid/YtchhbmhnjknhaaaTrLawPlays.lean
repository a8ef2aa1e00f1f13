/- TreePlays: the walk. -/
import Derived.Test.YtchhbmhnjknhaaaTrBoth
import Derived.Test.YtchhbmhnjknhaaaTrKey
import Derived.Test.YtchhbmhnjknhaaaInTc
import Derived.Test.YtchhbmhnjknhaaaSpoil
import Derived.Deep.CutBlock
import Derived.Deep.RegionHeld3
namespace Go.Proofs.Ytchhbmhnjknhaaa
open Go.RowKit

theorem Rt.keep {w w' : World} {B q : Nat} {F F' S : List Nat} {a : Option Addr} {cap : Nat} {X : List Nx} (h : Rt w B q F a cap X) (hf : Frm S w w') (hS : ∀ x ∈ S, x ∈ F ∨ w.heap.size ≤ x) (hF : ∀ x ∈ F', x ∈ F ∨ w.heap.size ≤ x) : Rt w' B q F' a cap X := by
  have hl := h.tree.lt
  refine ⟨hf.whole h.tree (fun hm => ?_), h.row.keep hf (fun x hx => ?_) (fun x hx => ?_), h.hp, fun hm => ?_, h.few⟩
  · rcases hS q hm with h1 | h1
    · exact h.out h1
    · omega
  · rcases hS x hx with h1 | h1
    · exact .inl (by simp [h1])
    · exact .inr h1
  · rcases List.mem_cons.1 hx with h1 | h1
    · exact .inl (by simp [h1])
    · rcases hF x h1 with h2 | h2
      · exact .inl (by simp [h2])
      · exact .inr h2
  · rcases hF q hm with h1 | h1
    · exact h.out h1
    · omega
def PyRel (w : World) (p q n : Nat) (u : Value) (wr : World) : Prop :=
  ∃ (k : Nat) (ta : Option Addr) (tc : Nat) (L : List Nx) (qs : List Nat) (ra : Option Addr) (rc : Nat) (X : List Nx), k ≤ n ∧ u = .int .i64 (k : Nat) ∧ Hid (Two w wr p q ta tc L qs ra rc X)
def Mid6 (w : World) (p q : Nat) (wx : World) : Prop := ∃ (ta : Option Addr) (tc : Nat) (L : List Nx) (qs : List Nat) (ra : Option Addr) (rc : Nat) (X : List Nx), Hid (Two w wx p q ta tc L qs ra rc X)
/-- Both trees have been turned. -/
theorem Two.both {w wr w1 w2 : World} {p q : Nat} {ta ra : Option Addr} {tc rc : Nat} {L X : List Nx} {qs : List Nat} {M : List Nd} (h : Two w wr p q ta tc L qs ra rc X) (hM : Good M) (ht : PtTo wr w1 w.heap.size p [q] M) (hr : ∃ X' a' c', Rt w2 w.heap.size q [p] a' c' X' ∧ Alike M X' ∧ Frm [q] w1 w2) : Mid6 w p q w2 := by
  obtain ⟨ta', tc', L', qs', h1, h2, h3, h4, h5⟩ := h.turnP ht
  obtain ⟨X', a', c', k1, k2, k3⟩ := hr
  exact ⟨ta', tc', L', qs', a', c', X', Lib.hid ⟨h1.keep k3 (fun x hx => .inl hx) (fun x hx => .inl hx), k1, by rw [h2]; exact hM, by rw [h2]; exact k2, h5.trans k3 (by simp) (fun x hx => by simp at hx; subst hx; exact .inr h.rt.hp)⟩⟩

set_option maxRecDepth 100000 in
set_option maxHeartbeats 16000000 in
theorem treePlays_walk (a0 : Option Addr) (n cap0 : Nat) (ts : List Tc) (w : World) (h : Tcs w a0 ts) (hn : n = ts.length) (h63 : n ≤ 9223372036854775807) :
    Calls Try.prog 3 #[.slice a0 n cap0] w fun e w' => e = .returned (.bool true) ∧ Below w.heap.size w w' := by
  have HAW := Lib.hid (awake6_any w)
  have H := Lib.hid h; clear h
  have HN := Lib.hid hn; clear hn
  go_enter Try.func3, Try.ntmps3
  go_wp2_with fail
  (with_reducible refine HAW.out.mono ?_)
  rintro e w1 ⟨rfl, hb⟩
  have HF1 := Lib.hid (Frm.ofBelow hb); clear hb HAW
  go_wp2_with fail
  refine (new_any w1 [] (by simp)).mono ?_
  rintro e w2 ⟨rfl, hd, hf, hz⟩
  obtain ⟨p, hp⟩ : ∃ p, p = w1.heap.size := ⟨_, rfl⟩
  rw [← hp] at hd ⊢
  have hpw : w.heap.size ≤ p := by rw [hp]; exact HF1.out.size
  obtain ⟨q, hq⟩ : ∃ q, q = w2.heap.size := ⟨_, rfl⟩
  have hT := Two.start hpw hd (HF1.out.trans hf (U := []) (by simp) (by simp)) hq
  have HR0 : Hid (PyRel w p q n (.int .i64 (0 : Nat)) (w2.alloc (.cells #[.slice none 0 0] 29))) := Lib.hid ⟨0, _, _, _, _, _, _, _, Nat.zero_le _, rfl, Lib.hid hT⟩
  have HQ := Lib.hid hq
  clear hd hf hz hp hq hT HF1
  go_wp2
  rw [← HQ.out]
  go_loopw [25] (fun u wr => PyRel w p q n u wr) (fun u _ => n - (intOf u).toNat)
  case atStart => exact HR0.out
  case round =>
    clear HR0
    obtain ⟨k, ta, tc, L, qs, ra, rc, X, hk, rfl, T⟩ := hrel
    by_cases hlt : k < n
    · obtain ⟨b, off, rfl, hin⟩ := H.out (by have := HN.out; omega)
      have hin0 := (hin k (by have := HN.out; omega))
      have hin2 := hin0.keep T.out.frm
      have hokw := hin0.ok
      generalize ts.getD k default = t at hin2 hokw
      obtain ⟨tk, tkey, va, vc, tv, tw, tow⟩ := t
      have OKW := Lib.hid hokw
      clear hin0 hokw
      obtain ⟨d0, d1, d2, d3, d4, ok⟩ := hin2
      simp only at d0 d1 d2 d3 d4
      obtain ⟨vn, hvn⟩ : ∃ vn, vn = tv.length := ⟨_, rfl⟩
      rw [← hvn] at d2
      obtain ⟨g, hg⟩ : ∃ g, g = wr.heap.size := ⟨_, rfl⟩
      obtain ⟨w2, hw2⟩ : ∃ w2, w2 = wr.alloc (.cells #[.int .u8 (tk : Nat), .string tkey, .slice va vn vc, .int .u64 (tw : Nat), .int .u64 (tow : Nat)] 33) := ⟨_, rfl⟩
      have hW2 := Whole.made wr 33 #[.int .u8 (tk : Nat), .string tkey, .slice va vn vc, .int .u64 (tw : Nat), .int .u64 (tow : Nat)]
      rw [← hw2, ← hg] at hW2
      have hf2 : Frm [] wr w2 := by rw [hw2]; exact (Frm.refl _ _).alloc _
      have hkey : tkey.size ≤ 9223372036854775807 := ok.key_le
      have hvn63 : vn ≤ 9223372036854775807 := by rw [hvn]; exact ok.val_b.2.1
      have T2 := Lib.hid (T.out.keep hf2)
      have HKEY := Lib.hid (key_any tkey w2 hkey)
      have HW2 := Lib.hid hw2
      have HGG := Lib.hid hg
      have HB2 := Lib.hid hW2
      have HVB := Lib.hid (hf2.bytes ok.val_b (by simp))
      have HVN := Lib.hid hvn
      have HNIL := Lib.hid ok.val_nil
      have HWL := Lib.hid ok.want_lt
      have HOL := Lib.hid ok.own_lt
      have HLT := Lib.hid hlt
      have htk : tk < 256 := ok.k_lt
      clear hin hvn hw2 hg hW2 hf2 hkey ok
      by_cases hbrk : 60 < k ∨ 200 < tkey.size ∨ 5000 < vn
      · have hb' : 60 < k ∨ (¬ 60 < k ∧ 200 < tkey.size) ∨ (¬ 60 < k ∧ ¬ 200 < tkey.size ∧ 5000 < vn) := by omega
        have HFE := Lib.hid T2.out.frm
        rw [HW2.out] at HFE
        clear hbrk
        rcases hb' with h1 | ⟨h1, h2⟩ | ⟨h1, h2, h3⟩
        all_goals
          go_wp2
          go_ret
          exact ⟨rfl, HFE.out.below (by simp) (Nat.le_refl _)⟩
      have h1 : ¬ 60 < k := by omega
      have h2 : ¬ 200 < tkey.size := by omega
      have h3 : ¬ 5000 < vn := by omega
      clear hbrk
      go_wp2_with fail
      rw [← HW2.out, ← HGG.out]
      (with_reducible refine HKEY.out.mono ?_)
      rintro e w3 ⟨Ky, rfl, hKy, hf3⟩
      have T3 := Lib.hid (T2.out.keep hf3)
      have hB3 := hf3.whole HB2.out (by simp)
      have HB3 := Lib.hid hB3
      have HV3 := Lib.hid (hf3.bytes HVB.out (by simp))
      have HKY := Lib.hid hKy
      have hmod : tk % 6 < 6 := Nat.mod_lt _ (by decide)
      obtain ⟨m6, hm6⟩ : ∃ m6, m6 = tk % 6 := ⟨_, rfl⟩
      rw [← hm6] at hmod
      have hk6 : (tk : Int) % 6 = (m6 : Int) := by rw [hm6]; rfl
      have q0 := hB3.cell 0
      have q2 := hB3.cell 2
      have q3 := hB3.cell 3
      have q4 := hB3.cell 4
      simp at q0 q2 q3 q4
      have hgp : g ∉ [p] := by have := T.out.pt.tree.lt; have := HGG.out; simp; omega
      have hgq : g ∉ [q] := by have := T.out.rt.tree.lt; have := HGG.out; simp; omega
      have HGP := Lib.hid hgp
      have HGQ := Lib.hid hgq
      clear hm6 hB3 hf3 hKy hgp hgq d0 d1 d2 d3 d4 HKEY
      go_upto_block 2 with (fail)
      go_cut [8, 49] (fun _ _ wx => Mid6 w p q wx)
      case first =>
        have hcs : m6 = 0 ∨ m6 = 1 ∨ m6 = 2 ∨ m6 = 3 ∨ m6 = 4 ∨ m6 = 5 := by omega
        have hput : Hid (m6 = 0 ∨ m6 = 1 ∨ m6 = 2 ∨ m6 = 3 ∨ m6 = 4 ∨ m6 = 5) := Lib.hid hcs
        clear hput
        rcases hcs with rfl | rfl | rfl | rfl | rfl | rfl
        rotate_left 3
        · have T3D := Lib.hid (T3.out.keep ((Frm.refl [] w3).drew))
          have HD1 := Lib.hid (del_any Ky tw T3D.out.pt T3D.out.good (fun x hx => by simp at hx; subst hx; exact T3D.out.rt.tree.lt))
          obtain ⟨dn, hdn⟩ : ∃ dn, dn = delN (nds L) Ky tw := ⟨_, rfl⟩
          have gg3 : ∀ z, Frm [p, q] w3 z → z.cell? ⟨g, 3, none⟩ = some (.int .u64 (tw : Nat)) := fun z hz => (hz.whole HB3.out (by have h1 := HGP.out; have h2 := HGQ.out; simp at h1 h2; simp [h1, h2])).cell 3
          clear hdn
          go_wp2
          refine wp_region_held_drew (S := fun w' => Frm [p, q] w3 w') (by kernel_rfl) (Frm.drew (Frm.refl _ _)) (fun hHeld => ?_)
          refine wpAnyH_take (i := 0) (oi := ⟨some 103, _, _, _, _, _⟩) (v := ?_) rfl (by kernel_rfl) (by kernel_rfl) (by kernel_rfl) (fun _ _ _ h => h) (Or.inl ⟨by rfl, ?_⟩) (by assumption) ?_
          rotate_left 1
          · (intro w hSw; (try dsimp only at hSw); go_simp; all_goals with_reducible rfl)
          try simp only [Act.put, List.setIfInBounds_toArray, List.set_cons_zero, List.set_cons_succ]
          refine wpAnyH_take (i := 1) (oi := ⟨some 104, _, _, _, _, _⟩) (v := ?_) rfl (by kernel_rfl) (by kernel_rfl) (by kernel_rfl) (fun _ _ _ h => h) (Or.inl ⟨by rfl, ?_⟩) (by assumption) ?_
          rotate_left 1
          · (intro w hSw; (try dsimp only at hSw); go_simp; all_goals with_reducible rfl)
          try simp only [Act.put, List.setIfInBounds_toArray, List.set_cons_zero, List.set_cons_succ]
          refine wpAnyH_take (i := 2) (oi := ⟨some 105, _, _, _, _, _⟩) (v := ?_) rfl (by kernel_rfl) (by kernel_rfl) (by kernel_rfl) (fun _ _ _ h => h) (Or.inl ⟨by rfl, ?_⟩) (by assumption) ?_
          rotate_left 1
          · (intro w hSw; (try dsimp only at hSw); go_simp; all_goals with_reducible rfl)
          try simp only [Act.put, List.setIfInBounds_toArray, List.set_cons_zero, List.set_cons_succ]
          refine wpAnyH_take (i := 3) (oi := ⟨some 106, _, _, _, _, _⟩) (v := ?_) rfl (by kernel_rfl) (by kernel_rfl) (by kernel_rfl) (fun _ _ _ h => h) (Or.inl ⟨by rfl, ?_⟩) (by assumption) ?_
          rotate_left 1
          · (intro w hSw; (try dsimp only at hSw); go_simp; all_goals with_reducible rfl)
          try simp only [Act.put, List.setIfInBounds_toArray, List.set_cons_zero, List.set_cons_succ]
          refine wpAnyH_take (i := 5) (oi := ⟨some 108, _, _, _, _, _⟩) (v := ?_) rfl (by kernel_rfl) (by kernel_rfl) (by kernel_rfl) (fun _ _ _ h => h) (Or.inl ⟨by rfl, ?_⟩) (by assumption) ?_
          rotate_left 1
          · (intro w hSw; (try dsimp only at hSw); go_simp; all_goals with_reducible rfl)
          try simp only [Act.put, List.setIfInBounds_toArray, List.set_cons_zero, List.set_cons_succ]
          refine wpAnyH_take (i := 6) (oi := ⟨some 109, _, _, _, _, _⟩) (v := ?_) rfl (by kernel_rfl) (by kernel_rfl) (by kernel_rfl) (fun _ _ _ h => h) (Or.inl ⟨by rfl, ?_⟩) (by assumption) ?_
          rotate_left 1
          · (intro w hSw; (try dsimp only at hSw); go_simp; all_goals with_reducible rfl)
          try simp only [Act.put, List.setIfInBounds_toArray, List.set_cons_zero, List.set_cons_succ]
          refine wpAnyH_take (i := 7) (oi := ⟨some 110, _, _, _, _, _⟩) (v := ?_) rfl (by kernel_rfl) (by kernel_rfl) (by kernel_rfl) (fun _ _ _ h => h) (Or.inl ⟨by rfl, ?_⟩) (by assumption) ?_
          rotate_left 1
          · (intro w hSw; (try dsimp only at hSw); go_simp; all_goals with_reducible rfl)
          try simp only [Act.put, List.setIfInBounds_toArray, List.set_cons_zero, List.set_cons_succ]
          refine wpAnyH_take (i := 8) (oi := ⟨some 111, _, _, _, _, _⟩) (v := ?_) rfl (by kernel_rfl) (by kernel_rfl) (by kernel_rfl) (fun _ _ _ h => h) (Or.inl ⟨by rfl, ?_⟩) (by assumption) ?_
          rotate_left 1
          · (intro w hSw; (try dsimp only at hSw); go_simp; all_goals with_reducible rfl)
          try simp only [Act.put, List.setIfInBounds_toArray, List.set_cons_zero, List.set_cons_succ]
          refine wpAnyH_ready (rs := [4]) (by kernel_rfl) (by simp) ?_
          refine AllReadyH.cons (o := ⟨some 107, _, _, _, _, _⟩) rfl (fun K hK => ?_) AllReadyH.nil
          go_simp
          (go_at_call 15; (with_reducible refine HD1.out.mono ?_); rintro e w4 ⟨rfl, hto⟩; obtain ⟨ta', tc', L', qs', u1, u2, u3, u4, u5⟩ := T3D.out.turnP hto; have HTO := Lib.hid hto; have HRD := Lib.hid (rdel_like Ky tw u3 T3.out.alike T3.out.good (fun x hx => by simp at hx; subst hx; exact u1.tree.lt)); have hS4 : Frm [p, q] w3 w4 := ((Frm.refl [] w3).drew).trans u4 (by simp) (fun x hx => .inl (by simp at hx; simp [hx])); clear hto u1 u2 u3 u4 u5)
          go_wp2_with fail
          refine hK.out _ _ (by assumption) (fun hHeld => ?_)
          clear hK K
          try simp only [Act.put, List.setIfInBounds_toArray, List.set_cons_zero, List.set_cons_succ]
          refine wpAnyH_ready (rs := [9]) (by kernel_rfl) (by simp) ?_
          refine AllReadyH.cons (o := ⟨some 112, _, _, _, _, _⟩) rfl (fun K hK => ?_) AllReadyH.nil
          go_simp
          (go_at_call 16; (with_reducible refine HRD.out.mono ?_); rintro e w5 ⟨rfl, X', a', c', r1, r2, r3⟩; have HR : Hid (Mid6 w p q w5) := Lib.hid (T3D.out.both (T3.out.good.del Ky tw) HTO.out ⟨X', a', c', r1, r2, r3⟩); have hS5 : Frm [p, q] w3 w5 := Frm.trans hS4 r3 (by simp) (fun x hx => .inl (by simp at hx; simp [hx])); clear r1 r2 r3)
          go_wp2_with fail
          refine hK.out _ _ (by assumption) (fun hHeld => ?_)
          clear hK K
          try simp only [Act.put, List.setIfInBounds_toArray, List.set_cons_zero, List.set_cons_succ]
          refine wpAnyH_take (i := 10) (oi := ⟨some 113, _, _, _, _, _⟩) (v := ?_) rfl (by kernel_rfl) (by kernel_rfl) (by kernel_rfl) (fun _ _ _ h => h) (Or.inl ⟨by rfl, ?_⟩) (by assumption) ?_
          rotate_left 1
          · (intro w hSw; (try dsimp only at hSw); go_simp; all_goals with_reducible rfl)
          try simp only [Act.put, List.setIfInBounds_toArray, List.set_cons_zero, List.set_cons_succ]
          refine wpAnyH_done (by kernel_rfl) ?_ _
          clear gg3
          go_wp2_with fail
          go_meet
          case rel => exact HR.out
        · -- Drop
          have HDR := Lib.hid (drop_any tow T3.out.pt (fun x hx => by simp at hx; subst hx; exact T3.out.rt.tree.lt))
          go_wp2_with fail
          (with_reducible refine HDR.out.mono ?_)
          rintro e w4 ⟨rfl, hto⟩
          obtain ⟨ta', tc', L', qs', u1, u2, u3, u4, u5⟩ := T3.out.turnP hto
          have HTO := Lib.hid hto
          have hB4 := u4.whole HB3.out HGP.out
          have y4 := hB4.cell 4
          simp at y4
          have HRD := Lib.hid (rdrop_like tow u3 T3.out.alike (fun x hx => by simp at hx; subst hx; exact u1.tree.lt))
          clear hto u1 u2 u3 u4 u5 hB4 HDR
          go_wp2_with fail
          (with_reducible refine HRD.out.mono ?_)
          rintro e w5 ⟨rfl, X', a', c', r1, r2, r3⟩
          have HR : Hid (Mid6 w p q w5) := Lib.hid (T3.out.both (T3.out.good.drop tow) HTO.out ⟨X', a', c', r1, r2, r3⟩)
          clear r1 r2 r3 HRD
          go_wp2_with fail
          go_meet
          case rel => exact HR.out
        · -- nothing
          have HR : Hid (Mid6 w p q w3) := Lib.hid ⟨_, _, _, _, _, _, _, Lib.hid T3.out⟩
          go_wp2_with fail
          go_meet
          case rel => exact HR.out
        all_goals
          obtain ⟨wo, rfl⟩ : ∃ wo : World, wo = wr := ⟨_, rfl⟩
          have HAL := Lib.hid ((Frm.refl [] w3).alloc (.cells #[] 5))
          have hw1 := HAL.out.whole HB3.out (by simp)
          have r2 := hw1.cell 2
          simp at r2
          clear hw1
          obtain ⟨i1, hi, hz0, hz1, hz2⟩ := info_parts Try.info5
          have UI := Lib.hid hi; clear hi
          have UZ0 := Lib.hid hz0; clear hz0
          have UZ1 := Lib.hid hz1; clear hz1
          have UZ2 := Lib.hid hz2; clear hz2
          go_wp2_with (at_builtin; refine wpList_append_bytes rfl (.tmp 54) (.tmp 56) 30 rfl w3.heap.size 5 i1 Try.underlying30 UI.out UZ0.out UZ1.out UZ2.out _ 0 [] rfl ?own1 _ _ _ tv rfl ?b1 HVN.out HNIL.out ?fit1 ?base1 ?_)
          case own1 => exact World.ownsRow_lit w3 #[] 0 (Nat.le_refl _) (by unfold maxLen; omega) rfl
          case b1 => exact HAL.out.bytes HV3.out (by simp)
          case fit1 => omega
          case base1 => simp
          intro av cv w4 hown4 hg4
          have hf4 : Frm [] w3 w4 := HAL.out.grown hg4 (fun k hk => .inr (by simp [Value.ownBlock] at hk; omega))
          have hbv := bytes_of_own hown4 HV3.out.1
          have HLV : Hid (∀ x ∈ blk av, w3.heap.size ≤ x ∧ x < w4.heap.size) := Lib.hid (fun x hx => World.ownsRow.lt hown4 x (ownBlk.2 hx))
          have P4 := Lib.hid (T3.out.pt.keep (F' := q :: blk av) hf4 (by simp) (fun x hx => (by
            rcases List.mem_cons.1 hx with h | h
            · exact .inl (by simp [h])
            · exact .inr (HLV.out x h).1)))
          have R4 := Lib.hid (T3.out.rt.keep (F' := p :: blk av) hf4 (by simp) (fun x hx => (by
            rcases List.mem_cons.1 hx with h | h
            · exact .inl (by simp [h])
            · exact .inr (HLV.out x h).1)))
          have hB4 := hf4.whole HB3.out (by simp)
          have HB4 := Lib.hid hB4
          clear r2 q0 q2 q3 q4
          have q3 := hB4.cell 3
          have q4 := hB4.cell 4
          simp at q3 q4
          have HPU := Lib.hid (put_any Ky av vn cv tv tw tow P4.out T3.out.good (fun x hx => (by
            rcases List.mem_cons.1 hx with h | h
            · subst h; exact R4.out.tree.lt
            · exact (HLV.out x h).2)) hbv.2.1 HVN.out hbv.2.2 HKY.out HWL.out HOL.out)
          have HF4 := Lib.hid (T3.out.frm.trans hf4 (U := []) (by simp) (by simp))
          have OWN4 := Lib.hid hown4
          have hw3w : w.heap.size ≤ w3.heap.size := T3.out.frm.size
          have HW3W := Lib.hid hw3w
          have H8 := Lib.hid HV3.out.1
          clear hown4 hg4 hbv hf4 hB4 hw3w
          go_wp2_with fail
          (with_reducible refine HPU.out.mono ?_)
          rintro e w5 ⟨rfl, ta', tc', L', qs', p5, n5, f5⟩
          have hpav : p ∉ blk av := fun hm => by have h1 := (HLV.out p hm).1; have h2 := T3.out.pt.tree.lt; omega
          have P5 := Lib.hid p5
          have N5 := Lib.hid n5
          have R5 := Lib.hid (R4.out.keep (F' := p :: blk av) f5 (fun x hx => .inl (by simp at hx; simp [hx])) (fun x hx => .inl hx))
          have OWN5 := Lib.hid (f5.own OWN4.out (fun g' hg' hm => (by simp at hm; subst hm; exact hpav (ownBlk.1 hg'))))
          have HB5 := Lib.hid (f5.whole HB4.out HGP.out)
          have HF5 := Lib.hid (HF4.out.trans f5 (U := []) (by simp) (fun x hx => by simp at hx; subst hx; exact .inr T3.out.pt.hp))
          have HGA : Hid (g ∉ blk av) := Lib.hid (fun hm => by have h1 := (HLV.out g hm).1; have h2 := HB3.out.lt; omega)
          obtain ⟨pr, hpr⟩ : ∃ pr, pr = putNR (nds L) Ky tv tw := ⟨_, rfl⟩
          obtain ⟨pc, hpc⟩ : ∃ pc, pc = putNC (nds L) Ky tv tw := ⟨_, rfl⟩
          rw [← hpr, ← hpc]
          have HPR := Lib.hid hpr
          have HPC := Lib.hid hpc
          clear p5 n5 f5 hpav hpr hpc HPU q3 q4
          go_wp2_with fail
          go_loopw [71] (fun i wr => SpRel w5 w3.heap.size 5 av vn cv i wr) (fun i _ => vn - (intOf i).toNat)
          case atStart => exact Spoilt.start OWN5.out H8.out
          case round =>
            obtain ⟨j, cc, hj, rfl, hsp⟩ := hrel
            by_cases hjl : j < vn
            · obtain ⟨g', d, rfl, hd8, cj, fj, hmc, hst⟩ := hsp.at hjl
              have hx := all_bits d hd8
              have HST := Lib.hid hst
              clear hst hsp
              have hjl2 : (j : Int) < (vn : Int) := by omega
              go_wp2_with fail
              go_roundw
              case rel => exact ⟨j + 1, _, hjl, by go_num, HST.out⟩
              case measure => simp [intOf]; omega
            · obtain rfl : j = vn := by omega
              have hfs := hsp.frm
              have P6 := Lib.hid (P5.out.keep (F' := [q]) hfs (fun x hx => .inl (by simp [hx])) (fun x hx => .inl (by simp at hx; simp [hx])))
              have R6 := Lib.hid (R5.out.keep (F' := [p]) hfs (fun x hx => .inl (by simp [hx])) (fun x hx => .inl (by simp at hx; simp [hx])))
              have HF6 := Lib.hid (HF5.out.trans hfs (U := []) (by simp) (fun x hx => .inr (Nat.le_trans HW3W.out (HLV.out x hx).1)))
              have hB6 := hfs.whole HB5.out HGA.out
              have y2 := hB6.cell 2
              have y3 := hB6.cell 3
              have y4 := hB6.cell 4
              simp at y2 y3 y4
              have HRP := Lib.hid (rput_like Ky va j vc tv tw tow R6.out T3.out.alike T3.out.good (fun x hx => by simp at hx; subst hx; exact P6.out.tree.lt) (HF6.out.bytes OKW.out.val_b (by simp)) HVN.out HNIL.out HKY.out HWL.out HOL.out)
              rw [← HPR.out, ← HPC.out] at HRP
              clear hsp hfs hB6
              go_wp2_with fail
              (with_reducible refine HRP.out.mono ?_)
              rintro e w7 ⟨rfl, X', a', c', r1, r2, r3⟩
              have HR : Hid (Mid6 w p q w7) := Lib.hid ⟨ta', tc', L', qs', a', c', X', Lib.hid ⟨P6.out.keep r3 (fun x hx => .inl hx) (fun x hx => .inl hx), r1, by rw [N5.out]; exact T3.out.good.put _ _ _ _, by rw [N5.out]; exact r2, HF6.out.trans r3 (by simp) (fun x hx => by simp at hx; subst hx; exact .inr R6.out.hp)⟩⟩
              clear r1 r2 r3 HRP
              go_wp2_with fail
              go_meet
              case rel => exact HR.out
      case rest =>
        obtain ⟨ua, uc, M, us, va', vc', Z, TT⟩ := hcut
        have HGET := Lib.hid (get_any Ky TT.out.pt TT.out.good.srt TT.out.good.small)
        obtain ⟨hg1, hg2⟩ := get_like TT.out.alike Ky
        obtain ⟨is, his⟩ : ∃ is, is = isN (nds M) Ky := ⟨_, rfl⟩
        obtain ⟨d, hd⟩ : ∃ d, d = getN (nds M) Ky := ⟨_, rfl⟩
        rw [← his, ← hd] at HGET
        rw [← hd] at hg1
        rw [← his] at hg2
        have HX1 := Lib.hid hg1
        have HX2 := Lib.hid hg2
        clear hg1 hg2 his hd q0 q2 q3 q4 hmod hk6
        obtain ⟨dk, dv, dver, down⟩ := d
        obtain ⟨dm, hdm⟩ : ∃ dm, dm = dv.length := ⟨_, rfl⟩
        have HDM := Lib.hid hdm
        clear hdm
        go_wp2_with fail
        (with_reducible refine HGET.out.mono ?_)
        rintro e w8 ⟨a8, c8, rfl, hb8, _, _, hf8⟩
        simp only
        rw [← HDM.out]
        obtain ⟨g1, hg1⟩ : ∃ g, g = w8.heap.size := ⟨_, rfl⟩
        obtain ⟨w9, hw9⟩ : ∃ w9, w9 = w8.alloc (.cells #[.string dk, .slice a8 dm c8, .int .u64 (dver : Nat), .int .u64 (down : Nat)] 44) := ⟨_, rfl⟩
        have hW9 := Whole.made w8 44 #[.string dk, .slice a8 dm c8, .int .u64 (dver : Nat), .int .u64 (down : Nat)]
        rw [← hw9, ← hg1] at hW9
        have hf89 : Frm [] w8 w9 := by rw [hw9]; exact (Frm.refl _ _).alloc _
        have T9 := Lib.hid (TT.out.keep (hf8.trans hf89 (U := []) (by simp) (by simp)))
        have HB9 := Lib.hid (hf89.bytes hb8 (by simp))
        have HW9 := Lib.hid hW9
        have HE9 := Lib.hid hw9
        have HG1 := Lib.hid hg1
        have hrg := rget_any Ky T9.out.rt
        have hxb : Bytes w9 (Z.getD (atN Z Ky) default).a (Z.getD (atN Z Ky) default).t.v := by
          by_cases hin : atN Z Ky < Z.length
          · exact (T9.out.rt.row.nl.ok _ (by simp [hin])).bytes
          · have e : Z.getD (atN Z Ky) default = default := by simp [List.getD, show Z.length ≤ atN Z Ky by omega]
            rw [e, nx_default]
            exact ⟨by simp, by simp, .inl rfl⟩
        unfold GetEnd at hrg
        rw [HX2.out] at hrg
        obtain ⟨x, hx⟩ : ∃ x, x = Z.getD (atN Z Ky) default := ⟨_, rfl⟩
        have hx1 := HX1.out
        rw [← hx] at hrg hxb hx1
        obtain ⟨xt, xa, xc⟩ := x
        simp only at hx1 hxb
        subst hx1
        unfold Nx.val at hrg
        simp only at hrg hxb
        rw [← HDM.out] at hrg
        have HRG := Lib.hid hrg
        have HXB := Lib.hid hxb
        clear hb8 hf8 hw9 hg1 hW9 hf89 hrg hxb hx HGET
        go_wp2_with fail
        rw [← HE9.out, ← HG1.out]
        (with_reducible refine HRG.out.mono ?_)
        rintro e w10 ⟨rfl, hf10⟩
        obtain ⟨g2, hg2⟩ : ∃ g, g = w10.heap.size := ⟨_, rfl⟩
        obtain ⟨w11, hw11⟩ : ∃ w11, w11 = w10.alloc (.cells #[.string dk, .slice xa dm xc, .int .u64 (dver : Nat), .int .u64 (down : Nat)] 44) := ⟨_, rfl⟩
        have hW11 := Whole.made w10 44 #[.string dk, .slice xa dm xc, .int .u64 (dver : Nat), .int .u64 (down : Nat)]
        rw [← hw11, ← hg2] at hW11
        have hfa : Frm [] w10 w11 := by rw [hw11]; exact (Frm.refl _ _).alloc _
        have hf11 : Frm [] w9 w11 := hf10.trans hfa (by simp) (by simp)
        have T11 := Lib.hid (T9.out.keep hf11)
        have hW9b := hf11.whole HW9.out (by simp)
        have y0 := hW9b.cell 0
        have y1 := hW9b.cell 1
        have y2 := hW9b.cell 2
        have y3 := hW9b.cell 3
        have z0 := hW11.cell 0
        have z1 := hW11.cell 1
        have z2 := hW11.cell 2
        have z3 := hW11.cell 3
        simp at y0 y1 y2 y3 z0 z1 z2 z3
        have HSN := Lib.hid (sameNode_true dk a8 dm c8 xa xc dver down dv w11 (hf11.bytes HB9.out (by simp)) (hf11.bytes HXB.out (by simp)) HDM.out)
        have HE11 := Lib.hid hw11
        have HG2 := Lib.hid hg2
        rw [hw11] at y0 y1 y2 y3 z0 z1 z2 z3
        rw [hg2] at z0 z1 z2 z3
        clear hf10 hw11 hg2 hW11 hfa hf11 hW9b HRG
        go_wp2_with fail
        rw [← HE11.out]
        (with_reducible refine HSN.out.mono ?_)
        rintro e w12 ⟨rfl, hf12⟩
        have T12 := Lib.hid (T11.out.keep hf12)
        have HSH := Lib.hid (shows_any T12.out)
        clear hf12 HSN
        go_wp2_with fail
        (with_reducible refine HSH.out.mono ?_)
        rintro e w13 ⟨rfl, hf13⟩
        have HREL : Hid (PyRel w p q n (.int .i64 ((k + 1 : Nat) : Int)) w13) := Lib.hid ⟨k + 1, _, _, _, _, _, _, _, HLT.out, rfl, Lib.hid (T12.out.keep hf13)⟩
        clear hf13 HSH
        go_wp2
        go_roundw
        case rel => exact HREL.out
        case measure => simp [intOf]; omega
    · obtain rfl : k = n := by omega
      go_wp2
      go_ret
      exact ⟨rfl, T.out.frm.below (by simp) (Nat.le_refl _)⟩
end Go.Proofs.Ytchhbmhnjknhaaa
