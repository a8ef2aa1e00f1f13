/- Two keepers on disks of their own; a disk's records and the state behind them. -/
import Derived.Test.YtbdgldlblkflpaaGreatZMtKv
import Derived.Test.YtbdgldlblkflpaaGreatZMtRep8
import Derived.Test.YtbdgldlblkflpaaGreatZMtApart
namespace Go.Proofs.YtbdgldlblkflpaaGreat
open Go.RowKit
set_option maxRecDepth 100000
theorem Kp.low {w : World} {B B' k jq dp : Nat} {G Fd : List Nat} {S : MS} {l : List Nat} {room : Nat} (h : Kp w B G k jq dp Fd S l room) (hB : B' ≤ B) : Kp w B' G k jq dp Fd S l room := by
  refine ⟨?_, h.jn, ?_, fun x hx => ⟨(h.out x hx).1, Nat.le_trans hB (h.out x hx).2⟩⟩
  · obtain ⟨tp, bp, h1, h2⟩ := h.keeper
    exact ⟨tp, bp, h1, h2.low hB⟩
  · have h1 := h.dk
    obtain ⟨⟨a1, a2, a3⟩, h2⟩ := h1
    refine ⟨⟨a1, by omega, a3⟩, ?_⟩
    rcases h2 with h2 | ⟨r, a, cap, hon, hF⟩
    · exact .inl h2
    · refine .inr ⟨r, a, cap, ⟨hon.disk, hon.row, ?_, by have := hon.hr; omega⟩, hF⟩
      rcases hon.head with ⟨q1, q2, q3⟩ | ⟨g, cur, p0, p1, p3⟩
      · exact .inl ⟨q1, q2, q3⟩
      · exact .inr ⟨g, cur, p0, by omega, p3⟩
/-- Records on a disk, and the state behind them. -/
def Rc (S : MS) (l : List Nat) : Prop := ∃ R, l = allF R ∧ Fit R ∧ repAll {} R = some S
theorem Rc.first : Rc {} [] := ⟨[], rfl, fun b hb => by simp at hb, rfl⟩
theorem Rc.recs {S : MS} {l : List Nat} (h : Rc S l) : repAll {} (recs l) = some S ∧ l.take (recN l) = l := by
  obtain ⟨R, rfl, hf, hr⟩ := h
  have h1 := recs_all' R hf
  exact ⟨by rw [h1.1]; exact hr, by rw [h1.2]; exact List.take_length⟩
theorem kE_zero {S : MS} {l : List Nat} {room : Nat} {c : MC} (h : kE S l room c = 0) : doE S c = 0 ∧ (recB S c).length ≤ 4096 := by
  unfold kE at h
  by_cases h0 : doE S c = 0
  · refine ⟨h0, ?_⟩
    rw [if_neg (by simp [h0])] at h
    unfold jc at h
    by_cases h1 : 4096 < (recB S c).length
    · rw [if_pos h1] at h; omega
    · omega
  · rw [if_pos h0] at h; exact absurd h h0
theorem Rc.step {m : Nat} {S : MS} {l : List Nat} {room : Nat} {c : MC} (h : Rc S l) (hM : MOk S) (hV : MVer m S) (hc : MCOk c) (h8 : ∀ x ∈ kL S l room c, x < 256) : Rc (kS S l room c) (kL S l room c) := by
  by_cases h0 : kE S l room c = 0
  · have hk : kL S l room c = l ++ fr (recB S c) := by unfold kL; rw [if_pos h0]
    have hs : kS S l room c = doS S c := by unfold kS; rw [if_pos h0]
    obtain ⟨hd, hl⟩ := kE_zero h0
    obtain ⟨R, hR, hf, hr⟩ := h
    rw [hk] at h8 ⊢
    rw [hs]
    refine ⟨R ++ [recB S c], by rw [allF_append, allF_one, hR], hf.append (Fit.one hl fun x hx => h8 x (List.mem_append_right _ (by unfold fr; exact List.mem_append_right _ hx))), ?_⟩
    rw [repAll_snoc, hr]
    exact rep1_rec hM hV hc hd
  · have hk : kL S l room c = l := by unfold kL; rw [if_neg h0]
    have hs : kS S l room c = S := by unfold kS; rw [if_neg h0]
    rw [hk, hs]
    exact h
theorem kL_len {S : MS} {l : List Nat} {room : Nat} {c : MC} : (kL S l room c).length ≤ l.length + 4104 := by
  by_cases h0 : kE S l room c = 0
  · have hk : kL S l room c = l ++ fr (recB S c) := by unfold kL; rw [if_pos h0]
    have := (kE_zero h0).2
    rw [hk, List.length_append, fr_length]; omega
  · have hk : kL S l room c = l := by unfold kL; rw [if_neg h0]
    rw [hk]; omega
theorem kE_same {S : MS} {l l' : List Nat} {room : Nat} {c : MC} (h : l.length + 4104 ≤ room) (h' : l'.length + 4104 ≤ room) : kE S l room c = kE S l' room c := by
  unfold kE
  by_cases h0 : doE S c ≠ 0
  · rw [if_pos h0, if_pos h0]
  · rw [if_neg h0, if_neg h0]
    unfold jc
    by_cases h1 : 4096 < (recB S c).length
    · rw [if_pos h1, if_pos h1]
    · rw [if_neg h1, if_neg h1, if_neg (by omega), if_neg (by omega)]
theorem kS_same {S : MS} {l l' : List Nat} {room : Nat} {c : MC} (h : kE S l room c = kE S l' room c) : kS S l room c = kS S l' room c ∧ kN S l room c = kN S l' room c := by
  unfold kS kN
  rw [h]
  exact ⟨rfl, rfl⟩
/-- The keeper k on the disk dp, the keeper p on one of its own. -/
def Pr (w0 w : World) (k p dp room : Nat) (S : MS) (l : List Nat) (T : MS) (m : List Nat) : Prop :=
  ∃ jq Fd jp op Fp, Kp w w0.heap.size (p :: Fp) k jq dp Fd S l room ∧ Kp w w0.heap.size (k :: Fd) p jp op Fp T m room ∧ Frm [] w0 w
section
variable {w0 w : World} {k p dp room : Nat} {S T : MS} {l m : List Nat}
theorem Pr.here {w' : World} (h : Pr w0 w k p dp room S l T m) (hf : Frm [] w w') : Pr w0 w' k p dp room S l T m := by
  obtain ⟨jq, Fd, jp, op, Fp, h1, h2, h3⟩ := h
  exact ⟨jq, Fd, jp, op, Fp, h1.here hf, h2.here hf, h3.trans hf (by simp) (by simp)⟩
theorem Pr.frm (h : Pr w0 w k p dp room S l T m) : Frm [] w0 w := by obtain ⟨_, _, _, _, _, _, _, h3⟩ := h; exact h3
theorem Pr.b8 (h : Pr w0 w k p dp room S l T m) : ∀ x ∈ l, x < 256 := by obtain ⟨_, _, _, _, _, h1, _⟩ := h; exact h1.dk.1.1
theorem kp_pos {w : World} {B k jq dp : Nat} {G Fd : List Nat} {S : MS} {l : List Nat} {room : Nat} (h : Kp w B G k jq dp Fd S l room) : ∀ x ∈ k :: Fd, x ∉ G ∧ B ≤ x ∧ x < w.heap.size := fun x hx => by
  have hm : x ∈ k :: jq :: Fd := by simp only [List.mem_cons] at hx ⊢; rcases hx with h | h; exact .inl h; exact .inr (.inr h)
  exact ⟨(h.out x hm).1, (h.out x hm).2, h.klt x hm⟩
/-- A command's box is none of its blocks. -/
theorem kp_cmd {w : World} {B k jq dp g : Nat} {G Fd : List Nat} {S : MS} {l : List Nat} {room : Nat} {cs : Array Value} (h : Kp w B G k jq dp Fd S l room) (hg : Whole w g 51 cs) : g ∉ k :: Fd := by
  intro hm
  rcases List.mem_cons.1 hm with rfl | hm
  · obtain ⟨_, _, hk, _⟩ := h.keeper
    exact Whole.ne hg hk (by decide) rfl
  · obtain ⟨_, ⟨_, rfl, hp⟩ | ⟨r, a, cap, hon, rfl⟩⟩ := h.dk
    · simp at hm
      subst hm
      exact Whole.ne hg hp (by decide) rfl
    · simp only [List.mem_cons] at hm
      rcases hm with rfl | rfl | hm
      · exact Whole.ne hg hon.disk (by decide) rfl
      · exact Whole.ne hg hon.row (by decide) rfl
      · exact hd_ne hon.head hg (by decide) hm
/-- The first keeper's command. -/
theorem pr_do1 (c : MC) (a : Option Addr) (cap : Nat) (h : Pr w0 w k p dp room S l T m) (hM : MOk S) (hv : ∀ d ∈ S.nodes, d.ver ≠ 0) (hc : MCOk c) (hb : Bytes w a c.val) (hnil : a = none → cap = 0) :
    Calls Tryz.prog 25 #[.pointer (some ⟨k, 0, none⟩), cmdV c a cap] w fun e w' => ∃ ga gc, e = .returned (.tuple #[.int .u64 (kN S l room c : Nat), .slice ga (kG S l room c).length gc, .int .i64 (kE S l room c : Nat)]) ∧ Pr w0 w' k p dp room (kS S l room c) (kL S l room c) T m ∧ ∀ g cs, Whole w g 51 cs → Whole w' g 51 cs := by
  obtain ⟨jq, Fd, jp, op, Fp, h1, h2, h3⟩ := h
  have q1 := kp_pos h1
  have q2 := kp_pos h2
  refine (kdo_any c a cap h1 hM hv hc (fun x hx => (q2 x hx).2.2) hb hnil).mono ?_
  rintro e w' ⟨ga, gc, Fd', rfl, _, _, hk, hf, hx⟩
  refine ⟨ga, gc, rfl, ⟨jq, Fd', jp, op, Fp, hk, h2.keep hf (fun x hx => .inl hx) (fun x hm => ?_), h3.trans hf (by simp) (fun x hx => .inr (q1 x hx).2.1)⟩, fun g cs hg => hf.whole hg (kp_cmd h1 hg)⟩
  rcases List.mem_cons.1 hm with rfl | hm
  · exact .inl (by simp)
  · rcases hx x hm with h | h
    · exact .inl (by simp [h])
    · exact .inr h
theorem Pr.swap (h : Pr w0 w k p dp room S l T m) : ∃ op, Pr w0 w p k op room T m S l := by
  obtain ⟨jq, Fd, jp, op, Fp, h1, h2, h3⟩ := h
  exact ⟨op, jp, Fp, jq, dp, Fd, h2, h1, h3⟩
/-- The second one's. -/
theorem pr_do2 (c : MC) (a : Option Addr) (cap : Nat) (h : Pr w0 w k p dp room S l T m) (hM : MOk T) (hv : ∀ d ∈ T.nodes, d.ver ≠ 0) (hc : MCOk c) (hb : Bytes w a c.val) (hnil : a = none → cap = 0) :
    Calls Tryz.prog 25 #[.pointer (some ⟨p, 0, none⟩), cmdV c a cap] w fun e w' => ∃ ga gc, e = .returned (.tuple #[.int .u64 (kN T m room c : Nat), .slice ga (kG T m room c).length gc, .int .i64 (kE T m room c : Nat)]) ∧ Pr w0 w' k p dp room S l (kS T m room c) (kL T m room c) ∧ ∀ g cs, Whole w g 51 cs → Whole w' g 51 cs := by
  obtain ⟨jq, Fd, jp, op, Fp, h1, h2, h3⟩ := h
  have q1 := kp_pos h1
  have q2 := kp_pos h2
  refine (kdo_any c a cap h2 hM hv hc (fun x hx => (q1 x hx).2.2) hb hnil).mono ?_
  rintro e w' ⟨ga, gc, Fp', rfl, _, _, hk, hf, hx⟩
  refine ⟨ga, gc, rfl, ⟨jq, Fd, jp, op, Fp', h1.keep hf (fun x hx => .inl hx) (fun x hm => ?_), hk, h3.trans hf (by simp) (fun x hx => .inr (q2 x hx).2.1)⟩, fun g cs hg => hf.whole hg (kp_cmd h2 hg)⟩
  rcases List.mem_cons.1 hm with rfl | hm
  · exact .inl (by simp)
  · rcases hx x hm with h | h
    · exact .inl (by simp [h])
    · exact .inr h
/-- The first one's disk, the second keeper. -/
def Pd (w0 w : World) (p dp room : Nat) (l : List Nat) (T : MS) (m : List Nat) : Prop :=
  ∃ Fd jp op Fp, Dk w w0.heap.size dp Fd l l.length room ∧ Kp w w0.heap.size Fd p jp op Fp T m room ∧ (∀ x ∈ Fd, w0.heap.size ≤ x) ∧ Frm [] w0 w
theorem pr_crash (h : Pr w0 w k p dp room S l T m) :
    Calls Tryz.prog 21 #[.pointer (some ⟨dp, 0, none⟩), .int .i64 0, .int .i64 0] w fun e w' => e = .returned (.tuple #[]) ∧ Pd w0 w' p dp room l T m := by
  obtain ⟨jq, Fd, jp, op, Fp, h1, h2, h3⟩ := h
  have q1 := kp_pos h1
  have e : crashed l l.length 0 0 = l := by unfold crashed keptN; simp
  refine (crash_any 0 0 h1.dk).mono ?_
  rintro e' w' ⟨rfl, Fd', hd, hf, hx⟩
  rw [e] at hd
  refine ⟨rfl, Fd', jp, op, Fp, hd, h2.keep hf (fun x hx => .inl (by simp [hx])) (fun x hm => ?_), fun x hm => ?_, h3.trans hf (by simp) (fun x hx => .inr (q1 x (by simp [hx])).2.1)⟩
  · rcases hx x hm with h | h
    · exact .inl (by simp [h])
    · exact .inr h
  · rcases hx x hm with h | h
    · exact (q1 x (by simp [h])).2.1
    · have := h3.size; omega
theorem pd_open (h : Pd w0 w p dp room l T m) (hr : Rc S l) :
    Calls Tryz.prog 12 #[.pointer (some ⟨dp, 0, none⟩)] w fun e w' => ∃ k, e = .returned (.tuple #[.pointer (some ⟨k, 0, none⟩), .int .i64 0]) ∧ Pr w0 w' k p dp room S l T m := by
  obtain ⟨Fd, jp, op, Fp, hd, h2, hB, h3⟩ := h
  have q2 := kp_pos h2
  refine (kopen_any (p :: Fp) hd (fun x hx => (q2 x hx).2.2) (fun x hx hm => (q2 x hm).1 hx) (.inr rep_ok)).mono ?_
  rintro e w' (⟨S', k, jq, Fd', hrp, rfl, hk, _, hf, hx, _⟩ | ⟨hno, _⟩)
  · rw [hr.recs.1] at hrp
    cases hrp
    rw [hr.recs.2] at hk
    refine ⟨k, rfl, jq, Fd', jp, op, Fp, hk, h2.keep hf (fun x hx => .inl hx) (fun x hm => hx x ?_), h3.trans hf (by simp) (fun x hx => .inr (hB x hx))⟩
    simp only [List.mem_cons] at hm ⊢
    rcases hm with h | h
    · exact .inl h
    · exact .inr (.inr h)
  · rw [hr.recs.1] at hno; cases hno
theorem pr_now1 (h : Pr w0 w k p dp room S l T m) : Calls Tryz.prog 26 #[.pointer (some ⟨k, 0, none⟩)] w fun e w' => e = .returned (.int .u64 (S.now : Nat)) ∧ w = w' := by
  obtain ⟨jq, Fd, jp, op, Fp, h1, h2, h3⟩ := h
  exact know_any h1
theorem pr_now2 (h : Pr w0 w k p dp room S l T m) : Calls Tryz.prog 26 #[.pointer (some ⟨p, 0, none⟩)] w fun e w' => e = .returned (.int .u64 (T.now : Nat)) ∧ w = w' := by
  obtain ⟨jq, Fd, jp, op, Fp, h1, h2, h3⟩ := h
  exact know_any h2
theorem pr_list1 (h : Pr w0 w k p dp room S l T m) (hM : MOk S) : Calls Tryz.prog 28 #[.pointer (some ⟨k, 0, none⟩), .string ⟨#[]⟩] w fun e w' => ∃ a' c' Y, e = .returned (.slice a' S.nodes.length c') ∧ (nds Y = S.nodes ∧ NL w' [] a' Y) ∧ Frm [] w w' := by
  obtain ⟨jq, Fd, jp, op, Fp, h1, h2, h3⟩ := h
  refine (klist_all h1 hM.good (fun x hx => (kp_pos h2 x hx).2.2)).mono ?_
  rintro e w' ⟨a', c', Y, rfl, ⟨hy, hn⟩, hf⟩
  exact ⟨a', c', Y, rfl, ⟨hy, hn.keep (S := []) (Frm.refl _ _) (by simp) (by simp)⟩, hf⟩
theorem pr_list2 (h : Pr w0 w k p dp room S l T m) (hM : MOk T) : Calls Tryz.prog 28 #[.pointer (some ⟨p, 0, none⟩), .string ⟨#[]⟩] w fun e w' => ∃ a' c' Y, e = .returned (.slice a' T.nodes.length c') ∧ (nds Y = T.nodes ∧ NL w' [] a' Y) ∧ Frm [] w w' := by
  obtain ⟨op, h⟩ := h.swap
  exact pr_list1 h hM
end
/-- Two new disks. -/
theorem pr_open1 {w0 w : World} {dp op room : Nat} (hd : Dk w dp dp [dp] [] 0 room) (ho : Dk w op op [op] [] 0 room) (hne : dp ≠ op) (hf : Frm [] w0 w) (hdB : w0.heap.size ≤ dp) (hol : op < w.heap.size) :
    Calls Tryz.prog 12 #[.pointer (some ⟨dp, 0, none⟩)] w fun e w' => ∃ k jq Fd, e = .returned (.tuple #[.pointer (some ⟨k, 0, none⟩), .int .i64 0]) ∧ Kp w' w0.heap.size [op] k jq dp Fd {} [] room ∧ Dk w' op op [op] [] 0 room ∧ Frm [] w0 w' := by
  refine (kopen_new [op] hd (by simpa using hol) (by simpa using hne)).mono ?_
  rintro e w' ⟨k, jq, Fd, rfl, hk, hf1, hx, _⟩
  exact ⟨k, jq, Fd, rfl, hk.low hdB, ho.keep hf1 (by simp; omega), hf.trans hf1 (by simp) (fun x hx => by simp at hx; subst hx; exact .inr hdB)⟩
theorem pr_open2 {w0 w : World} {k jq dp op room : Nat} {Fd : List Nat} (hk : Kp w w0.heap.size [op] k jq dp Fd {} [] room) (ho : Dk w op op [op] [] 0 room) (hf : Frm [] w0 w) (hoB : w0.heap.size ≤ op) :
    Calls Tryz.prog 12 #[.pointer (some ⟨op, 0, none⟩)] w fun e w' => ∃ p, e = .returned (.tuple #[.pointer (some ⟨p, 0, none⟩), .int .i64 0]) ∧ Pr w0 w' k p dp room {} [] {} [] := by
  have q1 := kp_pos hk
  refine (kopen_new (k :: Fd) ho (fun x hx => (q1 x hx).2.2) (fun hm => (q1 op hm).1 (by simp))).mono ?_
  rintro e w' ⟨p, jp, Fp, rfl, hp, hf1, hx, _⟩
  refine ⟨p, rfl, jq, Fd, jp, op, Fp, hk.keep hf1 (fun x hx => .inl hx) (fun x hm => ?_), hp.low hoB, hf.trans hf1 (by simp) (fun x hx => by simp at hx; subst hx; exact .inr hoB)⟩
  have := hx x (by simp only [List.mem_cons] at hm ⊢; rcases hm with h | h; exact .inl h; exact .inr (.inr h))
  rcases this with h | h
  · exact .inl (by simp [h])
  · exact .inr h
end Go.Proofs.YtbdgldlblkflpaaGreat
