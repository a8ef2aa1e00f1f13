/- Contract of bytes.Clone: for every slice of bytes, nil or not: a row of the call's own with the same bytes. -/
import Derived.Test.YtahhkffghhgojaaFrm
import Derived.WalkSpells
import Derived.Outline
namespace Go.Proofs.Ytahhkffghhgojaa
open Go.RowKit

theorem Try.info5 : (Try.prog.info? 5).map (fun i => (i.zero, i.size, i.bytes)) = some (some (.int .u8 0), 1, 1) := by kernel_rfl

/-- What a call hands back that makes bytes of its own: a slice value, the row that it owns from base on. -/
def Own (w w' : World) (l : List Nat) (e : Ending) : Prop :=
  ∃ a' cap', e = .returned (.slice a' l.length cap') ∧ w'.ownsRow w.heap.size 5 1 (.slice a' l.length cap') l.length (l.map u8v) ∧ Frm [] w w'

theorem clone_any (a : Option Addr) (n cap : Nat) (l : List Nat) (w : World) (hl : Bytes w a l) (hn : n = l.length) (hnil : a = none → cap = 0) (hfit : n ≤ 140737488355328) :
    Calls Try.prog 34 #[.slice a n cap] w fun e w' => Own w w' l e := by
  have hq := fun (w : World) (a : Option Addr) (n c n' c' : Nat) => Lib.run_eql_slice_nil (P := Try.prog) w 47 5 a n c n' c' Try.underlying47
  cases a with
  | none =>
    have h0 : l = [] := by
      rcases hl.2.2 with h | ⟨b, off, h, _⟩
      · exact h
      · cases h
    subst h0
    obtain rfl := hnil rfl
    subst hn
    go_enter Try.func34, Try.ntmps34
    go_wp2
    go_ret
    exact ⟨none, 0, rfl, World.ownsRow_nil _ _ _ _, Frm.refl _ _⟩
  | some x =>
    obtain ⟨i0, hi, hz0, hz1, hz2⟩ := info_parts Try.info5
    have HL := Lib.hid hl; clear hl
    have HN := Lib.hid hn; clear hn
    have HI := Lib.hid hi; clear hi
    have HZ0 := Lib.hid hz0; clear hz0
    have HZ1 := Lib.hid hz1; clear hz1
    have HZ2 := Lib.hid hz2; clear hz2
    clear hnil
    go_enter Try.func34, Try.ntmps34
    go_wp2_with (at_builtin; refine wpList_append_bytes rfl (.tmp 5) (.tmp 6) 47 rfl w.heap.size 5 i0 Try.underlying47 HI.out HZ0.out HZ1.out HZ2.out _ 0 [] rfl ?own1 _ _ _ l rfl ?b1 HN.out ?nil1 ?fit1 ?base1 ?_)
    case own1 => exact World.ownsRow_lit w #[] 0 (Nat.le_refl _) (by unfold maxLen; omega) rfl
    case b1 => exact ((Frm.refl [] w).alloc _).bytes HL.out (by simp)
    case nil1 => intro h; cases h
    case fit1 => omega
    case base1 => simp
    intro a2 cap2 w2 hown2 hg2
    have hf2 : Frm [] w w2 := ((Frm.refl [] w).alloc _).grown hg2 (fun k hk => .inr (by simp [Value.ownBlock] at hk; omega))
    clear hg2
    go_wp2
    go_ret
    have h := HN.out
    subst h
    exact ⟨a2, cap2, rfl, hown2, hf2⟩
/-- What comes of a row of the call's own. -/
theorem own_bytes {w' : World} {base : Nat} {a : Option Addr} {cap : Nat} {l : List Nat} (h : w'.ownsRow base 5 1 (.slice a l.length cap) l.length (l.map u8v)) (h8 : ∀ c ∈ l, c < 256) :
    Bytes w' a l ∧ (a = none → cap = 0) := ⟨(bytes_of_own h h8).2.1, (bytes_of_own h h8).2.2⟩
end Go.Proofs.Ytahhkffghhgojaa
