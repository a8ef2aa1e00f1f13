/- Parsing, step by step: plain words. -/
import Derived.Test.YtomgiockelhfiaaGreatMX
namespace Go.Proofs.YtomgiockelhfiaaGreat
open Go.RowKit
theorem stepO {α β γ : Type} {p : β → Option (α × β)} {f : α × β → Option γ} {o o' : Option β} {v : α} (h : o.bind p = o'.map (Prod.mk v)) : o.bind (fun l => (p l).bind f) = o'.bind (fun l => f (v, l)) := by
  rw [← Option.bind_assoc, h]
  cases o' <;> rfl
theorem pXs_snoc : ∀ (i : Nat) (l : List Nat), pXs (i + 1) l = (pXs i l).bind fun a => (pX a.2).bind fun b => some (a.1 ++ [b.1], b.2)
  | 0, l => by
    show (pX l).bind (fun a => (some ([], a.2)).bind fun b => some (a.1 :: b.1, b.2)) = (pX l).bind fun b => some ([] ++ [b.1], b.2)
    rfl
  | i + 1, l => by
    show (pX l).bind (fun a => (pXs (i + 1) a.2).bind fun b => some (a.1 :: b.1, b.2)) = ((pX l).bind fun a => (pXs i a.2).bind fun b => some (a.1 :: b.1, b.2)).bind fun a => (pX a.2).bind fun b => some (a.1 ++ [b.1], b.2)
    cases pX l with
    | none => rfl
    | some a =>
      show (pXs (i + 1) a.2).bind _ = ((pXs i a.2).bind fun b => some (a.1 :: b.1, b.2)).bind _
      rw [pXs_snoc i a.2]
      cases pXs i a.2 with
      | none => rfl
      | some b =>
        show ((pX b.2).bind _).bind _ = (pX b.2).bind _
        cases pX b.2 <;> rfl
theorem pNs_snoc : ∀ (i : Nat) (l : List Nat), pNs (i + 1) l = (pNs i l).bind fun a => (pN a.2).bind fun b => some (a.1 ++ [b.1], b.2)
  | 0, l => by
    show (pN l).bind (fun a => (some ([], a.2)).bind fun b => some (a.1 :: b.1, b.2)) = (pN l).bind fun b => some ([] ++ [b.1], b.2)
    rfl
  | i + 1, l => by
    show (pN l).bind (fun a => (pNs (i + 1) a.2).bind fun b => some (a.1 :: b.1, b.2)) = ((pN l).bind fun a => (pNs i a.2).bind fun b => some (a.1 :: b.1, b.2)).bind fun a => (pN a.2).bind fun b => some (a.1 ++ [b.1], b.2)
    cases pN l with
    | none => rfl
    | some a =>
      show (pNs (i + 1) a.2).bind _ = ((pNs i a.2).bind fun b => some (a.1 :: b.1, b.2)).bind _
      rw [pNs_snoc i a.2]
      cases pNs i a.2 with
      | none => rfl
      | some b =>
        show ((pN b.2).bind _).bind _ = (pN b.2).bind _
        cases pN b.2 <;> rfl
theorem pXs_fail {o : Option (List Nat)} {i : Nat} (h : o.bind (pXs i) = none) : ∀ d, o.bind (pXs (i + d)) = none
  | 0 => h
  | d + 1 => by
    have ih := pXs_fail h d
    have e : pXs (i + (d + 1)) = fun l => (pXs (i + d) l).bind fun a => (pX a.2).bind fun b => some (a.1 ++ [b.1], b.2) := funext (pXs_snoc (i + d))
    rw [e, ← Option.bind_assoc, ih]
    rfl
theorem pNs_fail {o : Option (List Nat)} {i : Nat} (h : o.bind (pNs i) = none) : ∀ d, o.bind (pNs (i + d)) = none
  | 0 => h
  | d + 1 => by
    have ih := pNs_fail h d
    have e : pNs (i + (d + 1)) = fun l => (pNs (i + d) l).bind fun a => (pN a.2).bind fun b => some (a.1 ++ [b.1], b.2) := funext (pNs_snoc (i + d))
    rw [e, ← Option.bind_assoc, ih]
    rfl
/-- One session more. -/
theorem pXs_next {o3 o a b c : Option (List Nat)} {i n1 n2 n3 : Nat} {X : List Sn} (h : o3.bind (pXs i) = o.map (Prod.mk X)) (h1 : o.bind (pU 8) = a.map (Prod.mk n1)) (h2 : a.bind (pU 8) = b.map (Prod.mk n2)) (h3 : b.bind (pU 8) = c.map (Prod.mk n3)) : o3.bind (pXs (i + 1)) = c.map (Prod.mk (X ++ [⟨n1, n2, n3⟩])) := by
  have e : pXs (i + 1) = fun l => (pXs i l).bind fun a => (pX a.2).bind fun b => some (a.1 ++ [b.1], b.2) := funext (pXs_snoc i)
  rw [e]
  refine (stepO h).trans ?_
  have e2 : (fun l => (pX (X, l).2).bind fun b => some ((X, l).1 ++ [b.1], b.2)) = fun l => (pU 8 l).bind fun a => (pU 8 a.2).bind fun b => (pU 8 b.2).bind fun c => some (X ++ [⟨a.1, b.1, c.1⟩], c.2) := by
    funext l
    show (pX l).bind _ = _
    unfold pX
    cases pU 8 l with
    | none => rfl
    | some a =>
      show ((pU 8 a.2).bind _).bind _ = (pU 8 a.2).bind _
      cases pU 8 a.2 with
      | none => rfl
      | some b =>
        show ((pU 8 b.2).bind _).bind _ = (pU 8 b.2).bind _
        cases pU 8 b.2 <;> rfl
  rw [e2]
  refine (stepO h1).trans ?_
  dsimp only
  refine (stepO h2).trans ?_
  dsimp only
  refine (stepO h3).trans ?_
  dsimp only
  cases c <;> rfl
/-- One node more. -/
theorem pNs_next {o3 o a b c d : Option (List Nat)} {i n3 n4 : Nat} {k v : List Nat} {X : List Nd} (h : o3.bind (pNs i) = o.map (Prod.mk X)) (h1 : o.bind pB = a.map (Prod.mk k)) (h2 : a.bind pB = b.map (Prod.mk v)) (h3 : b.bind (pU 8) = c.map (Prod.mk n3)) (h4 : c.bind (pU 8) = d.map (Prod.mk n4)) : o3.bind (pNs (i + 1)) = d.map (Prod.mk (X ++ [⟨strOf k, v, n3, n4⟩])) := by
  have e : pNs (i + 1) = fun l => (pNs i l).bind fun a => (pN a.2).bind fun b => some (a.1 ++ [b.1], b.2) := funext (pNs_snoc i)
  rw [e]
  refine (stepO h).trans ?_
  have e2 : (fun l => (pN (X, l).2).bind fun b => some ((X, l).1 ++ [b.1], b.2)) = fun l => (pB l).bind fun a => (pB a.2).bind fun b => (pU 8 b.2).bind fun c => (pU 8 c.2).bind fun d => some (X ++ [⟨strOf a.1, b.1, c.1, d.1⟩], d.2) := by
    funext l
    show (pN l).bind _ = _
    unfold pN
    cases pB l with
    | none => rfl
    | some a =>
      show ((pB a.2).bind _).bind _ = (pB a.2).bind _
      cases pB a.2 with
      | none => rfl
      | some b =>
        show ((pU 8 b.2).bind _).bind _ = (pU 8 b.2).bind _
        cases pU 8 b.2 with
        | none => rfl
        | some c =>
          show ((pU 8 c.2).bind _).bind _ = (pU 8 c.2).bind _
          cases pU 8 c.2 <;> rfl
  rw [e2]
  refine (stepO h1).trans ?_
  dsimp only
  refine (stepO h2).trans ?_
  dsimp only
  refine (stepO h3).trans ?_
  dsimp only
  refine (stepO h4).trans ?_
  dsimp only
  cases d <;> rfl
/-- A state. -/
theorem pS_steps {o o1 o2 o3 oX o5 oN : Option (List Nat)} {now last m m2 : Nat} {X : List Sn} {N : List Nd} (h1 : o.bind (pU 8) = o1.map (Prod.mk now)) (h2 : o1.bind (pU 8) = o2.map (Prod.mk last)) (h3 : o2.bind (pU 2) = o3.map (Prod.mk m)) (h4 : o3.bind (pXs m) = oX.map (Prod.mk X)) (h5 : oX.bind (pU 2) = o5.map (Prod.mk m2)) (h6 : o5.bind (pNs m2) = oN.map (Prod.mk N)) :
    o.bind pS = oN.map (Prod.mk ⟨now, N, last, X⟩) := by
  have eX : o2.bind pCX = oX.map (Prod.mk X) := (stepO h3).trans h4
  have eN : oX.bind pCN = oN.map (Prod.mk N) := (stepO h5).trans h6
  unfold pS
  refine (stepO h1).trans ?_
  dsimp only
  refine (stepO h2).trans ?_
  dsimp only
  refine (stepO eX).trans ?_
  dsimp only
  refine (stepO eN).trans ?_
  dsimp only
  cases oN <;> rfl
/-- A command. -/
theorem pC_steps {o a b c d e : Option (List Nat)} {kind n3 n4 n5 : Nat} {k v : List Nat} (h1 : o.bind pB = a.map (Prod.mk k)) (h2 : a.bind pB = b.map (Prod.mk v)) (h3 : b.bind (pU 8) = c.map (Prod.mk n3)) (h4 : c.bind (pU 8) = d.map (Prod.mk n4)) (h5 : d.bind (pU 8) = e.map (Prod.mk n5)) :
    o.bind (pC kind) = e.map (Prod.mk ⟨kind, strOf k, v, n3, n4, n5⟩) := by
  unfold pC
  refine (stepO h1).trans ?_
  dsimp only
  refine (stepO h2).trans ?_
  dsimp only
  refine (stepO h3).trans ?_
  dsimp only
  refine (stepO h4).trans ?_
  dsimp only
  refine (stepO h5).trans ?_
  dsimp only
  cases e <;> rfl
end Go.Proofs.YtomgiockelhfiaaGreat
