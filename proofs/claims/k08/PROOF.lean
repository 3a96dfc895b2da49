import PyProof.Rows.All
import Wide.All
import OpenK.AllK
import Wide.FinOn
import HandS.ForMost
import HandS.ForExc
import HandS.Wide
import HandS.More
import HandS.Evl
import HandS.IsInst
import HandS.TupMul
import HandS.TupLe
import HandS.TryMany
import HandS.ExcInit
import HandS.ExcField
import HandS.ExcIs
import HandS.Style
import HandS.Zip
import HandS.HotCalls
import HandS.ExcInitHot
import PySem.Challenge.RW_crossfarers_k08_mixed_numbers
set_option Elab.async false
set_option linter.all false
set_option maxRecDepth 100000
set_option maxHeartbeats 8000000

/-! Own words over the hand layer. Each operator's reading is a function of the values and the heap (so that simp runs it); how a reading is taken apart. -/
namespace XB
open PySem L2
/-! ### what stands in the heap -/
def asL : Option HO → Option (List V)
  | some (.lst xs) => some xs
  | some (.frz _ (.lst xs)) => some xs
  | _ => none
def asT : Option HO → Option (List V)
  | some (.tup xs) => some xs
  | some (.frz _ (.tup xs)) => some xs
  | _ => none
theorem asL_seq {K : PySem.W.Frag} {H : Hp} {p : Addr} {xs : List V} (h : asL (H p) = some xs) : SqL K H p xs := by
  unfold asL at h
  split at h
  · rename_i ys e; cases h; exact .inl (.inl e)
  · rename_i o ys e; cases h; exact .inl (.inr ⟨o, e⟩)
  · cases h
theorem asT_seq {K : PySem.W.Frag} {H : Hp} {p : Addr} {xs : List V} (h : asT (H p) = some xs) : SqT K H p xs := by
  unfold asT at h
  split at h
  · rename_i ys e; cases h; exact .inl (.inl e)
  · rename_i o ys e; cases h; exact .inl (.inr ⟨o, e⟩)
  · cases h
def asS (o : Option HO) : Option (List V) := match asL o with
  | some xs => some xs
  | none => asT o
theorem asS_or {o : Option HO} {xs : List V} (h : asS o = some xs) : asL o = some xs ∨ asT o = some xs := by
  unfold asS at h
  split at h
  · rename_i e; rw [← h]; exact .inl e
  · exact .inr h
def atV (xs : List V) (i : Int) (q : V → Prop) : Prop := match atI xs i with
  | some v => q v
  | none => False
/-! ### operators -/
def fAdd : R2 := fun x y H Q => match x, y with
  | .int i, .int j => Q (.int (i + j)) H
  | .str a, .str b => a.length + b.length ≤ sizeLine ∧ Q (.str (a ++ b)) H
  | .ref a, .ref b => (match H a, H b with
    | some (.lst xs), some (.lst ys) => xs.length + ys.length ≤ sizeLine ∧ ∀ p, H p = none → Q (.ref p) (upd H p (.lst (xs ++ ys)))
    | some (.tup xs), some (.tup ys) => xs ≠ [] ∧ ys ≠ [] ∧ xs.length + ys.length ≤ sizeLine ∧ ∀ p, H p = none → Q (.ref p) (upd H p (.tup (xs ++ ys)))
    | _, _ => False)
  | _, _ => False
def fSub : R2 := fun x y H Q => match x, y with
  | .int i, .int j => Q (.int (i - j)) H
  | _, _ => False
def fMul : R2 := fun x y H Q => match x, y with
  | .int i, .int j => CMul i j ∧ Q (.int (i * j)) H
  | .ref a, .int k => (match H a with
    | some (.lst xs) => (-(2 ^ 63) ≤ k ∧ k < 2 ^ 63 ∧ xs.length * k.toNat ≤ sizeLine) ∧ ∀ p, H p = none → Q (.ref p) (upd H p (.lst (List.replicate k.toNat xs).flatten))
    | _ => False)
  | _, _ => False
def fMod : R2 := fun x y H Q => match x, y with
  | .int i, .int j => 0 < j ∧ Q (.int (i % j)) H
  | _, _ => False
def fDiv : R2 := fun x y H Q => match x, y with
  | .int i, .int j => CDivW i j ∧ Q (.int (i / j)) H
  | _, _ => False
def fPow : R2 := fun x y H Q => match x, y with
  | .int i, .int j => CPow i j ∧ Q (.int (i ^ j.toNat)) H
  | _, _ => False
def fNeg : V → Hp → VK → Prop := fun x H Q => match x with
  | .int i => Q (.int (-i)) H
  | _ => False
def fCmp (f : Int → Int → Bool) : R2 := fun x y H Q => match x, y with
  | .int i, .int j => Q (.bl (f i j)) H
  | _, _ => False
abbrev fLt : R2 := fCmp fun i j => decide (i < j)
abbrev fLe : R2 := fCmp fun i j => decide (i ≤ j)
abbrev fGt : R2 := fCmp fun i j => decide (j < i)
abbrev fGe : R2 := fCmp fun i j => decide (j ≤ i)
def fEq (K : PySem.W.Frag) : R2 := fun x y H Q => match x, y with
  | .int i, .int j => Q (.bl (decide (i = j))) H
  | .bl i, .bl j => Q (.bl (decide (i = j))) H
  | .str i, .str j => Q (.bl (decide (i = j))) H
  | .ref a, .ref b => rEqD K (.ref a) (.ref b) H Q
  | x, y => scal x y = true ∧ Q (.bl (decide (x = y))) H
def fNe (K : PySem.W.Frag) : R2 := fun x y H Q => match x, y with
  | .int i, .int j => Q (.bl (!decide (i = j))) H
  | .bl i, .bl j => Q (.bl (!decide (i = j))) H
  | .str i, .str j => Q (.bl (!decide (i = j))) H
  | .ref a, .ref b => rNeD K (.ref a) (.ref b) H Q
  | x, y => scal x y = true ∧ Q (.bl (!decide (x = y))) H
def fIsN : R2 := fun x y H Q => match y with
  | .non => Q (.bl (decide (x = .non))) H
  | _ => False
def fNotN : R2 := fun x y H Q => match y with
  | .non => Q (.bl (!decide (x = .non))) H
  | _ => False
def fIsB : R2 := fun x y H Q => match x, y with
  | .bl a, .bl b => Q (.bl (decide (a = b))) H
  | _, _ => False
def fIx : R2 := fun x y H Q => match x, y with
  | .ref p, .int i => (match asS (H p) with
    | some xs => atV xs i fun v => Q v H
    | none => False)
  | .str z, .int i => z.length ≤ sizeLine ∧ ∃ c, atI z.cps.toList i = some c ∧ Q (.str ⟨#[c]⟩) H
  | _, _ => False
def fIn (K : PySem.W.Frag) : R2 := fun x y H Q => match x, y with
  | .str ⟨⟨[c]⟩⟩, .str z => Q (.bl (decide (c ∈ z.cps.toList))) H
  | x, .ref p => (match asS (H p) with
    | some xs => flatV x = true ∧ xs.all flatV = true ∧ Q (.bl (inV x xs)) H
    | none => False)
  | _, _ => False
/-! ### calls of what is built in -/
abbrev RL := List V → Hp → VK → Prop
def fInt : RL := fun xs H Q => match xs with
  | [.int i] => Q (.int i) H
  | [.bl k] => Q (.int (if k then 1 else 0)) H
  | _ => False
def fLen : RL := fun xs H Q => match xs with
  | [.str z] => z.length ≤ sizeLine ∧ Q (.int (z.length : Nat)) H
  | [.ref p] => (match asS (H p) with
    | some ys => Q (.int (ys.length : Nat)) H
    | none => False)
  | _ => False
def fMax : RL := fun xs H Q => match xs with
  | [.int i, .int j] => Q (.int (max i j)) H
  | _ => False
def fMin : RL := fun xs H Q => match xs with
  | [.int i, .int j] => Q (.int (min i j)) H
  | _ => False
def fAbs : RL := fun xs H Q => match xs with
  | [.int i] => Q (.int (if i < 0 then -i else i)) H
  | _ => False
def fList : RL := fun xs H Q => match xs with
  | [.ref p] => (match asS (H p) with
    | some ys => ∀ l, H l = none → Q (.ref l) (upd H l (.lst ys))
    | none => False)
  | _ => False
def fTuple : RL := fun xs H Q => match xs with
  | [.ref p] => (match asL (H p) with
    | some ys => ∀ l, H l = none → Q (.ref l) (upd H l (.tup ys))
    | none => False)
  | _ => False
def fAll : RL := fun xs H Q => match xs with
  | [.ref p] => (match asL (H p) with
    | some ys => ∃ bs : List Bool, ys = bs.map V.bl ∧ Q (.bl (bs.all id)) H
    | none => False)
  | _ => False
def fSum : RL := fun xs H Q => match xs with
  | [.ref p] => (match asL (H p) with
    | some ys => ∃ ns : List Int, ys = ns.map V.int ∧ Q (.int ns.sum) H
    | none => False)
  | _ => False
/-- the built-in class of a value -/
def tyN (x : V) (H : Hp) : Option String := match x with
  | .non => some "NoneType"
  | .bl _ => some "bool"
  | .int _ => some "int"
  | .str _ => some "str"
  | .ref p => (match H p with
    | some (.lst _) => some "list"
    | some (.frz _ (.lst _)) => some "list"
    | some (.tup _) => some "tuple"
    | some (.frz _ (.tup _)) => some "tuple"
    | some (.dK _) => some "dict"
    | some (.dT _) => some "dict"
    | some (.frz _ (.dK _)) => some "dict"
    | _ => none)
  | _ => none
theorem tyN_x {K : PySem.W.Frag} {x : V} {H : Hp} {t : String} (h : tyN x H = some t) : TyX K H x (.type t) := by
  unfold tyN at h
  split at h
  · cases h; exact .base .non
  · cases h; exact .base (.bl _)
  · cases h; exact .base (.int _)
  · cases h; exact .base (.str _)
  · split at h
    · rename_i e; cases h; exact .base (.lst e)
    · rename_i e; cases h; exact .base (.frz e)
    · rename_i e; cases h; exact .base (.tup e)
    · rename_i e; cases h; exact .fTuple e
    · rename_i e; cases h; exact .base (.dK e)
    · rename_i e; cases h; exact .base (.dT e)
    · rename_i e; cases h; exact .fDict e
    · cases h
  · cases h
def tys : List V → Option (List String)
  | [] => some []
  | .ty c :: r => (tys r).map (c :: ·)
  | _ => none
def kitS (t : String) : List String → Option Bool
  | [] => some false
  | c :: r => (match kitB t c with
    | some true => some true
    | some false => kitS t r
    | none => none)
theorem kitS_any {K : PySem.W.Frag} {t : String} : ∀ {ns : List String} {b : Bool}, kitS t ns = some b → PySem.W.kitAny K (.type t) (ns.map Value.type) = some b
  | [], b, h => h
  | c :: r, b, h => by
    unfold kitS at h
    split at h
    · rename_i e
      exact kitAny_cons (kit_ty e) (fun z => by cases z) (fun _ => by cases h; rfl)
    · rename_i e
      exact kitAny_cons (kit_ty e) (fun _ => kitS_any h) (fun z => by cases z)
    · cases h
theorem tys_pair : ∀ {cs : List V} {ns : List String}, tys cs = some ns → Paired ClsV cs (ns.map Value.type)
  | [], ns, h => by cases h; exact .nil
  | .ty c :: r, ns, h => by
    unfold tys at h
    cases e : tys r with
    | none => rw [e] at h; cases h
    | some m => rw [e] at h; cases h; exact .cons (.ty c) (tys_pair e)
  | .non :: _, _, h => by cases h
  | .bl _ :: _, _, h => by cases h
  | .int _ :: _, _, h => by cases h
  | .str _ :: _, _, h => by cases h
  | .byt _ :: _, _, h => by cases h
  | .flt _ :: _, _, h => by cases h
  | .ref _ :: _, _, h => by cases h
def fIsi : RL := fun xs H Q => match xs with
  | [x, .ty c] => (match tyN x H with
    | some t => (match kitB t c with
      | some b => Q (.bl b) H
      | none => False)
    | none => False)
  | _ => False
def fIsiT : RL := fun xs H Q => match xs with
  | [x, .ref tp] => (match tyN x H, H tp with
    | some t, some (.tup cs) => (match tys cs with
      | some ns => (match kitS t ns with
        | some b => Q (.bl b) H
        | none => False)
      | none => False)
    | _, _ => False)
  | _ => False
/-! ### methods, slices, stores, targets -/
abbrev RM := V → List V → Hp → VK → Prop
def fAppend : RM := fun x vs H Q => match x, vs with
  | .ref l, [y] => (match H l with
    | some (.lst xs) => xs.length < sizeLine ∧ Q .non (upd H l (.lst (xs ++ [y])))
    | _ => False)
  | _, _ => False
def fInsert : RM := fun x vs H Q => match x, vs with
  | .ref l, [.int i, y] => (match H l with
    | some (.lst xs) => (xs.length < sizeLine ∧ 0 ≤ i ∧ i < 2 ^ 63) ∧ Q .non (upd H l (.lst (xs.take i.toNat ++ [y] ++ xs.drop i.toNat)))
    | _ => False)
  | _, _ => False
def fPop : RM := fun x vs H Q => match x, vs with
  | .ref l, [] => (match H l with
    | some (.lst xs) => (match xs[xs.length - 1]? with
      | some y => Q y (upd H l (.lst xs.dropLast))
      | none => False)
    | _ => False)
  | _, _ => False
def fSl : V → Option Int → Option Int → Hp → VK → Prop := fun x lo hi H Q => match x with
  | .ref p => (match asL (H p) with
    | some xs => ∀ q, H q = none → Q (.ref q) (upd H q (.lst (cutV xs lo hi)))
    | none => (match asT (H p) with
      | some xs => ¬ (HT.sIx xs.length 0 lo = 0 ∧ HT.sIx xs.length xs.length hi = xs.length) ∧ ∀ q, H q = none → Q (.ref q) (upd H q (.tup (cutV xs lo hi)))
      | none => False))
  | _ => False
def fSet : V → V → V → Hp → (Hp → Prop) → Prop := fun o i v H Q => match o, i with
  | .ref p, .int k => (match H p with
    | some (.lst xs) => (match ixN xs.length k with
      | some j => Q (upd H p (.lst (xs.set j v)))
      | none => False)
    | _ => False)
  | _, _ => False
def gTupF (n : Nat) (t : TGs) : TG := fun v σ H Q => match v with
  | .ref a => (match asT (H a) with
    | some xs => xs.length = n ∧ t xs σ H Q
    | none => False)
  | _ => False
def tBMF (T : String) (r : RM) (to : TE) (t : TA) : TE := fun σ H Q => to σ H fun x H1 => tyN x H1 = some T ∧ t σ H1 fun xs H2 => r x xs H2 Q
def tBM0F (T : String) (r : RM) (to : TE) : TE := fun σ H Q => to σ H fun x H1 => tyN x H1 = some T ∧ r x [] H1 Q
def tRevF (te : TE) : TE := fun σ H Q => te σ H fun x H1 => match x with
  | .ref a => (match asL (H1 a) with
    | some xs => ∀ p, H1 p = none → Q (.ref p) (upd H1 p (.lst xs.reverse))
    | none => False)
  | _ => False
theorem ty_of_list {K : PySem.W.Frag} {x : V} {H : Hp} (h : tyN x H = some "list") : tyV K "list" x H := by
  unfold tyN at h
  split at h
  · exact absurd (Option.some.inj h) (by decide)
  · exact absurd (Option.some.inj h) (by decide)
  · exact absurd (Option.some.inj h) (by decide)
  · exact absurd (Option.some.inj h) (by decide)
  · split at h
    · rename_i e; exact .inl ⟨rfl, _, .inl (.inl e)⟩
    · rename_i o xs e; exact .inl ⟨rfl, _, .inl (.inr ⟨o, e⟩)⟩
    · exact absurd (Option.some.inj h) (by decide)
    · exact absurd (Option.some.inj h) (by decide)
    · exact absurd (Option.some.inj h) (by decide)
    · exact absurd (Option.some.inj h) (by decide)
    · exact absurd (Option.some.inj h) (by decide)
    · cases h
  · cases h
theorem bm_var {K : PySem.W.Frag} {r : RM} {n : Nat} {t : TA} : ∀ σ H Q, tBMF "list" r (tVar n) t σ H Q → tBM K "list" r (tVar n) t σ H Q := fun σ H Q ⟨v, e, h1, h2⟩ => ⟨v, e, ty_of_list h1, h2⟩
theorem bm0_var {K : PySem.W.Frag} {r : RM} {n : Nat} : ∀ σ H Q, tBM0F "list" r (tVar n) σ H Q → tBM0 K "list" r (tVar n) σ H Q := fun σ H Q ⟨v, e, h1, h2⟩ => ⟨v, e, ty_of_list h1, h2⟩
theorem rev_var {K : PySem.W.Frag} {n : Nat} : ∀ σ H Q, tRevF (tVar n) σ H Q → tRevL K (tVar n) σ H Q := fun σ H Q ⟨v, e, h⟩ => by
  refine ⟨v, e, ?_⟩
  dsimp only at h ⊢
  split at h
  · split at h
    · rename_i e2
      exact ⟨_, _, rfl, asL_seq e2, h⟩
    · exact h.elim
  · exact h.elim
section
variable {X : Cx}
theorem op_imp {f : Value → Value → Sem Value} {r r' : R2} (h : OpR X f r) (k : ∀ x y H Q, r' x y H Q → r x y H Q) : OpR X f r' :=
  fun pins s σ H x y v u Q I rx ry q => h pins s σ H x y v u Q I rx ry (k x y H Q q)
theorem un_imp {f : Value → Sem Value} {r r' : V → Hp → VK → Prop} (h : UnR X f r) (k : ∀ x H Q, r' x H Q → r x H Q) : UnR X f r' :=
  fun pins s σ H x v Q I rx q => h pins s σ H x v Q I rx (k x H Q q)
theorem call_imp {f : Value} {r r' : RL} (h : CallR X f r) (k : ∀ xs H Q, r' xs H Q → r xs H Q) : CallR X f r' :=
  fun pins s σ H xs us Q I rs q => h pins s σ H xs us Q I rs (k xs H Q q)
theorem mt_imp {id : String} {r r' : RM} (h : MtR X id r) (k : ∀ x xs H Q, r' x xs H Q → r x xs H Q) : MtR X id r' :=
  fun pins s σ H x xs v us Q I rx rs q => h pins s σ H x xs v us Q I rx rs (k x xs H Q q)
theorem ix_imp {r r' : R2} (h : IxR X r) (k : ∀ x y H Q, r' x y H Q → r x y H Q) : IxR X r' :=
  fun value slice pins s σ H x y v u Q I rx ry q hs => h value slice pins s σ H x y v u Q I rx ry (k x y H Q q) hs
theorem op_addF : OpR X (binaryOp .Add) fAdd := op_imp (op_add.or (op_cat.or (op_catT.or op_add_str))) fun x y H Q h => by
  unfold fAdd at h
  split at h
  · exact .inl ⟨_, _, rfl, rfl, h⟩
  · exact .inr (.inr (.inr ⟨_, _, rfl, rfl, h.1, h.2⟩))
  · split at h
    · rename_i e1 e2
      exact .inr (.inl ⟨_, _, _, _, rfl, rfl, e1, e2, h.1, h.2⟩)
    · rename_i e1 e2
      exact .inr (.inr (.inl ⟨_, _, _, _, rfl, rfl, .inl (.inl e1), .inl (.inl e2), h.1, h.2.2.1, fun z => absurd z h.2.1, fun _ => h.2.2.2⟩))
    · exact h.elim
  · exact h.elim
theorem op_subF : OpR X (binaryOp .Sub) fSub := op_imp op_sub fun x y H Q h => by
  unfold fSub at h
  split at h
  · exact ⟨_, _, rfl, rfl, h⟩
  · exact h.elim
theorem op_mulF : OpR X (binaryOp .Mult) fMul := op_imp (op_mul.or op_rep) fun x y H Q h => by
  unfold fMul at h
  split at h
  · exact .inl ⟨_, _, rfl, rfl, h.1, h.2⟩
  · split at h
    · rename_i e
      exact .inr ⟨_, _, _, rfl, rfl, e, h.1.1, h.1.2.1, h.1.2.2, h.2⟩
    · exact h.elim
  · exact h.elim
theorem op_modF : OpR X (binaryOp .Mod) fMod := op_imp op_mod fun x y H Q h => by
  unfold fMod at h
  split at h
  · exact ⟨_, _, rfl, rfl, h.1, h.2⟩
  · exact h.elim
theorem op_divF : OpR X (binaryOp .FloorDiv) fDiv := op_imp op_fdivW fun x y H Q h => by
  unfold fDiv at h
  split at h
  · exact ⟨_, _, rfl, rfl, h.1, h.2⟩
  · exact h.elim
theorem op_powF : OpR X (binaryOp .Pow) fPow := op_imp op_pow fun x y H Q h => by
  unfold fPow at h
  split at h
  · exact ⟨_, _, rfl, rfl, h.1, h.2⟩
  · exact h.elim
theorem un_negF : UnR X (unaryOp .USub) fNeg := un_imp un_neg fun x H Q h => by
  unfold fNeg at h
  split at h
  · exact ⟨_, rfl, h⟩
  · exact h.elim
theorem cmp_back {f : Int → Int → Bool} {x y : V} {H : Hp} {Q : VK} (h : fCmp f x y H Q) : rI0 (fun i j => .bl (f i j)) x y H Q := by
  unfold fCmp at h
  split at h
  · exact ⟨_, _, rfl, rfl, h⟩
  · exact h.elim
theorem op_ltF : OpR X (compareOp .Lt) fLt := op_imp op_lt fun _ _ _ _ h => cmp_back h
theorem op_leF : OpR X (compareOp .LtE) fLe := op_imp op_le fun _ _ _ _ h => cmp_back h
theorem op_gtF : OpR X (compareOp .Gt) fGt := op_imp op_gt fun _ _ _ _ h => cmp_back h
theorem op_geF : OpR X (compareOp .GtE) fGe := op_imp op_ge fun _ _ _ _ h => cmp_back h
theorem op_eqF (hu : X.A.units + 64 < cLine) : OpR X (compareOp .Eq) (fEq X.K) := op_imp (op_eq.or (op_eqD hu)) fun x y H Q h => by
  unfold fEq at h
  split at h
  · rename_i i j
    exact .inl ⟨rfl, by have e : decide (V.int i = V.int j) = decide (i = j) := by simp
                        rw [e]; exact h⟩
  · rename_i i j
    exact .inl ⟨rfl, by have e : decide (V.bl i = V.bl j) = decide (i = j) := by simp
                        rw [e]; exact h⟩
  · rename_i i j
    exact .inl ⟨rfl, by have e : decide (V.str i = V.str j) = decide (i = j) := by simp
                        rw [e]; exact h⟩
  · exact .inr h
  · exact .inl h
theorem op_neF (hu : X.A.units + 64 < cLine) : OpR X (compareOp .NotEq) (fNe X.K) := op_imp (op_ne.or (op_neD hu)) fun x y H Q h => by
  unfold fNe at h
  split at h
  · rename_i i j
    exact .inl ⟨rfl, by have e : decide (V.int i = V.int j) = decide (i = j) := by simp
                        rw [e]; exact h⟩
  · rename_i i j
    exact .inl ⟨rfl, by have e : decide (V.bl i = V.bl j) = decide (i = j) := by simp
                        rw [e]; exact h⟩
  · rename_i i j
    exact .inl ⟨rfl, by have e : decide (V.str i = V.str j) = decide (i = j) := by simp
                        rw [e]; exact h⟩
  · exact .inr h
  · exact .inl h
theorem op_isNF : OpR X (compareOp .Is) fIsN := op_imp op_isN fun x y H Q h => by
  unfold fIsN at h
  split at h
  · exact ⟨rfl, h⟩
  · exact h.elim
theorem op_notNF : OpR X (compareOp .IsNot) fNotN := op_imp op_notN fun x y H Q h => by
  unfold fNotN at h
  split at h
  · exact ⟨rfl, h⟩
  · exact h.elim
theorem op_isBF : OpR X (compareOp .Is) fIsB := op_imp op_is_bl fun x y H Q h => by
  unfold fIsB at h
  split at h
  · exact ⟨_, _, rfl, rfl, h⟩
  · exact h.elim
theorem ix_F : IxR X fIx := ix_imp ix_seq fun x y H Q h => by
  unfold fIx at h
  split at h
  · split at h
    · rename_i e
      unfold atV at h
      split at h
      · rename_i e2
        rcases asS_or e with e | e
        · exact .inl ⟨_, _, _, _, rfl, rfl, asL_seq e, e2, h⟩
        · exact .inr (.inl ⟨_, _, _, _, rfl, rfl, asT_seq e, e2, h⟩)
      · exact h.elim
    · exact h.elim
  · obtain ⟨h1, c, h2, h3⟩ := h
    exact .inr (.inr ⟨_, _, _, rfl, rfl, h1, h2, h3⟩)
  · exact h.elim
theorem op_inF : OpR X (compareOp .In) (fIn X.K) := op_imp (op_in_seq.or op_in_sign) fun x y H Q h => by
  unfold fIn at h
  split at h
  · exact .inr ⟨_, _, rfl, rfl, h⟩
  · split at h
    · rename_i e
      obtain ⟨h1, h2, h3⟩ := h
      exact .inl ⟨_, _, rfl, (asS_or e).elim (fun e => .inl (asL_seq e)) (fun e => .inr (asT_seq e)), h1, h2, h3⟩
    · exact h.elim
  · exact h.elim
theorem c_int : CallR X (.type "int") fInt := call_imp call_int1 fun xs H Q h => by
  unfold fInt at h
  split at h
  · exact .inl ⟨_, rfl, h⟩
  · exact .inr ⟨_, rfl, h⟩
  · exact h.elim
theorem c_len : CallR X (.builtin "len") fLen := call_imp call_len fun xs H Q h => by
  unfold fLen at h
  split at h
  · exact ⟨_, _, rfl, ⟨h.1, rfl⟩, h.2⟩
  · split at h
    · rename_i p _ ys e
      exact ⟨.ref p, _, rfl, (asS_or e).elim (fun e => .inl ⟨_, asL_seq e, rfl⟩) (fun e => .inr ⟨_, asT_seq e, rfl⟩), h⟩
    · exact h.elim
  · exact h.elim
theorem c_max (hc : X.calm = true) : CallR X (.builtin "max") fMax := call_imp (call_max2 hc) fun xs H Q h => by
  unfold fMax at h
  split at h
  · rename_i i j
    refine ⟨i, j, rfl, ?_⟩
    have e : (if j > i then j else i) = max i j := by
      split <;> omega
    rw [e]
    exact h
  · exact h.elim
theorem c_min (hc : X.calm = true) : CallR X (.builtin "min") fMin := call_imp (call_min2 hc) fun xs H Q h => by
  unfold fMin at h
  split at h
  · rename_i i j
    refine ⟨i, j, rfl, ?_⟩
    have e : (if j < i then j else i) = min i j := by
      split <;> omega
    rw [e]
    exact h
  · exact h.elim
theorem c_abs : CallR X (.builtin "abs") fAbs := call_imp call_abs fun xs H Q h => by
  unfold fAbs at h
  split at h
  · exact ⟨_, rfl, h⟩
  · exact h.elim
theorem c_list : CallR X (.type "list") fList := call_imp call_list_of fun xs H Q h => by
  unfold fList at h
  split at h
  · split at h
    · rename_i e
      exact ⟨_, _, rfl, (asS_or e).elim (fun e => .inl (asL_seq e)) (fun e => .inr (asT_seq e)), h⟩
    · exact h.elim
  · exact h.elim
theorem c_tuple : CallR X (.type "tuple") fTuple := call_imp call_tuple_of fun xs H Q h => by
  unfold fTuple at h
  split at h
  · split at h
    · rename_i e
      exact ⟨_, _, rfl, .inl ⟨asL_seq e, h⟩⟩
    · exact h.elim
  · exact h.elim
theorem c_all (hc : X.calm = true) : CallR X (.builtin "all") fAll := call_imp (cr_all hc) fun xs H Q h => by
  unfold fAll at h
  split at h
  · split at h
    · rename_i e
      obtain ⟨bs, rfl, q⟩ := h
      exact ⟨_, bs, rfl, asL_seq e, q⟩
    · exact h.elim
  · exact h.elim
theorem c_sum (hc : X.calm = true) : CallR X (.builtin "sum") fSum := call_imp (cr_sum hc) fun xs H Q h => by
  unfold fSum at h
  split at h
  · split at h
    · rename_i e
      obtain ⟨bs, rfl, q⟩ := h
      exact ⟨_, bs, rfl, asL_seq e, q⟩
    · exact h.elim
  · exact h.elim
theorem c_isi : CallR X (.builtin "isinstance") fIsi := call_imp call_isi fun xs H Q h => by
  unfold fIsi at h
  split at h
  · split at h
    · rename_i t e
      split at h
      · rename_i b e2
        exact ⟨_, _, _, _, b, rfl, .ty _, tyN_x e, kit_ty e2, h⟩
      · exact h.elim
    · exact h.elim
  · exact h.elim
theorem c_isiT : CallR X (.builtin "isinstance") fIsiT := call_imp call_isiT fun xs H Q h => by
  unfold fIsiT at h
  split at h
  · split at h
    · rename_i e1 e2
      split at h
      · rename_i e3
        split at h
        · rename_i b e4
          exact ⟨_, _, _, _, _, b, rfl, e2, tys_pair e3, tyN_x e1, kitS_any e4, h⟩
        · exact h.elim
      · exact h.elim
    · exact h.elim
  · exact h.elim
theorem m_append : MtR X "list.append" fAppend := mt_imp mt_append fun x xs H Q h => by
  unfold fAppend at h
  split at h
  · split at h
    · rename_i e
      exact ⟨_, _, _, rfl, rfl, e, h.1, h.2⟩
    · exact h.elim
  · exact h.elim
theorem m_insert : MtR X "list.insert" fInsert := mt_imp mt_insert fun x xs H Q h => by
  unfold fInsert at h
  split at h
  · split at h
    · rename_i e
      exact ⟨_, _, _, _, rfl, rfl, e, h.1.1, h.1.2.1, h.1.2.2, h.2⟩
    · exact h.elim
  · exact h.elim
theorem m_pop : MtR X "list.pop" fPop := mt_imp mt_pop fun x xs H Q h => by
  unfold fPop at h
  split at h
  · split at h
    · rename_i e
      split at h
      · rename_i e2
        exact ⟨_, _, _, rfl, rfl, e, e2, h⟩
      · exact h.elim
    · exact h.elim
  · exact h.elim
theorem sl_F : SlR X fSl := fun pins s σ H x v vl vu lo hi sl Q I rx hs pl pu h => by
  refine (sl_list.or sl_tup) pins s σ H x v vl vu lo hi sl Q I rx hs pl pu ?_
  unfold fSl at h
  split at h
  · split at h
    · rename_i e
      exact .inl ⟨_, _, rfl, asL_seq e, h⟩
    · split at h
      · rename_i e
        exact .inr ⟨_, _, rfl, asT_seq e, h.1, h.2⟩
      · exact h.elim
  · exact h.elim
theorem set_F : PSet X fSet := fun pins s σ H o i v ov iv u Q I ro ri rv h => by
  refine set_list pins s σ H o i v ov iv u Q I ro ri rv ?_
  unfold fSet at h
  split at h
  · split at h
    · rename_i e
      split at h
      · rename_i e2
        exact ⟨_, _, _, _, rfl, rfl, e, e2, h⟩
      · exact h.elim
    · exact h.elim
  · exact h.elim
theorem pg_tupF {es : List Expr} {k : Nat} {t : TGs} {n : Nat} {pos : Pos} (hc : X.calm = true) (h : PGs X es t)
    (hn : (assignEach es X.env).length = n := by rfl) (hst : (assignEach es X.env).findIdx? (·.1) = none := by rfl) : PG X (.Tuple es k pos) (gTupF n t) := by
  refine ⟨fun pins s σ H v u Q I r hw => (pg_tup hc h hn hst).run pins s σ H v u Q I r ?_⟩
  unfold gTupF at hw
  split at hw
  · split at hw
    · rename_i e
      exact ⟨_, _, rfl, asT_seq e, hw.1, hw.2⟩
    · exact hw.elim
  · exact hw.elim
theorem pe_imp {e : Expr} {t t' : TE} (h : PE X e t) (k : ∀ σ H Q, t' σ H Q → t σ H Q) : PE X e t' := ⟨fun pins s σ H Q I q => h.run pins s σ H Q I (k σ H Q q)⟩
end
/-! ### all that a reading's part does is bear a weaker wish -/
def MonE (t : TE) : Prop := ∀ σ H (Q Q' : VK), (∀ v H', Q v H' → Q' v H') → t σ H Q → t σ H Q'
theorem kit_table : kitB "NoneType" "int" = some false ∧ kitB "NoneType" "bool" = some false ∧ kitB "NoneType" "str" = some false ∧ kitB "NoneType" "list" = some false ∧ kitB "NoneType" "tuple" = some false ∧ kitB "NoneType" "dict" = some false ∧ kitB "int" "int" = some true ∧ kitB "int" "bool" = some false ∧ kitB "int" "str" = some false ∧ kitB "int" "list" = some false ∧ kitB "int" "tuple" = some false ∧ kitB "int" "dict" = some false ∧ kitB "bool" "int" = some true ∧ kitB "bool" "bool" = some true ∧ kitB "bool" "str" = some false ∧ kitB "bool" "list" = some false ∧ kitB "bool" "tuple" = some false ∧ kitB "bool" "dict" = some false ∧ kitB "str" "int" = some false ∧ kitB "str" "bool" = some false ∧ kitB "str" "str" = some true ∧ kitB "str" "list" = some false ∧ kitB "str" "tuple" = some false ∧ kitB "str" "dict" = some false ∧ kitB "list" "int" = some false ∧ kitB "list" "bool" = some false ∧ kitB "list" "str" = some false ∧ kitB "list" "list" = some true ∧ kitB "list" "tuple" = some false ∧ kitB "list" "dict" = some false ∧ kitB "tuple" "int" = some false ∧ kitB "tuple" "bool" = some false ∧ kitB "tuple" "str" = some false ∧ kitB "tuple" "list" = some false ∧ kitB "tuple" "tuple" = some true ∧ kitB "tuple" "dict" = some false ∧ kitB "dict" "int" = some false ∧ kitB "dict" "bool" = some false ∧ kitB "dict" "str" = some false ∧ kitB "dict" "list" = some false ∧ kitB "dict" "tuple" = some false ∧ kitB "dict" "dict" = some true := by decide +kernel
theorem kt_NoneType_int : kitB "NoneType" "int" = some false := kit_table.1
theorem kt_NoneType_bool : kitB "NoneType" "bool" = some false := kit_table.2.1
theorem kt_NoneType_str : kitB "NoneType" "str" = some false := kit_table.2.2.1
theorem kt_NoneType_list : kitB "NoneType" "list" = some false := kit_table.2.2.2.1
theorem kt_NoneType_tuple : kitB "NoneType" "tuple" = some false := kit_table.2.2.2.2.1
theorem kt_NoneType_dict : kitB "NoneType" "dict" = some false := kit_table.2.2.2.2.2.1
theorem kt_int_int : kitB "int" "int" = some true := kit_table.2.2.2.2.2.2.1
theorem kt_int_bool : kitB "int" "bool" = some false := kit_table.2.2.2.2.2.2.2.1
theorem kt_int_str : kitB "int" "str" = some false := kit_table.2.2.2.2.2.2.2.2.1
theorem kt_int_list : kitB "int" "list" = some false := kit_table.2.2.2.2.2.2.2.2.2.1
theorem kt_int_tuple : kitB "int" "tuple" = some false := kit_table.2.2.2.2.2.2.2.2.2.2.1
theorem kt_int_dict : kitB "int" "dict" = some false := kit_table.2.2.2.2.2.2.2.2.2.2.2.1
theorem kt_bool_int : kitB "bool" "int" = some true := kit_table.2.2.2.2.2.2.2.2.2.2.2.2.1
theorem kt_bool_bool : kitB "bool" "bool" = some true := kit_table.2.2.2.2.2.2.2.2.2.2.2.2.2.1
theorem kt_bool_str : kitB "bool" "str" = some false := kit_table.2.2.2.2.2.2.2.2.2.2.2.2.2.2.1
theorem kt_bool_list : kitB "bool" "list" = some false := kit_table.2.2.2.2.2.2.2.2.2.2.2.2.2.2.2.1
theorem kt_bool_tuple : kitB "bool" "tuple" = some false := kit_table.2.2.2.2.2.2.2.2.2.2.2.2.2.2.2.2.1
theorem kt_bool_dict : kitB "bool" "dict" = some false := kit_table.2.2.2.2.2.2.2.2.2.2.2.2.2.2.2.2.2.1
theorem kt_str_int : kitB "str" "int" = some false := kit_table.2.2.2.2.2.2.2.2.2.2.2.2.2.2.2.2.2.2.1
theorem kt_str_bool : kitB "str" "bool" = some false := kit_table.2.2.2.2.2.2.2.2.2.2.2.2.2.2.2.2.2.2.2.1
theorem kt_str_str : kitB "str" "str" = some true := kit_table.2.2.2.2.2.2.2.2.2.2.2.2.2.2.2.2.2.2.2.2.1
theorem kt_str_list : kitB "str" "list" = some false := kit_table.2.2.2.2.2.2.2.2.2.2.2.2.2.2.2.2.2.2.2.2.2.1
theorem kt_str_tuple : kitB "str" "tuple" = some false := kit_table.2.2.2.2.2.2.2.2.2.2.2.2.2.2.2.2.2.2.2.2.2.2.1
theorem kt_str_dict : kitB "str" "dict" = some false := kit_table.2.2.2.2.2.2.2.2.2.2.2.2.2.2.2.2.2.2.2.2.2.2.2.1
theorem kt_list_int : kitB "list" "int" = some false := kit_table.2.2.2.2.2.2.2.2.2.2.2.2.2.2.2.2.2.2.2.2.2.2.2.2.1
theorem kt_list_bool : kitB "list" "bool" = some false := kit_table.2.2.2.2.2.2.2.2.2.2.2.2.2.2.2.2.2.2.2.2.2.2.2.2.2.1
theorem kt_list_str : kitB "list" "str" = some false := kit_table.2.2.2.2.2.2.2.2.2.2.2.2.2.2.2.2.2.2.2.2.2.2.2.2.2.2.1
theorem kt_list_list : kitB "list" "list" = some true := kit_table.2.2.2.2.2.2.2.2.2.2.2.2.2.2.2.2.2.2.2.2.2.2.2.2.2.2.2.1
theorem kt_list_tuple : kitB "list" "tuple" = some false := kit_table.2.2.2.2.2.2.2.2.2.2.2.2.2.2.2.2.2.2.2.2.2.2.2.2.2.2.2.2.1
theorem kt_list_dict : kitB "list" "dict" = some false := kit_table.2.2.2.2.2.2.2.2.2.2.2.2.2.2.2.2.2.2.2.2.2.2.2.2.2.2.2.2.2.1
theorem kt_tuple_int : kitB "tuple" "int" = some false := kit_table.2.2.2.2.2.2.2.2.2.2.2.2.2.2.2.2.2.2.2.2.2.2.2.2.2.2.2.2.2.2.1
theorem kt_tuple_bool : kitB "tuple" "bool" = some false := kit_table.2.2.2.2.2.2.2.2.2.2.2.2.2.2.2.2.2.2.2.2.2.2.2.2.2.2.2.2.2.2.2.1
theorem kt_tuple_str : kitB "tuple" "str" = some false := kit_table.2.2.2.2.2.2.2.2.2.2.2.2.2.2.2.2.2.2.2.2.2.2.2.2.2.2.2.2.2.2.2.2.1
theorem kt_tuple_list : kitB "tuple" "list" = some false := kit_table.2.2.2.2.2.2.2.2.2.2.2.2.2.2.2.2.2.2.2.2.2.2.2.2.2.2.2.2.2.2.2.2.2.1
theorem kt_tuple_tuple : kitB "tuple" "tuple" = some true := kit_table.2.2.2.2.2.2.2.2.2.2.2.2.2.2.2.2.2.2.2.2.2.2.2.2.2.2.2.2.2.2.2.2.2.2.1
theorem kt_tuple_dict : kitB "tuple" "dict" = some false := kit_table.2.2.2.2.2.2.2.2.2.2.2.2.2.2.2.2.2.2.2.2.2.2.2.2.2.2.2.2.2.2.2.2.2.2.2.1
theorem kt_dict_int : kitB "dict" "int" = some false := kit_table.2.2.2.2.2.2.2.2.2.2.2.2.2.2.2.2.2.2.2.2.2.2.2.2.2.2.2.2.2.2.2.2.2.2.2.2.1
theorem kt_dict_bool : kitB "dict" "bool" = some false := kit_table.2.2.2.2.2.2.2.2.2.2.2.2.2.2.2.2.2.2.2.2.2.2.2.2.2.2.2.2.2.2.2.2.2.2.2.2.2.1
theorem kt_dict_str : kitB "dict" "str" = some false := kit_table.2.2.2.2.2.2.2.2.2.2.2.2.2.2.2.2.2.2.2.2.2.2.2.2.2.2.2.2.2.2.2.2.2.2.2.2.2.2.1
theorem kt_dict_list : kitB "dict" "list" = some false := kit_table.2.2.2.2.2.2.2.2.2.2.2.2.2.2.2.2.2.2.2.2.2.2.2.2.2.2.2.2.2.2.2.2.2.2.2.2.2.2.2.1
theorem kt_dict_tuple : kitB "dict" "tuple" = some false := kit_table.2.2.2.2.2.2.2.2.2.2.2.2.2.2.2.2.2.2.2.2.2.2.2.2.2.2.2.2.2.2.2.2.2.2.2.2.2.2.2.2.1
theorem kt_dict_dict : kitB "dict" "dict" = some true := kit_table.2.2.2.2.2.2.2.2.2.2.2.2.2.2.2.2.2.2.2.2.2.2.2.2.2.2.2.2.2.2.2.2.2.2.2.2.2.2.2.2.2
end XB

/-! How a reading is taken apart: each row fires where the reading stands with all that it wants. -/
namespace XB
open PySem L2
/-- a loop that has its iterator -/
def Loop (J : It) (g : TG) (tb : TS) (D : Ends) (σ : L2.St) (H : Hp) : Prop := ∃ W : Nat → Nat → L2.St → Hp → Prop, (∃ m, W 0 m σ H) ∧ ∀ i m σ H, W i m σ H →
  (J.stop i H ∧ D.nx σ H) ∨ (J.go i H ∧ ∃ N : L2.St → Hp → Prop, (∀ σ' H', N σ' H' → ∃ m', m' < m ∧ W (i + 1) m' σ' H') ∧ ∀ x H', J.yld i H x H' → g x σ H' fun σ2 H2 => tb { D with nx := N, ct := N, bk := D.nx } σ2 H2)
/-- a comprehension that has its iterator and its new list at D -/
def Made (J : It) (g : TG) (tt : TT) (te : TE) (vs : List Nat) (σ : L2.St) (D : Addr) (H1 : Hp) (Qd : Hp → Prop) : Prop := ∃ W : Nat → Nat → Hp → Prop, (∃ m, W 0 m (upd H1 D (.lst []))) ∧ ∀ i m H, W i m H →
  (J.stop i H ∧ Qd H) ∨ (J.go i H ∧ ∃ Nx : Hp → Prop, (∀ H', Nx H' → ∃ m', m' < m ∧ W (i + 1) m' H') ∧ ∀ x H', J.yld i H x H' → g x (wipe σ vs) H' fun σ2 H2 => wipe σ2 vs = wipe σ vs ∧ tt σ2 H2 fun b H3 =>
    if b = true then te σ2 H3 fun y H4 => ∃ acc, H4 D = some (.lst acc) ∧ acc.length < sizeLine ∧ Nx (upd H4 D (.lst (acc ++ [y]))) else Nx H3)
section
variable {K : PySem.W.Frag} {σ : L2.St} {H : Hp} {Q : VK} {i j : Int} {v : V}
theorem u_var {n : Nat} : tVar n σ H Q = ∃ v, σ[n]? = some (some v) ∧ Q v H := rfl
theorem u_c : tC v σ H Q = Q v H := rfl
theorem u_op {r : R2} {ta tb : TE} : tOp r ta tb σ H Q = ta σ H fun x H1 => tb σ H1 fun y H2 => r x y H2 Q := rfl
theorem u_un {r : V → Hp → VK → Prop} {ta : TE} : tUn r ta σ H Q = ta σ H fun x H1 => r x H1 Q := rfl
theorem u_nil {R : List V → Hp → Prop} : tNil σ H R = R [] H := rfl
theorem u_cons {te : TE} {tr : TA} {R : List V → Hp → Prop} : tCons te tr σ H R = te σ H fun x H1 => tr σ H1 fun xs H2 => R (x :: xs) H2 := rfl
theorem u_cb {r : List V → Hp → VK → Prop} {t : TA} : tCB r t σ H Q = t σ H fun vs H1 => r vs H1 Q := rfl
theorem u_call {sp : Sp} {dvs : List V} {E : XK} {t : TA} : tCall sp dvs E t σ H Q = t σ H fun vs H1 => sp (vs ++ dvs) H1 Q E := rfl
theorem u_callS {sp : Sp} {E : L2.St → XK} {t : TA} : tCallS sp E t σ H Q = t σ H fun vs H1 => sp vs H1 Q (E σ) := rfl
theorem u_tup {t : TA} : tTup t σ H Q = t σ H fun xs H1 => xs.length ≤ sizeLine ∧ ∀ p, H1 p = none → Q (.ref p) (upd H1 p (.tup xs)) := rfl
theorem u_lst {t : TA} : tLst t σ H Q = t σ H fun xs H1 => xs.length ≤ sizeLine ∧ ∀ p, H1 p = none → Q (.ref p) (upd H1 p (.lst xs)) := rfl
theorem u_test {te : TE} {R : Bool → Hp → Prop} : tTest te σ H R = te σ H fun x H1 => ∃ k, x = .bl k ∧ R k H1 := rfl
theorem u_B {te : TE} {R : Bool → Hp → Prop} : tB te σ H R = te σ H fun x H1 => ∃ k, x = .bl k ∧ R k H1 := rfl
theorem u_and {t u : TT} {R : Bool → Hp → Prop} : tAnd t u σ H R = t σ H fun c H1 => if c = true then u σ H1 R else R false H1 := rfl
theorem u_or {t u : TT} {R : Bool → Hp → Prop} : tOr t u σ H R = t σ H fun c H1 => if c = true then R true H1 else u σ H1 R := rfl
theorem u_not {t : TT} {R : Bool → Hp → Prop} : tNot t σ H R = t σ H fun c H1 => R (!c) H1 := rfl
theorem u_andV {ta tb : TE} : tAndV ta tb σ H Q = ta σ H fun x H1 => ∃ c, x = .bl c ∧ if c = true then tb σ H1 Q else Q (.bl false) H1 := rfl
theorem u_orV {ta tb : TE} : tOrV ta tb σ H Q = ta σ H fun x H1 => ∃ c, x = .bl c ∧ if c = true then Q (.bl true) H1 else tb σ H1 Q := rfl
theorem u_notV {ta : TE} : tNotV ta σ H Q = ta σ H fun x H1 => ∃ c, x = .bl c ∧ Q (.bl (!c)) H1 := rfl
theorem u_ifE {t : TT} {ta tb : TE} : tIf t ta tb σ H Q = t σ H fun c H1 => if c = true then ta σ H1 Q else tb σ H1 Q := rfl
theorem u_chain {r r' : R2} {ta tb tc : TE} : tChain r r' ta tb tc σ H Q = ta σ H fun x H1 => tb σ H1 fun y H2 => r x y H2 fun z H3 => ∃ k, z = .bl k ∧ (if k = true then tc σ H3 fun w' H4 => r' y w' H4 Q else Q (.bl false) H3) := rfl
theorem u_sl {r : V → Option Int → Option Int → Hp → VK → Prop} {te : TE} {tl th : TO} : tSl r te tl th σ H Q = te σ H fun x H1 => tl σ H1 fun l H2 => th σ H2 fun u H3 => r x l u H3 Q := rfl
theorem u_noPart {R : Option Int → Hp → Prop} : tNoPart σ H R = R none H := rfl
theorem u_part {te : TE} {R : Option Int → Hp → Prop} : tPart te σ H R = te σ H fun x H1 => ∃ i, x = .int i ∧ R (some i) H1 := rfl
theorem u_bm {T : String} {r : RM} {to : TE} {t : TA} : tBMF T r to t σ H Q = to σ H fun x H1 => tyN x H1 = some T ∧ t σ H1 fun xs H2 => r x xs H2 Q := rfl
theorem u_bm0 {T : String} {r : RM} {to : TE} : tBM0F T r to σ H Q = to σ H fun x H1 => tyN x H1 = some T ∧ r x [] H1 Q := rfl
theorem u_rev {te : TE} : tRevF te σ H Q = te σ H fun x H1 => match x with
  | .ref a => (match asL (H1 a) with
    | some xs => ∀ p, H1 p = none → Q (.ref p) (upd H1 p (.lst xs.reverse))
    | none => False)
  | _ => False := rfl
theorem u_lc {wi : TI} {g : TG} {tt : TT} {te : TE} {vs : List Nat} : tLc wi g tt te vs σ H Q = wi σ H fun J H1 => ∀ D, H1 D = none → Made J g tt te vs σ D H1 fun H' => Q (.ref D) H' := rfl
-- what is walked
variable {R : It → Hp → Prop}
theorem u_rng1 {ta : TA} : iRng1 ta σ H R = ta σ H fun vs H1 => ∃ j : Int, vs = [.int j] ∧ -(2 ^ 62) ≤ j ∧ j < 2 ^ 62 ∧ R (Itr 0 j.toNat) H1 := rfl
theorem u_rng2 {ta : TA} : iRng2 ta σ H R = ta σ H fun vs H1 => ∃ i j : Int, vs = [.int i, .int j] ∧ (-(2 ^ 62) ≤ i ∧ i < 2 ^ 62 ∧ -(2 ^ 62) ≤ j ∧ j < 2 ^ 62) ∧ R (Itr i (j - i).toNat) H1 := rfl
theorem u_list {tl : TE} : iList K tl σ H R = tl σ H fun x H1 => ∃ a, x = .ref a ∧ (∃ xs, SqL K H1 a xs) ∧ R (Itl K a) H1 := rfl
theorem u_revI {ta : TA} : iRev K ta σ H R = ta σ H fun vs H1 => ∃ (a : Addr) (xs : List V), vs = [.ref a] ∧ SqL K H1 a xs ∧ R (Itv K a xs.length) H1 := rfl
theorem u_zipI {ta : TA} : iZip K ta σ H R = ta σ H fun vs H1 => ∃ a b xs ys, vs = [.ref a, .ref b] ∧ SqL K H1 a xs ∧ SqL K H1 b ys ∧ R (Itz K a b) H1 := rfl
-- statements
variable {D : Ends} {t u w : TS} {te : TE} {g : TG} {n : Nat}
theorem u_next : tNext D σ H = D.nx σ H := rfl
theorem u_ret : tRet te D σ H = te σ H D.rt := rfl
theorem u_gname {S : L2.St → Hp → Prop} : gName n v σ H S = S (σ.set n (some v)) H := rfl
theorem u_gnil {vs : List V} {S : L2.St → Hp → Prop} : gNil vs σ H S = (vs = [] ∧ S σ H) := rfl
theorem u_gcons {t : TG} {u : TGs} {vs : List V} {S : L2.St → Hp → Prop} : gCons t u vs σ H S = ∃ v r, vs = v :: r ∧ t v σ H fun σ' H' => u r σ' H' S := rfl
theorem u_gsub {to ti : TE} {t : TSet} {S : L2.St → Hp → Prop} : gSub to ti t v σ H S = to σ H fun o H1 => ti σ H1 fun i H2 => t o i v H2 fun H3 => S σ H3 := rfl
theorem u_gtup {t : TGs} {a : Addr} {S : L2.St → Hp → Prop} : gTupF n t (.ref a) σ H S = (match asT (H a) with
    | some xs => xs.length = n ∧ t xs σ H S
    | none => False) := rfl
theorem q_asg (h : te σ H fun x H1 => g x σ H1 (u D)) : tSeq (tAsg te g) u D σ H := h
theorem q_asg1 (h : te σ H fun x H1 => g x σ H1 D.nx) : tAsg te g D σ H := h
theorem q_drop (h : te σ H fun _ H1 => u D σ H1) : tSeq (tDrop te) u D σ H := h
theorem q_drop1 (h : te σ H fun _ H1 => D.nx σ H1) : tDrop te D σ H := h
theorem q_if {c : TT} (h : c σ H fun b H1 => if b = true then t { D with nx := u D } σ H1 else w { D with nx := u D } σ H1) : tSeq (tIfS c t w) u D σ H := h
theorem q_if1 {c : TT} (h : c σ H fun b H1 => if b = true then t D σ H1 else w D σ H1) : tIfS c t w D σ H := h
theorem q_ret (h : te σ H D.rt) : tRet te D σ H := h
theorem q_seq (h : t { D with nx := u D } σ H) : tSeq t u D σ H := h
theorem q_for {wi : TI} (h : wi σ H fun J H1 => Loop J g t { D with nx := u D } σ H1) : tSeq (tFor wi g t) u D σ H := h
theorem q_for1 {wi : TI} (h : wi σ H fun J H1 => Loop J g t D σ H1) : tFor wi g t D σ H := h
-- operators at values
theorem f_add : fAdd (.int i) (.int j) H Q = Q (.int (i + j)) H := rfl
theorem f_addS {a b : Str} : fAdd (.str a) (.str b) H Q = (a.length + b.length ≤ sizeLine ∧ Q (.str (a ++ b)) H) := rfl
theorem f_addR {a b : Addr} : fAdd (.ref a) (.ref b) H Q = (match H a, H b with
    | some (.lst xs), some (.lst ys) => xs.length + ys.length ≤ sizeLine ∧ ∀ p, H p = none → Q (.ref p) (upd H p (.lst (xs ++ ys)))
    | some (.tup xs), some (.tup ys) => xs ≠ [] ∧ ys ≠ [] ∧ xs.length + ys.length ≤ sizeLine ∧ ∀ p, H p = none → Q (.ref p) (upd H p (.tup (xs ++ ys)))
    | _, _ => False) := rfl
theorem f_sub : fSub (.int i) (.int j) H Q = Q (.int (i - j)) H := rfl
theorem f_mul : fMul (.int i) (.int j) H Q = (CMul i j ∧ Q (.int (i * j)) H) := rfl
theorem f_mulR {a : Addr} : fMul (.ref a) (.int i) H Q = (match H a with
    | some (.lst xs) => (-(2 ^ 63) ≤ i ∧ i < 2 ^ 63 ∧ xs.length * i.toNat ≤ sizeLine) ∧ ∀ p, H p = none → Q (.ref p) (upd H p (.lst (List.replicate i.toNat xs).flatten))
    | _ => False) := rfl
theorem f_mod : fMod (.int i) (.int j) H Q = (0 < j ∧ Q (.int (i % j)) H) := rfl
theorem f_div : fDiv (.int i) (.int j) H Q = (CDivW i j ∧ Q (.int (i / j)) H) := rfl
theorem f_pow : fPow (.int i) (.int j) H Q = (CPow i j ∧ Q (.int (i ^ j.toNat)) H) := rfl
theorem f_neg : fNeg (.int i) H Q = Q (.int (-i)) H := rfl
theorem f_cmp {f : Int → Int → Bool} : fCmp f (.int i) (.int j) H Q = Q (.bl (f i j)) H := rfl
theorem f_eq : fEq K (.int i) (.int j) H Q = Q (.bl (decide (i = j))) H := rfl
theorem f_eqB {a b : Bool} : fEq K (.bl a) (.bl b) H Q = Q (.bl (decide (a = b))) H := rfl
theorem f_eqS {a b : Str} : fEq K (.str a) (.str b) H Q = Q (.bl (decide (a = b))) H := rfl
theorem f_ne : fNe K (.int i) (.int j) H Q = Q (.bl (!decide (i = j))) H := rfl
theorem f_neB {a b : Bool} : fNe K (.bl a) (.bl b) H Q = Q (.bl (!decide (a = b))) H := rfl
theorem f_neS {a b : Str} : fNe K (.str a) (.str b) H Q = Q (.bl (!decide (a = b))) H := rfl
theorem f_isN : fIsN v .non H Q = Q (.bl (decide (v = .non))) H := rfl
theorem f_notN : fNotN v .non H Q = Q (.bl (!decide (v = .non))) H := rfl
theorem f_isB {a b : Bool} : fIsB (.bl a) (.bl b) H Q = Q (.bl (decide (a = b))) H := rfl
theorem f_ix {p : Addr} : fIx (.ref p) (.int i) H Q = (match asS (H p) with
    | some xs => atV xs i fun v => Q v H
    | none => False) := rfl
theorem f_ixS {z : Str} : fIx (.str z) (.int i) H Q = (z.length ≤ sizeLine ∧ ∃ c, atI z.cps.toList i = some c ∧ Q (.str ⟨#[c]⟩) H) := rfl
theorem f_int : fInt [.int i] H Q = Q (.int i) H := rfl
theorem f_intB {k : Bool} : fInt [.bl k] H Q = Q (.int (if k then 1 else 0)) H := rfl
theorem f_len {p : Addr} : fLen [.ref p] H Q = (match asS (H p) with
    | some ys => Q (.int (ys.length : Nat)) H
    | none => False) := rfl
theorem f_lenS {z : Str} : fLen [.str z] H Q = (z.length ≤ sizeLine ∧ Q (.int (z.length : Nat)) H) := rfl
theorem f_max : fMax [.int i, .int j] H Q = Q (.int (max i j)) H := rfl
theorem f_min : fMin [.int i, .int j] H Q = Q (.int (min i j)) H := rfl
theorem f_abs : fAbs [.int i] H Q = Q (.int (if i < 0 then -i else i)) H := rfl
theorem f_list {p : Addr} : fList [.ref p] H Q = (match asS (H p) with
    | some ys => ∀ l, H l = none → Q (.ref l) (upd H l (.lst ys))
    | none => False) := rfl
theorem f_tuple {p : Addr} : fTuple [.ref p] H Q = (match asL (H p) with
    | some ys => ∀ l, H l = none → Q (.ref l) (upd H l (.tup ys))
    | none => False) := rfl
theorem f_all {p : Addr} : fAll [.ref p] H Q = (match asL (H p) with
    | some ys => ∃ bs : List Bool, ys = bs.map V.bl ∧ Q (.bl (bs.all id)) H
    | none => False) := rfl
theorem f_sum {p : Addr} : fSum [.ref p] H Q = (match asL (H p) with
    | some ys => ∃ ns : List Int, ys = ns.map V.int ∧ Q (.int ns.sum) H
    | none => False) := rfl
theorem f_isi {c : String} : fIsi [v, .ty c] H Q = (match tyN v H with
    | some t => (match kitB t c with
      | some b => Q (.bl b) H
      | none => False)
    | none => False) := rfl
theorem f_isiT {p : Addr} : fIsiT [v, .ref p] H Q = (match tyN v H, H p with
    | some t, some (.tup cs) => (match tys cs with
      | some ns => (match kitS t ns with
        | some b => Q (.bl b) H
        | none => False)
      | none => False)
    | _, _ => False) := rfl
theorem f_append {l : Addr} : fAppend (.ref l) [v] H Q = (match H l with
    | some (.lst xs) => xs.length < sizeLine ∧ Q .non (upd H l (.lst (xs ++ [v])))
    | _ => False) := rfl
theorem f_insert {l : Addr} : fInsert (.ref l) [.int i, v] H Q = (match H l with
    | some (.lst xs) => (xs.length < sizeLine ∧ 0 ≤ i ∧ i < 2 ^ 63) ∧ Q .non (upd H l (.lst (xs.take i.toNat ++ [v] ++ xs.drop i.toNat)))
    | _ => False) := rfl
theorem f_pop {l : Addr} : fPop (.ref l) [] H Q = (match H l with
    | some (.lst xs) => (match xs[xs.length - 1]? with
      | some y => Q y (upd H l (.lst xs.dropLast))
      | none => False)
    | _ => False) := rfl
theorem f_sl {p : Addr} {lo hi : Option Int} : fSl (.ref p) lo hi H Q = (match asL (H p) with
    | some xs => ∀ q, H q = none → Q (.ref q) (upd H q (.lst (cutV xs lo hi)))
    | none => (match asT (H p) with
      | some xs => ¬ (HT.sIx xs.length 0 lo = 0 ∧ HT.sIx xs.length xs.length hi = xs.length) ∧ ∀ q, H q = none → Q (.ref q) (upd H q (.tup (cutV xs lo hi)))
      | none => False)) := rfl
theorem f_set {p : Addr} {S : Hp → Prop} : fSet (.ref p) (.int i) v H S = (match H p with
    | some (.lst xs) => (match ixN xs.length i with
      | some j => S (upd H p (.lst (xs.set j v)))
      | none => False)
    | _ => False) := rfl
theorem asL_lst {xs : List V} : asL (some (.lst xs)) = some xs := rfl
theorem asL_frz {xs : List V} {o : Obj} : asL (some (.frz o (.lst xs))) = some xs := rfl
theorem asL_tup {xs : List V} : asL (some (.tup xs)) = none := rfl
theorem asT_tup {xs : List V} : asT (some (.tup xs)) = some xs := rfl
theorem asS_lst {xs : List V} : asS (some (.lst xs)) = some xs := rfl
theorem asS_frz {xs : List V} {o : Obj} : asS (some (.frz o (.lst xs))) = some xs := rfl
theorem asS_tup {xs : List V} : asS (some (.tup xs)) = some xs := rfl
theorem tyN_non : tyN .non H = some "NoneType" := rfl
theorem tyN_bl {b : Bool} : tyN (.bl b) H = some "bool" := rfl
theorem tyN_int : tyN (.int i) H = some "int" := rfl
theorem tyN_str {z : Str} : tyN (.str z) H = some "str" := rfl
theorem tyN_lst {p : Addr} {xs : List V} (h : H p = some (.lst xs)) : tyN (.ref p) H = some "list" := by simp only [tyN, h]
theorem tyN_tup {p : Addr} {xs : List V} (h : H p = some (.tup xs)) : tyN (.ref p) H = some "tuple" := by simp only [tyN, h]
theorem tyN_dK {p : Addr} {kvs : List (Key × V)} (h : H p = some (.dK kvs)) : tyN (.ref p) H = some "dict" := by simp only [tyN, h]
theorem at_nat {xs : List V} {k : Nat} {q : V → Prop} (h : xs[k]? = some v) (hq : q v) : atV xs (k : Int) q := by
  unfold atV
  rw [atI_nat h]
  exact hq
theorem atV_lit {xs : List V} {k : Nat} {q : V → Prop} : atV xs (no_index (OfNat.ofNat k)) q = (match xs[k]? with
    | some v => q v
    | none => False) := by
  have e : (OfNat.ofNat k : Int) = (k : Int) := rfl
  unfold atV
  cases h : xs[k]? with
  | some v => rw [e, atI_nat h]
  | none =>
    have hk : xs.length ≤ k := List.getElem?_eq_none_iff.mp h
    have e2 : atI xs (OfNat.ofNat k) = none := by
      unfold atI ixN
      rw [e, if_pos (by omega), if_neg (by omega)]
      rfl
    rw [e2]
theorem ixN_lit {n k : Nat} : ixN n (no_index (OfNat.ofNat k)) = if k < n then some k else none := by
  have e : (OfNat.ofNat k : Int) = (k : Int) := rfl
  unfold ixN
  rw [e, if_pos (by omega)]
  by_cases h : k < n
  · rw [if_pos (by omega), if_pos h]
    simp
  · rw [if_neg (by omega), if_neg h]
/-! ### loops -/
theorem loop_list {a : Addr} {xs : List V} {tb : TS} (Pv : Nat → L2.St → Hp → Prop) (h0 : Pv 0 σ H) (hl : ∀ i σ H, i ≤ xs.length → Pv i σ H → asL (H a) = some xs)
    (hs : ∀ i x σ H, xs[i]? = some x → Pv i σ H → g x σ H fun σ2 H2 => tb { D with nx := Pv (i + 1), ct := Pv (i + 1), bk := D.nx } σ2 H2) (hd : ∀ σ H, Pv xs.length σ H → D.nx σ H) : Loop (Itl K a) g tb D σ H :=
  for_list (K := K) Pv h0 (fun i σ H h p => asL_seq (hl i σ H h p)) hs hd
theorem loop_range {lo : Int} {m : Nat} {tb : TS} (Pv : Nat → L2.St → Hp → Prop) (h0 : Pv 0 σ H) (hs : ∀ i σ H, i < m → Pv i σ H → g (.int (lo + i)) σ H fun σ2 H2 => tb { D with nx := Pv (i + 1), ct := Pv (i + 1), bk := D.nx } σ2 H2)
    (hd : ∀ σ H, Pv m σ H → D.nx σ H) : Loop (Itr lo m) g tb D σ H := for_range Pv h0 hs hd
theorem walk_list {te : TE} {R : It → Hp → Prop} (h : te σ H fun x H1 => ∃ a xs, x = .ref a ∧ asL (H1 a) = some xs ∧ R (Itl K a) H1) (m : ∀ (Q Q' : VK), (∀ v H', Q v H' → Q' v H') → te σ H Q → te σ H Q') : iList K te σ H R :=
  m _ _ (fun v H' ⟨a, xs, e, e2, r⟩ => ⟨a, e, ⟨xs, asL_seq e2⟩, r⟩) h
theorem u_listV {R : It → Hp → Prop} {a : Addr} {xs : List V} (h : σ[n]? = some (some (.ref a))) (e : asL (H a) = some xs) (q : R (Itl K a) H) : iList K (tVar n) σ H R := ⟨_, h, a, rfl, ⟨xs, asL_seq e⟩, q⟩
theorem made_list {a Dd : Addr} {xs : List V} {tt : TT} {te : TE} {vs : List Nat} {Qd : Hp → Prop} (Pv : Nat → Hp → Prop) (h0 : Pv 0 (upd H Dd (.lst []))) (hl : ∀ i H, i ≤ xs.length → Pv i H → asL (H a) = some xs)
    (hs : ∀ i x H, xs[i]? = some x → Pv i H → g x (wipe σ vs) H fun σ2 H2 => wipe σ2 vs = wipe σ vs ∧ tt σ2 H2 fun b H3 =>
      if b = true then te σ2 H3 fun y H4 => ∃ acc, H4 Dd = some (.lst acc) ∧ acc.length < sizeLine ∧ Pv (i + 1) (upd H4 Dd (.lst (acc ++ [y]))) else Pv (i + 1) H3) (hd : ∀ H, Pv xs.length H → Qd H) : Made (Itl K a) g tt te vs σ Dd H Qd :=
  lc_list (K := K) Pv h0 (fun i H h p => asL_seq (hl i H h p)) hs hd
theorem made_range {lo : Int} {m : Nat} {Dd : Addr} {tt : TT} {te : TE} {vs : List Nat} {Qd : Hp → Prop} (Pv : Nat → Hp → Prop) (h0 : Pv 0 (upd H Dd (.lst [])))
    (hs : ∀ i H, i < m → Pv i H → g (.int (lo + i)) (wipe σ vs) H fun σ2 H2 => wipe σ2 vs = wipe σ vs ∧ tt σ2 H2 fun b H3 =>
      if b = true then te σ2 H3 fun y H4 => ∃ acc, H4 Dd = some (.lst acc) ∧ acc.length < sizeLine ∧ Pv (i + 1) (upd H4 Dd (.lst (acc ++ [y]))) else Pv (i + 1) H3) (hd : ∀ H, Pv m H → Qd H) : Made (Itr lo m) g tt te vs σ Dd H Qd :=
  lc_range Pv h0 hs hd
theorem w_nil : wipe σ [] = σ := rfl
theorem w_cons {k : Nat} {ks : List Nat} : wipe σ (k :: ks) = (wipe σ ks).set k none := rfl
/-- what stood stands -/
abbrev Sm (H H' : Hp) : Prop := ∀ b o, H b = some o → H' b = some o
theorem sm_new {H H1 : Hp} {p : Addr} {o : HO} (s : Sm H H1) (h : H1 p = none) : Sm H (upd H1 p o) := fun b u e => by
  rw [upd_ne (ne_of_none (s b u e) h)]
  exact s b u e
@[elab_as_elim] theorem al {H : Hp} {p : Addr} {o : HO} {motive : Hp → Prop} (np : H p = none) (k : ∀ H', Sm H H' → H' p = some o → motive H') : motive (upd H p o) := k _ (sm_new (fun _ _ z => z) np) upd_same
theorem sm_none {H H' : Hp} {p : Addr} (s : Sm H H') (h : H' p = none) : H p = none := by
  cases e : H p with
  | none => rfl
  | some o => rw [s _ _ e] at h; cases h
theorem sm_trans {H H1 H2 : Hp} (a : Sm H H1) (b : Sm H1 H2) : Sm H H2 := fun p o z => b p o (a p o z)
theorem sm_put {H H1 : Hp} {p : Addr} {o : HO} (s : Sm H H1) (h : H p = none) : Sm H (upd H1 p o) := fun b u e => by
  rw [upd_ne (ne_of_none e h)]
  exact s b u e
theorem sm_L {p : Addr} {H H' : Hp} {xs : List V} (s : Sm H H') (h : asL (H p) = some xs) : asL (H' p) = some xs := by
  cases e : H p with
  | none => rw [e] at h; cases h
  | some o => rw [s p o e, ← e]; exact h
theorem sm_T {p : Addr} {H H' : Hp} {xs : List V} (s : Sm H H') (h : asT (H p) = some xs) : asT (H' p) = some xs := by
  cases e : H p with
  | none => rw [e] at h; cases h
  | some o => rw [s p o e, ← e]; exact h
theorem sm_S {p : Addr} {H H' : Hp} {xs : List V} (s : Sm H H') (h : asS (H p) = some xs) : asS (H' p) = some xs := by
  cases e : H p with
  | none => rw [e] at h; cases h
  | some o => rw [s p o e, ← e]; exact h
theorem take_map_succ {α β : Type} {xs : List α} {i : Nat} {x : α} {f : α → β} (h : xs[i]? = some x) : (xs.take (i + 1)).map f = (xs.take i).map f ++ [f x] := by
  have hi := (List.getElem?_eq_some_iff.mp h)
  obtain ⟨hl, e⟩ := hi
  rw [List.take_add_one, h]
  simp
/-- a comprehension over a list, one value for each item -/
theorem made_map {a Dd : Addr} {xs : List V} {te : TE} {vs : List Nat} {Qd : Hp → Prop} (f : V → V) (hl : asL (H a) = some xs) (hD : H Dd = none) (hz : xs.length < sizeLine) (hw : ∀ x, wipe ((wipe σ vs).set n (some x)) vs = wipe σ vs)
    (he : ∀ (i : Nat) (x : V) (H' : Hp) (Q : VK), xs[i]? = some x → Sm H H' → (∀ H2, Sm H' H2 → Q (f x) H2) → te ((wipe σ vs).set n (some x)) H' Q) (hd : ∀ H', Sm H H' → H' Dd = some (.lst (xs.map f)) → Qd H') : Made (Itl K a) (gName n) tYes te vs σ Dd H Qd := by
  refine made_list (fun i H' => Sm H H' ∧ H' Dd = some (.lst ((xs.take i).map f))) ⟨sm_new (fun _ _ h => h) hD, upd_same⟩ (fun i H' _ p => sm_L p.1 hl) (fun i x H' hx p => ⟨hw x, ?_⟩) fun H' p => hd H' p.1 (by rw [← List.take_length (l := xs)]; exact p.2)
  refine iteT (B := Sm H H' ∧ H' Dd = some (.lst ((xs.take (i + 1)).map f))) ?_
  refine he i x H' _ hx p.1 fun H2 s2 => ⟨(xs.take i).map f, s2 _ _ p.2, ?_, ?_, ?_⟩
  · rw [List.length_map, List.length_take]; omega
  · exact sm_put (fun b o z => s2 b o (p.1 b o z)) hD
  · rw [upd_same, take_map_succ hx]
/-- .. over a list that stands for good -/
theorem made_mapS {a Dd : Addr} {xs : List V} {te : TE} {vs : List Nat} {Qd : Hp → Prop} (f : V → V) (hl : ∀ H', Sm H H' → SqL K H' a xs) (hD : H Dd = none) (hz : xs.length < sizeLine) (hw : ∀ x, wipe ((wipe σ vs).set n (some x)) vs = wipe σ vs)
    (he : ∀ (i : Nat) (x : V) (H' : Hp) (Q : VK), xs[i]? = some x → Sm H H' → (∀ H2, Sm H' H2 → Q (f x) H2) → te ((wipe σ vs).set n (some x)) H' Q) (hd : ∀ H', Sm H H' → H' Dd = some (.lst (xs.map f)) → Qd H') : Made (Itl K a) (gName n) tYes te vs σ Dd H Qd := by
  refine lc_list (K := K) (fun i H' => Sm H H' ∧ H' Dd = some (.lst ((xs.take i).map f))) ⟨sm_new (fun _ _ h => h) hD, upd_same⟩ (fun i H' _ p => hl H' p.1) (fun i x H' hx p => ⟨hw x, ?_⟩) fun H' p => hd H' p.1 (by rw [← List.take_length (l := xs)]; exact p.2)
  refine iteT (B := Sm H H' ∧ H' Dd = some (.lst ((xs.take (i + 1)).map f))) ?_
  refine he i x H' _ hx p.1 fun H2 s2 => ⟨(xs.take i).map f, s2 _ _ p.2, ?_, ?_, ?_⟩
  · rw [List.length_map, List.length_take]; omega
  · exact sm_put (fun b o z => s2 b o (p.1 b o z)) hD
  · rw [upd_same, take_map_succ hx]
/-- .. over a range -/
theorem made_mapR {lo : Int} {m : Nat} {Dd : Addr} {te : TE} {vs : List Nat} {Qd : Hp → Prop} (f : Nat → V) (hD : H Dd = none) (hz : m < sizeLine) (hw : ∀ x, wipe ((wipe σ vs).set n (some x)) vs = wipe σ vs)
    (he : ∀ (i : Nat) (H' : Hp) (Q : VK), i < m → Sm H H' → (∀ H2, Sm H' H2 → Q (f i) H2) → te ((wipe σ vs).set n (some (.int (lo + (i : Nat))))) H' Q) (hd : ∀ H', Sm H H' → H' Dd = some (.lst ((List.range m).map f)) → Qd H') : Made (Itr lo m) (gName n) tYes te vs σ Dd H Qd := by
  refine made_range (fun i H' => Sm H H' ∧ H' Dd = some (.lst ((List.range i).map f))) ⟨sm_new (fun _ _ h => h) hD, upd_same⟩ (fun i H' hi p => ⟨hw _, ?_⟩) fun H' p => hd H' p.1 p.2
  refine iteT (B := Sm H H' ∧ H' Dd = some (.lst ((List.range (i + 1)).map f))) ?_
  refine he i H' _ hi p.1 fun H2 s2 => ⟨(List.range i).map f, s2 _ _ p.2, ?_, ?_, ?_⟩
  · rw [List.length_map, List.length_range]; omega
  · exact sm_put (fun b o z => s2 b o (p.1 b o z)) hD
  · rw [upd_same, List.range_succ, List.map_append]
    rfl
/-- a comprehension over two lists of one length -/
theorem made_zip {a b Dd : Addr} {xs ys : List V} {tt : TT} {te : TE} {vs : List Nat} {Qd : Hp → Prop} (hl : xs.length = ys.length) (Pv : Nat → Hp → Prop) (h0 : Pv 0 (upd H Dd (.lst [])))
    (hq : ∀ i H, Pv i H → asL (H a) = some xs ∧ asL (H b) = some ys)
    (hs : ∀ (i : Nat) (x y : V) (T : Addr) (H : Hp), xs[i]? = some x → ys[i]? = some y → Pv i H → H T = none → g (.ref T) (wipe σ vs) (upd H T (.tup [x, y])) fun σ2 H2 => wipe σ2 vs = wipe σ vs ∧ tt σ2 H2 fun b H3 =>
      if b = true then te σ2 H3 fun y H4 => ∃ acc, H4 Dd = some (.lst acc) ∧ acc.length < sizeLine ∧ Pv (i + 1) (upd H4 Dd (.lst (acc ++ [y]))) else Pv (i + 1) H3)
    (hd : ∀ H, Pv xs.length H → Qd H) : Made (Itz K a b) g tt te vs σ Dd H Qd := by
  refine ⟨fun i m H => m = xs.length - i ∧ i ≤ xs.length ∧ Pv i H, ⟨xs.length, by simp, Nat.zero_le _, h0⟩, ?_⟩
  rintro i m H2 ⟨rfl, hi, p⟩
  obtain ⟨q1, q2⟩ := hq i H2 p
  by_cases hlt : i < xs.length
  · have hly : i < ys.length := by omega
    refine .inr ⟨⟨xs, ys, xs[i], ys[i], asL_seq q1, asL_seq q2, by simp [hlt], by simp [hly]⟩, Pv (i + 1), fun H' p' => ⟨xs.length - (i + 1), by omega, rfl, hlt, p'⟩, ?_⟩
    rintro v H' ⟨T, x, y, rfl, hT, rfl, hx, hy⟩
    exact hs i x y T H2 (hx xs (asL_seq q1)) (hy ys (asL_seq q2)) p hT
  · have e : i = xs.length := by omega
    subst e
    exact .inl ⟨⟨xs, ys, asL_seq q1, asL_seq q2, .inl (Nat.le_refl _)⟩, hd H2 p⟩
theorem loop_zip {a b : Addr} {xs ys : List V} {tb : TS} (hl : xs.length = ys.length) (Pv : Nat → L2.St → Hp → Prop) (h0 : Pv 0 σ H) (hq : ∀ i σ H, Pv i σ H → asL (H a) = some xs ∧ asL (H b) = some ys)
    (hs : ∀ (i : Nat) (x y : V) (T : Addr) (σ : L2.St) (H : Hp), xs[i]? = some x → ys[i]? = some y → Pv i σ H → H T = none → g (.ref T) σ (upd H T (.tup [x, y])) fun σ2 H2 => tb { D with nx := Pv (i + 1), ct := Pv (i + 1), bk := D.nx } σ2 H2)
    (hd : ∀ σ H, Pv xs.length σ H → D.nx σ H) : Loop (Itz K a b) g tb D σ H := RZ.for_zipL hl Pv h0 (fun i σ H p => ⟨asL_seq (hq i σ H p).1, asL_seq (hq i σ H p).2⟩) hs hd
theorem loop_rev {a : Addr} {xs : List V} {m : Nat} {tb : TS} (hm : m = xs.length) (Pv : Nat → L2.St → Hp → Prop) (h0 : Pv 0 σ H) (hl : ∀ i σ H, i ≤ xs.length → Pv i σ H → asL (H a) = some xs)
    (hs : ∀ (i : Nat) (x : V) (σ : L2.St) (H : Hp), i < xs.length → xs[xs.length - 1 - i]? = some x → Pv i σ H → g x σ H fun σ2 H2 => tb { D with nx := Pv (i + 1), ct := Pv (i + 1), bk := D.nx } σ2 H2) (hd : ∀ σ H, Pv xs.length σ H → D.nx σ H) : Loop (Itv K a m) g tb D σ H := by
  subst hm
  refine ⟨fun i m σ H => m = xs.length - i ∧ i ≤ xs.length ∧ Pv i σ H, ⟨xs.length, by simp, Nat.zero_le _, h0⟩, ?_⟩
  rintro i m σ2 H2 ⟨rfl, hi, p⟩
  have q := asL_seq (K := K) (hl i σ2 H2 hi p)
  by_cases hlt : i < xs.length
  · have hj : xs.length - 1 - i < xs.length := by omega
    refine .inr ⟨⟨hlt, xs, xs[xs.length - 1 - i], q, by simp [hj]⟩, Pv (i + 1), fun σ' H' p' => ⟨xs.length - (i + 1), by omega, rfl, hlt, p'⟩, ?_⟩
    rintro x H' ⟨rfl, hx⟩
    exact hs i x σ2 H' hlt (hx xs q) p
  · have e : i = xs.length := by omega
    subst e
    exact .inl ⟨Nat.le_refl _, hd σ2 H2 p⟩
theorem made_zipmap {a b Dd : Addr} {xs ys : List V} {te : TE} {vs : List Nat} {m : Nat} {Qd : Hp → Prop} (f : V → V → V) (ha : asL (H a) = some xs) (hb : asL (H b) = some ys) (hl : xs.length = ys.length) (hD : H Dd = none) (hz : xs.length < sizeLine)
    (hw : ∀ x y, wipe (((wipe σ vs).set m (some x)).set n (some y)) vs = wipe σ vs)
    (he : ∀ (i : Nat) (x y : V) (H' : Hp) (Q : VK), xs[i]? = some x → ys[i]? = some y → Sm H H' → (∀ H2, Sm H' H2 → Q (f x y) H2) → te (((wipe σ vs).set m (some x)).set n (some y)) H' Q)
    (hd : ∀ H', Sm H H' → H' Dd = some (.lst (List.zipWith f xs ys)) → Qd H') : Made (Itz K a b) (gTupF 2 (gCons (gName m) (gCons (gName n) gNil))) tYes te vs σ Dd H Qd := by
  refine made_zip hl (fun i H' => Sm H H' ∧ H' Dd = some (.lst (List.zipWith f (xs.take i) (ys.take i)))) ⟨sm_new (fun _ _ h => h) hD, upd_same⟩ (fun i H' p => ⟨sm_L p.1 ha, sm_L p.1 hb⟩) (fun i x y T H' hx hy p hT => ?_)
    fun H' p => hd H' p.1 (by have e := p.2; rw [List.take_length, hl, List.take_length] at e; exact e)
  have e1 : asT (upd H' T (.tup [x, y]) T) = some [x, y] := by rw [upd_same] <;> rfl
  rw [u_gtup, e1]
  refine ⟨rfl, x, [y], rfl, y, [], rfl, rfl, hw x y, ?_⟩
  have s1 : Sm H (upd H' T (.tup [x, y])) := sm_new p.1 hT
  have d1 : upd H' T (.tup [x, y]) Dd = some (.lst (List.zipWith f (xs.take i) (ys.take i))) := by
    rw [upd_ne (ne_of_none p.2 hT)]; exact p.2
  refine iteT (B := Sm H (upd H' T (.tup [x, y])) ∧ (upd H' T (.tup [x, y])) Dd = some (.lst (List.zipWith f (xs.take (i + 1)) (ys.take (i + 1))))) ?_
  refine he i x y _ _ hx hy s1 fun H2 s2 => ⟨_, s2 _ _ d1, ?_, ?_, ?_⟩
  · rw [List.length_zipWith, List.length_take]; omega
  · exact sm_put (fun b o z => s2 b o (s1 b o z)) hD
  · rw [upd_same, List.take_add_one, List.take_add_one, hx, hy, List.zipWith_append]
    · rfl
    · rw [List.length_take, List.length_take, hl]
end
end XB

/-! Errors: several clauses with and without a name, the making of an error with fields, isinstance of a caught one. -/
namespace XB
open PySem PySem.Spec PyProof.Rows L2 L2N
abbrev Sui := Addr → Value → Option Addr → TS
/-- the ends of a suite whose clause binds the name in slot i -/
def unb (i : Nat) (D : Ends) : Ends := { nx := fun σ H => D.nx (σ.set i none) H, rt := D.rt, bk := fun σ H => D.bk (σ.set i none) H, ct := fun σ H => D.ct (σ.set i none) H }
def suiAt (o : Option Nat) (ts : Sui) (a : Addr) (cls : Value) (d : Option Addr) (D : Ends) (σ : L2.St) (H : Hp) : Prop := match o with
  | none => ts a cls d D σ H
  | some i => ts a cls d (unb i D) (σ.set i (some (.ref a))) H
def wX (K : PySem.W.Frag) (Wout : WX) (D : Ends) : List (Value × Option Nat × Sui) → WX
  | [] => Wout
  | (c, o, ts) :: r => fun cls d σ H => ∃ b, PySem.W.exmOne K cls c = some b ∧ (b = true → ∀ a, H a = none → suiAt o ts a cls d D σ H) ∧ (b = false → wX K Wout D r cls d σ H)
def tTryX (K : PySem.W.Frag) (tb : WX → TS) (Wout : WX) (l : List (Value × Option Nat × Sui)) : TS := fun D σ H => tb (wX K Wout D l) D σ H
/-- a suite holds for every error that may come -/
def SuOk (X : Cx) (sts : List Stmt) (ts : Sui) : Prop := ∀ (a : Addr) (oe : Obj) (cls : Value) (d : Option Addr) (pn : List (Addr × Obj)), Zn cls d oe → (∃ fv, oe.data = .fields fv) → PSs (X.suite a ((a, oe) :: pn)) sts (ts a cls d)
inductive HdX (X : Cx) : List ExceptHandler → List (Value × Option Nat × Sui) → Prop
  | nil : HdX X [] []
  | plain {x : Str} {c : Value} {ts : Sui} {s0 : Stmt} {sr : List Stmt} {p1 p2 : Pos} {hs : List ExceptHandler} {l : List (Value × Option Nat × Sui)} (nm : Names X x c) (su : SuOk X (s0 :: sr) ts) (r : HdX X hs l) :
      HdX X (.ExceptHandler (some (.Name x p1)) none (s0 :: sr) p2 :: hs) ((c, none, ts) :: l)
  | as {x n : Str} {i : Nat} {c : Value} {ts : Sui} {s0 : Stmt} {sr : List Stmt} {p1 p2 : Pos} {hs : List ExceptHandler} {l : List (Value × Option Nat × Sui)} (nd : X.N.Nodup) (at_ : X.N[i]? = some n) (loc : X.env.kindOf n = some .local) (nm : Names X x c) (su : SuOk X (s0 :: sr) ts) (r : HdX X hs l) :
      HdX X (.ExceptHandler (some (.Name x p1)) (some n) (s0 :: sr) p2 :: hs) ((c, some i, ts) :: l)
section
variable {X : Cx}
theorem ps_tryX {body : List Stmt} {h0 : ExceptHandler} {hr : List ExceptHandler} {l : List (Value × Option Nat × Sui)} {pos : Pos} {tb : WX → TS} {Wout : WX} (stk : X.stack = X.env :: X.outer) (frm : X.env.frame = some X.env.locals) (tk : L2N.Takes X Wout)
    (bd : ∀ (W : WX) (pn : List (Addr × Obj)) (xe : Value → Shared → Prop), L2N.Takes (X.tr pn xe) W → PassesOwn (model X.prog X.w) X.A X.env xe → PSs (X.tr pn xe) body (tb W))
    (hd : HdX X (h0 :: hr) l) : PS X (.Try body (h0 :: hr) [] [] pos) (tTryX X.K tb Wout l) := by
  refine ⟨fun pins s σ H D I hyp => ?_⟩
  have okX := I.ok
  have frs2 : X.A.frames = some (X.env :: X.outer) := okX.frames.trans (by rw [stk])
  refine wpAny_Try_except ?_
  refine wpAny_mono ((bd (wX X.K Wout D l) (X.pn ++ pins) (fun er sa => wpAny (model X.prog X.w) X.A (noteFrame er X.env)
    (fun _ sb => wpAny (model X.prog X.w) X.A (setFlight er none) (fun _ sc => wpAny (model X.prog X.w) X.A (handleBy er X.env (h0 :: hr)) (SP X pins D) X.xe sc) X.xe sb) X.xe sa)
    (fun er st thrown => ?caught) PassesOwn.looking).run [] s σ H D (I.toTry _) hyp) (fun fl st done => ?went) (fun er st z => z)
  case caught =>
    obtain ⟨ea, G, sI, pinsT, σ2, H2, cls, d, rfl, Itry, nb, upS, sky, nea, eos, bare, wish⟩ := thrown
    have J : Inv X pins σ2 H2 sI := Itry.ofTry okX
    have sky2 : Sky G (X.env :: X.outer) ea (Zn cls d) X.env.locals st.heap := stk ▸ sky
    show wpAny (model X.prog X.w) X.A (noteFrame (.ref ea) X.env) _ _ _
    refine L2N.Sky.land Zn.steady frs2 frm sky2 fun ha fla upa => ?_
    have Ja : Inv X pins σ2 H2 { st with heap := ha } := J.landed nb fla.1 (upS.trans upa) eos bare
    obtain ⟨oa, va, ga, za, da⟩ := fla.there
    have out : ea ∉ frs (X.env :: X.outer) := fun inn => by
      obtain ⟨_, o2, g2, fv⟩ := fla.2.2.1.mem inn
      rw [ga] at g2
      cases g2
      exact fv _ da
    have ne1 : ea ≠ X.env.locals := fun z => out (List.mem_filterMap.mpr ⟨X.env, List.mem_cons_self, by rw [frm, z]⟩)
    have ne2 : ea ∉ X.fs := fun inn => by
      obtain ⟨e2, m2, q2⟩ := List.mem_filterMap.mp inn
      exact out (List.mem_filterMap.mpr ⟨e2, List.mem_cons_of_mem _ m2, q2⟩)
    have Sa := Ja.suite ga da nea ne1 ne2
    -- what a clause's test tells
    have asks : ∀ {x : Str} {c : Value} {b : Bool} {np : Pos} {Q : Value → Shared → Prop} {E : Value → Shared → Prop}, Names X x c → (∀ sx, sx = { st with heap := ha } → Q c sx) →
        wpAny (model X.prog X.w) (X.A.mark (some (.ref ea))) (eval (.Name x np) X.env) Q E { st with heap := ha } := fun {x c b np Q E} nm q => by
      obtain ⟨gl, dbg, k1 | ⟨k1, k2, k3⟩⟩ := nm
      · exact ld_glob (X := X.suite ea ((ea, oa) :: (X.pn ++ pins))) Sa gl k1 (q _ rfl) dbg
      · exact ld_blt (X := X.suite ea ((ea, oa) :: (X.pn ++ pins))) Sa gl k1 k2 (q _ rfl) k3 dbg
    have ty : PySem.W.Looks (model X.prog X.w) ha (typeOf (.ref ea)) cls := fun A Q E s5 k q => wpAny_typeOf_ref (k _ _ ga) (za.1 ▸ q)
    have walk : ∀ {hs2 : List ExceptHandler} {l2 : List (Value × Option Nat × Sui)}, HdX X hs2 l2 → wX X.K Wout D l2 cls d σ2 H2 → wpAny (model X.prog X.w) X.A (handleBy (.ref ea) X.env hs2) (SP X pins D) X.xe { st with heap := ha } := by
      intro hs2 l2 hok
      induction hok with
      | nil =>
        intro wl
        refine wpAny_handleBy_nil ?_
        obtain ⟨r1, r2, r3, ox, vx, T, oT, tx, gx, zx, dx, t1, rx⟩ := id fla
        unfold PySem.passOn
        refine wpAny_bind (wpAny_field gx dx t1 ?_)
        have nn : ¬ ((Value.ref T == Value.none) = true) := by simp
        rw [if_neg nn]
        have up9 : wpAny (model X.prog X.w) X.A (setFlight (.ref ea) X.env.frame) (fun _ s9 => wpAny (model X.prog X.w) X.A (throw (.ref ea) : Sem Flow) (SP X pins D) X.xe s9) X.xe { st with heap := ha } := by
          rw [frm]
          refine HandSPX.setFlight_upZ fla fun hb hhb upb => wpAny_throw (tk _ _ ?_)
          exact ⟨ea, G, sI, pins, σ2, H2, cls, d, rfl, J, nb, (upS.trans upa).trans upb, .inr (.inr (stk.symm ▸ hhb)), nea, eos, bare, wl⟩
        first
          | exact wpAny_bind (wpAny_pure (wpAny_bind up9))
          | exact wpAny_bind up9
      | @plain x c ts s0 sr p1 p2 hs3 l3 nm su r ih =>
        intro wl
        obtain ⟨b, hb, yes, no⟩ := wl
        refine wpAny_handleBy_cons (codeAny_handlers_test ?_) (by intro q; cases q)
        have LM := PySem.W.exm_one (M := model X.prog X.w) Ja.kIn ty hb
        refine asks (b := b) nm fun sx ex => ?_
        subst ex
        refine LM.here ?_
        cases b with
        | false => exact ih (no rfl)
        | true =>
          refine codeAny_handlers_suite ?_
          refine HandSPX.lands_againZ fla fun hb2 flb upb => ?_
          have Jb : Inv X pins σ2 H2 { st with heap := hb2 } := J.landed nb flb.1 ((upS.trans upa).trans upb) eos bare
          obtain ⟨ob, vb, gb, zb, db⟩ := flb.there
          have Sb := Jb.suite gb db nea ne1 ne2
          refine wpAny_mono ((su ea ob cls d (X.pn ++ pins) zb ⟨_, db⟩).run [] _ _ H2 _ Sb (yes rfl ea nea)) (fun f s6 res => ?_) (fun _ _ z => False.elim z)
          cases f with
          | next => obtain ⟨σ6, H6, S6, q6⟩ := res; exact ⟨_, _, S6.unsuite okX, q6⟩
          | brk => obtain ⟨σ6, H6, S6, q6⟩ := res; exact ⟨_, _, S6.unsuite okX, q6⟩
          | cont => obtain ⟨σ6, H6, S6, q6⟩ := res; exact ⟨_, _, S6.unsuite okX, q6⟩
          | ret u => obtain ⟨v6, σ6, H6, S6, r6, q6⟩ := res; exact ⟨_, _, _, S6.unsuite okX, r6, q6⟩
      | @as x n i c ts s0 sr p1 p2 hs3 l3 nd at_ loc nm su r ih =>
        intro wl
        obtain ⟨b, hb, yes, no⟩ := wl
        have hloc : Loc X.env.scope n := .inl loc
        refine wpAny_handleBy_cons (codeAny_handlers_test ?_) (by intro q; cases q)
        have LM := PySem.W.exm_one (M := model X.prog X.w) Ja.kIn ty hb
        refine asks (b := b) nm fun sx ex => ?_
        subst ex
        refine LM.here ?_
        cases b with
        | false => exact ih (no rfl)
        | true =>
          refine codeAny_handlers_suite_as ?_
          refine HandSPX.lands_againZ fla fun hb2 flb upb => ?_
          have Jb : Inv X pins σ2 H2 { st with heap := hb2 } := J.landed nb flb.1 ((upS.trans upa).trans upb) eos bare
          obtain ⟨ob, vb, gb, zb, db⟩ := flb.there
          have Sb := Jb.suite gb db nea ne1 ne2
          refine store_ok (X := X.suite ea ((ea, ob) :: (X.pn ++ pins))) (v := .ref ea) Sb nd at_ hloc rfl (fun s5 S5 => ?_) (.inr loc)
          refine wpAny_mono ((su ea ob cls d (X.pn ++ pins) zb ⟨_, db⟩).run [] s5 _ H2 _ S5 (yes rfl ea nea)) (fun f s6 res => ?_) (fun _ _ z => False.elim z)
          have fin : ∀ {σ6 : L2.St} {H6 : Hp} {Q : Shared → Prop}, Inv (X.suite ea ((ea, ob) :: (X.pn ++ pins))) [] σ6 H6 s6 → (∀ s7, Inv X pins (σ6.set i none) H6 s7 → Q s7) →
              wpAny (model X.prog X.w) X.A (do bindName X.env n .none; unbindBehindTheSuite X.env n p2) (fun _ s7 => Q s7) X.xe s6 := fun {σ6 H6 Q} S6 k => gone_ok (S6.unsuite okX) nd at_ loc k
          cases f with
          | next => obtain ⟨σ6, H6, S6, q6⟩ := res; exact fin S6 fun s7 J7 => ⟨_, _, J7, q6⟩
          | brk => obtain ⟨σ6, H6, S6, q6⟩ := res; exact fin S6 fun s7 J7 => ⟨_, _, J7, q6⟩
          | cont => obtain ⟨σ6, H6, S6, q6⟩ := res; exact fin S6 fun s7 J7 => ⟨_, _, J7, q6⟩
          | ret u => obtain ⟨v6, σ6, H6, S6, r6, q6⟩ := res; exact fin S6 fun s7 J7 => ⟨_, _, _, J7, r6, q6⟩
    exact walk hd wish
  case went =>
    cases fl with
    | next => obtain ⟨σ2, H2, J2, q⟩ := done; exact wpAny_execs_nil ⟨σ2, H2, J2.ofTry okX, q⟩
    | brk => obtain ⟨σ2, H2, J2, q⟩ := done; exact ⟨σ2, H2, J2.ofTry okX, q⟩
    | cont => obtain ⟨σ2, H2, J2, q⟩ := done; exact ⟨σ2, H2, J2.ofTry okX, q⟩
    | ret u => obtain ⟨v, σ2, H2, J2, r, q⟩ := done; exact ⟨v, σ2, H2, J2.ofTry okX, r, q⟩
/-- C(e, ..), C an error's class with its own __init__; what is made has no context -/
theorem pmk_N {CX : CXT} {x : Str} {e : Expr} {es : List Expr} {ta : TA} {p pos : Pos} {C fI : Addr} {k : Nat} {fd : FuncData} {ps : List Str} {sp : Sp} (T : OexC X.K C)
    (iC : PySem.W.findIn X.K (.ref C) "__init__" = some (some (.ref fI))) (tI : PySem.W.typeIn X.K (.ref fI) = some (.type "function")) (F1 : FnOk X.prog X.w X.K X.mg X.base CX k fI fd ps sp) (hr : Room (k + 1) X.A)
    (hb : Binds X.K fd ps []) (hx : Passes CX X (fun _ _ _ => False)) (hg : Gl X x) (hm : X.mg x = some (.ref C)) (ha : PA X (e :: es) ta) (hdb : (x == ("__debug__" : Str)) = false := by decide)
    (he : starEach (e :: es) X.env = (false, eval e X.env) :: starEach es X.env := by rfl) (hpl : (backTo pos (starEach es X.env)).any (·.1) = false := by rfl) : L2N.PMk X (.Call (.Name x p) (e :: es) [] pos) (tMkO C sp [] ta) := by
  intro pins s σ H Q I hyp
  obtain ⟨nm, qn, N, bs, bm, sn, sub, ab, col, dd, m0, m1, m2, m3, m5, lkC, okB⟩ := T.cls
  refine wpAny_Call_Name_kw (ld_glob I hg hm ?_ hdb)
  refine PySem.W.callWith_K (h₀ := X.base) I.ok.mod.kin T.kC (thn (ha.run pos pins s σ H _ I hyp) fun us st ⟨vs, H1, I1, rel, short, next⟩ => ⟨I1.kIn, ?_⟩) he hpl
  show wpAny _ _ (call (.ref C) us) _ _ _
  obtain ⟨hp, gs, dr, tk, os⟩ := st
  have sz1 : hp.objs.size ≤ hp.objs.size + 1 := Nat.le_succ _
  have fresh : H1 (hp.objs.size + 1) = none := I1.hok.fresh sz1
  have pro := next (hp.objs.size + 1) fresh
  rw [List.append_nil] at pro
  have keeps : ∀ b o, hp.get? b = some o → ((hp.push (PySem.W.kdv_tup us)).push (PySem.HandSPX.excO C hp.objs.size)).get? b = some o := fun b o z => Heap.get?_push_of_some _ (Heap.get?_push_of_some _ z)
  have stands : ((hp.push (PySem.W.kdv_tup us)).push (PySem.HandSPX.excO C hp.objs.size)).get? (hp.objs.size + 1) = some (PySem.HandSPX.excO C hp.objs.size) := by heap_get
  have Inew : Inv X pins σ (upd H1 (hp.objs.size + 1) (exo (hp.objs.size + 1) C none)) ⟨(hp.push (PySem.W.kdv_tup us)).push (PySem.HandSPX.excO C hp.objs.size), gs, dr, tk, os⟩ :=
    I1.laid (t' := tk) (h' := (hp.push (PySem.W.kdv_tup us)).push (PySem.HandSPX.excO C hp.objs.size)) (o := exo (hp.objs.size + 1) C none) (a := hp.objs.size + 1) keeps sz1 (exo_ok stands)
  have rel2 : Vals (V.ref (hp.objs.size + 1) :: vs) (Value.ref (hp.objs.size + 1) :: us) := .cons rfl rel
  have len2 : (Value.ref (hp.objs.size + 1) :: us ++ []).length = ps.length := by
    have z := rel2.length
    rw [F1.len _ _ _ _ pro] at z
    rw [List.append_nil]
    exact z.symm
  have fits : us.length ≤ sizeLine := by
    rw [← Paired.length rel, sizeLine_eq]
    omega
  have bnd := hb _ (Value.ref (hp.objs.size + 1) :: us) Inew.kIn len2
  rw [List.append_nil] at bnd
  refine wpAny_call (PySem.HandSPX.call_own F.excBase_ValueError (fun Y => PySem.HandSPX.refsVE_contains Y bm okB) (I1.kIn _ _ lkC) (PySem.W.looks_findIn I1.kIn iC) (fun me => PySem.W.bind_fn I1.kIn me tI) fits
    (codeAny_mono (F1.run _ X.stack _ _ ⟨Value.ref (hp.objs.size + 1) :: us, []⟩ (Value.ref (hp.objs.size + 1) :: us) _ _ (fun _ _ _ => False) (hr.make C us []) (Inew.env0.make C us []) bnd rel2 pro) fun r s2 res => ?_))
  cases r with
  | error er => exact hx pins σ _ _ er s2 Inew res
  | ok fl =>
    cases fl with
    | ret u =>
      obtain ⟨v, H2, os2, bare2, un2, hok2, rv, ev, d, fs, ea, ed, hd1, q2⟩ := res
      subst ev
      obtain ⟨h2, g2, d2, t2, osx⟩ := s2
      obtain ⟨t0, G, J, kG, gone, there, na⟩ := mk_end0 (d2 := d2) (t2 := t2) I1 sz1 keeps un2 hok2 os2 bare2 ea ed hd1
      refine ⟨rv, hp.objs.size + 1, _, _, ⟨G, g2, d2, t2, osx⟩, _, .ref C, some d, rfl, J, kG, gone, there, ⟨rfl, rfl, fun fv z => ?_⟩, rfl, rfl, na, rfl, bare2, raises_own T.exC T.tyC, q2⟩
      cases z
      rfl
    | next => exact False.elim res
    | brk => exact False.elim res
    | cont => exact False.elim res
end
/-- the fields that an error's __init__ stores, the last one first -/
def flds : List Str → List V → List (Str × V) → List (Str × V)
  | f :: fs, v :: vs, acc => flds fs vs ((f, v) :: acc)
  | _, _, acc => acc
/-- __init__(self, f1, ..): the fields are stored in order -/
def sp_einit (C : Addr) (names : List Str) : Sp := fun vs H Q _ => ∃ (a : Addr) (ws : List V), vs = .ref a :: ws ∧ ws.length = names.length ∧ H a = some (exo a C none) ∧
  ∀ (d : Addr) (H' : Hp), H d = none → d ≠ a → H' a = some (exo a C (some d)) → H' d = some (exd d (flds names ws [])) → (∀ b, b ≠ a → b ≠ d → H' b = H b) → Q .non H'
/-- raise C(e, ..): an error of the class, whose own dict at d, new, holds the fields -/
def tRaiseF (C : Addr) (names : List Str) (Wout : WX) (ta : TA) : TS := fun D σ H => ta σ H fun vs H1 => vs.length = names.length ∧ vs.length ≤ 1000 ∧
  ∀ (d : Addr) (H' : Hp), H1 d = none → H' d = some (.xd (flds names vs [])) → (∀ b o, H1 b = some o → H' b = some o) → Wout (.ref C) (some d) σ H'
theorem mko_of {C : Addr} {names : List Str} {ta : TA} {σ : L2.St} {H : Hp} {Q : XK} (m : ∀ (R R' : List V → Hp → Prop), (∀ vs H1, R vs H1 → R' vs H1) → ta σ H R → ta σ H R')
    (h : ta σ H fun vs H1 => vs.length = names.length ∧ vs.length ≤ 1000 ∧ ∀ (d : Addr) (H' : Hp), H1 d = none → H' d = some (.xd (flds names vs [])) → (∀ b o, H1 b = some o → H' b = some o) → Q (.ref C) (some d) H') :
    tMkO C (sp_einit C names) [] ta σ H Q := m _ _ (fun vs H1 ⟨l1, l2, k⟩ => ⟨l2, fun a na => by
  rw [List.append_nil]
  refine ⟨a, vs, rfl, l1, upd_same, fun d H' nd ne ha hd rest => ⟨rfl, d, _, ha, hd, ?_, ?_⟩⟩
  · rw [upd_ne ne] at nd; exact nd
  · rw [upd_ne ne] at nd
    refine k d _ nd upd_same fun b o hb => ?_
    have nba : b ≠ a := ne_of_none hb na
    have nbd : b ≠ d := ne_of_none hb nd
    rw [upd_ne nbd, del_ne nba, rest b nba nbd, upd_ne nba]
    exact hb⟩) h
theorem u_try {K : PySem.W.Frag} {tb : WX → TS} {W : WX} {l : List (Value × Option Nat × Sui)} {D : Ends} {σ : L2.St} {H : Hp} : tTryX K tb W l D σ H = tb (wX K W D l) D σ H := rfl
theorem u_sui {i : Nat} {ts : Sui} {a : Addr} {cls : Value} {d : Option Addr} {D : Ends} {σ : L2.St} {H : Hp} : suiAt (some i) ts a cls d D σ H = ts a cls d (unb i D) (σ.set i (some (.ref a))) H := rfl
theorem u_sui0 {ts : Sui} {a : Addr} {cls : Value} {d : Option Addr} {D : Ends} {σ : L2.St} {H : Hp} : suiAt none ts a cls d D σ H = ts a cls d D σ H := rfl
theorem u_unb_rt {i : Nat} {D : Ends} : (unb i D).rt = D.rt := rfl
theorem u_unb_nx {i : Nat} {D : Ends} {σ : L2.St} {H : Hp} : (unb i D).nx σ H = D.nx (σ.set i none) H := rfl
theorem u_xf {a C : Addr} {cls : Value} {d : Option Addr} {f : Str} {te : TE} {σ : L2.St} {H : Hp} {Q : VK} : tXf a cls d C f te σ H Q = te σ H fun x H1 => x = .ref a ∧ cls = .ref C ∧ ∃ (dd : Addr) (fs : List (Str × V)) (v : V), d = some dd ∧ H1 dd = some (.xd fs) ∧ fs.lookup f = some v ∧ Q v H1 := rfl
/-- the clause that takes the error *)-/
theorem wX_yes {K : PySem.W.Frag} {W : WX} {D : Ends} {c : Value} {o : Option Nat} {ts : Sui} {r : List (Value × Option Nat × Sui)} {cls : Value} {d : Option Addr} {σ : L2.St} {H : Hp} (h : PySem.W.exmOne K cls c = some true) (k : ∀ a, H a = none → suiAt o ts a cls d D σ H) :
    wX K W D ((c, o, ts) :: r) cls d σ H := ⟨true, h, fun _ => k, fun z => (by cases z)⟩
theorem wX_no {K : PySem.W.Frag} {W : WX} {D : Ends} {c : Value} {o : Option Nat} {ts : Sui} {r : List (Value × Option Nat × Sui)} {cls : Value} {d : Option Addr} {σ : L2.St} {H : Hp} (h : PySem.W.exmOne K cls c = some false) (k : wX K W D r cls d σ H) :
    wX K W D ((c, o, ts) :: r) cls d σ H := ⟨false, h, fun z => (by cases z), fun _ => k⟩
theorem u_WE {W : WX} {σ : L2.St} {cls : Value} {d : Option Addr} {H : Hp} : WE W σ cls d H = W cls d σ H := rfl
theorem u_raise {C : Addr} {names : List Str} {W : WX} {ta : TA} {D : Ends} {σ : L2.St} {H : Hp} : tRaiseF C names W ta D σ H = ta σ H fun vs H1 => vs.length = names.length ∧ vs.length ≤ 1000 ∧
  ∀ (d : Addr) (H' : Hp), H1 d = none → H' d = some (.xd (flds names vs [])) → (∀ b o, H1 b = some o → H' b = some o) → W (.ref C) (some d) σ H' := rfl
/-- an argument list bears a weaker wish -/
def MonA (ta : TA) : Prop := ∀ (σ : L2.St) (H : Hp) (R R' : List V → Hp → Prop), (∀ vs H1, R vs H1 → R' vs H1) → ta σ H R → ta σ H R'
def MonT (te : TE) : Prop := ∀ (σ : L2.St) (H : Hp) (R R' : VK), (∀ v H1, R v H1 → R' v H1) → te σ H R → te σ H R'
theorem mon_nil : MonA tNil := fun σ H R R' k h => k _ _ h
theorem mon_cons {te : TE} {tr : TA} (h1 : MonT te) (h2 : MonA tr) : MonA (tCons te tr) := fun σ H R R' k h => h1 σ H _ _ (fun v H1 q => h2 σ H1 _ _ (fun vs H2 q2 => k _ _ q2) q) h
theorem mon_var {i : Nat} : MonT (tVar i) := fun σ H R R' k ⟨v, e, q⟩ => ⟨v, e, k _ _ q⟩
theorem mon_c {v : V} : MonT (tC v) := fun σ H R R' k q => k _ _ q
section
variable {X : Cx}
theorem ps_raiseF {CX : CXT} {x : Str} {e : Expr} {es : List Expr} {ta : TA} {p pos pos2 : Pos} {C fI : Addr} {k : Nat} {fd : FuncData} {ps names : List Str} {W : WX} (hc : X.calm = true) (T : OexC X.K C)
    (iC : PySem.W.findIn X.K (.ref C) "__init__" = some (some (.ref fI))) (tI : PySem.W.typeIn X.K (.ref fI) = some (.type "function")) (F1 : FnOk X.prog X.w X.K X.mg X.base CX k fI fd ps (sp_einit C names)) (hr : Room (k + 1) X.A)
    (hb : Binds X.K fd ps []) (hx : Passes CX X (fun _ _ _ => False)) (hg : Gl X x) (hm : X.mg x = some (.ref C)) (tk : L2N.Takes X W) (mon : MonA ta) (ha : PA X (e :: es) ta) (hdb : (x == ("__debug__" : Str)) = false := by decide)
    (he : starEach (e :: es) X.env = (false, eval e X.env) :: starEach es X.env := by rfl) (hpl : (backTo pos (starEach es X.env)).any (·.1) = false := by rfl) :
    PS X (.Raise (some (.Call (.Name x p) (e :: es) [] pos)) none pos2) (tRaiseF C names W ta) :=
  ⟨fun pins s σ H D I q => (L2N.ps_raise hc tk (pmk_N T iC tI F1 hr hb hx hg hm ha hdb he hpl)).run pins s σ H D I (mko_of (Q := fun cls d H' => W cls d σ H') (fun R R' => mon σ H R R') q)⟩
theorem takesN0 {X : Cx} : L2N.Takes X (fun _ _ _ _ => False) := fun _ _ z => by
  obtain ⟨_, _, _, _, _, _, _, _, _, _, _, _, _, _, _, _, no⟩ := z
  exact no.elim
theorem pass0S {X : Cx} {E : L2.St → XK} : ∀ σ, PassesAt CX0 X σ (E σ) := fun _ _ _ _ _ _ _ z => z.elim
theorem passE {X : Cx} {E : XK} : Passes CX0 X E := fun _ _ _ _ _ _ _ z => z.elim
/-- a def that may raise -/
theorem okN {P : Program} {w : World} {K : PySem.W.Frag} {mg : Str → Option Value} {base : Heap} {x qual : Str} {st : Stmt} {f : Addr} {fd : FuncData} {N ps : List Str} {k : Nat} {sp : Sp} (F : Fun K x qual st f fd) (S : FnScope N ps (defScope st))
    (len : ∀ vs H Q E, sp vs H Q E → vs.length = ps.length)
    (hbody : ∀ (cdv : Value) (A : Around) (outer : List Env) (s : Shared) (H : Hp) (vs : List V) (Q : VK) (E : XK), Room k (A.deeper (envOfC qual (defScope st) s.heap.objs.size f cdv)) → sp vs H Q E →
      ∃ t, PSs (cxOf (L2N.CX P w) P w K mg base N qual (defScope st) f cdv A outer s H E) (defBody st) t ∧ t { nx := fun _ H' => Q .non H', rt := Q } (start N vs) H) : FnOk P w K mg base (L2N.CX P w) (k + 1) f fd ps sp := by
  obtain ⟨oc, od, kV, doc, pm, an, cdv, ct, osl, rfl, lk, hcd⟩ := F.ex
  exact fn_of lk hcd S len fun A outer s H vs Q E hr hsp => hbody cdv A outer s H vs Q E hr hsp
end
end XB

/-! isinstance of a caught error that has its own dict. -/
namespace XB
open PySem PySem.Spec PySem.Calls PyProof.Rows PySem.W
section
variable {prog : Program} {w : World} {A : Around} {E : Value → Shared → Prop} {s : Shared} {K : Frag} {x D : Addr} {ox : Obj} {od : Option Obj}
theorem err_class {Q : Option Value → Shared → Prop} (T : L2.ExcC K D) (hf : findObj K D od "__class__" = some (.bind (.builtin "getset_descriptor.__get__") (.builtin "object.__class__")))
    (X : K.In s.heap) (I : InstAt s.heap x ox D od) (h : Q (some (.ref D)) { s with toks := s.toks + 1 }) : wpAny (model prog w) A (getAttr? (.ref x) "__class__") Q E s := by
  obtain ⟨hp, gs, dr, tk, os⟩ := s
  have lk0 := I.type (M := model prog w)
  have lk1 := looks_findIn (M := model prog w) X T.hg
  have lk2 := looks_findIn (M := model prog w) X T.hk
  have lk3 := looks_find (M := model prog w) X I hf
  have isB : Looks (model prog w) hp (isInstance (.ref x) (.type "BaseException")) true := lk0.andThen (looks_subIn X T.hs)
  have e0 : (false && onTheHeap (Value.builtin "BaseException.__getattribute__")) = false := rfl
  have e2 : (Value.builtin "BaseException.__getattribute__" == Value.builtin "object.__getattribute__") = false := by decide +kernel
  have e1 : (onTheHeap (Value.ref D) && Value.builtin "BaseException.__getattribute__" == Value.builtin "object.__getattribute__") = false := by rw [e2] <;> rfl
  unfold getAttr? getAttrBy? getAttrBy
  refine wpAny_bind (wpAny_mkText (wpAny_bind (wpAny_attempt (wpAny_holding (wpAny_bind (lk0.at (wpAny_bind (lk1.at ?go))))))))
  case go =>
    show wpAny _ _ (if (onTheHeap (Value.ref D) && Value.builtin "BaseException.__getattribute__" == Value.builtin "object.__getattribute__") = true then _ else _) _ _ _
    rw [e1]
    rw [if_neg Bool.false_ne_true]
    unfold getAttrByItsOwn hookBefore
    refine wpAny_bind ?own
    case own =>
      rw [if_pos (show onTheHeap (Value.ref D) = true from rfl)]
      refine lk2.at (wpAny_bind (wpAny_attempt (wpAny_holding ?inner)))
      case inner =>
        unfold callGetattribute
        rw [e0]
        rw [if_neg Bool.false_ne_true]
        unfold boundAndCalled
        rw [PySem.F.excAttr_ValueError.ga.bind (.ref x)]
        refine wpAny_bind (wpAny_pure ?called)
        case called =>
          show wpAny _ _ (call (.builtin "BaseException.__getattribute__") [.ref x, .str "__class__" tk]) _ _ _
          refine wpAny_call (codeAny_call_builtin PySem.F.excAttr_ValueError.ga.plain PySem.F.entry_bexc_ga ?slot)
          case slot =>
            refine @check_slot (model prog w) _ _ ⟨hp, gs, dr, tk + 1, os⟩ "BaseException.__getattribute__" "BaseException" "__getattribute__" (.ref x) [.str "__class__" tk] [] _ (by decide +kernel) (by decide +kernel) isB (PySem.F.args_bexc_ga (.ref x) (.str "__class__" tk)) ?body
            case body =>
              unfold Builtin.«object.__getattribute__»
              refine wpAny_bind (wpAny_of_eq (a := ((Value.ref x : Value), [Value.str "__class__" tk])) (by first | rfl | (simp only [slotArgs] <;> rfl)) ?rest)
              case rest =>
                refine wpAny_bind (wpAny_pure (wpAny_bind (lk0.at (wpAny_bind (lk3.at ?get)))))
                case get =>
                  show wpAny _ _ (holding [Value.builtin "object.__class__"] (call (.builtin "getset_descriptor.__get__") [.builtin "object.__class__", .ref x, .ref D]) >>= ret) _ _ _
                  refine wpAny_bind (wpAny_holding (wpAny_call (class_get (s := ⟨hp, gs, dr, tk + 1, os⟩) (ox := ox) (od := od) X I T.hm ?out)))
                  case out =>
                    refine wpAny_pure ?end_
                    case end_ =>
                      show wpAny _ _ (handedOut (.ref D)) _ _ _
                      rw [handedOut_of (v := .ref D) rfl]
                      first
                        | exact wpAny_pure (wpAny_pure h)
                        | exact wpAny_pure h
                        | exact wpAny_pure (wpAny_bind (wpAny_pure (wpAny_pure h)))
theorem err_kit (T : L2.ExcC K D) (hf : findObj K D od "__class__" = some (.bind (.builtin "getset_descriptor.__get__") (.builtin "object.__class__"))) : KitX K (.ref x) (.ref D) (fun hp => InstAt hp x ox D od) where
  ty := fun _ _ _ I => I.type
  it := fun _ _ X _ => by
    obtain ⟨cd, hc, _⟩ := any_some T.hd
    unfold clsIn at hc
    split at hc
    · rename_i o2 d2 c2 l2 at2
      intro A2 Q2 E2 s2 k q
      unfold isType loadHead
      exact wpAny_bind (wpAny_loadPart (k _ _ (X _ _ at2)) (wpAny_pure q))
    · cases hc
  ne := fun hp tp dd its n sl X at_ => by
    obtain ⟨cd, hc, _⟩ := any_some T.hd
    refine Bool.eq_false_iff.mpr fun z => ?_
    have same : D = tp := Value.ref.inj (beq_iff_eq.mp z)
    subst same
    unfold clsIn at hc
    split at hc
    · rename_i o2 d2 c2 l2 at2
      have y := (X _ _ at2).symm.trans at_
      cases y
    · cases hc
  ca := fun X I k => err_class T hf X I k
end
open L2
/-- what the class at D must say, that isinstance asks its instances rightly -/
structure ErrC (K : PySem.W.Frag) (D : Addr) : Prop where
  ex : L2.ExcC K D
def fIsE (K : PySem.W.Frag) (D a : Addr) (cls : Value) (d : Option Addr) : RL := fun xs H Q => ∃ (c : V) (cv : Value) (b : Bool) (dd : Addr) (fs : List (Str × V)), xs = [.ref a, c] ∧ (∀ u, RelV c u → u = cv) ∧ cls = .ref D ∧ d = some dd ∧ H dd = some (.xd fs) ∧
  PySem.W.kitOne K (.ref D) cv = some b ∧ Q (.bl b) H
def fIsET (K : PySem.W.Frag) (D a : Addr) (cls : Value) (d : Option Addr) : RL := fun xs H Q => ∃ (tp : Addr) (cs : List V) (us : List Value) (b : Bool) (dd : Addr) (fs : List (Str × V)), xs = [.ref a, .ref tp] ∧ H tp = some (.tup cs) ∧ Paired ClsV cs us ∧ cls = .ref D ∧ d = some dd ∧ H dd = some (.xd fs) ∧
  PySem.W.kitAny K (.ref D) us = some b ∧ Q (.bl b) H
section
variable {X : Cx} {a D : Addr} {oe : Obj} {cls : Value} {d : Option Addr} {pn : List (Addr × Obj)}
theorem err_at {pins : List (Addr × Obj)} {σ : L2.St} {H : Hp} {s : Shared} {dd : Addr} {fs : List (Str × V)} (I : Inv (X.suite a ((a, oe) :: pn)) pins σ H s) (hz : L2N.Zn (.ref D) (some dd) oe) (hf : ∃ fv, oe.data = .fields fv) (hx : H dd = some (.xd fs)) :
    ∃ od, PySem.W.InstAt s.heap a oe D (some od) := by
  obtain ⟨at_, _⟩ := I.pin (a, oe) (List.mem_append_left _ List.mem_cons_self)
  have ob : ObjOk (X.suite a ((a, oe) :: pn)).prog (X.suite a ((a, oe) :: pn)).w H s.heap dd (.xd fs) := I.hok dd _ hx
  obtain ⟨mA, hns, _⟩ := ob
  obtain ⟨od, ho, _⟩ := lookIn_ns hns
  obtain ⟨fv, hd⟩ := hf
  exact ⟨od, at_, hz.1, by unfold PySem.W.notCls; rw [hd] <;> rfl, by rw [hz.2.1]; exact ho⟩
theorem c_isE (T : L2.ExcC X.K D) (hz : L2N.Zn cls d oe) (hf : ∃ fv, oe.data = .fields fv) : CallR (X.suite a ((a, oe) :: pn)) (.builtin "isinstance") (fIsE X.K D a cls d) := by
  intro pins s σ H xs us Q I r h
  obtain ⟨c, cv, b, dd, fs, rfl, hcv, rfl, rfl, hx, e, q⟩ := h
  obtain ⟨u1, u2, rfl, r1, r2⟩ := vals2 r
  cases (show u1 = Value.ref a from r1)
  have ec := hcv _ r2
  subst ec
  obtain ⟨od, J⟩ := err_at I hz hf hx
  exact PySem.W.kia_one (err_kit T (PySem.W.findObj_data (by obtain ⟨cd, hc, _⟩ := PySem.W.any_some T.hd; rw [hc] <;> rfl) T.ha T.hn T.ht)) I.kIn J e (fun z => nomatch z) fun tk => ⟨.bl b, H, I.kept (t' := tk) fun _ _ z => z, rfl, q⟩
theorem c_isET (T : L2.ExcC X.K D) (hz : L2N.Zn cls d oe) (hf : ∃ fv, oe.data = .fields fv) : CallR (X.suite a ((a, oe) :: pn)) (.builtin "isinstance") (fIsET X.K D a cls d) := by
  intro pins s σ H xs us Q I r h
  obtain ⟨tp, cs, ws, b, dd, fs, rfl, hT, k, rfl, rfl, hx, e, q⟩ := h
  obtain ⟨u1, u2, rfl, r1, r2⟩ := vals2 r
  cases (show u1 = Value.ref a from r1)
  cases (show u2 = Value.ref tp from r2)
  obtain ⟨od, J⟩ := err_at I hz hf hx
  have ot : ObjOk (X.suite a ((a, oe) :: pn)).prog (X.suite a ((a, oe) :: pn)).w H s.heap tp (.tup cs) := I.hok tp _ hT
  obtain ⟨_, its, rv, o, h1, h2, n, h3⟩ := ot
  have e3 := ClsV.all k rv
  subst e3
  obtain ⟨oc, odd, dt, sl⟩ := o
  simp only at h2 h3
  subst h2 h3
  exact PySem.W.kia_tup (err_kit T (PySem.W.findObj_data (by obtain ⟨cd, hc, _⟩ := PySem.W.any_some T.hd; rw [hc] <;> rfl) T.ha T.hn T.ht)) I.kIn J h1 e (fun z => nomatch z) fun tk => ⟨.bl b, H, I.kept (t' := tk) fun _ _ z => z, rfl, q⟩
end
end XB

/-! The helpers that draw. -/
namespace XB
open PySem L2
theorem upd_ne' {H : Hp} {a b : Addr} {o : HO} (h : a ≠ b) : upd H a o b = H b := upd_ne (Ne.symm h)
local macro_rules | `(tactic| walk_at "s") => `(tactic| try simp only [u_var, u_c, u_op, u_un, u_nil, u_cons, u_cb, u_call, u_callS, u_tup, u_lst, u_test, u_B, u_and, u_or, u_not, u_andV, u_orV, u_notV, u_ifE, u_chain, u_sl, u_noPart, u_part, u_bm, u_bm0, u_rev, u_lc, u_try, u_sui, u_sui0, u_unb_rt, u_unb_nx, u_xf, u_WE, w_nil, w_cons, u_raise, u_rng1, u_rng2, u_next, u_ret, u_gname, u_gnil, u_gcons, u_gsub, u_gtup,
  f_add, f_addS, f_addR, f_sub, f_mul, f_mulR, f_mod, f_div, f_pow, f_neg, f_cmp, f_eq, f_eqB, f_eqS, f_ne, f_neB, f_neS, f_isN, f_notN, f_isB, f_ix, f_ixS, f_int, f_intB, f_len, f_lenS, f_max, f_min, f_abs, f_list, f_tuple, f_all, f_sum, f_isi, f_isiT, f_append, f_insert, f_pop, f_sl, f_set,
  kitS, tys, List.isEmpty_cons, Option.map_some, kt_NoneType_int, kt_NoneType_bool, kt_NoneType_str, kt_NoneType_list, kt_NoneType_tuple, kt_NoneType_dict, kt_int_int, kt_int_bool, kt_int_str, kt_int_list, kt_int_tuple, kt_int_dict, kt_bool_int, kt_bool_bool, kt_bool_str, kt_bool_list, kt_bool_tuple, kt_bool_dict, kt_str_int, kt_str_bool, kt_str_str, kt_str_list, kt_str_tuple, kt_str_dict, kt_list_int, kt_list_bool, kt_list_str, kt_list_list, kt_list_tuple, kt_list_dict, kt_tuple_int, kt_tuple_bool, kt_tuple_str, kt_tuple_list, kt_tuple_tuple, kt_tuple_dict, kt_dict_int, kt_dict_bool, kt_dict_str, kt_dict_list, kt_dict_tuple, kt_dict_dict, asL_lst, asL_frz, asL_tup, asT_tup, asS_lst, asS_frz, asS_tup, tyN_non, tyN_bl, tyN_int, tyN_str, atV_lit, ixN_lit, upd_same, upd_ne, upd_ne',
  List.getElem?_cons_zero, List.getElem?_cons_succ, List.set_cons_zero, List.set_cons_succ, List.append_nil, List.length_cons, List.length_nil, Option.some.injEq, exists_eq_left', exists_eq_left, exists_and_left, V.bl.injEq, V.int.injEq, V.str.injEq, V.ref.injEq, Bool.not_eq_true, Bool.not_true, Bool.not_false, decide_true, decide_false, decide_eq_true_eq, decide_eq_false_iff_not, Bool.false_eq_true, if_true, if_false, ite_true, ite_false, reduceCtorEq, true_and, and_true, Nat.reduceAdd, Nat.reduceLT, Nat.zero_add, ne_eq, not_false_eq_true, not_true_eq_false, List.cons.injEq, and_assoc])
local macro_rules | `(tactic| walk_at "S") => `(tactic| try simp only [u_var, u_c, u_op, u_un, u_nil, u_cons, u_cb, u_call, u_callS, u_tup, u_lst, u_test, u_B, u_and, u_or, u_not, u_andV, u_orV, u_notV, u_ifE, u_chain, u_sl, u_noPart, u_part, u_bm, u_bm0, u_rev, u_lc, u_try, u_sui, u_sui0, u_unb_rt, u_unb_nx, u_xf, u_WE, w_nil, w_cons, u_raise, u_rng1, u_rng2, u_next, u_ret, u_gname, u_gnil, u_gcons, u_gsub, u_gtup,
  f_add, f_addS, f_addR, f_sub, f_mul, f_mulR, f_mod, f_div, f_pow, f_neg, f_cmp, f_eq, f_eqB, f_eqS, f_ne, f_neB, f_neS, f_isN, f_notN, f_isB, f_ix, f_ixS, f_int, f_intB, f_len, f_lenS, f_max, f_min, f_abs, f_list, f_tuple, f_all, f_sum, f_isi, f_isiT, f_append, f_insert, f_pop, f_sl, f_set,
  kitS, tys, List.isEmpty_cons, Option.map_some, kt_NoneType_int, kt_NoneType_bool, kt_NoneType_str, kt_NoneType_list, kt_NoneType_tuple, kt_NoneType_dict, kt_int_int, kt_int_bool, kt_int_str, kt_int_list, kt_int_tuple, kt_int_dict, kt_bool_int, kt_bool_bool, kt_bool_str, kt_bool_list, kt_bool_tuple, kt_bool_dict, kt_str_int, kt_str_bool, kt_str_str, kt_str_list, kt_str_tuple, kt_str_dict, kt_list_int, kt_list_bool, kt_list_str, kt_list_list, kt_list_tuple, kt_list_dict, kt_tuple_int, kt_tuple_bool, kt_tuple_str, kt_tuple_list, kt_tuple_tuple, kt_tuple_dict, kt_dict_int, kt_dict_bool, kt_dict_str, kt_dict_list, kt_dict_tuple, kt_dict_dict, asL_lst, asL_frz, asL_tup, asT_tup, asS_lst, asS_frz, asS_tup, tyN_non, tyN_bl, tyN_int, tyN_str, atV_lit, ixN_lit, upd_same, upd_ne, upd_ne',
  List.getElem?_cons_zero, List.getElem?_cons_succ, List.set_cons_zero, List.set_cons_succ, List.append_nil, List.length_cons, List.length_nil, Option.some.injEq, exists_eq_left', exists_eq_left, exists_and_left, V.bl.injEq, V.int.injEq, V.str.injEq, V.ref.injEq, Bool.not_eq_true, Bool.not_true, Bool.not_false, decide_true, decide_false, decide_eq_true_eq, decide_eq_false_iff_not, Bool.false_eq_true, if_true, if_false, ite_true, ite_false, reduceCtorEq, true_and, and_true, Nat.reduceAdd, Nat.reduceLT, Nat.zero_add, ne_eq, not_false_eq_true, not_true_eq_false, List.cons.injEq, and_assoc, *])
/-- all that stood stands, but for what stood at st; and st goes on with the numbers that it had -/
def Kp (st : Addr) (H H' : Hp) : Prop := (∀ a o, a ≠ st → H a = some o → H' a = some o) ∧ ∀ c r, H st = some (.lst (c :: r)) → ∃ r', H' st = some (.lst (c :: r'))
theorem Kp.refl (st : Addr) (H : Hp) : Kp st H H := ⟨fun _ _ _ h => h, fun _ r h => ⟨r, h⟩⟩
theorem Kp.trans {st : Addr} {H H1 H2 : Hp} (a : Kp st H H1) (b : Kp st H1 H2) : Kp st H H2 := ⟨fun x o n h => b.1 x o n (a.1 x o n h), fun c r h => by
  obtain ⟨r1, h1⟩ := a.2 c r h
  exact b.2 c r1 h1⟩
theorem Kp.put {st : Addr} {H H1 : Hp} {x : V} {r r' : List V} (a : Kp st H H1) (e : H1 st = some (.lst (x :: r))) : Kp st H (upd H1 st (.lst (x :: r'))) := ⟨fun x u n h => by
  rw [upd_ne n]
  exact a.1 x u n h, fun c z h => by
  obtain ⟨r1, h1⟩ := a.2 c z h
  rw [e] at h1
  cases h1
  exact ⟨r', upd_same⟩⟩
theorem Kp.new {st p : Addr} {H H1 : Hp} {o : HO} (a : Kp st H H1) (h : H1 p = none) : Kp st H (upd H1 p o) := ⟨fun x u n e => by
  rw [upd_ne (ne_of_none (a.1 x u n e) h)]
  exact a.1 x u n e, fun c z e => by
  obtain ⟨r1, h1⟩ := a.2 c z e
  exact ⟨r1, by rw [upd_ne (ne_of_none h1 h)]; exact h1⟩⟩
/-- the store of the draws: the script's numbers, the place, what is left of a great one, the count, the seed -/
def StL (H : Hp) (st c : Addr) (ns : List Int) (a b d e : Int) : Prop :=
  H st = some (.lst [.ref c, .int a, .int b, .int d, .int e]) ∧ H c = some (.lst (ns.map V.int)) ∧ c ≠ st ∧ 0 ≤ a ∧ ns.length ≤ 1000
def StAt (H : Hp) (st : Addr) : Prop := ∃ (c : Addr) (ns : List Int) (a b d e : Int), StL H st c ns a b d e
theorem StAt.new {H : Hp} {st p : Addr} {o : HO} (s : StAt H st) (h : H p = none) : StAt (upd H p o) st := by
  obtain ⟨c, ns, a, b, d, e, h1, h2, h3, h4, h5⟩ := s
  exact ⟨c, ns, a, b, d, e, by rw [upd_ne (ne_of_none h1 h)]; exact h1, by rw [upd_ne (ne_of_none h2 h)]; exact h2, h3, h4, h5⟩
theorem Kp.asS {st p : Addr} {H H' : Hp} {xs : List V} (k : Kp st H H') (n : p ≠ st) (h : XB.asS (H p) = some xs) : XB.asS (H' p) = some xs := by
  cases e : H p with
  | none => rw [e] at h; cases h
  | some o => rw [k.1 p o n e, ← e]; exact h
theorem Kp.asL {st p : Addr} {H H' : Hp} {xs : List V} (k : Kp st H H') (n : p ≠ st) (h : XB.asL (H p) = some xs) : XB.asL (H' p) = some xs := by
  cases e : H p with
  | none => rw [e] at h; cases h
  | some o => rw [k.1 p o n e, ← e]; exact h
theorem StAt.sm {H H' : Hp} {st : Addr} (s : StAt H st) (k : Sm H H') : StAt H' st := by
  obtain ⟨c, ns, a, b, d, e, h1, h2, h3, h4, h5⟩ := s
  exact ⟨c, ns, a, b, d, e, k _ _ h1, k _ _ h2, h3, h4, h5⟩
theorem StAt.ne {H : Hp} {st p : Addr} (s : StAt H st) (h : H p = none) : p ≠ st := by
  obtain ⟨c, ns, a, b, d, e, h1, _⟩ := s
  exact (ne_of_none h1 h).symm
theorem kp_sm {H H' : Hp} {st : Addr} (k : Sm H H') : Kp st H H' := ⟨fun a o _ h => k a o h, fun c r h => ⟨r, k _ _ h⟩⟩
structure CA where
  (CrossError BadShape Lacking NoRank : Addr)
theorem below {base many : Int} (h : 0 < base) (hb : base = many ∨ base = 1) (x : Int) : x % base < many ∨ x % base = 0 := by
  have h1 := Int.emod_lt_of_pos x h
  have h2 := Int.emod_nonneg x (show base ≠ 0 by omega)
  rcases hb with e | e
  · rw [← e]; exact .inl h1
  · rw [e] at h1 h2 ⊢; exact .inr (by omega)
theorem log_small {base : Int} (h : 0 < base) (hb : base < 2 ^ 64) : base.natAbs.log2 < 9000 := by
  have h1 : base.natAbs < 2 ^ 64 := by omega
  have h2 := (Nat.log2_lt (n := base.natAbs) (k := 64) (by omega)).mpr h1
  omega
def sp_l_mixed (K : PySem.W.Frag) (C : CA) : Sp := fun vs H Q _ => ∃ a k : Int, vs = [.int a, .int k] ∧ ∀ r : Int, 0 ≤ r → r < 2147483629 → Q (.int r) H
def rd_l_mixed (K : PySem.W.Frag) (C : CA) (E : XK) : TS :=
  (tSeq (tAsg (tOp fMod (tCB fInt (tCons (tOp fAdd (tOp fAdd (tOp fMul (tCB fInt (tCons (tVar 0) tNil)) (tC (.int 48271))) (tOp fMul (tVar 1) (tC (.int 69621)))) (tC (.int 1))) tNil)) (tC (.int 2147483647))) (gName 2)) (tSeq (tAsg (tOp fMod (tCB fInt (tCons (tOp fAdd (tOp fAdd (tOp fMul (tVar 2) (tVar 2)) (tOp fMul (tVar 1) (tC (.int 40692)))) (tC (.int 7))) tNil)) (tC (.int 2147483399))) (gName 3)) (tRet (tOp fMod (tCB fInt (tCons (tOp fAdd (tOp fMul (tVar 3) (tVar 3)) (tVar 2)) tNil)) (tC (.int 2147483629))))))
theorem pure_l_mixed {K : PySem.W.Frag} {C : CA} (vs : List V) (H : Hp) (Q : VK) (E : XK) (h : sp_l_mixed K C vs H Q E) : rd_l_mixed K C E { nx := fun _ H' => Q .non H', rt := Q } (start [("cell" : Str), ("k" : Str), ("first" : Str), ("second" : Str)] vs) H := by
  obtain ⟨a, k, rfl, q⟩ := h
  show rd_l_mixed K C E _ [some (.int a), some (.int k), none, none] H
  unfold rd_l_mixed
  refine q_asg ?_
  walk_at "s"
  refine ⟨.inr ⟨by decide, by decide⟩, .inr ⟨by decide, by decide⟩, by decide, ?_⟩
  refine q_asg ?_
  have h1 := Int.emod_nonneg (a * 48271 + k * 69621 + 1) (show (2147483647 : Int) ≠ 0 by decide)
  have h2 := Int.emod_lt_of_pos (a * 48271 + k * 69621 + 1) (show (0 : Int) < 2147483647 by decide)
  generalize (a * 48271 + k * 69621 + 1) % 2147483647 = f at h1 h2 ⊢
  walk_at "s"
  refine ⟨.inl ⟨by omega, by omega⟩, .inr ⟨by decide, by decide⟩, by decide, ?_⟩
  have h3 := Int.emod_nonneg (f * f + k * 40692 + 7) (show (2147483399 : Int) ≠ 0 by decide)
  have h4 := Int.emod_lt_of_pos (f * f + k * 40692 + 7) (show (0 : Int) < 2147483399 by decide)
  generalize (f * f + k * 40692 + 7) % 2147483399 = s at h3 h4 ⊢
  refine ⟨.inl ⟨by omega, by omega⟩, by decide, ?_⟩
  exact q _ (Int.emod_nonneg _ (by decide)) (Int.emod_lt_of_pos _ (by decide))
def sp_l_take (K : PySem.W.Frag) (C : CA) : Sp := fun vs H Q _ => ∃ (st : Addr) (many : Int), vs = [.ref st, .int many] ∧ StAt H st ∧ many < 2 ^ 64 ∧
  ∀ (r : Int) (H' : Hp), 0 ≤ r → (r < many ∨ r = 0) → Kp st H H' → StAt H' st → Q (.int r) H'
def rd_l_take (K : PySem.W.Frag) (C : CA) (E : XK) : TS :=
  (tSeq (tAsg (tCB fMax (tCons (tC (.int 1)) (tCons (tVar 1) tNil))) (gName 2)) (tSeq (tAsg (tOp fAdd (tOp fIx (tVar 0) (tC (.int 3))) (tC (.int 1))) (gSub (tVar 0) (tC (.int 3)) fSet)) (Evl.tCut (tIfS (tAnd (tTest (tOp (fEq K) (tOp fIx (tVar 0) (tC (.int 2))) (tC (.int 0)))) (tTest (tOp fLt (tOp fIx (tVar 0) (tC (.int 1))) (tCB fLen (tCons (tOp fIx (tVar 0) (tC (.int 0))) tNil))))) (tSeq (tAsg (tCB fInt (tCons (tOp fIx (tOp fIx (tVar 0) (tC (.int 0))) (tOp fIx (tVar 0) (tC (.int 1)))) tNil)) (gName 3)) (tSeq (tAsg (tOp fAdd (tOp fIx (tVar 0) (tC (.int 1))) (tC (.int 1))) (gSub (tVar 0) (tC (.int 1)) fSet)) (tSeq (tIfS (tTest (tOp fLt (tVar 3) (tOp fPow (tC (.int 10)) (tC (.int 18))))) (tRet (tOp fMod (tCB fInt (tCons (tCallS (sp_l_mixed K C) (fun _ => E0) (tCons (tVar 3) (tCons (tOp fIx (tVar 0) (tC (.int 3))) tNil))) tNil)) (tVar 2))) tNext) (tAsg (tVar 3) (gSub (tVar 0) (tC (.int 2)) fSet))))) tNext) (tSeq (tIfS (tTest (tOp (fEq K) (tOp fIx (tVar 0) (tC (.int 2))) (tC (.int 0)))) (tRet (tOp fMod (tCB fInt (tCons (tCallS (sp_l_mixed K C) (fun _ => E0) (tCons (tOp fIx (tVar 0) (tC (.int 4))) (tCons (tOp fIx (tVar 0) (tC (.int 3))) tNil))) tNil)) (tVar 2))) tNext) (tSeq (tAsg (tOp fMod (tCB fInt (tCons (tOp fIx (tVar 0) (tC (.int 2))) tNil)) (tVar 2)) (gName 4)) (tSeq (tAsg (tOp fDiv (tCB fInt (tCons (tOp fIx (tVar 0) (tC (.int 2))) tNil)) (tVar 2)) (gSub (tVar 0) (tC (.int 2)) fSet)) (tRet (tVar 4))))))))
theorem pure_l_take {K : PySem.W.Frag} {C : CA} (vs : List V) (H : Hp) (Q : VK) (E : XK) (h : sp_l_take K C vs H Q E) : rd_l_take K C E { nx := fun _ H' => Q .non H', rt := Q } (start [("store" : Str), ("many" : Str), ("base" : Str), ("cell" : Str), ("digit" : Str)] vs) H := by
  obtain ⟨st, many, rfl, ⟨c, ns, a, b, d, e, h1, h2, h3, h4, h5⟩, hm, q⟩ := h
  show rd_l_take K C E _ [some (.ref st), some (.int many), none, none, none] H
  unfold rd_l_take
  refine q_asg ?_
  walk_at "s"
  have hb1 : 0 < max 1 many := by omega
  have hb2 : max 1 many = many ∨ max 1 many = 1 := by omega
  have hb3 : max 1 many < 2 ^ 64 := by omega
  generalize max 1 many = base at hb1 hb2 hb3 ⊢
  refine q_asg ?_
  walk_at "S"
  have k1 : Kp st H (upd H st (HO.lst [V.ref c, V.int a, V.int b, V.int (d + 1), V.int e])) := (Kp.refl st H).put h1
  refine ⟨fun σ' H' => ∃ a' b' d' v, σ' = [some (.ref st), some (.int many), some (.int base), v, none] ∧ StL H' st c ns a' b' d' e ∧ Kp st H H', q_if1 ?_, ?_⟩
  · walk_at "S"
    by_cases cb : b = 0
    · by_cases ca : a < (List.map V.int ns).length
      · rw [if_pos cb, if_pos ca]
        subst cb
        rw [List.length_map] at ca
        obtain ⟨n, rfl⟩ : ∃ n : Nat, a = n := ⟨a.toNat, by omega⟩
        have hn : n < ns.length := by omega
        have hx : (List.map V.int ns)[n]? = some (V.int ns[n]) := by simp [hn]
        refine q_asg ?_
        walk_at "S"
        refine at_nat hx ?_
        walk_at "S"
        refine q_asg ?_
        walk_at "S"
        refine q_if ?_
        walk_at "S"
        refine ⟨⟨by decide, by decide, by decide⟩, ?_⟩
        split
        · walk_at "S"
          refine ⟨_, _, rfl, fun r r0 r1 => ?_⟩
          walk_at "s"
          refine ⟨hb1, ?_⟩
          refine q _ _ (Int.emod_nonneg r (show base ≠ 0 by omega)) ?_ (k1.put upd_same) ⟨c, ns, _, _, _, _, upd_same, ?_, h3, ?_, h5⟩
          · exact below hb1 hb2 r
          · rw [upd_ne h3, upd_ne h3]; exact h2
          · omega
        · walk_at "S"
          refine q_asg1 ?_
          walk_at "S"
          refine ⟨_, _, _, ⟨upd_same, ?_, h3, ?_, h5⟩, (k1.put upd_same).put upd_same⟩
          · rw [upd_ne h3, upd_ne h3, upd_ne h3]; exact h2
          · omega
      · rw [if_pos cb, if_neg ca]
        walk_at "s"
        exact ⟨_, _, _, upd_same, by rw [upd_ne h3]; exact h2, h3, h4, h5⟩
    · rw [if_neg cb]
      walk_at "s"
      exact ⟨_, _, _, upd_same, by rw [upd_ne h3]; exact h2, h3, h4, h5⟩
  · rintro σ' H' ⟨a', b', d', v, rfl, ⟨g1, g2, g3, g4, g5⟩, k2⟩
    refine q_if ?_
    walk_at "S"
    split
    · walk_at "S"
      refine ⟨_, _, rfl, fun r r0 r1 => ?_⟩
      walk_at "s"
      refine ⟨hb1, ?_⟩
      refine q _ _ (Int.emod_nonneg r (show base ≠ 0 by omega)) ?_ k2 ⟨c, ns, _, _, _, _, g1, g2, g3, g4, g5⟩
      exact below hb1 hb2 r
    · walk_at "S"
      refine q_asg ?_
      walk_at "S"
      refine q_asg ?_
      walk_at "S"
      refine ⟨⟨hb1, log_small hb1 hb3⟩, q _ _ (Int.emod_nonneg b' (show base ≠ 0 by omega)) (below hb1 hb2 b') (k2.put g1) ⟨c, ns, _, _, _, _, upd_same, ?_, h3, g4, h5⟩⟩
      rw [upd_ne h3]; exact g2
theorem take_ok {K : PySem.W.Frag} {C : CA} {H : Hp} {Q : VK} {E : XK} {st : Addr} {many : Int} (hs : StAt H st) (hm : many < 2 ^ 64)
    (q : ∀ (r : Int) (H' : Hp), 0 ≤ r → (r < many ∨ r = 0) → Kp st H H' → StAt H' st → Q (.int r) H') : sp_l_take K C [.ref st, .int many] H Q E := ⟨_, _, rfl, hs, hm, q⟩
def sp_l_great (K : PySem.W.Frag) (C : CA) : Sp := fun vs H Q _ => ∃ (st : Addr) (many : Int), vs = [.ref st, .int many] ∧ StAt H st ∧
  ∀ (r : Int) (H' : Hp), 0 ≤ r → (r < many ∨ r = 0) → Kp st H H' → StAt H' st → Q (.int r) H'
def rd_l_great (K : PySem.W.Frag) (C : CA) (E : XK) : TS :=
  (tSeq (tAsg (tC (.int 0)) (gName 2)) (tSeq (tFor (iRng1 (tCons (tC (.int 12)) tNil)) (gName 3) (tAsg (tOp fAdd (tOp fMul (tVar 2) (tC (.int 1000))) (tCallS (sp_l_take K C) (fun _ => E0) (tCons (tVar 0) (tCons (tC (.int 1000)) tNil)))) (gName 2))) (tRet (tOp fMod (tCB fInt (tCons (tVar 2) tNil)) (tCB fMax (tCons (tC (.int 1)) (tCons (tVar 1) tNil)))))))
theorem pure_l_great {K : PySem.W.Frag} {C : CA} (vs : List V) (H : Hp) (Q : VK) (E : XK) (h : sp_l_great K C vs H Q E) : rd_l_great K C E { nx := fun _ H' => Q .non H', rt := Q } (start [("store" : Str), ("many" : Str), ("number" : Str), ("k" : Str)] vs) H := by
  obtain ⟨st, many, rfl, hs, q⟩ := h
  show rd_l_great K C E _ [some (.ref st), some (.int many), none, none] H
  unfold rd_l_great
  refine q_asg ?_
  walk_at "S"
  refine q_for ?_
  walk_at "S"
  refine ⟨by decide, by decide, ?_⟩
  refine loop_range (fun i σ H1 => ∃ (n : Int) (v : Option V), σ = [some (.ref st), some (.int many), some (.int n), v] ∧ Kp st H H1 ∧ StAt H1 st) ⟨_, _, rfl, Kp.refl _ _, hs⟩ ?_ ?_
  · rintro i σ H1 hi ⟨n, v, rfl, k1, s1⟩
    walk_at "s"
    refine q_asg1 ?_
    walk_at "s"
    refine ⟨.inr ⟨by decide, by decide⟩, take_ok s1 (by decide) fun r H2 _ _ k2 s2 => ?_⟩
    walk_at "s"
    exact ⟨k1.trans k2, s2⟩
  · rintro σ H1 ⟨n, v, rfl, k1, s1⟩
    walk_at "s"
    have hb1 : 0 < max 1 many := by omega
    have hb2 : max 1 many = many ∨ max 1 many = 1 := by omega
    exact ⟨hb1, q _ _ (Int.emod_nonneg _ (by omega)) (below hb1 hb2 n) k1 s1⟩
theorem great_ok {K : PySem.W.Frag} {C : CA} {H : Hp} {Q : VK} {E : XK} {st : Addr} {many : Int} (hs : StAt H st)
    (q : ∀ (r : Int) (H' : Hp), 0 ≤ r → (r < many ∨ r = 0) → Kp st H H' → StAt H' st → Q (.int r) H') : sp_l_great K C [.ref st, .int many] H Q E := ⟨_, _, rfl, hs, q⟩
def sp_l_edge (K : PySem.W.Frag) (C : CA) : Sp := fun vs H Q _ => ∃ (st : Addr) (lo hi : Int), vs = [.ref st, .int lo, .int hi] ∧ StAt H st ∧
  ∀ (r : Int) (H' : Hp), lo ≤ r → (r ≤ hi ∨ r = lo) → Kp st H H' → StAt H' st → Q (.int r) H'
theorem edge_ok {K : PySem.W.Frag} {C : CA} {H : Hp} {Q : VK} {E : XK} {st : Addr} {lo hi : Int} (hs : StAt H st)
    (q : ∀ (r : Int) (H' : Hp), lo ≤ r → (r ≤ hi ∨ r = lo) → Kp st H H' → StAt H' st → Q (.int r) H') : sp_l_edge K C [.ref st, .int lo, .int hi] H Q E := ⟨_, _, _, rfl, hs, q⟩
def rd_l_edge (K : PySem.W.Frag) (C : CA) (E : XK) : TS :=
  (tSeq (tIfS (tTest (tOp fLe (tVar 2) (tVar 1))) (tRet (tVar 1)) tNext) (tSeq (tAsg (tCallS (sp_l_take K C) (fun _ => E0) (tCons (tVar 0) (tCons (tC (.int 6)) tNil))) (gName 3)) (tSeq (tIfS (tTest (tOp (fEq K) (tVar 3) (tC (.int 0)))) (tRet (tVar 1)) tNext) (tSeq (tIfS (tTest (tOp (fEq K) (tVar 3) (tC (.int 1)))) (tRet (tVar 2)) tNext) (tSeq (tIfS (tTest (tOp fLt (tOp fSub (tVar 2) (tVar 1)) (tC (.int 1000000)))) (tRet (tOp fAdd (tVar 1) (tCallS (sp_l_take K C) (fun _ => E0) (tCons (tVar 0) (tCons (tOp fAdd (tOp fSub (tVar 2) (tVar 1)) (tC (.int 1))) tNil))))) tNext) (tRet (tOp fAdd (tVar 1) (tCallS (sp_l_great K C) (fun _ => E0) (tCons (tVar 0) (tCons (tOp fAdd (tOp fSub (tVar 2) (tVar 1)) (tC (.int 1))) tNil))))))))))
theorem pure_l_edge {K : PySem.W.Frag} {C : CA} (vs : List V) (H : Hp) (Q : VK) (E : XK) (h : sp_l_edge K C vs H Q E) : rd_l_edge K C E { nx := fun _ H' => Q .non H', rt := Q } (start [("store" : Str), ("low" : Str), ("high" : Str), ("form" : Str)] vs) H := by
  obtain ⟨st, lo, hi, rfl, hs, q⟩ := h
  show rd_l_edge K C E _ [some (.ref st), some (.int lo), some (.int hi), none] H
  unfold rd_l_edge
  refine q_if ?_
  walk_at "s"
  refine ite2 (fun c1 => q _ _ (Int.le_refl _) (.inr rfl) (Kp.refl _ _) hs) fun c1 => ?_
  refine q_asg ?_
  walk_at "s"
  refine take_ok hs (by decide) fun r H1 r0 r1 k1 s1 => ?_
  refine q_if ?_
  walk_at "s"
  refine ite2 (fun c2 => q _ _ (Int.le_refl _) (.inr rfl) k1 s1) fun c2 => ?_
  refine q_if ?_
  walk_at "s"
  refine ite2 (fun c3 => q _ _ (by omega) (.inl (Int.le_refl _)) k1 s1) fun c3 => ?_
  refine q_if ?_
  walk_at "s"
  refine ite2 (fun c4 => ?_) fun c4 => ?_
  · refine take_ok s1 (by omega) fun r H2 r0 r1 k2 s2 => ?_
    walk_at "s"
    exact q _ _ (by omega) (by omega) (k1.trans k2) s2
  · refine great_ok s1 fun r H2 r0 r1 k2 s2 => ?_
    walk_at "s"
    exact q _ _ (by omega) (by omega) (k1.trans k2) s2
def sp_l_number (K : PySem.W.Frag) (C : CA) : Sp := fun vs H Q _ => ∃ (st : Addr), vs = [.ref st] ∧ StAt H st ∧
  ∀ (r : Int) (H' : Hp), -(10 ^ 30) < r → r < 10 ^ 30 → Kp st H H' → StAt H' st → Q (.int r) H'
theorem number_ok {K : PySem.W.Frag} {C : CA} {H : Hp} {Q : VK} {E : XK} {st : Addr} (hs : StAt H st)
    (q : ∀ (r : Int) (H' : Hp), -(10 ^ 30) < r → r < 10 ^ 30 → Kp st H H' → StAt H' st → Q (.int r) H') : sp_l_number K C [.ref st] H Q E := ⟨_, rfl, hs, q⟩
def rd_l_number (K : PySem.W.Frag) (C : CA) (E : XK) : TS :=
  (tSeq (tAsg (tOp fSub (tOp fPow (tC (.int 10)) (tC (.int 30))) (tC (.int 1))) (gName 1)) (tSeq (tAsg (tCallS (sp_l_take K C) (fun _ => E0) (tCons (tVar 0) (tCons (tC (.int 9)) tNil))) (gName 2)) (tSeq (tIfS (tTest (tOp fLt (tVar 2) (tC (.int 5)))) (tRet (tOp fIx (tLst (tCons (tC (.int 0)) (tCons (tC (.int 1)) (tCons (tUn fNeg (tC (.int 1))) (tCons (tVar 1) (tCons (tOp fSub (tC (.int 0)) (tVar 1)) tNil)))))) (tVar 2))) tNext) (tSeq (tIfS (tTest (tOp fLt (tVar 2) (tC (.int 7)))) (tRet (tOp fSub (tCallS (sp_l_take K C) (fun _ => E0) (tCons (tVar 0) (tCons (tC (.int 101)) tNil))) (tC (.int 20)))) tNext) (tRet (tOp fSub (tCallS (sp_l_great K C) (fun _ => E0) (tCons (tVar 0) (tCons (tOp fAdd (tOp fMul (tC (.int 2)) (tVar 1)) (tC (.int 1))) tNil))) (tVar 1)))))))
theorem pure_l_number {K : PySem.W.Frag} {C : CA} (vs : List V) (H : Hp) (Q : VK) (E : XK) (h : sp_l_number K C vs H Q E) : rd_l_number K C E { nx := fun _ H' => Q .non H', rt := Q } (start [("store" : Str), ("top" : Str), ("form" : Str)] vs) H := by
  obtain ⟨st, rfl, hs, q⟩ := h
  show rd_l_number K C E _ [some (.ref st), none, none] H
  unfold rd_l_number
  refine q_asg ?_
  walk_at "s"
  refine ⟨⟨by decide, by decide, by decide⟩, ?_⟩
  refine q_asg ?_
  walk_at "s"
  refine take_ok hs (by decide) fun r H1 r0 r1 k1 s1 => ?_
  refine q_if ?_
  walk_at "s"
  refine ite2 (fun c2 => ?_) fun c2 => ?_
  · refine ⟨by decide, fun p hp => ?_⟩
    walk_at "s"
    have kp : Kp st H (upd H1 p (.lst [V.int 0, V.int 1, V.int (-1), V.int (10 ^ Int.toNat 30 - 1), V.int (0 - (10 ^ Int.toNat 30 - 1))])) := k1.new hp
    have sp : StAt (upd H1 p (.lst [V.int 0, V.int 1, V.int (-1), V.int (10 ^ Int.toNat 30 - 1), V.int (0 - (10 ^ Int.toNat 30 - 1))])) st := s1.new hp
    obtain rfl | rfl | rfl | rfl | rfl : r = 0 ∨ r = 1 ∨ r = 2 ∨ r = 3 ∨ r = 4 := by omega
    all_goals
      walk_at "s"
      exact q _ _ (by decide) (by decide) kp sp
  · refine q_if ?_
    walk_at "s"
    refine ite2 (fun c3 => ?_) fun c3 => ?_
    · refine take_ok s1 (by decide) fun r H2 r0 r1 k2 s2 => ?_
      walk_at "s"
      exact q _ _ (by omega) (by omega) (k1.trans k2) s2
    · refine ⟨.inl ⟨by decide, by decide⟩, great_ok s1 fun r H2 r0 r1 k2 s2 => ?_⟩
      walk_at "s"
      have e : (10 : Int) ^ Int.toNat 30 = 1000000000000000000000000000000 := by decide
      rw [e] at r1 ⊢
      exact q _ _ (by omega) (by omega) (k1.trans k2) s2
def sp_l_pick (K : PySem.W.Frag) (C : CA) : Sp := fun vs H Q _ => ∃ (st p : Addr) (xs : List V), vs = [.ref st, .ref p] ∧ StAt H st ∧ asS (H p) = some xs ∧ p ≠ st ∧ xs.length < 2 ^ 60 ∧
  (xs = [] → Q .non H) ∧ ∀ (n : Nat) (v : V) (H' : Hp), xs[n]? = some v → Kp st H H' → StAt H' st → Q v H'
def rd_l_pick (K : PySem.W.Frag) (C : CA) (E : XK) : TS :=
  (tSeq (tIfS (tTest (tOp (fEq K) (tCB fLen (tCons (tVar 1) tNil)) (tC (.int 0)))) (tRet (tC .non)) tNext) (tRet (tOp fIx (tVar 1) (tCallS (sp_l_take K C) (fun _ => E0) (tCons (tVar 0) (tCons (tCB fLen (tCons (tVar 1) tNil)) tNil))))))
theorem pure_l_pick {K : PySem.W.Frag} {C : CA} (vs : List V) (H : Hp) (Q : VK) (E : XK) (h : sp_l_pick K C vs H Q E) : rd_l_pick K C E { nx := fun _ H' => Q .non H', rt := Q } (start [("store" : Str), ("row" : Str)] vs) H := by
  obtain ⟨st, p, xs, rfl, hs, hp, hne, hl, q0, q⟩ := h
  show rd_l_pick K C E _ [some (.ref st), some (.ref p)] H
  unfold rd_l_pick
  refine q_if ?_
  walk_at "s"
  rw [hp]
  walk_at "s"
  refine ite2 (fun c => ?_) fun c => ?_
  · walk_at "s"
    exact q0 (by cases xs with | nil => rfl | cons _ _ => simp at c; omega)
  · walk_at "s"
    refine take_ok hs (by omega) fun r H1 r0 r1 k1 s1 => ?_
    walk_at "s"
    obtain ⟨n, rfl⟩ : ∃ n : Nat, r = n := ⟨r.toNat, by omega⟩
    have hn : n < xs.length := by omega
    rw [k1.asS hne hp]
    exact at_nat (v := xs[n]) (by simp [hn]) (q n _ _ (by simp [hn]) k1 s1)
end XB

/-! The program's numbers. -/
namespace XB
open PySem L2
local macro_rules | `(tactic| walk_at "s") => `(tactic| try simp only [u_var, u_c, u_op, u_un, u_nil, u_cons, u_cb, u_call, u_callS, u_tup, u_lst, u_test, u_B, u_and, u_or, u_not, u_andV, u_orV, u_notV, u_ifE, u_chain, u_sl, u_noPart, u_part, u_bm, u_bm0, u_rev, u_lc, u_try, u_sui, u_sui0, u_unb_rt, u_unb_nx, u_xf, u_WE, w_nil, w_cons, u_raise, u_rng1, u_rng2, u_next, u_ret, u_gname, u_gnil, u_gcons, u_gsub, u_gtup,
  f_add, f_addS, f_addR, f_sub, f_mul, f_mulR, f_mod, f_div, f_pow, f_neg, f_cmp, f_eq, f_eqB, f_eqS, f_ne, f_neB, f_neS, f_isN, f_notN, f_isB, f_ix, f_ixS, f_int, f_intB, f_len, f_lenS, f_max, f_min, f_abs, f_list, f_tuple, f_all, f_sum, f_isi, f_isiT, f_append, f_insert, f_pop, f_sl, f_set,
  kitS, tys, List.isEmpty_cons, Option.map_some, kt_NoneType_int, kt_NoneType_bool, kt_NoneType_str, kt_NoneType_list, kt_NoneType_tuple, kt_NoneType_dict, kt_int_int, kt_int_bool, kt_int_str, kt_int_list, kt_int_tuple, kt_int_dict, kt_bool_int, kt_bool_bool, kt_bool_str, kt_bool_list, kt_bool_tuple, kt_bool_dict, kt_str_int, kt_str_bool, kt_str_str, kt_str_list, kt_str_tuple, kt_str_dict, kt_list_int, kt_list_bool, kt_list_str, kt_list_list, kt_list_tuple, kt_list_dict, kt_tuple_int, kt_tuple_bool, kt_tuple_str, kt_tuple_list, kt_tuple_tuple, kt_tuple_dict, kt_dict_int, kt_dict_bool, kt_dict_str, kt_dict_list, kt_dict_tuple, kt_dict_dict, asL_lst, asL_frz, asL_tup, asT_tup, asS_lst, asS_frz, asS_tup, tyN_non, tyN_bl, tyN_int, tyN_str, atV_lit, ixN_lit, upd_same, upd_ne, upd_ne',
  List.getElem?_cons_zero, List.getElem?_cons_succ, List.set_cons_zero, List.set_cons_succ, List.append_nil, List.length_cons, List.length_nil, Option.some.injEq, exists_eq_left', exists_eq_left, exists_and_left, V.bl.injEq, V.int.injEq, V.str.injEq, V.ref.injEq, Bool.not_eq_true, Bool.not_true, Bool.not_false, decide_true, decide_false, decide_eq_true_eq, decide_eq_false_iff_not, Bool.false_eq_true, if_true, if_false, ite_true, ite_false, reduceCtorEq, true_and, and_true, Nat.reduceAdd, Nat.reduceLT, Nat.zero_add, ne_eq, not_false_eq_true, not_true_eq_false, List.cons.injEq, and_assoc])
local macro_rules | `(tactic| walk_at "S") => `(tactic| try simp only [u_var, u_c, u_op, u_un, u_nil, u_cons, u_cb, u_call, u_callS, u_tup, u_lst, u_test, u_B, u_and, u_or, u_not, u_andV, u_orV, u_notV, u_ifE, u_chain, u_sl, u_noPart, u_part, u_bm, u_bm0, u_rev, u_lc, u_try, u_sui, u_sui0, u_unb_rt, u_unb_nx, u_xf, u_WE, w_nil, w_cons, u_raise, u_rng1, u_rng2, u_next, u_ret, u_gname, u_gnil, u_gcons, u_gsub, u_gtup,
  f_add, f_addS, f_addR, f_sub, f_mul, f_mulR, f_mod, f_div, f_pow, f_neg, f_cmp, f_eq, f_eqB, f_eqS, f_ne, f_neB, f_neS, f_isN, f_notN, f_isB, f_ix, f_ixS, f_int, f_intB, f_len, f_lenS, f_max, f_min, f_abs, f_list, f_tuple, f_all, f_sum, f_isi, f_isiT, f_append, f_insert, f_pop, f_sl, f_set,
  kitS, tys, List.isEmpty_cons, Option.map_some, kt_NoneType_int, kt_NoneType_bool, kt_NoneType_str, kt_NoneType_list, kt_NoneType_tuple, kt_NoneType_dict, kt_int_int, kt_int_bool, kt_int_str, kt_int_list, kt_int_tuple, kt_int_dict, kt_bool_int, kt_bool_bool, kt_bool_str, kt_bool_list, kt_bool_tuple, kt_bool_dict, kt_str_int, kt_str_bool, kt_str_str, kt_str_list, kt_str_tuple, kt_str_dict, kt_list_int, kt_list_bool, kt_list_str, kt_list_list, kt_list_tuple, kt_list_dict, kt_tuple_int, kt_tuple_bool, kt_tuple_str, kt_tuple_list, kt_tuple_tuple, kt_tuple_dict, kt_dict_int, kt_dict_bool, kt_dict_str, kt_dict_list, kt_dict_tuple, kt_dict_dict, asL_lst, asL_frz, asL_tup, asT_tup, asS_lst, asS_frz, asS_tup, tyN_non, tyN_bl, tyN_int, tyN_str, atV_lit, ixN_lit, upd_same, upd_ne, upd_ne',
  List.getElem?_cons_zero, List.getElem?_cons_succ, List.set_cons_zero, List.set_cons_succ, List.append_nil, List.length_cons, List.length_nil, Option.some.injEq, exists_eq_left', exists_eq_left, exists_and_left, V.bl.injEq, V.int.injEq, V.str.injEq, V.ref.injEq, Bool.not_eq_true, Bool.not_true, Bool.not_false, decide_true, decide_false, decide_eq_true_eq, decide_eq_false_iff_not, Bool.false_eq_true, if_true, if_false, ite_true, ite_false, reduceCtorEq, true_and, and_true, Nat.reduceAdd, Nat.reduceLT, Nat.zero_add, ne_eq, not_false_eq_true, not_true_eq_false, List.cons.injEq, and_assoc, *])
/-- a value of a built-in class -/
def Ty (v : V) (H : Hp) : Prop := ∃ t, tyN v H = some t
theorem ty_cases {v : V} {H : Hp} (h : Ty v H) : v = .non ∨ (∃ b, v = .bl b) ∨ (∃ i, v = .int i) ∨ (∃ z, v = .str z) ∨ ∃ p, v = .ref p ∧
    ((tyN (.ref p) H = some "list" ∧ ∃ xs, asL (H p) = some xs) ∨ (tyN (.ref p) H = some "tuple" ∧ ∃ xs, asT (H p) = some xs ∧ asL (H p) = none) ∨ (tyN (.ref p) H = some "dict" ∧ asS (H p) = none)) := by
  obtain ⟨t, h⟩ := h
  cases v with
  | non => exact .inl rfl
  | bl b => exact .inr (.inl ⟨b, rfl⟩)
  | int i => exact .inr (.inr (.inl ⟨i, rfl⟩))
  | str z => exact .inr (.inr (.inr (.inl ⟨z, rfl⟩)))
  | ref p =>
    refine .inr (.inr (.inr (.inr ⟨p, rfl, ?_⟩)))
    dsimp only [tyN] at h ⊢
    split at h
    · rename_i xs e; rw [e]; exact .inl ⟨rfl, xs, rfl⟩
    · rename_i o xs e; rw [e]; exact .inl ⟨rfl, xs, rfl⟩
    · rename_i xs e; rw [e]; exact .inr (.inl ⟨rfl, xs, rfl, rfl⟩)
    · rename_i o xs e; rw [e]; exact .inr (.inl ⟨rfl, xs, rfl, rfl⟩)
    · rename_i kvs e; rw [e]; exact .inr (.inr ⟨rfl, rfl⟩)
    · rename_i kvs e; rw [e]; exact .inr (.inr ⟨rfl, rfl⟩)
    · rename_i o kvs e; rw [e]; exact .inr (.inr ⟨rfl, rfl⟩)
    · cases h
  | byt b => cases h
  | flt b => cases h
  | ty n => cases h
def isI : V → Bool
  | .int _ => true
  | _ => false
def isNum : V → Bool
  | .int i => decide (0 ≤ i)
  | _ => false
def baseOk : V → Bool
  | .int i => decide (1 ≤ i) && decide (i ≤ 1000)
  | _ => false
/-- the list that the value is -/
def lstOf (v : V) (H : Hp) : Option (List V) := match v with
  | .ref p => asL (H p)
  | _ => none
def basesOk (v : V) (H : Hp) : Bool := match lstOf v H with
  | some xs => decide (xs.length ≤ 60) && xs.all baseOk
  | none => false
theorem tyN_mono {v : V} {H H' : Hp} {t : String} (s : ∀ b o, H b = some o → H' b = some o) (h : tyN v H = some t) : tyN v H' = some t := by
  cases v with
  | ref p =>
    dsimp only [tyN] at h ⊢
    cases e : H p with
    | none => rw [e] at h; cases h
    | some o => rw [e] at h; rw [s p o e]; exact h
  | _ => exact h
theorem asS_of_L {o : Option HO} {xs : List V} (h : asL o = some xs) : asS o = some xs := by
  unfold asS
  rw [h]
def sp_is_whole (K : PySem.W.Frag) (C : CA) : Sp := fun vs H Q _ => ∃ v, vs = [v] ∧ Ty v H ∧ Q (.bl (isI v)) H
def rd_is_whole (K : PySem.W.Frag) (C : CA) (E : XK) : TS :=
  (tRet (tAndV (tCB fIsi (tCons (tVar 0) (tCons (tC (.ty "int")) tNil))) (tNotV (tCB fIsi (tCons (tVar 0) (tCons (tC (.ty "bool")) tNil))))))
theorem pure_is_whole {K : PySem.W.Frag} {C : CA} (vs : List V) (H : Hp) (Q : VK) (E : XK) (h : sp_is_whole K C vs H Q E) : rd_is_whole K C E { nx := fun _ H' => Q .non H', rt := Q } (start [("value" : Str)] vs) H := by
  obtain ⟨v, rfl, ht, q⟩ := h
  show rd_is_whole K C E _ [some v] H
  unfold rd_is_whole
  refine q_ret ?_
  walk_at "s"
  rcases ty_cases ht with rfl | ⟨b, rfl⟩ | ⟨i, rfl⟩ | ⟨z, rfl⟩ | ⟨p, rfl, ⟨e, _⟩ | ⟨e, _⟩ | ⟨e, _⟩⟩ <;> (try rw [e]) <;> (walk_at "s") <;> exact q
def sp_is_number (K : PySem.W.Frag) (C : CA) : Sp := fun vs H Q _ => ∃ v, vs = [v] ∧ Ty v H ∧ Q (.bl (isNum v)) H
def rd_is_number (K : PySem.W.Frag) (C : CA) (E : XK) : TS :=
  (tRet (tAndV (tCallS (sp_is_whole K C) (fun _ => E0) (tCons (tVar 0) tNil)) (tOp fGe (tVar 0) (tC (.int 0)))))
theorem pure_is_number {K : PySem.W.Frag} {C : CA} (vs : List V) (H : Hp) (Q : VK) (E : XK) (h : sp_is_number K C vs H Q E) : rd_is_number K C E { nx := fun _ H' => Q .non H', rt := Q } (start [("value" : Str)] vs) H := by
  obtain ⟨v, rfl, ht, q⟩ := h
  show rd_is_number K C E _ [some v] H
  unfold rd_is_number
  refine q_ret ?_
  walk_at "s"
  refine ⟨v, rfl, ht, ?_⟩
  walk_at "s"
  cases v with
  | int i => walk_at "s"; exact q
  | _ => exact q
def sp_check (K : PySem.W.Frag) (C : CA) : Sp := fun vs H Q E => ∃ (b : Bool) (z : Str), vs = [.bl b, .str z] ∧ (b = true → Q .non H) ∧
  (b = false → ∀ (d : Addr) (H' : Hp), H d = none → H' d = some (.xd [(("parameter" : Str), V.str z)]) → (∀ b o, H b = some o → H' b = some o) → E (.ref C.BadShape) (some d) H')
def rd_check (K : PySem.W.Frag) (C : CA) (E : XK) : TS :=
  (tIfS (tNot (tB (tVar 0))) (tRaiseF C.BadShape [("parameter" : Str)] (fun cls d _ H => E cls d H) (tCons (tVar 1) tNil)) tNext)
theorem pure_check {K : PySem.W.Frag} {C : CA} (vs : List V) (H : Hp) (Q : VK) (E : XK) (h : sp_check K C vs H Q E) : rd_check K C E { nx := fun _ H' => Q .non H', rt := Q } (start [("fits" : Str), ("parameter" : Str)] vs) H := by
  obtain ⟨b, z, rfl, q1, q2⟩ := h
  show rd_check K C E _ [some (.bl b), some (.str z)] H
  unfold rd_check
  refine q_if1 ?_
  walk_at "s"
  cases b with
  | true => walk_at "s"; exact q1 rfl
  | false =>
    walk_at "s"
    exact ⟨by decide, fun d H' a b c => q2 rfl d H' a b c⟩
def sp_are_bases (K : PySem.W.Frag) (C : CA) : Sp := fun vs H Q _ => ∃ v, vs = [v] ∧ Ty v H ∧ (∀ xs, lstOf v H = some xs → ∀ x ∈ xs, Ty x H) ∧
  ∀ H', (∀ b o, H b = some o → H' b = some o) → Q (.bl (basesOk v H)) H'
def rd_are_bases (K : PySem.W.Frag) (C : CA) (E : XK) : TS :=
  (tSeq (tIfS (tOr (tNot (tB (tCB fIsi (tCons (tVar 0) (tCons (tC (.ty "list")) tNil))))) (tTest (tOp fGt (tCB fLen (tCons (tVar 0) tNil)) (tC (.int 60))))) (tRet (tC (.bl false))) tNext) (tRet (tCB fAll (tCons (tLc (iList K (tVar 0)) (gName 1) tYes (tAndV (tCallS (sp_is_number K C) (fun _ => E0) (tCons (tVar 1) tNil)) (tChain fLe fLe (tC (.int 1)) (tVar 1) (tC (.int 1000)))) [1]) tNil))))
theorem pure_are_bases {K : PySem.W.Frag} {C : CA} (vs : List V) (H : Hp) (Q : VK) (E : XK) (h : sp_are_bases K C vs H Q E) : rd_are_bases K C E { nx := fun _ H' => Q .non H', rt := Q } (start [("value" : Str), ("base" : Str)] vs) H := by
  obtain ⟨v, rfl, ht, hx, q⟩ := h
  show rd_are_bases K C E _ [some v, none] H
  unfold rd_are_bases
  refine q_if ?_
  walk_at "s"
  have no : lstOf v H = none → Q (.bl false) H := fun e => by
    have := q H fun _ _ h => h
    unfold basesOk at this
    rw [e] at this
    exact this
  rcases ty_cases ht with rfl | ⟨b, rfl⟩ | ⟨i, rfl⟩ | ⟨z, rfl⟩ | ⟨p, rfl, ⟨e, xs, hp⟩ | ⟨e, xs, _, hp⟩ | ⟨e, hp⟩⟩ <;> (try rw [e]) <;> (walk_at "s")
  · exact no rfl
  · exact no rfl
  · exact no rfl
  · exact no rfl
  · rw [asS_of_L hp]
    walk_at "s"
    have val : basesOk (V.ref p) H = (decide (xs.length ≤ 60) && xs.all baseOk) := by
      unfold basesOk lstOf
      simp only [hp]
    refine ite2 (fun c => ?_) fun c => ?_
    · have e1 : basesOk (V.ref p) H = false := by rw [val]; simp; omega
      have := q H fun _ _ h => h
      rw [e1] at this
      exact this
    · refine u_listV rfl hp fun D hD => ?_
      refine made_map (fun x => .bl (baseOk x)) hp hD (by show _ < 2 ^ 24; omega) (fun _ => rfl) (fun i x H1 Q1 hx1 s1 q1 => ?_) fun H1 s1 hd => ?_
      · walk_at "s"
        have tx : Ty x H1 := by
          obtain ⟨t, et⟩ := hx xs hp x (List.mem_of_getElem? hx1)
          exact ⟨t, tyN_mono s1 et⟩
        refine ⟨x, rfl, tx, ?_⟩
        walk_at "s"
        have q2 := q1 H1 fun _ _ h => h
        cases x with
        | int i =>
          walk_at "s"
          simp only [isNum, baseOk] at q2 ⊢
          by_cases c1 : 0 ≤ i
          · by_cases c2 : 1 ≤ i
            · simp only [c1, c2, decide_true, decide_false, if_true, Bool.true_and] at q2 ⊢
              exact q2
            · simp [c1, c2] at q2 ⊢
              exact q2
          · have c2 : ¬ 1 ≤ i := by omega
            simp [c1, c2] at q2 ⊢
            exact q2
        | _ => simp only [isNum, Bool.false_eq_true, if_false]; exact q2
      · rw [hd]
        walk_at "s"
        refine ⟨xs.map baseOk, by rw [List.map_map]; rfl, ?_⟩
        have q2 := q H1 s1
        rw [val] at q2
        have e2 : (xs.map baseOk).all id = xs.all baseOk := by simp [List.all_map]
        rw [e2]
        have e3 : decide (xs.length ≤ 60) = true := decide_eq_true (by omega)
        rw [e3, Bool.true_and] at q2
        exact q2
  · exact no hp
  · exact no (by show asL (H p) = none; cases e2 : asL (H p) with | none => rfl | some ys => rw [asS_of_L e2] at hp; cases hp)
/-- digits for good bases -/
def digitsIn : List V → List Int → Bool
  | [], [] => true
  | .int d :: ds, b :: bs => decide (0 ≤ d) && decide (d < b) && digitsIn ds bs
  | _, _ => false
def digitOk : V → V → Bool
  | .int d, .int b => decide (0 ≤ d) && decide (d < b)
  | _, _ => false
theorem zip_bools : ∀ {xs : List V} {ns : List Int}, xs.length = ns.length → List.zipWith (fun b d => V.bl (digitOk d b)) (ns.map V.int) xs = (List.zipWith (fun d b => digitOk d (.int b)) xs ns).map V.bl
  | [], [], _ => rfl
  | x :: xs, n :: ns, h => by
    have ih := zip_bools (xs := xs) (ns := ns) (by simpa using h)
    simp only [List.map_cons, List.zipWith_cons_cons, ih]
  | [], _ :: _, h => by simp at h
  | _ :: _, [], h => by simp at h
theorem digits_all : ∀ {xs : List V} {ns : List Int}, xs.length = ns.length → digitsIn xs ns = (List.zipWith (fun d b => digitOk d (.int b)) xs ns).all id
  | [], [], _ => rfl
  | x :: xs, n :: ns, h => by
    have ih := digits_all (xs := xs) (ns := ns) (by simpa using h)
    simp only [List.zipWith_cons_cons, List.all_cons, ← ih, id_eq]
    cases x <;> simp [digitsIn, digitOk]
  | [], _ :: _, h => by simp at h
  | _ :: _, [], h => by simp at h
theorem digits_short : ∀ {xs : List V} {ns : List Int}, ¬ xs.length = ns.length → digitsIn xs ns = false
  | [], [], h => absurd rfl h
  | x :: xs, n :: ns, h => by
    have ih := digits_short (xs := xs) (ns := ns) (by simpa using h)
    cases x <;> simp [digitsIn, ih]
  | [], _ :: _, _ => rfl
  | x :: _, [], _ => by cases x <;> rfl
def digitsOk (v : V) (H : Hp) (ns : List Int) : Bool := match lstOf v H with
  | some xs => digitsIn xs ns
  | none => false
def sp_are_digits (K : PySem.W.Frag) (C : CA) : Sp := fun vs H Q _ => ∃ v p ns, vs = [v, .ref p] ∧ Ty v H ∧ (∀ xs, lstOf v H = some xs → ∀ x ∈ xs, Ty x H) ∧ asL (H p) = some (ns.map V.int) ∧ ns.length ≤ 60 ∧
  ∀ H', Sm H H' → Q (.bl (digitsOk v H ns)) H'
def rd_are_digits (K : PySem.W.Frag) (C : CA) (E : XK) : TS :=
  (tSeq (tIfS (tOr (tNot (tB (tCB fIsi (tCons (tVar 0) (tCons (tC (.ty "list")) tNil))))) (tTest (tOp (fNe K) (tCB fLen (tCons (tVar 0) tNil)) (tCB fLen (tCons (tVar 1) tNil))))) (tRet (tC (.bl false))) tNext) (tRet (tCB fAll (tCons (tLc (iZip K (tCons (tVar 1) (tCons (tVar 0) tNil))) (gTupF 2 (gCons (gName 2) (gCons (gName 3) gNil))) tYes (tAndV (tCallS (sp_is_number K C) (fun _ => E0) (tCons (tVar 3) tNil)) (tOp fLt (tVar 3) (tVar 2))) [2, 3]) tNil))))
theorem pure_are_digits {K : PySem.W.Frag} {C : CA} (vs : List V) (H : Hp) (Q : VK) (E : XK) (h : sp_are_digits K C vs H Q E) : rd_are_digits K C E { nx := fun _ H' => Q .non H', rt := Q } (start [("value" : Str), ("bases" : Str), ("base" : Str), ("digit" : Str)] vs) H := by
  obtain ⟨v, p, ns, rfl, ht, hx, hp, hn, q⟩ := h
  show rd_are_digits K C E _ [some v, some (.ref p), none, none] H
  unfold rd_are_digits
  refine q_if ?_
  walk_at "s"
  have no : lstOf v H = none → Q (.bl false) H := fun e => by
    have := q H fun _ _ h => h
    unfold digitsOk at this
    rw [e] at this
    exact this
  rcases ty_cases ht with rfl | ⟨b, rfl⟩ | ⟨i, rfl⟩ | ⟨z, rfl⟩ | ⟨r, rfl, ⟨e, xs, hr⟩ | ⟨e, xs, _, hr⟩ | ⟨e, hr⟩⟩ <;> (try rw [e]) <;> (walk_at "s")
  · exact no rfl
  · exact no rfl
  · exact no rfl
  · exact no rfl
  · rw [asS_of_L hr]
    walk_at "s"
    rw [asS_of_L hp]
    walk_at "s"
    have val : digitsOk (V.ref r) H ns = digitsIn xs ns := by
      unfold digitsOk lstOf
      simp only [hr]
    rw [List.length_map]
    by_cases c : xs.length = ns.length
    · have c2 : ((xs.length : Int) = (ns.length : Int)) := by omega
      simp only [c2, decide_true, Bool.not_true, Bool.false_eq_true, if_false]
      refine ⟨_, rfl, _, rfl, p, r, _, _, rfl, asL_seq hp, asL_seq hr, fun D hD => ?_⟩
      have cl : (ns.map V.int).length = xs.length := by rw [List.length_map]; omega
      refine made_zipmap (fun b d => .bl (digitOk d b)) hp hr cl hD (by show _ < 2 ^ 24; rw [List.length_map]; omega) (fun _ _ => rfl) (fun i x y H1 Q1 hx1 hy1 s1 q1 => ?_) fun H1 s1 hd => ?_
      · walk_at "s"
        obtain ⟨b, hb, rfl⟩ : ∃ b, ns[i]? = some b ∧ x = V.int b := by
          rw [List.getElem?_map] at hx1
          cases e : ns[i]? with
          | none => rw [e] at hx1; cases hx1
          | some b => rw [e] at hx1; exact ⟨b, rfl, (Option.some.inj hx1).symm⟩
        have ty : Ty y H1 := by
          obtain ⟨t, et⟩ := hx xs hr y (List.mem_of_getElem? hy1)
          exact ⟨t, tyN_mono s1 et⟩
        refine ⟨y, rfl, ty, ?_⟩
        walk_at "s"
        have q2 := q1 H1 fun _ _ h => h
        cases y with
        | int d =>
          walk_at "s"
          simp only [isNum, digitOk, decide_eq_true_eq] at q2 ⊢
          by_cases c1 : 0 ≤ d
          · simp only [c1, decide_true, if_true, Bool.true_and] at q2 ⊢
            exact q2
          · simp only [c1, decide_false, if_false, Bool.false_and] at q2 ⊢
            exact q2
        | _ => simp only [isNum, Bool.false_eq_true, if_false]; exact q2
      · rw [hd]
        walk_at "s"
        refine ⟨List.zipWith (fun d b => digitOk d (.int b)) xs ns, ?_, ?_⟩
        · exact zip_bools c
        · have q2 := q H1 s1
          rw [val, digits_all c] at q2
          exact q2
    · have c2 : ¬ ((xs.length : Int) = (ns.length : Int)) := by omega
      simp only [c2, decide_false, Bool.not_false, if_true]
      have q2 := q H fun _ _ h => h
      rw [val, digits_short c] at q2
      exact q2
  · exact no hr
  · exact no (by show asL (H r) = none; cases e2 : asL (H r) with | none => rfl | some ys => rw [asS_of_L e2] at hr; cases hr)
/-- .. and so are the parts of a list -/
def TyD (v : V) (H : Hp) : Prop := Ty v H ∧ ∀ xs, lstOf v H = some xs → ∀ x ∈ xs, Ty x H
theorem Ty.mono {v : V} {H H' : Hp} (h : Ty v H) (s : Sm H H') : Ty v H' := by
  obtain ⟨t, e⟩ := h
  exact ⟨t, tyN_mono s e⟩
theorem lst_ty {H : Hp} {p : Addr} {xs : List V} (h : asL (H p) = some xs) : tyN (.ref p) H = some "list" := by
  dsimp only [tyN]
  cases e : H p with
  | none => rw [e] at h; cases h
  | some o =>
    rw [e] at h
    cases o with
    | lst ys => rfl
    | frz ob u => cases u <;> first | rfl | (cases h)
    | _ => cases h
theorem asL_back {H H' : Hp} {p : Addr} {t : String} {ys : List V} (s : Sm H H') (h : tyN (.ref p) H = some t) (e : asL (H' p) = some ys) : asL (H p) = some ys := by
  dsimp only [tyN] at h
  cases eo : H p with
  | none => rw [eo] at h; cases h
  | some o => rw [s p o eo] at e; exact e
theorem lstOf_mono {v : V} {H H' : Hp} (s : Sm H H') (h : Ty v H) : lstOf v H' = lstOf v H := by
  obtain ⟨t, h⟩ := h
  cases v with
  | ref p =>
    dsimp only [lstOf]
    cases e : H p with
    | none => dsimp only [tyN] at h; rw [e] at h; cases h
    | some o => rw [s p o e]
  | _ => rfl
theorem TyD.mono {v : V} {H H' : Hp} (h : TyD v H) (s : Sm H H') : TyD v H' := ⟨h.1.mono s, fun xs e x hx => (h.2 xs (by rw [← lstOf_mono s h.1]; exact e) x hx).mono s⟩
theorem ints_ty {H : Hp} {ns : List Int} : ∀ x ∈ ns.map V.int, Ty x H := fun x hx => by
  obtain ⟨n, _, rfl⟩ := List.mem_map.mp hx
  exact ⟨"int", rfl⟩
theorem TyD.ints {H : Hp} {p : Addr} {ns : List Int} (h : asL (H p) = some (ns.map V.int)) : TyD (.ref p) H := ⟨⟨_, lst_ty h⟩, fun xs e x hx => by
  have e2 : asL (H p) = some xs := e
  rw [h] at e2
  cases e2
  exact ints_ty x hx⟩
theorem bases_ok {H : Hp} {p : Addr} {ns : List Int} (h : asL (H p) = some (ns.map V.int)) (hl : ns.length ≤ 60) (hb : ∀ n ∈ ns, 1 ≤ n ∧ n ≤ 1000) : basesOk (.ref p) H = true := by
  unfold basesOk lstOf
  simp only [h, List.length_map, hl, decide_true, Bool.true_and, List.all_map, List.all_eq_true]
  intro n hn
  simp [baseOk, hb n hn]
/-- the error's own dict -/
def ErrAt (H H' : Hp) (d : Addr) (fs : List (Str × V)) : Prop := Sm H H' ∧ H' d = some (.xd fs)
def mixV : List Int → List Int → Int → Int
  | b :: bs, d :: ds, a => mixV bs ds (a * b + d)
  | _, _, a => a
theorem mixV_take : ∀ {bs ds : List Int} {i : Nat} {b d a : Int}, bs[i]? = some b → ds[i]? = some d → mixV (bs.take (i + 1)) (ds.take (i + 1)) a = mixV (bs.take i) (ds.take i) a * b + d
  | b0 :: bs, d0 :: ds, 0, b, d, a, h1, h2 => by
    cases h1
    cases h2
    simp [mixV]
  | b0 :: bs, d0 :: ds, i + 1, b, d, a, h1, h2 => by
    have ih := mixV_take (bs := bs) (ds := ds) (i := i) (b := b) (d := d) (a := a * b0 + d0) h1 h2
    simp only [List.take_succ_cons, mixV]
    exact ih
  | [], _, _, _, _, _, h1, _ => by simp at h1
  | _ :: _, [], _, _, _, _, _, h2 => by simp at h2
theorem digitsIn_len : ∀ {ds ns : List Int}, digitsIn (ds.map V.int) ns = true → ds.length = ns.length
  | [], [], _ => rfl
  | d :: ds, n :: ns, h => by
    simp only [List.map_cons, digitsIn, Bool.and_eq_true] at h
    have ih := digitsIn_len h.2
    simp [ih]
  | [], _ :: _, h => by simp [digitsIn] at h
  | _ :: _, [], h => by simp [digitsIn] at h
theorem get_int {ns : List Int} {i : Nat} {x : V} (h : (ns.map V.int)[i]? = some x) : ∃ n, ns[i]? = some n ∧ x = V.int n := by
  rw [List.getElem?_map] at h
  cases e : ns[i]? with
  | none => rw [e] at h; cases h
  | some n => rw [e] at h; exact ⟨n, rfl, (Option.some.inj h).symm⟩
def sp_mixed_number (K : PySem.W.Frag) (C : CA) : Sp := fun vs H Q E => ∃ v1 v2, vs = [v1, v2] ∧ TyD v1 H ∧ TyD v2 H ∧
  ((basesOk v1 H = false ∧ ∀ d H', ErrAt H H' d [(("parameter" : Str), V.str ("bases" : Str))] → E (.ref C.BadShape) (some d) H') ∨
  ∃ p1 ns, v1 = .ref p1 ∧ asL (H p1) = some (ns.map V.int) ∧ ns.length ≤ 60 ∧ (∀ n ∈ ns, 1 ≤ n ∧ n ≤ 1000) ∧
    ((digitsOk v2 H ns = false ∧ ∀ d H', ErrAt H H' d [(("parameter" : Str), V.str ("digits" : Str))] → E (.ref C.BadShape) (some d) H') ∨
    ∃ p2 ds, v2 = .ref p2 ∧ asL (H p2) = some (ds.map V.int) ∧ digitsIn (ds.map V.int) ns = true ∧ ∀ H', Sm H H' → Q (.int (mixV ns ds 0)) H'))
def rd_mixed_number (K : PySem.W.Frag) (C : CA) (E : XK) : TS :=
  (tSeq (tDrop (tCallS (sp_check K C) (fun _ => E) (tCons (tCallS (sp_are_bases K C) (fun _ => E0) (tCons (tVar 0) tNil)) (tCons (tC (.str ("bases" : Str))) tNil)))) (tSeq (tDrop (tCallS (sp_check K C) (fun _ => E) (tCons (tCallS (sp_are_digits K C) (fun _ => E0) (tCons (tVar 1) (tCons (tVar 0) tNil))) (tCons (tC (.str ("digits" : Str))) tNil)))) (tSeq (tAsg (tC (.int 0)) (gName 2)) (tSeq (tFor (iZip K (tCons (tVar 0) (tCons (tVar 1) tNil))) (gTupF 2 (gCons (gName 3) (gCons (gName 4) gNil))) (tAsg (tOp fAdd (tOp fMul (tVar 2) (tVar 3)) (tVar 4)) (gName 2))) (tRet (tVar 2))))))
theorem pure_mixed_number {K : PySem.W.Frag} {C : CA} (vs : List V) (H : Hp) (Q : VK) (E : XK) (h : sp_mixed_number K C vs H Q E) : rd_mixed_number K C E { nx := fun _ H' => Q .non H', rt := Q } (start [("bases" : Str), ("digits" : Str), ("value" : Str), ("base" : Str), ("digit" : Str)] vs) H := by
  obtain ⟨v1, v2, rfl, t1, t2, q⟩ := h
  show rd_mixed_number K C E _ [some v1, some v2, none, none, none] H
  unfold rd_mixed_number
  refine q_drop ?_
  walk_at "s"
  refine ⟨v1, rfl, t1.1, t1.2, fun H1 s1 => ?_⟩
  rcases q with ⟨b1, q⟩ | ⟨p1, ns, rfl, hp1, l1, r1, q⟩
  · rw [b1]
    exact ⟨false, _, rfl, fun z => (by cases z), fun _ d H' nd hd s2 => q d H' ⟨fun b o z => s2 b o (s1 b o z), hd⟩⟩
  · rw [bases_ok hp1 l1 r1]
    refine ⟨true, _, rfl, fun _ => ?_, fun z => (by cases z)⟩
    have hp1' := sm_L s1 hp1
    refine q_drop ?_
    walk_at "s"
    refine ⟨v2, p1, ns, rfl, t2.1.mono s1, (t2.mono s1).2, hp1', l1, fun H2 s2 => ?_⟩
    have dk : digitsOk v2 H1 ns = digitsOk v2 H ns := by
      unfold digitsOk
      rw [lstOf_mono s1 t2.1]
    have s12 : Sm H H2 := fun b o z => s2 b o (s1 b o z)
    rcases q with ⟨b2, q⟩ | ⟨p2, ds, rfl, hp2, dIn, q⟩
    · rw [dk, b2]
      exact ⟨false, _, rfl, fun z => (by cases z), fun _ d H' nd hd s3 => q d H' ⟨fun b o z => s3 b o (s12 b o z), hd⟩⟩
    · have dk2 : digitsOk (.ref p2) H1 ns = true := by
        rw [dk]
        unfold digitsOk lstOf
        simp only [hp2, dIn]
      rw [dk2]
      refine ⟨true, _, rfl, fun _ => ?_, fun z => (by cases z)⟩
      have hp1'' := sm_L s12 hp1
      have hp2'' := sm_L s12 hp2
      have hl := digitsIn_len dIn
      refine q_asg ?_
      walk_at "s"
      refine q_for ⟨_, rfl, _, rfl, p1, p2, _, _, rfl, asL_seq hp1'', asL_seq hp2'', ?_⟩
      refine loop_zip (xs := ns.map V.int) (ys := ds.map V.int) (by simp [hl]) (fun i σ H3 => ∃ b d, σ = [some (.ref p1), some (.ref p2), some (.int (mixV (ns.take i) (ds.take i) 0)), b, d] ∧ Sm H H3)
        ⟨_, _, rfl, s12⟩ (fun i σ H3 ⟨_, _, _, s3⟩ => ⟨sm_L s3 hp1, sm_L s3 hp2⟩) ?_ ?_
      · rintro i x y T σ H3 hx hy ⟨b, d, rfl, s3⟩ hT
        obtain ⟨n, hn, rfl⟩ := get_int hx
        obtain ⟨e, he, rfl⟩ := get_int hy
        have e1 : asT (upd H3 T (.tup [V.int n, V.int e]) T) = some [V.int n, V.int e] := by rw [upd_same] <;> rfl
        rw [u_gtup, e1]
        walk_at "s"
        refine q_asg1 ?_
        walk_at "s"
        have bn := r1 n (List.mem_of_getElem? hn)
        refine ⟨.inr ⟨by omega, by omega⟩, ?_, sm_new s3 hT⟩
        rw [mixV_take hn he]
      · rintro σ H3 ⟨b, d, rfl, s3⟩
        walk_at "s"
        have := q H3 s3
        rw [List.length_map, List.take_length, ← hl, List.take_length]
        exact this
def prodL (ns : List Int) : Int := ns.foldl (· * ·) 1
/-- digits, the lowest first -/
def lowD : List Int → Int → List Int
  | b :: bs, x => x % b :: lowD bs (x / b)
  | [], _ => []
def lowQ : List Int → Int → Int
  | b :: bs, x => lowQ bs (x / b)
  | [], x => x
theorem lowD_take : ∀ {bs : List Int} {i : Nat} {b x : Int}, bs[i]? = some b → lowD (bs.take (i + 1)) x = lowD (bs.take i) x ++ [lowQ (bs.take i) x % b]
  | b0 :: bs, 0, b, x, h => by cases h; rfl
  | b0 :: bs, i + 1, b, x, h => by
    have ih := lowD_take (bs := bs) (i := i) (b := b) (x := x / b0) h
    simp only [List.take_succ_cons, lowD, lowQ, ih, List.cons_append]
  | [], _, _, _, h => by simp at h
theorem lowQ_take : ∀ {bs : List Int} {i : Nat} {b x : Int}, bs[i]? = some b → lowQ (bs.take (i + 1)) x = lowQ (bs.take i) x / b
  | b0 :: bs, 0, b, x, h => by cases h; rfl
  | b0 :: bs, i + 1, b, x, h => by
    have ih := lowQ_take (bs := bs) (i := i) (b := b) (x := x / b0) h
    simp only [List.take_succ_cons, lowQ, ih]
  | [], _, _, _, h => by simp at h
theorem prodL_take {bs : List Int} {i : Nat} {b : Int} (h : bs[i]? = some b) : prodL (bs.take (i + 1)) = prodL (bs.take i) * b := by
  unfold prodL
  rw [List.take_add_one, h, List.foldl_append]
  rfl
theorem lowD_len : ∀ {bs : List Int} {x : Int}, (lowD bs x).length = bs.length
  | [], _ => rfl
  | _ :: bs, x => by simp [lowD, lowD_len (bs := bs)]
def digs (ns : List Int) (x : Int) : List Int := (lowD ns.reverse x).reverse
def sp_mixed_digits (K : PySem.W.Frag) (C : CA) : Sp := fun vs H Q E => ∃ v1 v2, vs = [v1, v2] ∧ TyD v1 H ∧ Ty v2 H ∧
  ((basesOk v1 H = false ∧ ∀ d H', ErrAt H H' d [(("parameter" : Str), V.str ("bases" : Str))] → E (.ref C.BadShape) (some d) H') ∨
  ∃ p1 ns, v1 = .ref p1 ∧ asL (H p1) = some (ns.map V.int) ∧ ns.length ≤ 60 ∧ (∀ n ∈ ns, 1 ≤ n ∧ n ≤ 1000) ∧
    ((isNum v2 = false ∧ ∀ d H', ErrAt H H' d [(("parameter" : Str), V.str ("number" : Str))] → E (.ref C.BadShape) (some d) H') ∨
    ∃ x : Int, v2 = .int x ∧ 0 ≤ x ∧ ((prodL ns.reverse ≤ x ∧ ∀ d H', ErrAt H H' d [(("limit" : Str), V.int (prodL ns.reverse)), (("number" : Str), V.int x)] → E (.ref C.NoRank) (some d) H') ∨
      (x < prodL ns.reverse ∧ ∀ p H', Sm H H' → H p = none → H' p = some (.lst ((digs ns x).map V.int)) → Q (.ref p) H'))))
def rd_mixed_digits (K : PySem.W.Frag) (C : CA) (E : XK) : TS :=
  (tSeq (tDrop (tCallS (sp_check K C) (fun _ => E) (tCons (tCallS (sp_are_bases K C) (fun _ => E0) (tCons (tVar 0) tNil)) (tCons (tC (.str ("bases" : Str))) tNil)))) (tSeq (tDrop (tCallS (sp_check K C) (fun _ => E) (tCons (tCallS (sp_is_number K C) (fun _ => E0) (tCons (tVar 1) tNil)) (tCons (tC (.str ("number" : Str))) tNil)))) (tSeq (tAsg (tLst tNil) (gName 2)) (tSeq (tAsg (tVar 1) (gName 3)) (tSeq (tAsg (tC (.int 1)) (gName 4)) (tSeq (tFor (iList K (tRevF (tVar 0))) (gName 5) (tSeq (tDrop (tBMF "list" fAppend (tVar 2) (tCons (tOp fMod (tVar 3) (tVar 5)) tNil))) (tSeq (tAsg (tOp fDiv (tVar 3) (tVar 5)) (gName 3)) (tAsg (tOp fMul (tVar 4) (tVar 5)) (gName 4))))) (tSeq (tIfS (tTest (tOp fGe (tVar 1) (tVar 4))) (tRaiseF C.NoRank [("number" : Str), ("limit" : Str)] (fun cls d _ H => E cls d H) (tCons (tVar 1) (tCons (tVar 4) tNil))) tNext) (tRet (tRevF (tVar 2))))))))))
theorem pure_mixed_digits {K : PySem.W.Frag} {C : CA} (vs : List V) (H : Hp) (Q : VK) (E : XK) (h : sp_mixed_digits K C vs H Q E) : rd_mixed_digits K C E { nx := fun _ H' => Q .non H', rt := Q } (start [("bases" : Str), ("number" : Str), ("digits" : Str), ("left" : Str), ("limit" : Str), ("base" : Str)] vs) H := by
  obtain ⟨v1, v2, rfl, t1, t2, q⟩ := h
  show rd_mixed_digits K C E _ [some v1, some v2, none, none, none, none] H
  unfold rd_mixed_digits
  refine q_drop ?_
  walk_at "s"
  refine ⟨v1, rfl, t1.1, t1.2, fun H1 s1 => ?_⟩
  rcases q with ⟨b1, q⟩ | ⟨p1, ns, rfl, hp1, l1, r1, q⟩
  · rw [b1]
    exact ⟨false, _, rfl, fun z => (by cases z), fun _ d H' nd hd s2 => q d H' ⟨fun b o z => s2 b o (s1 b o z), hd⟩⟩
  · rw [bases_ok hp1 l1 r1]
    refine ⟨true, _, rfl, fun _ => ?_, fun z => (by cases z)⟩
    have hp1' := sm_L s1 hp1
    refine q_drop ?_
    walk_at "s"
    refine ⟨v2, rfl, t2.mono s1, ?_⟩
    rcases q with ⟨b2, q⟩ | ⟨x, rfl, x0, q⟩
    · rw [b2]
      exact ⟨false, _, rfl, fun z => (by cases z), fun _ d H' nd hd s3 => q d H' ⟨fun b o z => s3 b o (s1 b o z), hd⟩⟩
    · have e1 : isNum (.int x) = true := decide_eq_true x0
      rw [e1]
      refine ⟨true, _, rfl, fun _ => ?_, fun z => (by cases z)⟩
      refine q_asg ?_
      walk_at "s"
      refine ⟨by decide, fun pd hpd => ?_⟩
      have s2 : Sm H (upd H1 pd (.lst [])) := sm_new s1 hpd
      have hpd0 : H pd = none := by
        cases e : H pd with
        | none => rfl
        | some o => rw [s1 _ _ e] at hpd; cases hpd
      have hpdl : upd H1 pd (.lst []) pd = some (.lst []) := upd_same
      generalize upd H1 pd (.lst []) = H2 at s2 hpdl ⊢
      refine q_asg ?_
      walk_at "s"
      refine q_asg ?_
      walk_at "s"
      refine q_for ?_
      walk_at "s"
      rw [u_list]
      walk_at "s"
      rw [sm_L s2 hp1]
      walk_at "s"
      intro pr hpr
      refine ⟨⟨_, asL_seq (by rw [upd_same] <;> rfl)⟩, ?_⟩
      have npr : pd ≠ pr := ne_of_none hpdl hpr
      have hpr0 : H pr = none := by
        cases e : H pr with
        | none => rfl
        | some o => rw [s2 _ _ e] at hpr; cases hpr
      refine loop_list (xs := (ns.map V.int).reverse) (fun i σ H3 => ∃ v, σ = [some (.ref p1), some (.int x), some (.ref pd), some (.int (lowQ (ns.reverse.take i) x)), some (.int (prodL (ns.reverse.take i))), v] ∧
        Sm H H3 ∧ H3 pd = some (.lst ((lowD (ns.reverse.take i) x).map V.int)) ∧ H3 pr = some (.lst (ns.map V.int).reverse)) ?_ (fun i σ H3 _ ⟨_, _, _, _, e⟩ => by rw [e] <;> rfl) ?_ ?_
      · exact ⟨_, rfl, sm_put s2 hpr0, by rw [upd_ne npr]; exact hpdl, upd_same⟩
      · rintro i y σ H3 hy ⟨v, rfl, s3, hd3, hr3⟩
        rw [← List.map_reverse] at hy
        obtain ⟨n, hn, rfl⟩ := get_int hy
        have bn := r1 n (by simpa using List.mem_of_getElem? hn)
        have hi : i < ns.reverse.length := (List.getElem?_eq_some_iff.mp hn).1
        rw [List.length_reverse] at hi
        walk_at "s"
        refine q_drop ?_
        walk_at "s"
        refine ⟨tyN_lst hd3, by omega, ?_⟩
        rw [hd3]
        walk_at "s"
        refine ⟨by rw [List.length_map, lowD_len, List.length_take]; show _ < 2 ^ 24; omega, ?_⟩
        refine q_asg ?_
        walk_at "s"
        refine ⟨⟨by omega, log_small (by omega) (by omega)⟩, ?_⟩
        refine q_asg1 ?_
        walk_at "s"
        refine ⟨.inr ⟨by omega, by omega⟩, ?_⟩
        refine ⟨(lowQ_take hn).symm, (prodL_take hn).symm, sm_put s3 hpd0, ?_, ?_⟩
        · rw [lowD_take hn, List.map_append]
          rfl
        · rw [upd_ne npr.symm]
          exact hr3
      · rintro σ H3 ⟨v, rfl, s3, hd3, hr3⟩
        have el : (List.map V.int ns).reverse.length = ns.reverse.length := by simp
        rw [el, List.take_length] at hd3 ⊢
        dsimp only
        refine q_if ?_
        walk_at "s"
        rcases q with ⟨big, q⟩ | ⟨small, q⟩
        · rw [if_pos big]
          exact ⟨by decide, fun d H' _ hd s4 => q d H' ⟨fun b o z => s4 b o (s3 b o z), hd⟩⟩
        · rw [if_neg (by omega)]
          rw [hd3]
          walk_at "s"
          intro p hp
          have hp0 : H p = none := by
            cases e : H p with
            | none => rfl
            | some o => rw [s3 _ _ e] at hp; cases hp
          refine q p _ (sm_new s3 hp) hp0 ?_
          rw [upd_same]
          unfold digs
          rw [List.map_reverse]
end XB

/-! The law's helpers. -/
namespace XB
open PySem L2
local macro_rules | `(tactic| walk_at "s") => `(tactic| try simp only [u_var, u_c, u_op, u_un, u_nil, u_cons, u_cb, u_call, u_callS, u_tup, u_lst, u_test, u_B, u_and, u_or, u_not, u_andV, u_orV, u_notV, u_ifE, u_chain, u_sl, u_noPart, u_part, u_bm, u_bm0, u_rev, u_lc, u_try, u_sui, u_sui0, u_unb_rt, u_unb_nx, u_xf, u_WE, w_nil, w_cons, u_raise, u_rng1, u_rng2, u_next, u_ret, u_gname, u_gnil, u_gcons, u_gsub, u_gtup,
  f_add, f_addS, f_addR, f_sub, f_mul, f_mulR, f_mod, f_div, f_pow, f_neg, f_cmp, f_eq, f_eqB, f_eqS, f_ne, f_neB, f_neS, f_isN, f_notN, f_isB, f_ix, f_ixS, f_int, f_intB, f_len, f_lenS, f_max, f_min, f_abs, f_list, f_tuple, f_all, f_sum, f_isi, f_isiT, f_append, f_insert, f_pop, f_sl, f_set,
  kitS, tys, List.isEmpty_cons, Option.map_some, kt_NoneType_int, kt_NoneType_bool, kt_NoneType_str, kt_NoneType_list, kt_NoneType_tuple, kt_NoneType_dict, kt_int_int, kt_int_bool, kt_int_str, kt_int_list, kt_int_tuple, kt_int_dict, kt_bool_int, kt_bool_bool, kt_bool_str, kt_bool_list, kt_bool_tuple, kt_bool_dict, kt_str_int, kt_str_bool, kt_str_str, kt_str_list, kt_str_tuple, kt_str_dict, kt_list_int, kt_list_bool, kt_list_str, kt_list_list, kt_list_tuple, kt_list_dict, kt_tuple_int, kt_tuple_bool, kt_tuple_str, kt_tuple_list, kt_tuple_tuple, kt_tuple_dict, kt_dict_int, kt_dict_bool, kt_dict_str, kt_dict_list, kt_dict_tuple, kt_dict_dict, asL_lst, asL_frz, asL_tup, asT_tup, asS_lst, asS_frz, asS_tup, tyN_non, tyN_bl, tyN_int, tyN_str, atV_lit, ixN_lit, upd_same, upd_ne, upd_ne',
  List.getElem?_cons_zero, List.getElem?_cons_succ, List.set_cons_zero, List.set_cons_succ, List.append_nil, List.length_cons, List.length_nil, Option.some.injEq, exists_eq_left', exists_eq_left, exists_and_left, V.bl.injEq, V.int.injEq, V.str.injEq, V.ref.injEq, Bool.not_eq_true, Bool.not_true, Bool.not_false, decide_true, decide_false, decide_eq_true_eq, decide_eq_false_iff_not, Bool.false_eq_true, if_true, if_false, ite_true, ite_false, reduceCtorEq, true_and, and_true, Nat.reduceAdd, Nat.reduceLT, Nat.zero_add, ne_eq, not_false_eq_true, not_true_eq_false, List.cons.injEq, and_assoc])
local macro_rules | `(tactic| walk_at "S") => `(tactic| try simp only [u_var, u_c, u_op, u_un, u_nil, u_cons, u_cb, u_call, u_callS, u_tup, u_lst, u_test, u_B, u_and, u_or, u_not, u_andV, u_orV, u_notV, u_ifE, u_chain, u_sl, u_noPart, u_part, u_bm, u_bm0, u_rev, u_lc, u_try, u_sui, u_sui0, u_unb_rt, u_unb_nx, u_xf, u_WE, w_nil, w_cons, u_raise, u_rng1, u_rng2, u_next, u_ret, u_gname, u_gnil, u_gcons, u_gsub, u_gtup,
  f_add, f_addS, f_addR, f_sub, f_mul, f_mulR, f_mod, f_div, f_pow, f_neg, f_cmp, f_eq, f_eqB, f_eqS, f_ne, f_neB, f_neS, f_isN, f_notN, f_isB, f_ix, f_ixS, f_int, f_intB, f_len, f_lenS, f_max, f_min, f_abs, f_list, f_tuple, f_all, f_sum, f_isi, f_isiT, f_append, f_insert, f_pop, f_sl, f_set,
  kitS, tys, List.isEmpty_cons, Option.map_some, kt_NoneType_int, kt_NoneType_bool, kt_NoneType_str, kt_NoneType_list, kt_NoneType_tuple, kt_NoneType_dict, kt_int_int, kt_int_bool, kt_int_str, kt_int_list, kt_int_tuple, kt_int_dict, kt_bool_int, kt_bool_bool, kt_bool_str, kt_bool_list, kt_bool_tuple, kt_bool_dict, kt_str_int, kt_str_bool, kt_str_str, kt_str_list, kt_str_tuple, kt_str_dict, kt_list_int, kt_list_bool, kt_list_str, kt_list_list, kt_list_tuple, kt_list_dict, kt_tuple_int, kt_tuple_bool, kt_tuple_str, kt_tuple_list, kt_tuple_tuple, kt_tuple_dict, kt_dict_int, kt_dict_bool, kt_dict_str, kt_dict_list, kt_dict_tuple, kt_dict_dict, asL_lst, asL_frz, asL_tup, asT_tup, asS_lst, asS_frz, asS_tup, tyN_non, tyN_bl, tyN_int, tyN_str, atV_lit, ixN_lit, upd_same, upd_ne, upd_ne',
  List.getElem?_cons_zero, List.getElem?_cons_succ, List.set_cons_zero, List.set_cons_succ, List.append_nil, List.length_cons, List.length_nil, Option.some.injEq, exists_eq_left', exists_eq_left, exists_and_left, V.bl.injEq, V.int.injEq, V.str.injEq, V.ref.injEq, Bool.not_eq_true, Bool.not_true, Bool.not_false, decide_true, decide_false, decide_eq_true_eq, decide_eq_false_iff_not, Bool.false_eq_true, if_true, if_false, ite_true, ite_false, reduceCtorEq, true_and, and_true, Nat.reduceAdd, Nat.reduceLT, Nat.zero_add, ne_eq, not_false_eq_true, not_true_eq_false, List.cons.injEq, and_assoc, *])
/-- item by item -/
def All2 (R : V → PyData → Prop) (xs : List V) (ds : List PyData) : Prop := xs.length = ds.length ∧ ∀ (i : Nat) (x : V) (d : PyData), xs[i]? = some x → ds[i]? = some d → R x d
def Flat (v : V) (d : PyData) : Prop := (v = .non ∧ d = .none) ∨ (∃ b, v = .bl b ∧ d = .bool b) ∨ (∃ i, v = .int i ∧ d = .int i) ∨ ∃ z, v = .str z ∧ d = .str z
/-- v stands for the data d, at most n deep -/
def Rp (H : Hp) : Nat → V → PyData → Prop
  | 0, v, d => Flat v d
  | n + 1, v, d => Flat v d ∨ (∃ p xs ds, v = .ref p ∧ asL (H p) = some xs ∧ d = .list ds ∧ xs.length < 2 ^ 60 ∧ All2 (Rp H n) xs ds) ∨
    ∃ p xs ds, v = .ref p ∧ asT (H p) = some xs ∧ d = .tuple ds ∧ xs.length < 2 ^ 60 ∧ All2 (Rp H n) xs ds
theorem Rp.mono {H H' : Hp} (s : Sm H H') : ∀ {n : Nat} {v : V} {d : PyData}, Rp H n v d → Rp H' n v d
  | 0, _, _, h => h
  | n + 1, v, d, h => by
    rcases h with h | ⟨p, xs, ds, e1, e2, e3, e4, e5, e6⟩ | ⟨p, xs, ds, e1, e2, e3, e4, e5, e6⟩
    · exact .inl h
    · exact .inr (.inl ⟨p, xs, ds, e1, sm_L s e2, e3, e4, e5, fun i x d hx hd => Rp.mono s (e6 i x d hx hd)⟩)
    · exact .inr (.inr ⟨p, xs, ds, e1, sm_T s e2, e3, e4, e5, fun i x d hx hd => Rp.mono s (e6 i x d hx hd)⟩)
theorem Rp.up {H : Hp} : ∀ {n : Nat} {v : V} {d : PyData}, Rp H n v d → Rp H (n + 1) v d
  | 0, _, _, h => .inl h
  | n + 1, v, d, h => by
    rcases h with h | ⟨p, xs, ds, e1, e2, e3, e4, e5, e6⟩ | ⟨p, xs, ds, e1, e2, e3, e4, e5, e6⟩
    · exact .inl h
    · exact .inr (.inl ⟨p, xs, ds, e1, e2, e3, e4, e5, fun i x d hx hd => Rp.up (e6 i x d hx hd)⟩)
    · exact .inr (.inr ⟨p, xs, ds, e1, e2, e3, e4, e5, fun i x d hx hd => Rp.up (e6 i x d hx hd)⟩)
theorem tup_ty {H : Hp} {p : Addr} {xs : List V} (h : asT (H p) = some xs) : tyN (.ref p) H = some "tuple" := by
  dsimp only [tyN]
  cases e : H p with
  | none => rw [e] at h; cases h
  | some o =>
    rw [e] at h
    cases o with
    | tup ys => rfl
    | frz ob u => cases u <;> first | rfl | (cases h)
    | _ => cases h
theorem asS_of_T {o : Option HO} {xs : List V} (h : asT o = some xs) : asS o = some xs := by
  cases o with
  | none => cases h
  | some u =>
    cases u with
    | tup ys => exact h
    | frz ob w => cases w <;> first | exact h | (cases h)
    | _ => cases h
/-- both stand for one data: they are the same -/
def sp_sameN (n : Nat) : Sp := fun vs H Q _ => ∃ v1 v2 d, vs = [v1, v2] ∧ Rp H n v1 d ∧ Rp H n v2 d ∧ ∀ H', Sm H H' → Q (.bl true) H'
def sp_same_in : Nat → Sp
  | 0 => fun _ _ _ _ => False
  | n + 1 => sp_sameN n
def sp_l_same (K : PySem.W.Frag) (C : CA) : Sp := sp_sameN 6
def rd_l_same (K : PySem.W.Frag) (C : CA) (spR : Sp) (E : XK) : TS :=
  (tSeq (tIfS (tOr (tTest (tOp fIsN (tVar 0) (tC .non))) (tTest (tOp fIsN (tVar 1) (tC .non)))) (tRet (tAndV (tOp fIsN (tVar 0) (tC .non)) (tOp fIsN (tVar 1) (tC .non)))) tNext) (tSeq (tIfS (tOr (tB (tCB fIsi (tCons (tVar 0) (tCons (tC (.ty "bool")) tNil)))) (tB (tCB fIsi (tCons (tVar 1) (tCons (tC (.ty "bool")) tNil))))) (tRet (tAndV (tCB fIsi (tCons (tVar 0) (tCons (tC (.ty "bool")) tNil))) (tAndV (tCB fIsi (tCons (tVar 1) (tCons (tC (.ty "bool")) tNil))) (tOp (fEq K) (tVar 0) (tVar 1))))) tNext) (tSeq (tIfS (tOr (tB (tCB fIsi (tCons (tVar 0) (tCons (tC (.ty "int")) tNil)))) (tB (tCB fIsi (tCons (tVar 1) (tCons (tC (.ty "int")) tNil))))) (tRet (tAndV (tCB fIsi (tCons (tVar 0) (tCons (tC (.ty "int")) tNil))) (tAndV (tCB fIsi (tCons (tVar 1) (tCons (tC (.ty "int")) tNil))) (tOp (fEq K) (tVar 0) (tVar 1))))) tNext) (tSeq (tIfS (tOr (tB (tCB fIsi (tCons (tVar 0) (tCons (tC (.ty "str")) tNil)))) (tB (tCB fIsi (tCons (tVar 1) (tCons (tC (.ty "str")) tNil))))) (tRet (tAndV (tCB fIsi (tCons (tVar 0) (tCons (tC (.ty "str")) tNil))) (tAndV (tCB fIsi (tCons (tVar 1) (tCons (tC (.ty "str")) tNil))) (tOp (fEq K) (tVar 0) (tVar 1))))) tNext) (tSeq (tIfS (tOr (tB (tCB fIsi (tCons (tVar 0) (tCons (tC (.ty "dict")) tNil)))) (tB (tCB fIsi (tCons (tVar 1) (tCons (tC (.ty "dict")) tNil))))) tNever tNext) (tSeq (tIfS (tOr (tB (tCB fIsiT (tCons (tVar 0) (tCons (tTup (tCons (tC (.ty "list")) (tCons (tC (.ty "tuple")) tNil))) tNil)))) (tB (tCB fIsiT (tCons (tVar 1) (tCons (tTup (tCons (tC (.ty "list")) (tCons (tC (.ty "tuple")) tNil))) tNil))))) (tSeq (tIfS (tOr (tTest (tOp (fNe K) (tCB fIsi (tCons (tVar 0) (tCons (tC (.ty "list")) tNil))) (tCB fIsi (tCons (tVar 1) (tCons (tC (.ty "list")) tNil))))) (tTest (tOp (fNe K) (tCB fIsi (tCons (tVar 0) (tCons (tC (.ty "tuple")) tNil))) (tCB fIsi (tCons (tVar 1) (tCons (tC (.ty "tuple")) tNil)))))) (tRet (tC (.bl false))) tNext) (tSeq (tIfS (tTest (tOp (fNe K) (tCB fLen (tCons (tVar 0) tNil)) (tCB fLen (tCons (tVar 1) tNil)))) (tRet (tC (.bl false))) tNext) (tSeq (tFor (iRng1 (tCons (tCB fLen (tCons (tVar 0) tNil)) tNil)) (gName 3) (tIfS (tNot (tB (tCallS spR (fun _ => E0) (tCons (tOp fIx (tVar 0) (tVar 3)) (tCons (tOp fIx (tVar 1) (tVar 3)) tNil))))) (tRet (tC (.bl false))) tNext)) (tRet (tC (.bl true)))))) tNext) (tSeq tNever tNever)))))))
theorem pure_l_sameN {K : PySem.W.Frag} {C : CA} (n : Nat) (vs : List V) (H : Hp) (Q : VK) (E : XK) (h : sp_sameN n vs H Q E) : rd_l_same K C (sp_same_in n) E { nx := fun _ H' => Q .non H', rt := Q } (start [("one" : Str), ("other" : Str), ("key" : Str), ("k" : Str), ("alike" : Str), ("found" : Str)] vs) H := by
  obtain ⟨v1, v2, d, rfl, r1, r2, q⟩ := h
  show rd_l_same K C _ E _ [some v1, some v2, none, none, none, none] H
  unfold rd_l_same
  have flat : Flat v1 d → Flat v2 d → rd_l_same K C (sp_same_in n) E { nx := fun _ H' => Q .non H', rt := Q } [some v1, some v2, none, none, none, none] H := fun f1 f2 => by
    have q0 := q H fun _ _ z => z
    unfold rd_l_same
    rcases f1 with ⟨rfl, rfl⟩ | ⟨b, rfl, rfl⟩ | ⟨i, rfl, rfl⟩ | ⟨z, rfl, rfl⟩
    · rcases f2 with ⟨rfl, _⟩ | ⟨b, rfl, e⟩ | ⟨i, rfl, e⟩ | ⟨z, rfl, e⟩
      · refine q_if ?_
        walk_at "s"
        exact q0
      all_goals cases e
    · rcases f2 with ⟨rfl, e⟩ | ⟨b2, rfl, e⟩ | ⟨i, rfl, e⟩ | ⟨z, rfl, e⟩
      · cases e
      · cases e
        refine q_if ?_
        walk_at "s"
        refine q_if ?_
        walk_at "s"
        exact q0
      all_goals cases e
    · rcases f2 with ⟨rfl, e⟩ | ⟨b2, rfl, e⟩ | ⟨i2, rfl, e⟩ | ⟨z, rfl, e⟩
      · cases e
      · cases e
      · cases e
        refine q_if ?_
        walk_at "s"
        refine q_if ?_
        walk_at "s"
        refine q_if ?_
        walk_at "s"
        exact q0
      · cases e
    · rcases f2 with ⟨rfl, e⟩ | ⟨b2, rfl, e⟩ | ⟨i2, rfl, e⟩ | ⟨z2, rfl, e⟩
      · cases e
      · cases e
      · cases e
      · cases e
        refine q_if ?_
        walk_at "s"
        refine q_if ?_
        walk_at "s"
        refine q_if ?_
        walk_at "s"
        refine q_if ?_
        walk_at "s"
        exact q0
  cases n with
  | zero => exact flat r1 r2
  | succ n =>
    rcases r1 with f1 | ⟨p1, xs, ds, rfl, e1, rfl, l1, a1⟩ | ⟨p1, xs, ds, rfl, e1, rfl, l1, a1⟩
    · rcases r2 with f2 | ⟨p2, ys, ds2, rfl, e2, rfl, l2, a2⟩ | ⟨p2, ys, ds2, rfl, e2, rfl, l2, a2⟩
      · exact flat f1 f2
      · rcases f1 with ⟨_, e⟩ | ⟨_, _, e⟩ | ⟨_, _, e⟩ | ⟨_, _, e⟩ <;> cases e
      · rcases f1 with ⟨_, e⟩ | ⟨_, _, e⟩ | ⟨_, _, e⟩ | ⟨_, _, e⟩ <;> cases e
    · rcases r2 with f2 | ⟨p2, ys, ds2, rfl, e2, e, l2, a2⟩ | ⟨p2, ys, ds2, rfl, e2, e, l2, a2⟩
      · rcases f2 with ⟨_, e⟩ | ⟨_, _, e⟩ | ⟨_, _, e⟩ | ⟨_, _, e⟩ <;> cases e
      · cases e
        refine q_if ?_
        walk_at "s"
        refine q_if ?_
        walk_at "s"
        rw [lst_ty e1, lst_ty e2]
        walk_at "s"
        refine q_if ?_
        walk_at "s"
        rw [lst_ty e1, lst_ty e2]
        walk_at "s"
        refine q_if ?_
        walk_at "s"
        rw [lst_ty e1, lst_ty e2]
        walk_at "s"
        refine q_if ?_
        walk_at "s"
        rw [lst_ty e1, lst_ty e2]
        walk_at "s"
        refine q_if ?_
        walk_at "s"
        refine ⟨by decide, fun tp htp => ?_⟩
        have s1 : Sm H (upd H tp (.tup [V.ty "list", V.ty "tuple"])) := sm_new (fun _ _ z => z) htp
        have t1 := upd_same (H := H) (a := tp) (o := .tup [V.ty "list", V.ty "tuple"])
        generalize upd H tp (.tup [V.ty "list", V.ty "tuple"]) = H1 at s1 t1 ⊢
        rw [tyN_mono s1 (lst_ty e1)]
        walk_at "s"
        have e1' := sm_L s1 e1
        have e2' := sm_L s1 e2
        refine q_if ?_
        walk_at "s"
        rw [lst_ty e1', lst_ty e2']
        walk_at "s"
        refine q_if ?_
        walk_at "s"
        rw [asS_of_L e1', asS_of_L e2']
        walk_at "s"
        have ll : xs.length = ys.length := a1.1.trans a2.1.symm
        have l3 : (xs.length : Int) = ys.length := by omega
        simp only [l3, decide_true, Bool.not_true, Bool.false_eq_true, if_false]
        refine q_for ?_
        walk_at "s"
        rw [asS_of_L e1']
        walk_at "s"
        refine ⟨by omega, by omega, ?_⟩
        refine loop_range (fun i σ H2 => ∃ v, σ = [some (.ref p1), some (.ref p2), none, v, none, none] ∧ Sm H1 H2) ⟨_, rfl, fun _ _ z => z⟩ ?_ ?_
        · rintro i σ H2 hi ⟨v, rfl, s2⟩
          walk_at "s"
          have hx : i < xs.length := by omega
          have hy : i < ys.length := by omega
          have hd : i < ds.length := by have := a1.1; omega
          refine q_if1 ?_
          walk_at "s"
          rw [asS_of_L (sm_L s2 e1'), asS_of_L (sm_L s2 e2')]
          walk_at "s"
          have ei : (0 : Int) + (i : Nat) = (i : Nat) := Int.zero_add _
          rw [ei]
          refine at_nat (v := xs[i]) (by simp [hx]) (at_nat (v := ys[i]) (by simp [hy]) ?_)
          refine ⟨_, _, ds[i], rfl, (a1.2 i _ _ (by simp [hx]) (by simp [hd])).mono (fun b o z => s2 b o (s1 b o z)), (a2.2 i _ _ (by simp [hy]) (by simp [hd])).mono (fun b o z => s2 b o (s1 b o z)), fun H3 s3 => ?_⟩
          walk_at "s"
          exact fun b o z => s3 b o (s2 b o z)
        · rintro σ H2 ⟨v, rfl, s2⟩
          walk_at "s"
          exact q H2 fun b o z => s2 b o (s1 b o z)
      · cases e
    · rcases r2 with f2 | ⟨p2, ys, ds2, rfl, e2, e, l2, a2⟩ | ⟨p2, ys, ds2, rfl, e2, e, l2, a2⟩
      · rcases f2 with ⟨_, e⟩ | ⟨_, _, e⟩ | ⟨_, _, e⟩ | ⟨_, _, e⟩ <;> cases e
      · cases e
      · cases e
        refine q_if ?_
        walk_at "s"
        refine q_if ?_
        walk_at "s"
        rw [tup_ty e1, tup_ty e2]
        walk_at "s"
        refine q_if ?_
        walk_at "s"
        rw [tup_ty e1, tup_ty e2]
        walk_at "s"
        refine q_if ?_
        walk_at "s"
        rw [tup_ty e1, tup_ty e2]
        walk_at "s"
        refine q_if ?_
        walk_at "s"
        rw [tup_ty e1, tup_ty e2]
        walk_at "s"
        refine q_if ?_
        walk_at "s"
        refine ⟨by decide, fun tp htp => ?_⟩
        have s1 : Sm H (upd H tp (.tup [V.ty "list", V.ty "tuple"])) := sm_new (fun _ _ z => z) htp
        have t1 := upd_same (H := H) (a := tp) (o := .tup [V.ty "list", V.ty "tuple"])
        generalize upd H tp (.tup [V.ty "list", V.ty "tuple"]) = H1 at s1 t1 ⊢
        rw [tyN_mono s1 (tup_ty e1)]
        walk_at "s"
        have e1' := sm_T s1 e1
        have e2' := sm_T s1 e2
        refine q_if ?_
        walk_at "s"
        rw [tup_ty e1', tup_ty e2']
        walk_at "s"
        refine q_if ?_
        walk_at "s"
        rw [asS_of_T e1', asS_of_T e2']
        walk_at "s"
        have ll : xs.length = ys.length := a1.1.trans a2.1.symm
        have l3 : (xs.length : Int) = ys.length := by omega
        simp only [l3, decide_true, Bool.not_true, Bool.false_eq_true, if_false]
        refine q_for ?_
        walk_at "s"
        rw [asS_of_T e1']
        walk_at "s"
        refine ⟨by omega, by omega, ?_⟩
        refine loop_range (fun i σ H2 => ∃ v, σ = [some (.ref p1), some (.ref p2), none, v, none, none] ∧ Sm H1 H2) ⟨_, rfl, fun _ _ z => z⟩ ?_ ?_
        · rintro i σ H2 hi ⟨v, rfl, s2⟩
          walk_at "s"
          have hx : i < xs.length := by omega
          have hy : i < ys.length := by omega
          have hd : i < ds.length := by have := a1.1; omega
          refine q_if1 ?_
          walk_at "s"
          rw [asS_of_T (sm_T s2 e1'), asS_of_T (sm_T s2 e2')]
          walk_at "s"
          have ei : (0 : Int) + (i : Nat) = (i : Nat) := Int.zero_add _
          rw [ei]
          refine at_nat (v := xs[i]) (by simp [hx]) (at_nat (v := ys[i]) (by simp [hy]) ?_)
          refine ⟨_, _, ds[i], rfl, (a1.2 i _ _ (by simp [hx]) (by simp [hd])).mono (fun b o z => s2 b o (s1 b o z)), (a2.2 i _ _ (by simp [hy]) (by simp [hd])).mono (fun b o z => s2 b o (s1 b o z)), fun H3 s3 => ?_⟩
          walk_at "s"
          exact fun b o z => s3 b o (s2 b o z)
        · rintro σ H2 ⟨v, rfl, s2⟩
          walk_at "s"
          exact q H2 fun b o z => s2 b o (s1 b o z)
def sp_l_store (K : PySem.W.Frag) (C : CA) : Sp := fun vs H Q _ => ∃ (a : Addr) (ns : List Int), vs = [.ref a] ∧ SqL K H a (ns.map V.int) ∧ ns.length ≤ 63 ∧ ∀ st H', Sm H H' → H st = none → StAt H' st → Q (.ref st) H'
def rd_l_store (K : PySem.W.Frag) (C : CA) (E : XK) : TS :=
  (tSeq (tAsg (tLc (iList K (tVar 0)) (gName 1) tYes (tCB fInt (tCons (tVar 1) tNil)) [1]) (gName 2)) (tSeq (tAsg (tC (.int 0)) (gName 3)) (tSeq (tFor (iList K (tVar 2)) (gName 1) (tAsg (tCallS (sp_l_mixed K C) (fun _ => E0) (tCons (tOp fAdd (tCB fInt (tCons (tVar 1) tNil)) (tVar 3)) (tCons (tCB fLen (tCons (tVar 2) tNil)) tNil))) (gName 3))) (tRet (tLst (tCons (tVar 2) (tCons (tC (.int 0)) (tCons (tC (.int 0)) (tCons (tC (.int 0)) (tCons (tVar 3) tNil))))))))))
theorem pure_l_store {K : PySem.W.Frag} {C : CA} (vs : List V) (H : Hp) (Q : VK) (E : XK) (h : sp_l_store K C vs H Q E) : rd_l_store K C E { nx := fun _ H' => Q .non H', rt := Q } (start [("script" : Str), ("cell" : Str), ("cells" : Str), ("seed" : Str)] vs) H := by
  obtain ⟨a, ns, rfl, hs, hn, q⟩ := h
  show rd_l_store K C E _ [some (.ref a), none, none, none] H
  unfold rd_l_store
  refine q_asg ?_
  walk_at "s"
  rw [u_list]
  walk_at "s"
  refine ⟨⟨_, hs⟩, fun Dd hD => ?_⟩
  refine made_mapS id (fun H' s => L2.Same.seq s hs) hD (by rw [List.length_map]; show _ < 2 ^ 24; omega) (fun _ => rfl) (fun i x H1 Q1 hx s1 q1 => ?_) fun H1 s1 hd => ?_
  · obtain ⟨n, hn, rfl⟩ := get_int hx
    walk_at "s"
    exact q1 H1 fun _ _ z => z
  · rw [List.map_id] at hd
    walk_at "s"
    refine q_asg ?_
    walk_at "s"
    refine q_for ?_
    rw [u_list]
    walk_at "s"
    refine ⟨⟨_, asL_seq (by rw [hd] <;> rfl)⟩, ?_⟩
    refine loop_list (xs := ns.map V.int) (fun i σ H2 => ∃ (v : Option V) (e : Int), σ = [some (.ref a), v, some (.ref Dd), some (.int e)] ∧ H2 = H1) ⟨_, _, rfl, rfl⟩ (fun i σ H2 _ ⟨_, _, _, e⟩ => by rw [e, hd] <;> rfl) ?_ ?_
    · rintro i x σ H2 hx ⟨v, e, rfl, rfl⟩
      obtain ⟨n, hn, rfl⟩ := get_int hx
      walk_at "s"
      refine q_asg1 ?_
      walk_at "s"
      rw [hd]
      walk_at "s"
      refine ⟨_, _, rfl, fun r _ _ => ?_⟩
      walk_at "s"
      exact ⟨r, rfl⟩
    · rintro σ H2 ⟨v, e, rfl, rfl⟩
      walk_at "s"
      refine ⟨by decide, fun st hst => ?_⟩
      have h0 : H st = none := by
        cases eo : H st with
        | none => rfl
        | some o => rw [s1 _ _ eo] at hst; cases hst
      refine q st _ (sm_new s1 hst) h0 ⟨Dd, ns, 0, 0, 0, e, upd_same, ?_, ne_of_none hd hst, by decide, by omega⟩
      rw [upd_ne (ne_of_none hd hst)]
      exact hd
def sp_l_near (K : PySem.W.Frag) (C : CA) : Sp := fun vs H Q _ => ∃ (st : Addr) (lim : Int), vs = [.ref st, .int lim] ∧ StAt H st ∧ 0 ≤ lim ∧ ∀ (r : Int) (H' : Hp), 0 ≤ r → Kp st H H' → StAt H' st → Q (.int r) H'
def rd_l_near (K : PySem.W.Frag) (C : CA) (E : XK) : TS :=
  (tSeq (tAsg (tCallS (sp_l_take K C) (fun _ => E0) (tCons (tVar 0) (tCons (tC (.int 8)) tNil))) (gName 2)) (tSeq (tIfS (tTest (tOp fLt (tVar 2) (tC (.int 5)))) (tRet (tOp fIx (tLst (tCons (tC (.int 0)) (tCons (tCB fMax (tCons (tC (.int 0)) (tCons (tOp fSub (tVar 1) (tC (.int 1))) tNil))) (tCons (tVar 1) (tCons (tOp fAdd (tVar 1) (tC (.int 1))) (tCons (tOp fSub (tOp fPow (tC (.int 10)) (tC (.int 30))) (tC (.int 1))) tNil)))))) (tVar 2))) tNext) (tSeq (tIfS (tTest (tOp fLt (tVar 2) (tC (.int 7)))) (tRet (tCallS (sp_l_edge K C) (fun _ => E0) (tCons (tVar 0) (tCons (tC (.int 0)) (tCons (tVar 1) tNil))))) tNext) (tRet (tCallS (sp_l_take K C) (fun _ => E0) (tCons (tVar 0) (tCons (tC (.int 70)) tNil)))))))
theorem pure_l_near {K : PySem.W.Frag} {C : CA} (vs : List V) (H : Hp) (Q : VK) (E : XK) (h : sp_l_near K C vs H Q E) : rd_l_near K C E { nx := fun _ H' => Q .non H', rt := Q } (start [("store" : Str), ("limit" : Str), ("form" : Str)] vs) H := by
  obtain ⟨st, lim, rfl, hs, hl, q⟩ := h
  show rd_l_near K C E _ [some (.ref st), some (.int lim), none] H
  unfold rd_l_near
  refine q_asg ?_
  walk_at "s"
  refine take_ok hs (by decide) fun r H1 r0 r1 k1 s1 => ?_
  refine q_if ?_
  walk_at "s"
  refine ite2 (fun c2 => ?_) fun c2 => ?_
  · refine ⟨⟨by decide, by decide, by decide⟩, ?_⟩
    refine ⟨by decide, fun p hp => ?_⟩
    walk_at "s"
    have kp : Kp st H (upd H1 p (.lst [V.int 0, V.int (max 0 (lim - 1)), V.int lim, V.int (lim + 1), V.int (10 ^ Int.toNat 30 - 1)])) := k1.new hp
    have sp := s1.new (o := .lst [V.int 0, V.int (max 0 (lim - 1)), V.int lim, V.int (lim + 1), V.int (10 ^ Int.toNat 30 - 1)]) hp
    obtain rfl | rfl | rfl | rfl | rfl : r = 0 ∨ r = 1 ∨ r = 2 ∨ r = 3 ∨ r = 4 := by omega
    all_goals
      walk_at "s"
      refine q _ _ ?_ kp sp
      first | omega | decide
  · refine q_if ?_
    walk_at "s"
    refine ite2 (fun c3 => ?_) fun c3 => ?_
    · refine edge_ok s1 fun r H2 r0 r1 k2 s2 => ?_
      exact q _ _ (by omega) (k1.trans k2) s2
    · refine take_ok s1 (by decide) fun r H2 r0 r1 k2 s2 => ?_
      exact q _ _ r0 (k1.trans k2) s2
def sp_l_no_number (K : PySem.W.Frag) (C : CA) : Sp := fun vs H Q _ => ∃ (st : Addr), vs = [.ref st] ∧ StAt H st ∧ ∀ (v : V) (H' : Hp), Ty v H' → isNum v = false → Kp st H H' → StAt H' st → Q v H'
def rd_l_no_number (K : PySem.W.Frag) (C : CA) (E : XK) : TS :=
  (tSeq (tAsg (tLst (tCons (tUn fNeg (tC (.int 1))) (tCons (tC (.bl true)) (tCons (tC (.bl false)) (tCons (tC .non) (tCons (tC (.str ("1" : Str))) (tCons (tC (.str ("" : Str))) (tCons (tLst (tCons (tC (.int 1)) tNil)) (tCons (tTup (tCons (tC (.int 1)) tNil)) (tCons (tLst tNil) (tCons (tTup tNil) (tCons (tOp fSub (tC (.int 1)) (tOp fPow (tC (.int 10)) (tC (.int 30)))) (tCons (tC (.str ("0" : Str))) tNil))))))))))))) (gName 1)) (tRet (tOp fIx (tVar 1) (tCallS (sp_l_take K C) (fun _ => E0) (tCons (tVar 0) (tCons (tCB fLen (tCons (tVar 1) tNil)) tNil))))))
theorem pure_l_no_number {K : PySem.W.Frag} {C : CA} (vs : List V) (H : Hp) (Q : VK) (E : XK) (h : sp_l_no_number K C vs H Q E) : rd_l_no_number K C E { nx := fun _ H' => Q .non H', rt := Q } (start [("store" : Str), ("row" : Str)] vs) H := by
  obtain ⟨st, rfl, hs, q⟩ := h
  show rd_l_no_number K C E _ [some (.ref st), none] H
  unfold rd_l_no_number
  refine q_asg ?_
  walk_at "s"
  refine ⟨by decide, fun pa na => al na fun H1 t1 h1 => ⟨by decide, fun pb nb => al nb fun H2 t2 h2 => ⟨by decide, fun pc nc => al nc fun H3 t3 h3 => ⟨by decide, fun pd nd => al nd fun H4 t4 h4 =>
    ⟨⟨by decide, by decide, by decide⟩, by decide, fun pr nr => al nr fun H5 t5 h5 => ?_⟩⟩⟩⟩⟩
  have u45 := t5
  have u35 := sm_trans t4 u45
  have u25 := sm_trans t3 u35
  have u15 := sm_trans t2 u25
  have u05 := sm_trans t1 u15
  have s1 := hs.sm t1
  have s2 := s1.sm t2
  have s3 := s2.sm t3
  have s4 := s3.sm t4
  refine take_ok (hs.sm u05) (by decide) fun r H6 r0 r1 k2 s6 => ?_
  have ga := k2.1 _ _ (hs.ne na) (u15 _ _ h1)
  have gb := k2.1 _ _ (s1.ne nb) (u25 _ _ h2)
  have gc := k2.1 _ _ (s2.ne nc) (u35 _ _ h3)
  have gd := k2.1 _ _ (s3.ne nd) (u45 _ _ h4)
  have gr := k2.1 _ _ (s4.ne nr) h5
  have kk : Kp st H H6 := (kp_sm u05).trans k2
  walk_at "s"
  rw [gr]
  walk_at "s"
  have r2 : r < 12 := by omega
  clear u45 u35 u25 u15 u05 s1 s2 s3 s4 h1 h2 h3 h4 h5 t1 t2 t3 t4 t5 r1
  obtain rfl | rfl | rfl | rfl | rfl | rfl | rfl | rfl | rfl | rfl | rfl | rfl : r = 0 ∨ r = 1 ∨ r = 2 ∨ r = 3 ∨ r = 4 ∨ r = 5 ∨ r = 6 ∨ r = 7 ∨ r = 8 ∨ r = 9 ∨ r = 10 ∨ r = 11 := by omega
  all_goals
    walk_at "s"
    refine q _ _ ?_ ?_ kk s6
    · first
        | exact ⟨_, rfl⟩
        | exact ⟨_, tyN_lst ga⟩
        | exact ⟨_, tyN_tup gb⟩
        | exact ⟨_, tyN_lst gc⟩
        | exact ⟨_, tyN_tup gd⟩
    · first | rfl | decide
def sp_l_int (K : PySem.W.Frag) (C : CA) : Sp := fun vs H Q _ => ∃ i : Int, vs = [.int i] ∧ Q (.bl true) H
def rd_l_int (K : PySem.W.Frag) (C : CA) (E : XK) : TS :=
  (tRet (tAndV (tCB fIsi (tCons (tVar 0) (tCons (tC (.ty "int")) tNil))) (tNotV (tCB fIsi (tCons (tVar 0) (tCons (tC (.ty "bool")) tNil))))))
theorem pure_l_int {K : PySem.W.Frag} {C : CA} (vs : List V) (H : Hp) (Q : VK) (E : XK) (h : sp_l_int K C vs H Q E) : rd_l_int K C E { nx := fun _ H' => Q .non H', rt := Q } (start [("value" : Str)] vs) H := by
  obtain ⟨i, rfl, q⟩ := h
  show rd_l_int K C E _ [some (.int i)] H
  unfold rd_l_int
  refine q_ret ?_
  walk_at "s"
  exact q
end XB

/-! The law's questions. -/
namespace XB
open PySem L2
local macro_rules | `(tactic| walk_at "s") => `(tactic| try simp only [u_var, u_c, u_op, u_un, u_nil, u_cons, u_cb, u_call, u_callS, u_tup, u_lst, u_test, u_B, u_and, u_or, u_not, u_andV, u_orV, u_notV, u_ifE, u_chain, u_sl, u_noPart, u_part, u_bm, u_bm0, u_rev, u_lc, u_try, u_sui, u_sui0, u_unb_rt, u_unb_nx, u_xf, u_WE, w_nil, w_cons, u_raise, u_rng1, u_rng2, u_next, u_ret, u_gname, u_gnil, u_gcons, u_gsub, u_gtup,
  f_add, f_addS, f_addR, f_sub, f_mul, f_mulR, f_mod, f_div, f_pow, f_neg, f_cmp, f_eq, f_eqB, f_eqS, f_ne, f_neB, f_neS, f_isN, f_notN, f_isB, f_ix, f_ixS, f_int, f_intB, f_len, f_lenS, f_max, f_min, f_abs, f_list, f_tuple, f_all, f_sum, f_isi, f_isiT, f_append, f_insert, f_pop, f_sl, f_set,
  kitS, tys, List.isEmpty_cons, Option.map_some, kt_NoneType_int, kt_NoneType_bool, kt_NoneType_str, kt_NoneType_list, kt_NoneType_tuple, kt_NoneType_dict, kt_int_int, kt_int_bool, kt_int_str, kt_int_list, kt_int_tuple, kt_int_dict, kt_bool_int, kt_bool_bool, kt_bool_str, kt_bool_list, kt_bool_tuple, kt_bool_dict, kt_str_int, kt_str_bool, kt_str_str, kt_str_list, kt_str_tuple, kt_str_dict, kt_list_int, kt_list_bool, kt_list_str, kt_list_list, kt_list_tuple, kt_list_dict, kt_tuple_int, kt_tuple_bool, kt_tuple_str, kt_tuple_list, kt_tuple_tuple, kt_tuple_dict, kt_dict_int, kt_dict_bool, kt_dict_str, kt_dict_list, kt_dict_tuple, kt_dict_dict, asL_lst, asL_frz, asL_tup, asT_tup, asS_lst, asS_frz, asS_tup, tyN_non, tyN_bl, tyN_int, tyN_str, atV_lit, ixN_lit, upd_same, upd_ne, upd_ne',
  List.getElem?_cons_zero, List.getElem?_cons_succ, List.set_cons_zero, List.set_cons_succ, List.append_nil, List.length_cons, List.length_nil, Option.some.injEq, exists_eq_left', exists_eq_left, exists_and_left, V.bl.injEq, V.int.injEq, V.str.injEq, V.ref.injEq, Bool.not_eq_true, Bool.not_true, Bool.not_false, decide_true, decide_false, decide_eq_true_eq, decide_eq_false_iff_not, Bool.false_eq_true, if_true, if_false, ite_true, ite_false, reduceCtorEq, true_and, and_true, Nat.reduceAdd, Nat.reduceLT, Nat.zero_add, ne_eq, not_false_eq_true, not_true_eq_false, List.cons.injEq, and_assoc])
local macro_rules | `(tactic| walk_at "S") => `(tactic| try simp only [u_var, u_c, u_op, u_un, u_nil, u_cons, u_cb, u_call, u_callS, u_tup, u_lst, u_test, u_B, u_and, u_or, u_not, u_andV, u_orV, u_notV, u_ifE, u_chain, u_sl, u_noPart, u_part, u_bm, u_bm0, u_rev, u_lc, u_try, u_sui, u_sui0, u_unb_rt, u_unb_nx, u_xf, u_WE, w_nil, w_cons, u_raise, u_rng1, u_rng2, u_next, u_ret, u_gname, u_gnil, u_gcons, u_gsub, u_gtup,
  f_add, f_addS, f_addR, f_sub, f_mul, f_mulR, f_mod, f_div, f_pow, f_neg, f_cmp, f_eq, f_eqB, f_eqS, f_ne, f_neB, f_neS, f_isN, f_notN, f_isB, f_ix, f_ixS, f_int, f_intB, f_len, f_lenS, f_max, f_min, f_abs, f_list, f_tuple, f_all, f_sum, f_isi, f_isiT, f_append, f_insert, f_pop, f_sl, f_set,
  kitS, tys, List.isEmpty_cons, Option.map_some, kt_NoneType_int, kt_NoneType_bool, kt_NoneType_str, kt_NoneType_list, kt_NoneType_tuple, kt_NoneType_dict, kt_int_int, kt_int_bool, kt_int_str, kt_int_list, kt_int_tuple, kt_int_dict, kt_bool_int, kt_bool_bool, kt_bool_str, kt_bool_list, kt_bool_tuple, kt_bool_dict, kt_str_int, kt_str_bool, kt_str_str, kt_str_list, kt_str_tuple, kt_str_dict, kt_list_int, kt_list_bool, kt_list_str, kt_list_list, kt_list_tuple, kt_list_dict, kt_tuple_int, kt_tuple_bool, kt_tuple_str, kt_tuple_list, kt_tuple_tuple, kt_tuple_dict, kt_dict_int, kt_dict_bool, kt_dict_str, kt_dict_list, kt_dict_tuple, kt_dict_dict, asL_lst, asL_frz, asL_tup, asT_tup, asS_lst, asS_frz, asS_tup, tyN_non, tyN_bl, tyN_int, tyN_str, atV_lit, ixN_lit, upd_same, upd_ne, upd_ne',
  List.getElem?_cons_zero, List.getElem?_cons_succ, List.set_cons_zero, List.set_cons_succ, List.append_nil, List.length_cons, List.length_nil, Option.some.injEq, exists_eq_left', exists_eq_left, exists_and_left, V.bl.injEq, V.int.injEq, V.str.injEq, V.ref.injEq, Bool.not_eq_true, Bool.not_true, Bool.not_false, decide_true, decide_false, decide_eq_true_eq, decide_eq_false_iff_not, Bool.false_eq_true, if_true, if_false, ite_true, ite_false, reduceCtorEq, true_and, and_true, Nat.reduceAdd, Nat.reduceLT, Nat.zero_add, ne_eq, not_false_eq_true, not_true_eq_false, List.cons.injEq, and_assoc, *])
/-- what the errors' classes are to each other -/
structure EF (K : PySem.W.Frag) (C : CA) : Prop where
  x_bb : PySem.W.exmOne K (.ref C.BadShape) (.ref C.BadShape) = some true
  x_bn : PySem.W.exmOne K (.ref C.BadShape) (.ref C.NoRank) = some false
  x_nn : PySem.W.exmOne K (.ref C.NoRank) (.ref C.NoRank) = some true
  k_bc : PySem.W.kitOne K (.ref C.BadShape) (.ref C.CrossError) = some true
  k_bv : PySem.W.kitOne K (.ref C.BadShape) (.type "ValueError") = some true
  k_nc : PySem.W.kitOne K (.ref C.NoRank) (.ref C.CrossError) = some true
  k_nv : PySem.W.kitOne K (.ref C.NoRank) (.type "ValueError") = some true
  a_b : PySem.W.kitAny K (.ref C.BadShape) [.ref C.NoRank, .ref C.Lacking] = some false
  a_n : PySem.W.kitAny K (.ref C.NoRank) [.ref C.BadShape, .ref C.Lacking] = some false
theorem lk1 {f : Str} {v : V} {r : List (Str × V)} : ((f, v) :: r).lookup f = some v := by simp [List.lookup]
theorem lk2 {f g : Str} {v : V} {r : List (Str × V)} {o : Option V} (n : g ≠ f) (h : r.lookup g = o) : ((f, v) :: r).lookup g = o := by
  have e : (g == f) = false := by simpa using n
  simp [List.lookup, e, h]
/-- a new list of these -/
def Tells (H : Hp) (xs : List V) (Q : VK) : Prop := ∀ p H', Sm H H' → H p = none → H' p = some (.lst xs) → Q (.ref p) H'
theorem Tells.at {H H1 : Hp} {xs : List V} {Q : VK} (t : Tells H xs Q) (s : Sm H H1) {p : Addr} (n : H1 p = none) : Q (.ref p) (upd H1 p (.lst xs)) := t p _ (sm_new s n) (sm_none s n) upd_same
theorem mn_told {K : PySem.W.Frag} {C : CA} {H : Hp} {v1 v2 : V} {Q : VK} {Ew : XK} (t1 : TyD v1 H) (t2 : TyD v2 H)
    (q : (basesOk v1 H = false ∧ Tells H [.str ("BadShape" : Str), .str ("bases" : Str)] Q) ∨
      ∃ p1 ns, v1 = .ref p1 ∧ asL (H p1) = some (ns.map V.int) ∧ ns.length ≤ 60 ∧ (∀ n ∈ ns, 1 ≤ n ∧ n ≤ 1000) ∧
        ((digitsOk v2 H ns = false ∧ Tells H [.str ("BadShape" : Str), .str ("digits" : Str)] Q) ∨
        ∃ p2 ds, v2 = .ref p2 ∧ asL (H p2) = some (ds.map V.int) ∧ digitsIn (ds.map V.int) ns = true ∧ Tells H [.str ("good" : Str), .int (mixV ns ds 0)] Q))
    (bad : ∀ (z : Str) (d : Addr) (H1 : Hp), Tells H [.str ("BadShape" : Str), .str z] Q → ErrAt H H1 d [(("parameter" : Str), V.str z)] → Ew (.ref C.BadShape) (some d) H1) :
    sp_mixed_number K C [v1, v2] H (fun x H1 => 2 ≤ sizeLine ∧ ∀ p, H1 p = none → Q (.ref p) (upd H1 p (.lst [.str ("good" : Str), x]))) Ew := by
  refine ⟨v1, v2, rfl, t1, t2, ?_⟩
  rcases q with ⟨b, q⟩ | ⟨p1, ns, e1, e2, e3, e4, ⟨b, q⟩ | ⟨p2, ds, f1, f2, f3, q⟩⟩
  · exact .inl ⟨b, fun d H1 e => bad _ d H1 q e⟩
  · exact .inr ⟨p1, ns, e1, e2, e3, e4, .inl ⟨b, fun d H1 e => bad _ d H1 q e⟩⟩
  · exact .inr ⟨p1, ns, e1, e2, e3, e4, .inr ⟨p2, ds, f1, f2, f3, fun H1 s1 => ⟨by decide, fun p hp => q.at s1 hp⟩⟩⟩
def sp_l_number_told (K : PySem.W.Frag) (C : CA) : Sp := fun vs H Q _ => ∃ v1 v2, vs = [v1, v2] ∧ TyD v1 H ∧ TyD v2 H ∧
  ((basesOk v1 H = false ∧ Tells H [.str ("BadShape" : Str), .str ("bases" : Str)] Q) ∨
  ∃ p1 ns, v1 = .ref p1 ∧ asL (H p1) = some (ns.map V.int) ∧ ns.length ≤ 60 ∧ (∀ n ∈ ns, 1 ≤ n ∧ n ≤ 1000) ∧
    ((digitsOk v2 H ns = false ∧ Tells H [.str ("BadShape" : Str), .str ("digits" : Str)] Q) ∨
    ∃ p2 ds, v2 = .ref p2 ∧ asL (H p2) = some (ds.map V.int) ∧ digitsIn (ds.map V.int) ns = true ∧ Tells H [.str ("good" : Str), .int (mixV ns ds 0)] Q))
def rd_l_number_told (K : PySem.W.Frag) (C : CA) (E : XK) : TS :=
  (tTryX K (fun W => (tRet (tLst (tCons (tC (.str ("good" : Str))) (tCons (tCallS (sp_mixed_number K C) (WE W) (tCons (tVar 0) (tCons (tVar 1) tNil))) tNil))))) (fun _ _ _ _ => False) ((.ref C.BadShape, some 2, fun a cls d => (tSeq (tIfS (tOr (tNot (tB (tCB (fIsE K C.BadShape a cls d) (tCons (tVar 2) (tCons (tC (.ref C.CrossError)) tNil))))) (tOr (tNot (tB (tCB (fIsE K C.BadShape a cls d) (tCons (tVar 2) (tCons (tC (.ty "ValueError")) tNil))))) (tB (tCB (fIsET K C.BadShape a cls d) (tCons (tVar 2) (tCons (tTup (tCons (tC (.ref C.NoRank)) (tCons (tC (.ref C.Lacking)) tNil))) tNil)))))) (tRet (tLst (tCons (tC (.str ("beneath" : Str))) tNil))) tNext) (tRet (tLst (tCons (tC (.str ("BadShape" : Str))) (tCons (tXf a cls d C.BadShape ("parameter" : Str) (tVar 2)) tNil)))))) :: ((.ref C.CrossError, none, fun a cls d => (tRet (tLst (tCons (tC (.str ("another" : Str))) tNil)))) :: [])))
theorem pure_l_number_told {K : PySem.W.Frag} {C : CA} (F : EF K C) (vs : List V) (H : Hp) (Q : VK) (E : XK) (h : sp_l_number_told K C vs H Q E) : rd_l_number_told K C E { nx := fun _ H' => Q .non H', rt := Q } (start [("bases" : Str), ("digits" : Str), ("e" : Str)] vs) H := by
  obtain ⟨v1, v2, rfl, t1, t2, q⟩ := h
  show rd_l_number_told K C E _ [some v1, some v2, none] H
  unfold rd_l_number_told
  walk_at "s"
  refine mn_told t1 t2 q fun z d H1 tl e => ?_
  walk_at "s"
  refine wX_yes F.x_bb fun a na => ?_
  walk_at "s"
  refine q_if ?_
  walk_at "s"
  refine ⟨_, _, true, d, _, rfl, fun u h => h, rfl, rfl, e.2, F.k_bc, ?_⟩
  walk_at "s"
  refine ⟨_, _, true, d, _, rfl, fun u h => h, rfl, rfl, e.2, F.k_bv, ?_⟩
  walk_at "s"
  refine ⟨by decide, fun tp ht => al ht fun H2 s2 h2 => ?_⟩
  refine ⟨_, _, _, false, d, _, rfl, h2, .cons (.own _) (.cons (.own _) .nil), rfl, rfl, s2 _ _ e.2, F.a_b, ?_⟩
  walk_at "s"
  exact ⟨_, s2 _ _ e.2, _, lk1, by decide, fun p hp => tl.at (sm_trans e.1 s2) hp⟩
theorem md_told {K : PySem.W.Frag} {C : CA} {H : Hp} {v1 v2 : V} {Q : VK} {Ew : XK} (t1 : TyD v1 H) (t2 : Ty v2 H)
    (q : (basesOk v1 H = false ∧ Tells H [.str ("BadShape" : Str), .str ("bases" : Str)] Q) ∨
      ∃ p1 ns, v1 = .ref p1 ∧ asL (H p1) = some (ns.map V.int) ∧ ns.length ≤ 60 ∧ (∀ n ∈ ns, 1 ≤ n ∧ n ≤ 1000) ∧
        ((isNum v2 = false ∧ Tells H [.str ("BadShape" : Str), .str ("number" : Str)] Q) ∨
        ∃ x : Int, v2 = .int x ∧ 0 ≤ x ∧ ((prodL ns.reverse ≤ x ∧ Tells H [.str ("NoRank" : Str), .int x, .int (prodL ns.reverse)] Q) ∨
          (x < prodL ns.reverse ∧ ∀ p p2 H', Sm H H' → H p = none → H p2 = none → p ≠ p2 → H' p2 = some (.lst ((digs ns x).map V.int)) → H' p = some (.lst [.str ("good" : Str), .ref p2]) → Q (.ref p) H'))))
    (bad : ∀ (z : Str) (d : Addr) (H1 : Hp), Tells H [.str ("BadShape" : Str), .str z] Q → ErrAt H H1 d [(("parameter" : Str), V.str z)] → Ew (.ref C.BadShape) (some d) H1)
    (none_ : ∀ (x y : Int) (d : Addr) (H1 : Hp), Tells H [.str ("NoRank" : Str), .int x, .int y] Q → ErrAt H H1 d [(("limit" : Str), V.int y), (("number" : Str), V.int x)] → Ew (.ref C.NoRank) (some d) H1) :
    sp_mixed_digits K C [v1, v2] H (fun x H1 => 2 ≤ sizeLine ∧ ∀ p, H1 p = none → Q (.ref p) (upd H1 p (.lst [.str ("good" : Str), x]))) Ew := by
  refine ⟨v1, v2, rfl, t1, t2, ?_⟩
  rcases q with ⟨b, q⟩ | ⟨p1, ns, e1, e2, e3, e4, ⟨b, q⟩ | ⟨x, rfl, x0, ⟨big, q⟩ | ⟨small, q⟩⟩⟩
  · exact .inl ⟨b, fun d H1 e => bad _ d H1 q e⟩
  · exact .inr ⟨p1, ns, e1, e2, e3, e4, .inl ⟨b, fun d H1 e => bad _ d H1 q e⟩⟩
  · exact .inr ⟨p1, ns, e1, e2, e3, e4, .inr ⟨x, rfl, x0, .inl ⟨big, fun d H1 e => none_ _ _ d H1 q e⟩⟩⟩
  · exact .inr ⟨p1, ns, e1, e2, e3, e4, .inr ⟨x, rfl, x0, .inr ⟨small, fun p2 H1 s1 n2 h2 => ⟨by decide, fun p hp => q p p2 _ (sm_new s1 hp) (sm_none s1 hp) n2 (ne_of_none h2 hp).symm (by rw [upd_ne (ne_of_none h2 hp)]; exact h2) upd_same⟩⟩⟩⟩
def sp_l_digits_told (K : PySem.W.Frag) (C : CA) : Sp := fun vs H Q _ => ∃ v1 v2, vs = [v1, v2] ∧ TyD v1 H ∧ Ty v2 H ∧
  ((basesOk v1 H = false ∧ Tells H [.str ("BadShape" : Str), .str ("bases" : Str)] Q) ∨
  ∃ p1 ns, v1 = .ref p1 ∧ asL (H p1) = some (ns.map V.int) ∧ ns.length ≤ 60 ∧ (∀ n ∈ ns, 1 ≤ n ∧ n ≤ 1000) ∧
    ((isNum v2 = false ∧ Tells H [.str ("BadShape" : Str), .str ("number" : Str)] Q) ∨
    ∃ x : Int, v2 = .int x ∧ 0 ≤ x ∧ ((prodL ns.reverse ≤ x ∧ Tells H [.str ("NoRank" : Str), .int x, .int (prodL ns.reverse)] Q) ∨
      (x < prodL ns.reverse ∧ ∀ p p2 H', Sm H H' → H p = none → H p2 = none → p ≠ p2 → H' p2 = some (.lst ((digs ns x).map V.int)) → H' p = some (.lst [.str ("good" : Str), .ref p2]) → Q (.ref p) H'))))
def rd_l_digits_told (K : PySem.W.Frag) (C : CA) (E : XK) : TS :=
  (tTryX K (fun W => (tRet (tLst (tCons (tC (.str ("good" : Str))) (tCons (tCallS (sp_mixed_digits K C) (WE W) (tCons (tVar 0) (tCons (tVar 1) tNil))) tNil))))) (fun _ _ _ _ => False) ((.ref C.NoRank, some 2, fun a cls d => (tSeq (tIfS (tOr (tNot (tB (tCB (fIsE K C.NoRank a cls d) (tCons (tVar 2) (tCons (tC (.ref C.CrossError)) tNil))))) (tOr (tNot (tB (tCB (fIsE K C.NoRank a cls d) (tCons (tVar 2) (tCons (tC (.ty "ValueError")) tNil))))) (tB (tCB (fIsET K C.NoRank a cls d) (tCons (tVar 2) (tCons (tTup (tCons (tC (.ref C.BadShape)) (tCons (tC (.ref C.Lacking)) tNil))) tNil)))))) (tRet (tLst (tCons (tC (.str ("beneath" : Str))) tNil))) tNext) (tRet (tLst (tCons (tC (.str ("NoRank" : Str))) (tCons (tXf a cls d C.NoRank ("number" : Str) (tVar 2)) (tCons (tXf a cls d C.NoRank ("limit" : Str) (tVar 2)) tNil))))))) :: ((.ref C.BadShape, some 2, fun a cls d => (tRet (tLst (tCons (tC (.str ("BadShape" : Str))) (tCons (tXf a cls d C.BadShape ("parameter" : Str) (tVar 2)) tNil))))) :: ((.ref C.CrossError, none, fun a cls d => (tRet (tLst (tCons (tC (.str ("another" : Str))) tNil)))) :: []))))
theorem pure_l_digits_told {K : PySem.W.Frag} {C : CA} (F : EF K C) (vs : List V) (H : Hp) (Q : VK) (E : XK) (h : sp_l_digits_told K C vs H Q E) : rd_l_digits_told K C E { nx := fun _ H' => Q .non H', rt := Q } (start [("bases" : Str), ("number" : Str), ("e" : Str)] vs) H := by
  obtain ⟨v1, v2, rfl, t1, t2, q⟩ := h
  show rd_l_digits_told K C E _ [some v1, some v2, none] H
  unfold rd_l_digits_told
  walk_at "s"
  refine md_told t1 t2 q (fun z d H1 tl e => ?_) fun x y d H1 tl e => ?_
  · walk_at "s"
    refine wX_no F.x_bn (wX_yes F.x_bb fun a na => ?_)
    walk_at "s"
    exact ⟨_, e.2, _, lk1, by decide, fun p hp => tl.at e.1 hp⟩
  · walk_at "s"
    refine wX_yes F.x_nn fun a na => ?_
    walk_at "s"
    refine q_if ?_
    walk_at "s"
    refine ⟨_, _, true, d, _, rfl, fun u h => h, rfl, rfl, e.2, F.k_nc, ?_⟩
    walk_at "s"
    refine ⟨_, _, true, d, _, rfl, fun u h => h, rfl, rfl, e.2, F.k_nv, ?_⟩
    walk_at "s"
    refine ⟨by decide, fun tp ht => al ht fun H2 s2 h2 => ?_⟩
    refine ⟨_, _, _, false, d, _, rfl, h2, .cons (.own _) (.cons (.own _) .nil), rfl, rfl, s2 _ _ e.2, F.a_n, ?_⟩
    walk_at "s"
    refine ⟨_, s2 _ _ e.2, _, lk2 (by decide +kernel) lk1, _, s2 _ _ e.2, _, lk1, by decide, fun p hp => tl.at (sm_trans e.1 s2) hp⟩
/-- the weights, the first one first -/
def weights : List Int → List Int
  | [] => []
  | b :: bs => prodL bs.reverse :: weights bs
theorem weights_len : ∀ {ns : List Int}, (weights ns).length = ns.length
  | [] => rfl
  | _ :: ns => by simp [weights, weights_len (ns := ns)]
theorem prodL_snoc {ns : List Int} {b : Int} : prodL (ns ++ [b]) = prodL ns * b := by
  unfold prodL
  rw [List.foldl_append]
  rfl
def sp_l_weights (K : PySem.W.Frag) (C : CA) : Sp := fun vs H Q _ => ∃ p ns, vs = [.ref p] ∧ asL (H p) = some (ns.map V.int) ∧ ns.length ≤ 60 ∧ (∀ n ∈ ns, 1 ≤ n ∧ n ≤ 1000) ∧
  ∀ q q1 H', Sm H H' → H' q1 = some (.lst ((weights ns).map V.int)) → H' q = some (.lst [.ref q1, .int (prodL ns.reverse)]) → Q (.ref q) H'
def rd_l_weights (K : PySem.W.Frag) (C : CA) (E : XK) : TS :=
  (tSeq (tAsg (tLst tNil) (gName 1)) (tSeq (tAsg (tC (.int 1)) (gName 2)) (tSeq (tFor (iRev K (tCons (tCB fList (tCons (tVar 0) tNil)) tNil)) (gName 3) (tSeq (tAsg (tOp fAdd (tLst (tCons (tVar 2) tNil)) (tVar 1)) (gName 1)) (tAsg (tOp fMul (tVar 2) (tVar 3)) (gName 2)))) (tRet (tLst (tCons (tVar 1) (tCons (tVar 2) tNil)))))))
theorem pure_l_weights {K : PySem.W.Frag} {C : CA} (vs : List V) (H : Hp) (Q : VK) (E : XK) (h : sp_l_weights K C vs H Q E) : rd_l_weights K C E { nx := fun _ H' => Q .non H', rt := Q } (start [("bases" : Str), ("weights" : Str), ("weight" : Str), ("base" : Str)] vs) H := by
  obtain ⟨p, ns, rfl, hp, l1, r1, q⟩ := h
  show rd_l_weights K C E _ [some (.ref p), none, none, none] H
  unfold rd_l_weights
  refine q_asg ?_
  walk_at "s"
  refine ⟨by decide, fun p0 n0 => al n0 fun H1 s1 h1 => ?_⟩
  refine q_asg ?_
  walk_at "s"
  refine q_for ?_
  rw [u_revI]
  walk_at "s"
  rw [asS_of_L (sm_L s1 hp)]
  walk_at "s"
  refine fun pl nl => al nl fun H2 s2 h2 => ⟨ns.map V.int, asL_seq (by rw [h2] <;> rfl), ?_⟩
  have s12 := sm_trans s1 s2
  refine loop_rev (xs := ns.map V.int) rfl (fun i σ H3 => ∃ q1 v, σ = [some (.ref p), some (.ref q1), some (.int (prodL (ns.drop (ns.length - i)).reverse)), v] ∧ Sm H2 H3 ∧ H3 q1 = some (.lst ((weights (ns.drop (ns.length - i))).map V.int))) ?_
    (fun i σ H3 _ ⟨_, _, _, s3, _⟩ => by rw [s3 _ _ h2] <;> rfl) ?_ ?_
  · exact ⟨p0, none, by simp [prodL], fun _ _ z => z, by rw [s2 _ _ h1]; simp [weights]⟩
  · rintro i x σ H3 hi hx ⟨q1, v, rfl, s3, h3⟩
    rw [List.length_map] at hi hx
    obtain ⟨n, hn, rfl⟩ := get_int hx
    have bn := r1 n (List.mem_of_getElem? hn)
    have hj : ns.length - 1 - i < ns.length := by omega
    have ed : ns.drop (ns.length - (i + 1)) = n :: ns.drop (ns.length - i) := by
      have e1 : ns.length - (i + 1) = ns.length - 1 - i := by omega
      have e2 : ns.length - i = ns.length - 1 - i + 1 := by omega
      rw [e1, e2, List.drop_eq_getElem_cons hj]
      have e3 : ns[ns.length - 1 - i] = n := by
        have := List.getElem?_eq_getElem hj
        rw [hn] at this
        exact (Option.some.inj this).symm
      rw [e3]
    walk_at "s"
    refine q_asg ?_
    walk_at "s"
    refine ⟨by decide, fun pa na => al na fun H4 s4 h4 => ?_⟩
    simp only [h4, s4 _ _ h3]
    walk_at "s"
    have lw : (weights (ns.drop (ns.length - i))).length ≤ 60 := by
      rw [weights_len, List.length_drop]; omega
    refine ⟨by rw [List.length_map]; show _ ≤ 2 ^ 24; omega, fun pb nb => al nb fun H5 s5 h5 => ?_⟩
    refine q_asg1 ?_
    walk_at "s"
    refine ⟨.inr ⟨by omega, by omega⟩, ?_, sm_trans s3 (sm_trans s4 s5), ?_⟩
    · rw [ed, List.reverse_cons, prodL_snoc]
    · rw [h5, ed]
      rfl
  · rintro σ H3 ⟨q1, v, rfl, s3, h3⟩
    rw [List.length_map, Nat.sub_self, List.drop_zero] at *
    walk_at "s"
    refine ⟨by decide, fun pq nq => q pq q1 _ (sm_trans s12 (sm_new s3 nq)) ?_ upd_same⟩
    rw [upd_ne (ne_of_none h3 nq)]
    exact h3
def sp_l_worth (K : PySem.W.Frag) (C : CA) : Sp := fun vs H Q _ => ∃ p1 p2 ns ds, vs = [.ref p1, .ref p2] ∧ asL (H p1) = some (ns.map V.int) ∧ asL (H p2) = some (ds.map V.int) ∧ ns.length ≤ 60 ∧ (∀ n ∈ ns, 1 ≤ n ∧ n ≤ 1000) ∧ digitsIn (ds.map V.int) ns = true ∧
  ∀ H', Sm H H' → Q (.int (mixV ns ds 0)) H'
def rd_l_worth (K : PySem.W.Frag) (C : CA) (E : XK) : TS :=
  (tSeq (tAsg (tOp fIx (tCallS (sp_l_weights K C) (fun _ => E0) (tCons (tVar 0) tNil)) (tC (.int 0))) (gName 2)) (tRet (tCB fSum (tCons (tLc (iRng1 (tCons (tCB fLen (tCons (tVar 1) tNil)) tNil)) (gName 3) tYes (tOp fMul (tOp fIx (tVar 1) (tVar 3)) (tOp fIx (tVar 2) (tVar 3))) [3]) tNil))))
/-- the digits by their weights -/
def worth : List Int → List Int → Int
  | d :: ds, w :: ws => d * w + worth ds ws
  | _, _ => 0
theorem mixV_worth : ∀ {ns ds : List Int} {a : Int}, ds.length = ns.length → mixV ns ds a = a * prodL ns.reverse + worth ds (weights ns)
  | [], [], a, _ => by simp [mixV, worth, weights, prodL]
  | n :: ns, d :: ds, a, h => by
    have ih := mixV_worth (ns := ns) (ds := ds) (a := a * n + d) (by simpa using h)
    simp only [mixV, weights, worth, ih, List.reverse_cons, prodL_snoc]
    rw [Int.add_mul, Int.mul_assoc, Int.mul_comm n, Int.add_assoc]
  | [], _ :: _, _, h => by simp at h
  | _ :: _, [], _, h => by simp at h
theorem worth_sum : ∀ {ds ws : List Int}, ds.length = ws.length → ((List.range ds.length).map fun k => ds.getD k 0 * ws.getD k 0).sum = worth ds ws
  | [], [], _ => rfl
  | d :: ds, w :: ws, h => by
    have ih := worth_sum (ds := ds) (ws := ws) (by simpa using h)
    rw [List.length_cons, List.range_succ_eq_map, List.map_cons, List.sum_cons, List.map_map]
    have e : ((fun k => (d :: ds).getD k 0 * (w :: ws).getD k 0) ∘ Nat.succ) = fun k => ds.getD k 0 * ws.getD k 0 := by
      funext k
      rfl
    rw [e, ih]
    rfl
  | [], _ :: _, h => by simp at h
  | _ :: _, [], h => by simp at h
theorem digit_small : ∀ {ds ns : List Int} {k : Nat} {d : Int}, digitsIn (ds.map V.int) ns = true → (∀ n ∈ ns, 1 ≤ n ∧ n ≤ 1000) → ds[k]? = some d → 0 ≤ d ∧ d < 1000
  | d0 :: ds, n0 :: ns, 0, d, h, r, e => by
    cases e
    simp only [List.map_cons, digitsIn, Bool.and_eq_true, decide_eq_true_eq] at h
    have := r n0 List.mem_cons_self
    omega
  | d0 :: ds, n0 :: ns, k + 1, d, h, r, e => by
    simp only [List.map_cons, digitsIn, Bool.and_eq_true, decide_eq_true_eq] at h
    exact digit_small (k := k) h.2 (fun n hn => r n (List.mem_cons_of_mem _ hn)) e
  | [], _, _, _, _, _, e => by simp at e
  | _ :: _, [], _, _, h, _, _ => by simp [digitsIn] at h
theorem pure_l_worth {K : PySem.W.Frag} {C : CA} (vs : List V) (H : Hp) (Q : VK) (E : XK) (h : sp_l_worth K C vs H Q E) : rd_l_worth K C E { nx := fun _ H' => Q .non H', rt := Q } (start [("bases" : Str), ("digits" : Str), ("weights" : Str), ("k" : Str)] vs) H := by
  obtain ⟨p1, p2, ns, ds, rfl, hp1, hp2, l1, r1, dIn, q⟩ := h
  show rd_l_worth K C E _ [some (.ref p1), some (.ref p2), none, none] H
  unfold rd_l_worth
  refine q_asg ?_
  walk_at "s"
  refine ⟨p1, ns, rfl, hp1, l1, r1, fun t w H1 s1 hw ht => ?_⟩
  have hl := digitsIn_len dIn
  have h2 := asS_of_L (sm_L s1 hp2)
  walk_at "s"
  simp only [ht]
  walk_at "s"
  simp only [h2]
  walk_at "s"
  rw [List.length_map]
  refine ⟨by omega, by omega, fun Dd hD => ?_⟩
  have en : ((ds.length : Nat) : Int).toNat = ds.length := by omega
  rw [en]
  refine made_mapR (fun k => .int (ds.getD k 0 * (weights ns).getD k 0)) hD (by show _ < 2 ^ 24; omega) (fun _ => rfl) (fun i H2 Q1 hi s2 q1 => ?_) fun H2 s2 hd => ?_
  · have ew := asS_lst (xs := (weights ns).map V.int)
    have hiw : i < (weights ns).length := by rw [weights_len]; omega
    have e0 : (0 : Int) + (i : Nat) = (i : Nat) := Int.zero_add _
    walk_at "s"
    simp only [sm_S s2 h2, s2 _ _ hw, e0]
    walk_at "s"
    refine at_nat (v := .int (ds.getD i 0)) (by simp [hi, List.getD]) ?_
    refine at_nat (v := .int ((weights ns).getD i 0)) (by simp [hiw, List.getD]) ?_
    walk_at "s"
    have small := digit_small (k := i) (d := ds[i]) dIn r1 (by simp [hi])
    have eg : ds.getD i 0 = ds[i] := by simp [hi]
    refine ⟨.inl ?_, q1 H2 fun _ _ z => z⟩
    rw [eg]
    omega
  · simp only [hd]
    walk_at "s"
    refine ⟨(List.range ds.length).map fun k => ds.getD k 0 * (weights ns).getD k 0, by rw [List.map_map]; rfl, ?_⟩
    rw [worth_sum (by rw [weights_len]; exact hl)]
    have e := mixV_worth (a := 0) hl
    rw [Int.zero_mul, Int.zero_add] at e
    rw [← e]
    exact q H2 (sm_trans s1 s2)
end XB

/-! Lists spoilt. -/
namespace XB
open PySem L2
local macro_rules | `(tactic| walk_at "s") => `(tactic| try simp only [u_var, u_c, u_op, u_un, u_nil, u_cons, u_cb, u_call, u_callS, u_tup, u_lst, u_test, u_B, u_and, u_or, u_not, u_andV, u_orV, u_notV, u_ifE, u_chain, u_sl, u_noPart, u_part, u_bm, u_bm0, u_rev, u_lc, u_try, u_sui, u_sui0, u_unb_rt, u_unb_nx, u_xf, u_WE, w_nil, w_cons, u_raise, u_rng1, u_rng2, u_next, u_ret, u_gname, u_gnil, u_gcons, u_gsub, u_gtup,
  f_add, f_addS, f_addR, f_sub, f_mul, f_mulR, f_mod, f_div, f_pow, f_neg, f_cmp, f_eq, f_eqB, f_eqS, f_ne, f_neB, f_neS, f_isN, f_notN, f_isB, f_ix, f_ixS, f_int, f_intB, f_len, f_lenS, f_max, f_min, f_abs, f_list, f_tuple, f_all, f_sum, f_isi, f_isiT, f_append, f_insert, f_pop, f_sl, f_set,
  kitS, tys, List.isEmpty_cons, Option.map_some, kt_NoneType_int, kt_NoneType_bool, kt_NoneType_str, kt_NoneType_list, kt_NoneType_tuple, kt_NoneType_dict, kt_int_int, kt_int_bool, kt_int_str, kt_int_list, kt_int_tuple, kt_int_dict, kt_bool_int, kt_bool_bool, kt_bool_str, kt_bool_list, kt_bool_tuple, kt_bool_dict, kt_str_int, kt_str_bool, kt_str_str, kt_str_list, kt_str_tuple, kt_str_dict, kt_list_int, kt_list_bool, kt_list_str, kt_list_list, kt_list_tuple, kt_list_dict, kt_tuple_int, kt_tuple_bool, kt_tuple_str, kt_tuple_list, kt_tuple_tuple, kt_tuple_dict, kt_dict_int, kt_dict_bool, kt_dict_str, kt_dict_list, kt_dict_tuple, kt_dict_dict, asL_lst, asL_frz, asL_tup, asT_tup, asS_lst, asS_frz, asS_tup, tyN_non, tyN_bl, tyN_int, tyN_str, atV_lit, ixN_lit, upd_same, upd_ne, upd_ne',
  List.getElem?_cons_zero, List.getElem?_cons_succ, List.set_cons_zero, List.set_cons_succ, List.append_nil, List.length_cons, List.length_nil, Option.some.injEq, exists_eq_left', exists_eq_left, exists_and_left, V.bl.injEq, V.int.injEq, V.str.injEq, V.ref.injEq, Bool.not_eq_true, Bool.not_true, Bool.not_false, decide_true, decide_false, decide_eq_true_eq, decide_eq_false_iff_not, Bool.false_eq_true, if_true, if_false, ite_true, ite_false, reduceCtorEq, true_and, and_true, Nat.reduceAdd, Nat.reduceLT, Nat.zero_add, ne_eq, not_false_eq_true, not_true_eq_false, List.cons.injEq, and_assoc])
local macro_rules | `(tactic| walk_at "S") => `(tactic| try simp only [u_var, u_c, u_op, u_un, u_nil, u_cons, u_cb, u_call, u_callS, u_tup, u_lst, u_test, u_B, u_and, u_or, u_not, u_andV, u_orV, u_notV, u_ifE, u_chain, u_sl, u_noPart, u_part, u_bm, u_bm0, u_rev, u_lc, u_try, u_sui, u_sui0, u_unb_rt, u_unb_nx, u_xf, u_WE, w_nil, w_cons, u_raise, u_rng1, u_rng2, u_next, u_ret, u_gname, u_gnil, u_gcons, u_gsub, u_gtup,
  f_add, f_addS, f_addR, f_sub, f_mul, f_mulR, f_mod, f_div, f_pow, f_neg, f_cmp, f_eq, f_eqB, f_eqS, f_ne, f_neB, f_neS, f_isN, f_notN, f_isB, f_ix, f_ixS, f_int, f_intB, f_len, f_lenS, f_max, f_min, f_abs, f_list, f_tuple, f_all, f_sum, f_isi, f_isiT, f_append, f_insert, f_pop, f_sl, f_set,
  kitS, tys, List.isEmpty_cons, Option.map_some, kt_NoneType_int, kt_NoneType_bool, kt_NoneType_str, kt_NoneType_list, kt_NoneType_tuple, kt_NoneType_dict, kt_int_int, kt_int_bool, kt_int_str, kt_int_list, kt_int_tuple, kt_int_dict, kt_bool_int, kt_bool_bool, kt_bool_str, kt_bool_list, kt_bool_tuple, kt_bool_dict, kt_str_int, kt_str_bool, kt_str_str, kt_str_list, kt_str_tuple, kt_str_dict, kt_list_int, kt_list_bool, kt_list_str, kt_list_list, kt_list_tuple, kt_list_dict, kt_tuple_int, kt_tuple_bool, kt_tuple_str, kt_tuple_list, kt_tuple_tuple, kt_tuple_dict, kt_dict_int, kt_dict_bool, kt_dict_str, kt_dict_list, kt_dict_tuple, kt_dict_dict, asL_lst, asL_frz, asL_tup, asT_tup, asS_lst, asS_frz, asS_tup, tyN_non, tyN_bl, tyN_int, tyN_str, atV_lit, ixN_lit, upd_same, upd_ne, upd_ne',
  List.getElem?_cons_zero, List.getElem?_cons_succ, List.set_cons_zero, List.set_cons_succ, List.append_nil, List.length_cons, List.length_nil, Option.some.injEq, exists_eq_left', exists_eq_left, exists_and_left, V.bl.injEq, V.int.injEq, V.str.injEq, V.ref.injEq, Bool.not_eq_true, Bool.not_true, Bool.not_false, decide_true, decide_false, decide_eq_true_eq, decide_eq_false_iff_not, Bool.false_eq_true, if_true, if_false, ite_true, ite_false, reduceCtorEq, true_and, and_true, Nat.reduceAdd, Nat.reduceLT, Nat.zero_add, ne_eq, not_false_eq_true, not_true_eq_false, List.cons.injEq, and_assoc, *])
def LeafOk (H : Hp) (M : Addr → Prop) : Prop := ∀ a, M a → ∃ xs, H a = some (.lst xs) ∧ xs.all flatV = true ∧ xs.length ≤ 1000
def Fr (M : Addr → Prop) (H H' : Hp) : Prop := ∀ b o, ¬ M b → H b = some o → H' b = some o
def sp_spoil0 : Sp := fun vs H Q _ => ∃ v, vs = [v] ∧ flatV v = true ∧ ∀ H', Sm H H' → Q .non H'
def sp_spoil1 : Sp := fun vs H Q _ => ∃ a M, vs = [.ref a] ∧ M a ∧ LeafOk H M ∧ ∀ H', Fr M H H' → LeafOk H' M → Q .non H'
def sp_l_spoil (K : PySem.W.Frag) (C : CA) : Sp := fun vs H Q _ => ∃ p xs M, vs = [.ref p] ∧ ¬ M p ∧ H p = some (.lst xs) ∧ xs.length ≤ 1000 ∧ (∀ x ∈ xs, ∃ a, x = .ref a ∧ M a) ∧ LeafOk H M ∧ ∀ H', (∀ b o, ¬ M b → b ≠ p → H b = some o → H' b = some o) → Q .non H'
def rd_l_spoil (K : PySem.W.Frag) (C : CA) (spR : Sp) (E : XK) : TS :=
  (tSeq (tIfS (tB (tCB fIsi (tCons (tVar 0) (tCons (tC (.ty "dict")) tNil)))) tNever tNext) (tSeq (tIfS (tB (tCB fIsiT (tCons (tVar 0) (tCons (tTup (tCons (tC (.ty "list")) (tCons (tC (.ty "tuple")) tNil))) tNil)))) (tFor (iList K (tCB fList (tCons (tVar 0) tNil))) (gName 2) (tDrop (tCallS spR (fun _ => E0) (tCons (tVar 2) tNil)))) tNext) (tIfS (tB (tCB fIsi (tCons (tVar 0) (tCons (tC (.ty "list")) tNil)))) (tIfS (tTest (tOp fGt (tCB fLen (tCons (tVar 0) tNil)) (tC (.int 1)))) (tSeq (tDrop (tBM0F "list" fPop (tVar 0))) (tAsg (tC .non) (gSub (tVar 0) (tC (.int 0)) fSet))) (tDrop (tBMF "list" fAppend (tVar 0) (tCons (tC .non) tNil)))) tNext)))
abbrev spoilN : List Str := [("value" : Str), ("key" : Str), ("part" : Str)]
theorem pure_spoil0 {K : PySem.W.Frag} {C : CA} (vs : List V) (H : Hp) (Q : VK) (E : XK) (h : sp_spoil0 vs H Q E) : rd_l_spoil K C (fun _ _ _ _ => False) E { nx := fun _ H' => Q .non H', rt := Q } (start spoilN vs) H := by
  obtain ⟨v, rfl, f, q⟩ := h
  show rd_l_spoil K C _ E _ [some v, none, none] H
  unfold rd_l_spoil
  refine q_if ?_
  cases v with
  | non =>
    walk_at "s"
    refine q_if ?_
    walk_at "s"
    refine ⟨by decide, fun tp ht => al ht fun H1 s1 h1 => ?_⟩
    try simp only [h1]
    walk_at "s"
    refine q_if1 ?_
    walk_at "s"
    exact q H1 s1
  | bl b =>
    walk_at "s"
    refine q_if ?_
    walk_at "s"
    refine ⟨by decide, fun tp ht => al ht fun H1 s1 h1 => ?_⟩
    try simp only [h1]
    walk_at "s"
    refine q_if1 ?_
    walk_at "s"
    exact q H1 s1
  | int i =>
    walk_at "s"
    refine q_if ?_
    walk_at "s"
    refine ⟨by decide, fun tp ht => al ht fun H1 s1 h1 => ?_⟩
    try simp only [h1]
    walk_at "s"
    refine q_if1 ?_
    walk_at "s"
    exact q H1 s1
  | str z =>
    walk_at "s"
    refine q_if ?_
    walk_at "s"
    refine ⟨by decide, fun tp ht => al ht fun H1 s1 h1 => ?_⟩
    try simp only [h1]
    walk_at "s"
    refine q_if1 ?_
    walk_at "s"
    exact q H1 s1
  | _ => cases f
theorem spoil_end {K : PySem.W.Frag} {H : Hp} {a : Addr} {xs : List V} {Q : VK} {σ1 σ2 : Option V} (h : H a = some (.lst xs)) (hl : xs.length ≤ 1000) (q : ∀ ys, (∀ f : V → Bool, f .non = true → xs.all f = true → ys.all f = true) → ys.length ≤ xs.length + 1 → (2 ≤ xs.length → ys.length ≤ xs.length) → (xs.length < 2 → ys.length ≤ 2) → Q .non (upd H a (.lst ys))) :
    tIfS (tB (tCB fIsi (tCons (tVar 0) (tCons (tC (.ty "list")) tNil)))) (tIfS (tTest (tOp fGt (tCB fLen (tCons (tVar 0) tNil)) (tC (.int 1)))) (tSeq (tDrop (tBM0F "list" fPop (tVar 0))) (tAsg (tC .non) (gSub (tVar 0) (tC (.int 0)) fSet)))
      (tDrop (tBMF "list" fAppend (tVar 0) (tCons (tC .non) tNil)))) tNext { nx := fun _ H' => Q .non H', rt := Q } [some (.ref a), σ1, σ2] H := by
  refine q_if1 ?_
  walk_at "s"
  simp only [tyN_lst h]
  walk_at "s"
  refine q_if1 ?_
  walk_at "s"
  simp only [h]
  walk_at "s"
  refine ite2 (fun c => ?_) fun c => ?_
  · have c2 : 1 < xs.length := by omega
    have el : xs[xs.length - 1]? = some (xs[xs.length - 1]'(by omega)) := by simp
    refine q_drop ?_
    walk_at "s"
    refine ⟨tyN_lst h, ?_⟩
    simp only [h, el]
    refine q_asg1 ?_
    walk_at "s"
    have c3 : 0 < xs.dropLast.length := by rw [List.length_dropLast]; omega
    simp only [c3, if_true, upd_upd]
    refine q _ (fun f f0 fa => ?_) ?_ ?_ ?_
    · rw [List.all_eq_true] at fa ⊢
      intro x hx
      rcases List.mem_or_eq_of_mem_set hx with hx | rfl
      · exact fa x (List.dropLast_subset _ hx)
      · exact f0
    · rw [List.length_set, List.length_dropLast]; omega
    · intro _; rw [List.length_set, List.length_dropLast]; omega
    · intro _; omega
  · refine q_drop1 ?_
    walk_at "s"
    refine ⟨tyN_lst h, ?_⟩
    simp only [h]
    refine ⟨by show _ < 2 ^ 24; omega, q _ (fun f f0 fa => ?_) ?_ ?_ ?_⟩
    · simp [fa, f0]
    · simp
    · intro _; omega
    · intro _; simp; omega
theorem pure_spoil1 {K : PySem.W.Frag} {C : CA} (vs : List V) (H : Hp) (Q : VK) (E : XK) (h : sp_spoil1 vs H Q E) : rd_l_spoil K C sp_spoil0 E { nx := fun _ H' => Q .non H', rt := Q } (start spoilN vs) H := by
  obtain ⟨a, M, rfl, ma, lo, q⟩ := h
  obtain ⟨xs, ha, fa, la⟩ := lo a ma
  show rd_l_spoil K C _ E _ [some (.ref a), none, none] H
  unfold rd_l_spoil
  refine q_if ?_
  walk_at "s"
  simp only [tyN_lst ha]
  walk_at "s"
  refine q_if ?_
  walk_at "s"
  refine ⟨by decide, fun tp ht => al ht fun H1 s1 h1 => ?_⟩
  have ha1 := s1 _ _ ha
  simp only [h1, tyN_lst ha1]
  walk_at "s"
  refine q_for1 ?_
  rw [u_list]
  walk_at "s"
  simp only [ha1]
  walk_at "s"
  refine fun pl nl => al nl fun H2 s2 h2 => ⟨⟨xs, asL_seq (by rw [h2] <;> rfl)⟩, ?_⟩
  refine loop_list (xs := xs) (fun i σ H3 => ∃ v, σ = [some (.ref a), none, v] ∧ Sm H2 H3) ⟨_, rfl, fun _ _ z => z⟩ (fun i σ H3 _ ⟨_, _, s3⟩ => by rw [s3 _ _ h2] <;> rfl) ?_ ?_
  · rintro i x σ H3 hx ⟨v, rfl, s3⟩
    walk_at "s"
    refine q_drop1 ?_
    walk_at "s"
    refine ⟨x, rfl, ?_, fun H4 s4 => ?_⟩
    · rw [List.all_eq_true] at fa
      exact fa x (List.mem_of_getElem? hx)
    · walk_at "s"
      exact sm_trans s3 s4
  · rintro σ H3 ⟨v, rfl, s3⟩
    have s13 : Sm H H3 := sm_trans s1 (sm_trans s2 s3)
    refine spoil_end (K := K) (s13 _ _ ha) la fun ys fy _ l2 l1 => q _ (fun b o nb hb => ?_) fun b mb => ?_
    · have nba : b ≠ a := fun z => nb (z ▸ ma)
      rw [upd_ne nba]
      exact s13 _ _ hb
    · by_cases eb : b = a
      · subst eb
        refine ⟨ys, upd_same, fy _ rfl fa, ?_⟩
        by_cases c : 2 ≤ xs.length
        · exact Nat.le_trans (l2 c) la
        · exact Nat.le_trans (l1 (by omega)) (by decide)
      · obtain ⟨zs, hz, fz, lz⟩ := lo b mb
        exact ⟨zs, by rw [upd_ne eb]; exact s13 _ _ hz, fz, lz⟩
theorem pure_spoil2 {K : PySem.W.Frag} {C : CA} (vs : List V) (H : Hp) (Q : VK) (E : XK) (h : sp_l_spoil K C vs H Q E) : rd_l_spoil K C sp_spoil1 E { nx := fun _ H' => Q .non H', rt := Q } (start spoilN vs) H := by
  obtain ⟨p, xs, M, rfl, np, hp, lp, mx, lo, q⟩ := h
  show rd_l_spoil K C _ E _ [some (.ref p), none, none] H
  unfold rd_l_spoil
  refine q_if ?_
  walk_at "s"
  simp only [tyN_lst hp]
  walk_at "s"
  refine q_if ?_
  walk_at "s"
  refine ⟨by decide, fun tp ht => al ht fun H1 s1 h1 => ?_⟩
  have hp1 := s1 _ _ hp
  simp only [h1, tyN_lst hp1]
  walk_at "s"
  refine q_for1 ?_
  rw [u_list]
  walk_at "s"
  simp only [hp1]
  walk_at "s"
  refine fun pl nl => al nl fun H2 s2 h2 => ⟨⟨xs, asL_seq (by rw [h2] <;> rfl)⟩, ?_⟩
  have lo2 : LeafOk H2 M := fun b mb => by
    obtain ⟨zs, hz, fz, lz⟩ := lo b mb
    exact ⟨zs, s2 _ _ (s1 _ _ hz), fz, lz⟩
  have npl : ¬ M pl := fun m => by
    obtain ⟨zs, hz, _, _⟩ := lo pl m
    rw [s1 _ _ hz] at nl
    cases nl
  refine loop_list (xs := xs) (fun i σ H3 => ∃ v, σ = [some (.ref p), none, v] ∧ Fr M H2 H3 ∧ LeafOk H3 M) ⟨_, rfl, fun _ _ _ z => z, lo2⟩ (fun i σ H3 _ ⟨_, _, s3, _⟩ => by rw [s3 _ _ npl h2] <;> rfl) ?_ ?_
  · rintro i x σ H3 hx ⟨v, rfl, s3, l3⟩
    obtain ⟨b, rfl, mb⟩ := mx x (List.mem_of_getElem? hx)
    walk_at "s"
    refine q_drop1 ?_
    walk_at "s"
    refine ⟨b, M, rfl, mb, l3, fun H4 s4 l4 => ?_⟩
    walk_at "s"
    exact ⟨fun c o nc hc => s4 c o nc (s3 c o nc hc), l4⟩
  · rintro σ H3 ⟨v, rfl, s3, l3⟩
    refine spoil_end (K := K) (s3 _ _ np (s2 _ _ hp1)) lp fun ys _ _ _ _ => q _ fun b o nb nbp hb => ?_
    rw [upd_ne nbp]
    exact s3 _ _ nb (s2 _ _ (s1 _ _ hb))
end XB

/-! Bases drawn. -/
namespace XB
open PySem L2
local macro_rules | `(tactic| walk_at "s") => `(tactic| try simp only [u_var, u_c, u_op, u_un, u_nil, u_cons, u_cb, u_call, u_callS, u_tup, u_lst, u_test, u_B, u_and, u_or, u_not, u_andV, u_orV, u_notV, u_ifE, u_chain, u_sl, u_noPart, u_part, u_bm, u_bm0, u_rev, u_lc, u_try, u_sui, u_sui0, u_unb_rt, u_unb_nx, u_xf, u_WE, w_nil, w_cons, u_raise, u_rng1, u_rng2, u_next, u_ret, u_gname, u_gnil, u_gcons, u_gsub, u_gtup,
  f_add, f_addS, f_addR, f_sub, f_mul, f_mulR, f_mod, f_div, f_pow, f_neg, f_cmp, f_eq, f_eqB, f_eqS, f_ne, f_neB, f_neS, f_isN, f_notN, f_isB, f_ix, f_ixS, f_int, f_intB, f_len, f_lenS, f_max, f_min, f_abs, f_list, f_tuple, f_all, f_sum, f_isi, f_isiT, f_append, f_insert, f_pop, f_sl, f_set,
  kitS, tys, List.isEmpty_cons, Option.map_some, kt_NoneType_int, kt_NoneType_bool, kt_NoneType_str, kt_NoneType_list, kt_NoneType_tuple, kt_NoneType_dict, kt_int_int, kt_int_bool, kt_int_str, kt_int_list, kt_int_tuple, kt_int_dict, kt_bool_int, kt_bool_bool, kt_bool_str, kt_bool_list, kt_bool_tuple, kt_bool_dict, kt_str_int, kt_str_bool, kt_str_str, kt_str_list, kt_str_tuple, kt_str_dict, kt_list_int, kt_list_bool, kt_list_str, kt_list_list, kt_list_tuple, kt_list_dict, kt_tuple_int, kt_tuple_bool, kt_tuple_str, kt_tuple_list, kt_tuple_tuple, kt_tuple_dict, kt_dict_int, kt_dict_bool, kt_dict_str, kt_dict_list, kt_dict_tuple, kt_dict_dict, asL_lst, asL_frz, asL_tup, asT_tup, asS_lst, asS_frz, asS_tup, tyN_non, tyN_bl, tyN_int, tyN_str, atV_lit, ixN_lit, upd_same, upd_ne, upd_ne',
  List.getElem?_cons_zero, List.getElem?_cons_succ, List.set_cons_zero, List.set_cons_succ, List.append_nil, List.length_cons, List.length_nil, Option.some.injEq, exists_eq_left', exists_eq_left, exists_and_left, V.bl.injEq, V.int.injEq, V.str.injEq, V.ref.injEq, Bool.not_eq_true, Bool.not_true, Bool.not_false, decide_true, decide_false, decide_eq_true_eq, decide_eq_false_iff_not, Bool.false_eq_true, if_true, if_false, ite_true, ite_false, reduceCtorEq, true_and, and_true, Nat.reduceAdd, Nat.reduceLT, Nat.zero_add, ne_eq, not_false_eq_true, not_true_eq_false, List.cons.injEq, and_assoc])
local macro_rules | `(tactic| walk_at "S") => `(tactic| try simp only [u_var, u_c, u_op, u_un, u_nil, u_cons, u_cb, u_call, u_callS, u_tup, u_lst, u_test, u_B, u_and, u_or, u_not, u_andV, u_orV, u_notV, u_ifE, u_chain, u_sl, u_noPart, u_part, u_bm, u_bm0, u_rev, u_lc, u_try, u_sui, u_sui0, u_unb_rt, u_unb_nx, u_xf, u_WE, w_nil, w_cons, u_raise, u_rng1, u_rng2, u_next, u_ret, u_gname, u_gnil, u_gcons, u_gsub, u_gtup,
  f_add, f_addS, f_addR, f_sub, f_mul, f_mulR, f_mod, f_div, f_pow, f_neg, f_cmp, f_eq, f_eqB, f_eqS, f_ne, f_neB, f_neS, f_isN, f_notN, f_isB, f_ix, f_ixS, f_int, f_intB, f_len, f_lenS, f_max, f_min, f_abs, f_list, f_tuple, f_all, f_sum, f_isi, f_isiT, f_append, f_insert, f_pop, f_sl, f_set,
  kitS, tys, List.isEmpty_cons, Option.map_some, kt_NoneType_int, kt_NoneType_bool, kt_NoneType_str, kt_NoneType_list, kt_NoneType_tuple, kt_NoneType_dict, kt_int_int, kt_int_bool, kt_int_str, kt_int_list, kt_int_tuple, kt_int_dict, kt_bool_int, kt_bool_bool, kt_bool_str, kt_bool_list, kt_bool_tuple, kt_bool_dict, kt_str_int, kt_str_bool, kt_str_str, kt_str_list, kt_str_tuple, kt_str_dict, kt_list_int, kt_list_bool, kt_list_str, kt_list_list, kt_list_tuple, kt_list_dict, kt_tuple_int, kt_tuple_bool, kt_tuple_str, kt_tuple_list, kt_tuple_tuple, kt_tuple_dict, kt_dict_int, kt_dict_bool, kt_dict_str, kt_dict_list, kt_dict_tuple, kt_dict_dict, asL_lst, asL_frz, asL_tup, asT_tup, asS_lst, asS_frz, asS_tup, tyN_non, tyN_bl, tyN_int, tyN_str, atV_lit, ixN_lit, upd_same, upd_ne, upd_ne',
  List.getElem?_cons_zero, List.getElem?_cons_succ, List.set_cons_zero, List.set_cons_succ, List.append_nil, List.length_cons, List.length_nil, Option.some.injEq, exists_eq_left', exists_eq_left, exists_and_left, V.bl.injEq, V.int.injEq, V.str.injEq, V.ref.injEq, Bool.not_eq_true, Bool.not_true, Bool.not_false, decide_true, decide_false, decide_eq_true_eq, decide_eq_false_iff_not, Bool.false_eq_true, if_true, if_false, ite_true, ite_false, reduceCtorEq, true_and, and_true, Nat.reduceAdd, Nat.reduceLT, Nat.zero_add, ne_eq, not_false_eq_true, not_true_eq_false, List.cons.injEq, and_assoc, *])
theorem Kp.put' {st p : Addr} {H H1 : Hp} {o : HO} (a : Kp st H H1) (h : H p = none) (n : p ≠ st) : Kp st H (upd H1 p o) := ⟨fun x u m e => by
  rw [upd_ne (ne_of_none e h)]
  exact a.1 x u m e, fun c r e => by
  obtain ⟨r1, h1⟩ := a.2 c r e
  exact ⟨r1, by rw [upd_ne n.symm]; exact h1⟩⟩
theorem StAt.put' {H H1 : Hp} {st p : Addr} {o : HO} (s : StAt H st) (h : H p = none) (k : Kp st H H1) (s1 : StAt H1 st) : StAt (upd H1 p o) st := by
  have n := s.ne h
  obtain ⟨c, ns, a, b, d, e, h1, h2, _⟩ := s
  obtain ⟨c', ns', a', b', d', e', g1, g2, g3, g4, g5⟩ := s1
  obtain ⟨r1, e1⟩ := k.2 _ _ h1
  rw [g1] at e1
  cases e1
  exact ⟨c, ns', a', b', d', e', by rw [upd_ne n.symm]; exact g1, by rw [upd_ne (ne_of_none h2 h)]; exact g2, g3, g4, g5⟩
theorem asS_at {H : Hp} {p : Addr} {xs : List V} (h : H p = some (.lst xs)) : asS (H p) = some xs := by rw [h]; rfl
theorem asL_at {H : Hp} {p : Addr} {xs : List V} (h : H p = some (.lst xs)) : asL (H p) = some xs := by rw [h]; rfl
theorem pick_ok {K : PySem.W.Frag} {C : CA} {H : Hp} {Q : VK} {E : XK} {st p : Addr} {xs : List V} (hs : StAt H st) (hp : asS (H p) = some xs) (n : p ≠ st) (hl : xs.length < 2 ^ 60) (h0 : xs ≠ [])
    (q : ∀ (n : Nat) (v : V) (H' : Hp), xs[n]? = some v → Kp st H H' → StAt H' st → Q v H') : sp_l_pick K C [.ref st, .ref p] H Q E := ⟨_, _, _, rfl, hs, hp, n, hl, fun e => absurd e h0, q⟩
theorem digitsIn_snoc : ∀ {ds ns : List Int} {d n : Int}, digitsIn (ds.map V.int) ns = true → 0 ≤ d → d < n → digitsIn ((ds ++ [d]).map V.int) (ns ++ [n]) = true
  | [], [], d, n, _, h1, h2 => by simp [digitsIn, h1, h2]
  | d0 :: ds, n0 :: ns, d, n, h, h1, h2 => by
    simp only [List.map_cons, digitsIn, Bool.and_eq_true] at h
    have ih := digitsIn_snoc h.2 h1 h2
    simp only [List.cons_append, List.map_cons, digitsIn, Bool.and_eq_true]
    exact ⟨h.1, ih⟩
  | [], _ :: _, _, _, h, _, _ => by simp [digitsIn] at h
  | _ :: _, [], _, _, h, _, _ => by simp [digitsIn] at h
/-- a pair of bases and digits -/
def Pair (H : Hp) (t : Addr) (ns ds : List Int) : Prop := ∃ p1 p2, H t = some (.tup [.ref p1, .ref p2]) ∧ H p1 = some (.lst (ns.map V.int)) ∧ H p2 = some (.lst (ds.map V.int)) ∧ ns.length ≤ 60 ∧ (∀ n ∈ ns, 1 ≤ n ∧ n ≤ 1000) ∧ digitsIn (ds.map V.int) ns = true
def sp_l_bases (K : PySem.W.Frag) (C : CA) : Sp := fun vs H Q _ => ∃ st, vs = [.ref st] ∧ StAt H st ∧ ∀ t ns ds H', Kp st H H' → StAt H' st → Pair H' t ns ds → Q (.ref t) H'
def rd_l_bases (K : PySem.W.Frag) (C : CA) (E : XK) : TS :=
  (tSeq (tAsg (tCallS (sp_l_take K C) (fun _ => E0) (tCons (tVar 0) (tCons (tC (.int 7)) tNil))) (gName 1)) (Evl.tCut (tIfS (tTest (tOp (fEq K) (tCallS (sp_l_take K C) (fun _ => E0) (tCons (tVar 0) (tCons (tC (.int 9)) tNil))) (tC (.int 0)))) (tAsg (tCallS (sp_l_edge K C) (fun _ => E0) (tCons (tVar 0) (tCons (tC (.int 7)) (tCons (tC (.int 60)) tNil)))) (gName 1)) tNext) (tSeq (tAsg (tLst tNil) (gName 2)) (tSeq (tAsg (tLst tNil) (gName 3)) (tSeq (tFor (iRng1 (tCons (tVar 1) tNil)) (gName 4) (tSeq (tAsg (tCallS (sp_l_pick K C) (fun _ => E0) (tCons (tVar 0) (tCons (tLst (tCons (tC (.int 1)) (tCons (tC (.int 2)) (tCons (tC (.int 3)) (tCons (tC (.int 10)) (tCons (tC (.int 1000)) (tCons (tOp fAdd (tC (.int 1)) (tCallS (sp_l_take K C) (fun _ => E0) (tCons (tVar 0) (tCons (tC (.int 1000)) tNil)))) tNil))))))) tNil))) (gName 5)) (tSeq (tDrop (tBMF "list" fAppend (tVar 2) (tCons (tVar 5) tNil))) (tDrop (tBMF "list" fAppend (tVar 3) (tCons (tCallS (sp_l_edge K C) (fun _ => E0) (tCons (tVar 0) (tCons (tC (.int 0)) (tCons (tOp fSub (tVar 5) (tC (.int 1))) tNil)))) tNil)))))) (tRet (tTup (tCons (tVar 2) (tCons (tVar 3) tNil)))))))))
theorem pure_l_bases {K : PySem.W.Frag} {C : CA} (vs : List V) (H : Hp) (Q : VK) (E : XK) (h : sp_l_bases K C vs H Q E) : rd_l_bases K C E { nx := fun _ H' => Q .non H', rt := Q } (start [("store" : Str), ("many" : Str), ("bases" : Str), ("digits" : Str), ("k" : Str), ("base" : Str)] vs) H := by
  obtain ⟨st, rfl, hs, q⟩ := h
  show rd_l_bases K C E _ [some (.ref st), none, none, none, none, none] H
  unfold rd_l_bases
  refine q_asg ?_
  walk_at "s"
  refine take_ok hs (by decide) fun r H1 r0 r1 k1 s1 => ?_
  refine ⟨fun σ H' => ∃ m : Int, 0 ≤ m ∧ m ≤ 60 ∧ σ = [some (.ref st), some (.int m), none, none, none, none] ∧ Kp st H H' ∧ StAt H' st, q_if1 ?_, ?_⟩
  · walk_at "s"
    refine take_ok s1 (by decide) fun r' H2 _ _ k2 s2 => ?_
    walk_at "s"
    refine ite2 (fun c => ?_) fun c => ?_
    · refine q_asg1 ?_
      walk_at "s"
      refine edge_ok s2 fun r3 H3 _ _ k3 s3 => ?_
      walk_at "s"
      exact ⟨r3, by omega, by omega, rfl, (k1.trans k2).trans k3, s3⟩
    · exact ⟨r, r0, by omega, rfl, k1.trans k2, s2⟩
  · rintro σ H' ⟨m, m0, hm, rfl, k, s⟩
    refine q_asg ?_
    walk_at "s"
    refine ⟨by decide, fun p1 n1 => al n1 fun H2 t2 g1 => ?_⟩
    refine q_asg ?_
    walk_at "s"
    refine ⟨by decide, fun p2 n2 => al n2 fun H3 t3 g2 => ?_⟩
    have s2 := s.sm t2
    have s3 := s2.sm t3
    have n2' : H' p2 = none := sm_none t2 n2
    have d12 : p1 ≠ p2 := ne_of_none g1 n2
    refine q_for ?_
    walk_at "s"
    refine ⟨by omega, by omega, ?_⟩
    refine loop_range (fun i σ H4 => ∃ (ns ds : List Int) (v b : Option V), σ = [some (.ref st), some (.int m), some (.ref p1), some (.ref p2), v, b] ∧ Kp st H' H4 ∧ StAt H4 st ∧ H4 p1 = some (.lst (ns.map V.int)) ∧ H4 p2 = some (.lst (ds.map V.int)) ∧ ns.length = i ∧ (∀ n ∈ ns, 1 ≤ n ∧ n ≤ 1000) ∧ digitsIn (ds.map V.int) ns = true)
      ⟨[], [], none, none, rfl, kp_sm (sm_trans t2 t3), s3, t3 _ _ g1, g2, rfl, by simp, rfl⟩ ?_ ?_
    · rintro i σ H4 hi ⟨ns, ds, v, b, rfl, k4, s4, e1, e2, l1, bn, dn⟩
      walk_at "s"
      refine q_asg ?_
      walk_at "s"
      refine take_ok s4 (by decide) fun x H5 x0 x1 k5 s5 => ⟨by decide, fun pl nl => al nl fun H6 t6 g6 => ?_⟩
      refine pick_ok (s5.sm t6) (asS_at g6) (s5.ne nl) (by show (6 : Nat) < _; decide) (by simp) fun j w H7 hj k7 s7 => ?_
      obtain ⟨bs, rfl, b1, b2⟩ : ∃ bs : Int, w = .int bs ∧ 1 ≤ bs ∧ bs ≤ 1000 := by
        match j, hj with
        | 0, hj => cases hj; exact ⟨_, rfl, by decide, by decide⟩
        | 1, hj => cases hj; exact ⟨_, rfl, by decide, by decide⟩
        | 2, hj => cases hj; exact ⟨_, rfl, by decide, by decide⟩
        | 3, hj => cases hj; exact ⟨_, rfl, by decide, by decide⟩
        | 4, hj => cases hj; exact ⟨_, rfl, by decide, by decide⟩
        | 5, hj => cases hj; exact ⟨_, rfl, by omega, by omega⟩
        | _ + 6, hj => cases hj
      have k46 : Kp st H4 H7 := (k5.trans (kp_sm t6)).trans k7
      have e1' := k46.1 _ _ (s.ne n1) e1
      have e2' := k46.1 _ _ (s.ne n2') e2
      have k7' : Kp st H' H7 := k4.trans k46
      refine q_drop ?_
      walk_at "s"
      refine ⟨tyN_lst e1', ?_⟩
      simp only [e1']
      refine ⟨by rw [List.length_map]; show _ < 2 ^ 24; omega, ?_⟩
      refine q_drop1 ?_
      walk_at "s"
      refine ⟨tyN_lst (xs := ds.map V.int) (by rw [upd_ne d12.symm]; exact e2'), ?_⟩
      refine edge_ok (s.put' n1 k7' s7) fun y H8 y0 y1 k8 s8 => ?_
      have g8 := k8.1 p2 _ (s.ne n2') (by rw [upd_ne d12.symm]; exact e2')
      have g81 := k8.1 p1 _ (s.ne n1) upd_same
      walk_at "s"
      simp only [g8]
      have dl := digitsIn_len dn
      refine ⟨by rw [List.length_map]; show _ < 2 ^ 24; omega, ?_⟩
      have kf := ((k7'.put' (o := .lst (ns.map V.int ++ [V.int bs])) n1 (s.ne n1)).trans k8).put' (o := .lst (ds.map V.int ++ [V.int y])) n2' (s.ne n2')
      refine ⟨kf, s.put' n2' ((k7'.put' n1 (s.ne n1)).trans k8) s8, ns ++ [bs], ?_, ds ++ [y], ?_, by simp [l1], ?_, digitsIn_snoc dn y0 (by omega)⟩
      · rw [upd_ne d12, g81, List.map_append]
        rfl
      · try rw [upd_same]
        rw [List.map_append]
        rfl
      · intro n hn
        rw [List.mem_append, List.mem_singleton] at hn
        rcases hn with hn | rfl
        · exact bn n hn
        · exact ⟨b1, b2⟩
    · rintro σ H4 ⟨ns, ds, v, b, rfl, k4, s4, e1, e2, l1, bn, dn⟩
      walk_at "s"
      refine ⟨by decide, fun pt nt => ?_⟩
      refine q pt ns ds _ ((k.trans k4).new nt) (s4.new nt) ⟨p1, p2, upd_same, ?_, ?_, by omega, bn, dn⟩
      · rw [upd_ne (ne_of_none e1 nt)]; exact e1
      · rw [upd_ne (ne_of_none e2 nt)]; exact e2
end XB

/-! Bad bases. -/
namespace XB
open PySem L2
local macro_rules | `(tactic| walk_at "s") => `(tactic| try simp only [u_var, u_c, u_op, u_un, u_nil, u_cons, u_cb, u_call, u_callS, u_tup, u_lst, u_test, u_B, u_and, u_or, u_not, u_andV, u_orV, u_notV, u_ifE, u_chain, u_sl, u_noPart, u_part, u_bm, u_bm0, u_rev, u_lc, u_try, u_sui, u_sui0, u_unb_rt, u_unb_nx, u_xf, u_WE, w_nil, w_cons, u_raise, u_rng1, u_rng2, u_next, u_ret, u_gname, u_gnil, u_gcons, u_gsub, u_gtup,
  f_add, f_addS, f_addR, f_sub, f_mul, f_mulR, f_mod, f_div, f_pow, f_neg, f_cmp, f_eq, f_eqB, f_eqS, f_ne, f_neB, f_neS, f_isN, f_notN, f_isB, f_ix, f_ixS, f_int, f_intB, f_len, f_lenS, f_max, f_min, f_abs, f_list, f_tuple, f_all, f_sum, f_isi, f_isiT, f_append, f_insert, f_pop, f_sl, f_set,
  kitS, tys, List.isEmpty_cons, Option.map_some, kt_NoneType_int, kt_NoneType_bool, kt_NoneType_str, kt_NoneType_list, kt_NoneType_tuple, kt_NoneType_dict, kt_int_int, kt_int_bool, kt_int_str, kt_int_list, kt_int_tuple, kt_int_dict, kt_bool_int, kt_bool_bool, kt_bool_str, kt_bool_list, kt_bool_tuple, kt_bool_dict, kt_str_int, kt_str_bool, kt_str_str, kt_str_list, kt_str_tuple, kt_str_dict, kt_list_int, kt_list_bool, kt_list_str, kt_list_list, kt_list_tuple, kt_list_dict, kt_tuple_int, kt_tuple_bool, kt_tuple_str, kt_tuple_list, kt_tuple_tuple, kt_tuple_dict, kt_dict_int, kt_dict_bool, kt_dict_str, kt_dict_list, kt_dict_tuple, kt_dict_dict, asL_lst, asL_frz, asL_tup, asT_tup, asS_lst, asS_frz, asS_tup, tyN_non, tyN_bl, tyN_int, tyN_str, atV_lit, ixN_lit, upd_same, upd_ne, upd_ne',
  List.getElem?_cons_zero, List.getElem?_cons_succ, List.set_cons_zero, List.set_cons_succ, List.append_nil, List.length_cons, List.length_nil, Option.some.injEq, exists_eq_left', exists_eq_left, exists_and_left, V.bl.injEq, V.int.injEq, V.str.injEq, V.ref.injEq, Bool.not_eq_true, Bool.not_true, Bool.not_false, decide_true, decide_false, decide_eq_true_eq, decide_eq_false_iff_not, Bool.false_eq_true, if_true, if_false, ite_true, ite_false, reduceCtorEq, true_and, and_true, Nat.reduceAdd, Nat.reduceLT, Nat.zero_add, ne_eq, not_false_eq_true, not_true_eq_false, List.cons.injEq, and_assoc])
local macro_rules | `(tactic| walk_at "S") => `(tactic| try simp only [u_var, u_c, u_op, u_un, u_nil, u_cons, u_cb, u_call, u_callS, u_tup, u_lst, u_test, u_B, u_and, u_or, u_not, u_andV, u_orV, u_notV, u_ifE, u_chain, u_sl, u_noPart, u_part, u_bm, u_bm0, u_rev, u_lc, u_try, u_sui, u_sui0, u_unb_rt, u_unb_nx, u_xf, u_WE, w_nil, w_cons, u_raise, u_rng1, u_rng2, u_next, u_ret, u_gname, u_gnil, u_gcons, u_gsub, u_gtup,
  f_add, f_addS, f_addR, f_sub, f_mul, f_mulR, f_mod, f_div, f_pow, f_neg, f_cmp, f_eq, f_eqB, f_eqS, f_ne, f_neB, f_neS, f_isN, f_notN, f_isB, f_ix, f_ixS, f_int, f_intB, f_len, f_lenS, f_max, f_min, f_abs, f_list, f_tuple, f_all, f_sum, f_isi, f_isiT, f_append, f_insert, f_pop, f_sl, f_set,
  kitS, tys, List.isEmpty_cons, Option.map_some, kt_NoneType_int, kt_NoneType_bool, kt_NoneType_str, kt_NoneType_list, kt_NoneType_tuple, kt_NoneType_dict, kt_int_int, kt_int_bool, kt_int_str, kt_int_list, kt_int_tuple, kt_int_dict, kt_bool_int, kt_bool_bool, kt_bool_str, kt_bool_list, kt_bool_tuple, kt_bool_dict, kt_str_int, kt_str_bool, kt_str_str, kt_str_list, kt_str_tuple, kt_str_dict, kt_list_int, kt_list_bool, kt_list_str, kt_list_list, kt_list_tuple, kt_list_dict, kt_tuple_int, kt_tuple_bool, kt_tuple_str, kt_tuple_list, kt_tuple_tuple, kt_tuple_dict, kt_dict_int, kt_dict_bool, kt_dict_str, kt_dict_list, kt_dict_tuple, kt_dict_dict, asL_lst, asL_frz, asL_tup, asT_tup, asS_lst, asS_frz, asS_tup, tyN_non, tyN_bl, tyN_int, tyN_str, atV_lit, ixN_lit, upd_same, upd_ne, upd_ne',
  List.getElem?_cons_zero, List.getElem?_cons_succ, List.set_cons_zero, List.set_cons_succ, List.append_nil, List.length_cons, List.length_nil, Option.some.injEq, exists_eq_left', exists_eq_left, exists_and_left, V.bl.injEq, V.int.injEq, V.str.injEq, V.ref.injEq, Bool.not_eq_true, Bool.not_true, Bool.not_false, decide_true, decide_false, decide_eq_true_eq, decide_eq_false_iff_not, Bool.false_eq_true, if_true, if_false, ite_true, ite_false, reduceCtorEq, true_and, and_true, Nat.reduceAdd, Nat.reduceLT, Nat.zero_add, ne_eq, not_false_eq_true, not_true_eq_false, List.cons.injEq, and_assoc, *])
theorem u_dnew {σ : L2.St} {H : Hp} {Q : VK} : tDNewK σ H Q = ∀ p, H p = none → Q (.ref p) (upd H p (.dK [])) := rfl
theorem asS_tp {H : Hp} {p : Addr} {xs : List V} (h : H p = some (.tup xs)) : asS (H p) = some xs := by rw [h]; rfl
theorem cut59 {ns : List Int} : cutV (ns.map V.int) none (some 59) = (ns.take 59).map V.int := by
  unfold cutV
  rw [HT.sIx_none, List.drop_zero]
  have e : HT.sIx (ns.map V.int).length (ns.map V.int).length (some 59) = min 59 (ns.map V.int).length := HT.sIx_nat _ _ 59
  rw [e, Nat.sub_zero, List.map_take]
  rw [← List.take_eq_take_min]
theorem cut1 {xs : List V} : (cutV xs (some 1) none).length = xs.length - 1 := by
  unfold cutV
  have e : HT.sIx xs.length 0 (some 1) = min 1 xs.length := HT.sIx_nat _ _ 1
  rw [HT.sIx_none, e, List.length_take, List.length_drop]
  omega
theorem cutV_mem {xs : List V} {lo hi : Option Int} {x : V} (h : x ∈ cutV xs lo hi) : x ∈ xs := List.mem_of_mem_drop (List.mem_of_mem_take h)
theorem digitsIn_take : ∀ {ds ns : List Int} (k : Nat), digitsIn (ds.map V.int) ns = true → digitsIn ((ds.take k).map V.int) (ns.take k) = true
  | [], [], k, _ => by cases k <;> rfl
  | d :: ds, n :: ns, 0, _ => rfl
  | d :: ds, n :: ns, k + 1, h => by
    simp only [List.map_cons, digitsIn, Bool.and_eq_true] at h
    have ih := digitsIn_take k h.2
    simp only [List.take_succ_cons, List.map_cons, digitsIn, Bool.and_eq_true]
    exact ⟨h.1, ih⟩
  | [], _ :: _, _, h => by simp [digitsIn] at h
  | _ :: _, [], _, h => by simp [digitsIn] at h
theorem digits_bad {w : V} {b : Int} (hw : digitOk w (.int b) = false) : ∀ {xs : List V} {ns : List Int} (k : Nat), k ≤ xs.length → xs.length = ns.length → digitsIn (xs.take k ++ [w] ++ xs.drop k) (ns.take k ++ [b] ++ ns.drop k) = false
  | xs, ns, 0, _, _ => by
    cases w with
    | int d =>
      simp only [digitOk, Bool.and_eq_false_iff] at hw
      simp only [List.take_zero, List.nil_append, List.cons_append, List.drop_zero, digitsIn, Bool.and_eq_false_iff]
      exact .inl hw
    | _ => rfl
  | x :: xs, n :: ns, k + 1, h, hl => by
    have ih := digits_bad hw (xs := xs) (ns := ns) k (by simpa using h) (by simpa using hl)
    simp only [List.take_succ_cons, List.drop_succ_cons, List.cons_append]
    cases x with
    | int d =>
      simp only [digitsIn, ih, Bool.and_false]
    | _ => rfl
  | [], _, k + 1, h, _ => by simp at h
  | _ :: _, [], _ + 1, _, h => by simp at h
theorem TyD.lst {H : Hp} {p : Addr} {xs : List V} (h : H p = some (.lst xs)) (f : ∀ x ∈ xs, Ty x H) : TyD (.ref p) H := ⟨⟨_, tyN_lst h⟩, fun ys e x hx => by
  have e2 : lstOf (.ref p) H = some xs := asL_at h
  rw [e2] at e
  cases e
  exact f x hx⟩
theorem TyD.no {H : Hp} {v : V} (t : Ty v H) (n : lstOf v H = none) : TyD v H := ⟨t, fun xs e => by rw [n] at e; cases e⟩
/-- bases or digits that are none -/
def Bad (H : Hp) (v1 v2 : V) (z : Str) : Prop := TyD v1 H ∧ TyD v2 H ∧ ((z = ("bases" : Str) ∧ basesOk v1 H = false) ∨
  (z = ("digits" : Str) ∧ ∃ p1 ms, v1 = .ref p1 ∧ asL (H p1) = some (ms.map V.int) ∧ ms.length ≤ 60 ∧ (∀ n ∈ ms, 1 ≤ n ∧ n ≤ 1000) ∧ digitsOk v2 H ms = false))
theorem Bad.mono {H H' : Hp} {v1 v2 : V} {z : Str} (b : Bad H v1 v2 z) (s : Sm H H') : Bad H' v1 v2 z := by
  obtain ⟨t1, t2, h⟩ := b
  refine ⟨t1.mono s, t2.mono s, ?_⟩
  rcases h with ⟨e, h⟩ | ⟨e, p1, ms, e1, e2, e3, e4, h⟩
  · refine .inl ⟨e, ?_⟩
    unfold basesOk at h ⊢
    rw [lstOf_mono s t1.1]
    exact h
  · refine .inr ⟨e, p1, ms, e1, sm_L s e2, e3, e4, ?_⟩
    unfold digitsOk at h ⊢
    rw [lstOf_mono s t2.1]
    exact h
def sp_l_bad_bases (K : PySem.W.Frag) (C : CA) : Sp := fun vs H Q _ => ∃ st t ns ds, vs = [.ref st, .ref t] ∧ StAt H st ∧ Pair H t ns ds ∧
  ∀ tt v1 v2 z H', Kp st H H' → StAt H' st → H' tt = some (.tup [v1, v2, .str z]) → (v1 ≠ .ref st ∧ v2 ≠ .ref st) → Bad H' v1 v2 z → Q (.ref tt) H'
def rd_l_bad_bases (K : PySem.W.Frag) (C : CA) (E : XK) : TS :=
  (tSeq (tAsg (tSl fSl (tOp fIx (tVar 1) (tC (.int 0))) tNoPart (tPart (tC (.int 59)))) (gName 2)) (tSeq (tAsg (tSl fSl (tOp fIx (tVar 1) (tC (.int 1))) tNoPart (tPart (tC (.int 59)))) (gName 3)) (tSeq (tAsg (tCallS (sp_l_take K C) (fun _ => E0) (tCons (tVar 0) (tCons (tC (.int 9)) tNil))) (gName 4)) (tSeq (tAsg (tCallS (sp_l_take K C) (fun _ => E0) (tCons (tVar 0) (tCons (tOp fAdd (tCB fLen (tCons (tVar 2) tNil)) (tC (.int 1))) tNil))) (gName 5)) (tSeq (tIfS (tTest (tOp fLt (tVar 4) (tC (.int 3)))) (tSeq (tDrop (tBMF "list" fInsert (tVar 2) (tCons (tVar 5) (tCons (tOp fIx (tLst (tCons (tC (.int 0)) (tCons (tC (.int 1001)) (tCons (tC (.bl true)) (tCons (tUn fNeg (tC (.int 1))) (tCons (tC .non) (tCons (tC (.str ("1" : Str))) tNil))))))) (tCallS (sp_l_take K C) (fun _ => E0) (tCons (tVar 0) (tCons (tC (.int 6)) tNil)))) tNil)))) (tSeq (tDrop (tBMF "list" fInsert (tVar 3) (tCons (tVar 5) (tCons (tC (.int 0)) tNil)))) (tRet (tTup (tCons (tVar 2) (tCons (tVar 3) (tCons (tC (.str ("bases" : Str))) tNil))))))) tNext) (tSeq (tIfS (tTest (tOp (fEq K) (tVar 4) (tC (.int 3)))) (tRet (tTup (tCons (tOp fMul (tLst (tCons (tC (.int 1)) tNil)) (tC (.int 61))) (tCons (tOp fMul (tLst (tCons (tC (.int 0)) tNil)) (tC (.int 61))) (tCons (tC (.str ("bases" : Str))) tNil))))) tNext) (tSeq (tIfS (tTest (tOp (fEq K) (tVar 4) (tC (.int 4)))) (tRet (tTup (tCons (tCallS (sp_l_pick K C) (fun _ => E0) (tCons (tVar 0) (tCons (tLst (tCons (tCB fTuple (tCons (tVar 2) tNil)) (tCons (tC .non) (tCons tDNewK (tCons (tC (.str ("" : Str))) tNil))))) tNil))) (tCons (tVar 3) (tCons (tC (.str ("bases" : Str))) tNil))))) tNext) (tSeq (tIfS (tTest (tOp (fEq K) (tVar 4) (tC (.int 5)))) (tRet (tTup (tCons (tVar 2) (tCons (tCallS (sp_l_pick K C) (fun _ => E0) (tCons (tVar 0) (tCons (tLst (tCons (tCB fTuple (tCons (tVar 3) tNil)) (tCons (tC .non) (tCons (tOp fAdd (tVar 3) (tLst (tCons (tC (.int 0)) tNil))) (tCons (tC (.str ("" : Str))) tNil))))) tNil))) (tCons (tC (.str ("digits" : Str))) tNil))))) tNext) (tSeq (tIfS (tAnd (tTest (tOp (fEq K) (tVar 4) (tC (.int 6)))) (tTest (tOp fGt (tCB fLen (tCons (tVar 3) tNil)) (tC (.int 0))))) (tRet (tTup (tCons (tVar 2) (tCons (tSl fSl (tVar 3) (tPart (tC (.int 1))) tNoPart) (tCons (tC (.str ("digits" : Str))) tNil))))) tNext) (tSeq (tDrop (tBMF "list" fInsert (tVar 2) (tCons (tVar 5) (tCons (tC (.int 7)) tNil)))) (tSeq (tDrop (tBMF "list" fInsert (tVar 3) (tCons (tVar 5) (tCons (tCallS (sp_l_pick K C) (fun _ => E0) (tCons (tVar 0) (tCons (tLst (tCons (tC (.int 7)) (tCons (tC (.int 8)) (tCons (tUn fNeg (tC (.int 1))) (tCons (tC (.bl true)) (tCons (tC .non) (tCons (tC (.str ("0" : Str))) tNil))))))) tNil))) tNil)))) (tRet (tTup (tCons (tVar 2) (tCons (tVar 3) (tCons (tC (.str ("digits" : Str))) tNil))))))))))))))))
/-- an item that is no base -/
theorem no_base {j : Nat} {w : V} (h : [V.int 0, V.int 1001, V.bl true, V.int (-1), V.non, V.str ("1" : Str)][j]? = some w) : baseOk w = false ∧ ∀ H : Hp, Ty w H := by
  match j, h with
  | 0, h => cases h; exact ⟨by decide, fun _ => ⟨_, rfl⟩⟩
  | 1, h => cases h; exact ⟨by decide, fun _ => ⟨_, rfl⟩⟩
  | 2, h => cases h; exact ⟨by decide, fun _ => ⟨_, rfl⟩⟩
  | 3, h => cases h; exact ⟨by decide, fun _ => ⟨_, rfl⟩⟩
  | 4, h => cases h; exact ⟨by decide, fun _ => ⟨_, rfl⟩⟩
  | 5, h => cases h; exact ⟨rfl, fun _ => ⟨_, rfl⟩⟩
  | _ + 6, h => simp at h
theorem no_digit {j : Nat} {w : V} (h : [V.int 7, V.int 8, V.int (-1), V.bl true, V.non, V.str ("0" : Str)][j]? = some w) : digitOk w (.int 7) = false ∧ ∀ H : Hp, Ty w H := by
  match j, h with
  | 0, h => cases h; exact ⟨by decide, fun _ => ⟨_, rfl⟩⟩
  | 1, h => cases h; exact ⟨by decide, fun _ => ⟨_, rfl⟩⟩
  | 2, h => cases h; exact ⟨by decide, fun _ => ⟨_, rfl⟩⟩
  | 3, h => cases h; exact ⟨by decide, fun _ => ⟨_, rfl⟩⟩
  | 4, h => cases h; exact ⟨by decide, fun _ => ⟨_, rfl⟩⟩
  | 5, h => cases h; exact ⟨rfl, fun _ => ⟨_, rfl⟩⟩
  | _ + 6, h => simp at h
theorem ins_mem {xs : List V} {w x : V} {k : Nat} (h : x ∈ xs.take k ++ [w] ++ xs.drop k) : x ∈ xs ∨ x = w := by
  simp only [List.mem_append, List.mem_singleton] at h
  rcases h with (h | h) | h
  · exact .inl (List.mem_of_mem_take h)
  · exact .inr h
  · exact .inl (List.mem_of_mem_drop h)
theorem int_ty {H : Hp} {ns : List Int} {x : V} (h : x ∈ ns.map V.int) : Ty x H := by
  obtain ⟨n, _, rfl⟩ := List.mem_map.1 h
  exact ⟨_, rfl⟩
theorem ins_ints {ns : List Int} {b : Int} {k : Nat} : (ns.map V.int).take k ++ [V.int b] ++ (ns.map V.int).drop k = (ns.take k ++ [b] ++ ns.drop k).map V.int := by simp
theorem ins_bad {xs : List V} {w : V} {k : Nat} (h : baseOk w = false) : (xs.take k ++ [w] ++ xs.drop k).all baseOk = false := by simp [h]
theorem dOk_lst {H : Hp} {p : Addr} {xs : List V} {ns : List Int} (h : H p = some (.lst xs)) : digitsOk (.ref p) H ns = digitsIn xs ns := by
  unfold digitsOk
  have e2 : lstOf (.ref p) H = some xs := asL_at h
  rw [e2]
theorem bOk_lst {H : Hp} {p : Addr} {xs : List V} (h : H p = some (.lst xs)) : basesOk (.ref p) H = (decide (xs.length ≤ 60) && xs.all baseOk) := by
  unfold basesOk
  have e2 : lstOf (.ref p) H = some xs := asL_at h
  rw [e2]
theorem pure_l_bad_bases {K : PySem.W.Frag} {C : CA} (vs : List V) (H : Hp) (Q : VK) (E : XK) (h : sp_l_bad_bases K C vs H Q E) : rd_l_bad_bases K C E { nx := fun _ H' => Q .non H', rt := Q } (start [("store" : Str), ("pair" : Str), ("bases" : Str), ("digits" : Str), ("form" : Str), ("at" : Str)] vs) H := by
  obtain ⟨st, t, ns, ds, rfl, hs, ⟨p1, p2, ht, h1, h2, l1, bn, dn⟩, q⟩ := h
  show rd_l_bad_bases K C E _ [some (.ref st), some (.ref t), none, none, none, none] H
  unfold rd_l_bad_bases
  refine q_asg ?_
  walk_at "s"
  simp only [asS_tp ht]
  walk_at "s"
  simp only [asL_at h1, cut59]
  refine fun q1 n1 => al n1 fun H1 t1 g1 => ?_
  refine q_asg ?_
  walk_at "s"
  simp only [asS_tp (t1 _ _ ht)]
  walk_at "s"
  simp only [asL_at (t1 _ _ h2), cut59]
  refine fun q2 n2 => al n2 fun H2 t2 g2 => ?_
  have dm := digitsIn_take 59 dn
  have bm : ∀ n ∈ ns.take 59, 1 ≤ n ∧ n ≤ 1000 := fun n hn => bn n (List.mem_of_mem_take hn)
  have lm : (ns.take 59).length ≤ 59 := by rw [List.length_take]; omega
  generalize ns.take 59 = ms at g1 bm lm dm ⊢
  generalize ds.take 59 = es at g2 dm ⊢
  have le := digitsIn_len dm
  have t02 := sm_trans t1 t2
  have n2' : H q2 = none := sm_none t1 n2
  have d12 : q1 ≠ q2 := ne_of_none g1 n2
  have s2 := hs.sm t02
  refine q_asg ?_
  walk_at "s"
  refine take_ok s2 (by decide) fun form H3 f0 f1 k3 s3 => ?_
  have g31 := k3.1 q1 _ (hs.ne n1) (t2 _ _ g1)
  have g32 := k3.1 q2 _ (hs.ne n2') g2
  refine q_asg ?_
  walk_at "s"
  simp only [asS_at g31]
  walk_at "s"
  rw [List.length_map]
  refine take_ok s3 (by omega) fun at_ H4 a0 a1 k4 s4 => ?_
  have g1' := k4.1 q1 _ (hs.ne n1) g31
  have g2' := k4.1 q2 _ (hs.ne n2') g32
  have k04 : Kp st H H4 := (kp_sm t02).trans (k3.trans k4)
  have al_ : at_ ≤ ms.length := by omega
  clear g1 g2 g31 g32 k3 k4 s2 s3 t1 t2 t02 n2 dn bn l1 h1 h2 ht
  have fin : ∀ (H5 : Hp) (v1 v2 : V) (z : Str) (tt : Addr), (v1 ≠ .ref st ∧ v2 ≠ .ref st) → Kp st H H5 → StAt H5 st → Bad H5 v1 v2 z → H5 tt = none → Q (.ref tt) (upd H5 tt (.tup [v1, v2, .str z])) := fun H5 v1 v2 z tt nn k s b n =>
    q tt v1 v2 z _ (k.new n) (s.new n) upd_same nn (b.mono (sm_new (fun _ _ z => z) n))
  refine q_if ?_
  walk_at "s"
  refine ite2 (fun c1 => ?_) fun c1 => ?_
  · refine q_drop ?_
    walk_at "s"
    refine ⟨tyN_lst g1', ?_⟩
    refine ⟨by decide, fun pl nl => al nl fun H5 t5 g5 => ?_⟩
    refine take_ok (s4.sm t5) (by decide) fun r H6 r0 r1 k6 s6 => ?_
    have g6 := k6.1 pl _ (s4.ne nl) g5
    have g61 := k6.1 q1 _ (hs.ne n1) (t5 _ _ g1')
    have g62 := k6.1 q2 _ (hs.ne n2') (t5 _ _ g2')
    have k06 : Kp st H H6 := k04.trans ((kp_sm t5).trans k6)
    walk_at "s"
    simp only [asS_at g6]
    obtain ⟨j, rfl⟩ : ∃ n : Nat, r = n := ⟨r.toNat, by omega⟩
    obtain ⟨w, hw⟩ : ∃ w, [V.int 0, V.int 1001, V.bl true, V.int (-1), V.non, V.str ("1" : Str)][j]? = some w := ⟨_, List.getElem?_eq_getElem (by simp; omega)⟩
    obtain ⟨wb, wt⟩ := no_base hw
    refine at_nat hw ?_
    walk_at "s"
    simp only [g61]
    refine ⟨by rw [List.length_map]; show _ < 2 ^ 24; omega, a0, by omega, ?_⟩
    refine q_drop ?_
    walk_at "s"
    refine ⟨tyN_lst (xs := es.map V.int) (by rw [upd_ne d12.symm]; exact g62), ?_⟩
    rw [show (upd H6 q1 _) q2 = some (.lst (es.map V.int)) from by rw [upd_ne d12.symm]; exact g62]
    refine ⟨by rw [List.length_map]; show _ < 2 ^ 24; omega, a0, by omega, ?_⟩
    have kA := k06.put' (o := .lst ((ms.map V.int).take at_.toNat ++ [w] ++ (ms.map V.int).drop at_.toNat)) n1 (hs.ne n1)
    have sA := hs.put' (o := .lst ((ms.map V.int).take at_.toNat ++ [w] ++ (ms.map V.int).drop at_.toNat)) n1 k06 s6
    have kB := kA.put' (o := .lst ((es.map V.int).take at_.toNat ++ [V.int 0] ++ (es.map V.int).drop at_.toNat)) n2' (hs.ne n2')
    have sB := hs.put' (o := .lst ((es.map V.int).take at_.toNat ++ [V.int 0] ++ (es.map V.int).drop at_.toNat)) n2' kA sA
    walk_at "s"
    have e1 : (upd (upd H6 q1 (.lst ((ms.map V.int).take at_.toNat ++ [w] ++ (ms.map V.int).drop at_.toNat))) q2 (.lst ((es.map V.int).take at_.toNat ++ [V.int 0] ++ (es.map V.int).drop at_.toNat))) q1 = some (.lst ((ms.map V.int).take at_.toNat ++ [w] ++ (ms.map V.int).drop at_.toNat)) := by
      rw [upd_ne d12, upd_same]
    refine ⟨by decide, fun tt nt => fin _ _ _ _ tt ⟨(fun z => hs.ne n1 (V.ref.inj z)), (fun z => hs.ne n2' (V.ref.inj z))⟩ kB sB ⟨TyD.lst e1 fun x hx => ?_, TyD.lst upd_same fun x hx => ?_, .inl ⟨rfl, ?_⟩⟩ nt⟩
    · rcases ins_mem hx with hx | rfl
      · exact int_ty hx
      · exact wt _
    · rcases ins_mem hx with hx | rfl
      · exact int_ty hx
      · exact ⟨_, rfl⟩
    · rw [bOk_lst e1, ins_bad wb, Bool.and_false]
  refine q_if ?_
  walk_at "s"
  refine ite2 (fun c2 => ?_) fun c2 => ?_
  · refine ⟨by decide, fun pa na => al na fun H5 t5 g5 => ?_⟩
    try simp only [g5]
    refine ⟨by decide, by decide, by decide, fun pb nb => al nb fun H6 t6 g6 => ?_⟩
    refine ⟨by decide, fun pc nc => al nc fun H7 t7 g7 => ?_⟩
    try simp only [g7]
    refine ⟨by decide, by decide, by decide, fun pd nd => al nd fun H8 t8 g8 => ?_⟩
    have u := sm_trans t5 (sm_trans t6 (sm_trans t7 t8))
    have g6' := t8 _ _ (t7 _ _ g6)
    refine ⟨by decide, fun tt nt => fin _ _ _ _ tt ⟨fun z => (s4.sm t5).ne nb (V.ref.inj z), fun z => (s4.sm (sm_trans t5 (sm_trans t6 t7))).ne nd (V.ref.inj z)⟩ (k04.trans (kp_sm u)) (s4.sm u) ⟨TyD.lst g6' fun x hx => ?_, TyD.lst g8 fun x hx => ?_, .inl ⟨rfl, ?_⟩⟩ nt⟩
    · simp only [List.mem_flatten, List.mem_replicate] at hx
      obtain ⟨l, ⟨_, rfl⟩, hx⟩ := hx
      rw [List.mem_singleton] at hx
      exact ⟨_, by rw [hx]; rfl⟩
    · simp only [List.mem_flatten, List.mem_replicate] at hx
      obtain ⟨l, ⟨_, rfl⟩, hx⟩ := hx
      rw [List.mem_singleton] at hx
      exact ⟨_, by rw [hx]; rfl⟩
    · rw [bOk_lst g6']
      decide
  refine q_if ?_
  walk_at "s"
  refine ite2 (fun c3 => ?_) fun c3 => ?_
  · simp only [asL_at g1']
    refine fun pa na => al na fun H5 t5 g5 => ?_
    simp only [u_dnew]
    refine fun pb nb => al nb fun H6 t6 g6 => ?_
    refine ⟨by decide, fun pc nc => al nc fun H7 t7 g7 => ?_⟩
    have u := sm_trans t5 (sm_trans t6 t7)
    refine pick_ok (s4.sm u) (asS_at g7) ((s4.sm (sm_trans t5 t6)).ne nc) (by show (4 : Nat) < _; decide) (by simp) fun j w H8 hj k8 s8 => ?_
    have k08 : Kp st H H8 := k04.trans ((kp_sm u).trans k8)
    have n4 : ∀ {p : Addr} {o : HO}, H4 p = none → H7 p = some o → H8 p = some o := fun h4 h7 => k8.1 _ _ (s4.ne h4) h7
    have o5 := n4 na (t7 _ _ (t6 _ _ g5))
    have o6 := n4 (sm_none t5 nb) (t7 _ _ g6)
    have o2 := k8.1 q2 _ (hs.ne n2') (u _ _ g2')
    have nw : w ≠ .ref st := by
      match j, hj with
      | 0, hj => cases hj; exact fun z => s4.ne na (V.ref.inj z)
      | 1, hj => cases hj; exact fun z => by cases z
      | 2, hj => cases hj; exact fun z => (s4.sm t5).ne nb (V.ref.inj z)
      | 3, hj => cases hj; exact fun z => by cases z
      | _ + 4, hj => simp at hj
    obtain ⟨tw, lw⟩ : Ty w H8 ∧ lstOf w H8 = none := by
      match j, hj with
      | 0, hj => cases hj; exact ⟨⟨_, tyN_tup o5⟩, by show asL (H8 pa) = none; rw [o5]; rfl⟩
      | 1, hj => cases hj; exact ⟨⟨_, rfl⟩, rfl⟩
      | 2, hj => cases hj; exact ⟨⟨_, tyN_dK o6⟩, by show asL (H8 pb) = none; rw [o6]; rfl⟩
      | 3, hj => cases hj; exact ⟨⟨_, rfl⟩, rfl⟩
      | _ + 4, hj => simp at hj
    walk_at "s"
    refine ⟨by decide, fun tt nt => fin _ _ _ _ tt ⟨nw, (fun z => hs.ne n2' (V.ref.inj z))⟩ k08 s8 ⟨TyD.no tw lw, TyD.lst o2 fun x hx => int_ty hx, .inl ⟨rfl, ?_⟩⟩ nt⟩
    unfold basesOk
    rw [lw]
  refine q_if ?_
  walk_at "s"
  refine ite2 (fun c4 => ?_) fun c4 => ?_
  · simp only [asL_at g2']
    refine fun pa na => al na fun H5 t5 g5 => ?_
    refine ⟨by decide, fun pb nb => al nb fun H6 t6 g6 => ?_⟩
    simp only [t6 _ _ (t5 _ _ g2')]
    try simp only [g6]
    refine ⟨by rw [List.length_map]; show _ ≤ 2 ^ 24; simp; omega, fun pc nc => al nc fun H7 t7 g7 => ?_⟩
    refine ⟨by decide, fun pd nd => al nd fun H8 t8 g8 => ?_⟩
    have u := sm_trans t5 (sm_trans t6 (sm_trans t7 t8))
    refine pick_ok (s4.sm u) (asS_at g8) ((s4.sm (sm_trans t5 (sm_trans t6 t7))).ne nd) (by show (4 : Nat) < _; decide) (by simp) fun j w H9 hj k9 s9 => ?_
    have k09 : Kp st H H9 := k04.trans ((kp_sm u).trans k9)
    have n4 : ∀ {p : Addr} {o : HO}, H4 p = none → H8 p = some o → H9 p = some o := fun h4 h7 => k9.1 _ _ (s4.ne h4) h7
    have o5 := n4 na (t8 _ _ (t7 _ _ (t6 _ _ g5)))
    have o7 := n4 (sm_none (sm_trans t5 t6) nc) (t8 _ _ g7)
    have o1 := k9.1 q1 _ (hs.ne n1) (u _ _ g1')
    have nw : w ≠ .ref st := by
      match j, hj with
      | 0, hj => cases hj; exact fun z => s4.ne na (V.ref.inj z)
      | 1, hj => cases hj; exact fun z => by cases z
      | 2, hj => cases hj; exact fun z => (s4.sm (sm_trans t5 t6)).ne nc (V.ref.inj z)
      | 3, hj => cases hj; exact fun z => by cases z
      | _ + 4, hj => simp at hj
    obtain ⟨tw, dw⟩ : TyD w H9 ∧ digitsOk w H9 ms = false := by
      have no : ∀ {x : V}, Ty x H9 → lstOf x H9 = none → TyD x H9 ∧ digitsOk x H9 ms = false := fun t n => ⟨TyD.no t n, by unfold digitsOk; rw [n]⟩
      match j, hj with
      | 0, hj => cases hj; exact no ⟨_, tyN_tup o5⟩ (by show asL (H9 pa) = none; rw [o5]; rfl)
      | 1, hj => cases hj; exact no ⟨_, rfl⟩ rfl
      | 2, hj =>
        cases hj
        refine ⟨TyD.lst o7 fun x hx => ?_, ?_⟩
        · rcases List.mem_append.1 hx with hx | hx
          · exact int_ty hx
          · rw [List.mem_singleton] at hx
            exact ⟨_, by rw [hx]; rfl⟩
        · rw [dOk_lst o7]
          exact digits_short (by simp; omega)
      | 3, hj => cases hj; exact no ⟨_, rfl⟩ rfl
      | _ + 4, hj => simp at hj
    walk_at "s"
    exact ⟨by decide, fun tt nt => fin _ _ _ _ tt ⟨(fun z => hs.ne n1 (V.ref.inj z)), nw⟩ k09 s9 ⟨TyD.lst o1 fun x hx => int_ty hx, tw, .inr ⟨rfl, _, ms, rfl, asL_at o1, by omega, bm, dw⟩⟩ nt⟩
  refine q_if ?_
  walk_at "s"
  have last : ∀ {D : Ends}, D.rt = Q → (tSeq (tDrop (tBMF "list" fInsert (tVar 2) (tCons (tVar 5) (tCons (tC (.int 7)) tNil)))) (tSeq (tDrop (tBMF "list" fInsert (tVar 3) (tCons (tVar 5) (tCons (tCallS (sp_l_pick K C) (fun _ => E0) (tCons (tVar 0) (tCons (tLst (tCons (tC (.int 7)) (tCons (tC (.int 8)) (tCons (tUn fNeg (tC (.int 1))) (tCons (tC (.bl true)) (tCons (tC .non) (tCons (tC (.str ("0" : Str))) tNil))))))) tNil))) tNil)))) (tRet (tTup (tCons (tVar 2) (tCons (tVar 3) (tCons (tC (.str ("digits" : Str))) tNil))))))) D [some (V.ref st), some (V.ref t), some (V.ref q1), some (V.ref q2), some (V.int form), some (V.int at_)] H4 := by
    intro D hD
    refine q_drop ?_
    walk_at "s"
    refine ⟨tyN_lst g1', ?_⟩
    simp only [g1']
    refine ⟨by rw [List.length_map]; show _ < 2 ^ 24; omega, a0, by omega, ?_⟩
    have kA := k04.put' (o := .lst ((ms.map V.int).take at_.toNat ++ [V.int 7] ++ (ms.map V.int).drop at_.toNat)) n1 (hs.ne n1)
    have sA := hs.put' (o := .lst ((ms.map V.int).take at_.toNat ++ [V.int 7] ++ (ms.map V.int).drop at_.toNat)) n1 k04 s4
    have eA : (upd H4 q1 (.lst ((ms.map V.int).take at_.toNat ++ [V.int 7] ++ (ms.map V.int).drop at_.toNat))) q1 = _ := upd_same
    have eB : (upd H4 q1 (.lst ((ms.map V.int).take at_.toNat ++ [V.int 7] ++ (ms.map V.int).drop at_.toNat))) q2 = _ := (upd_ne d12.symm).trans g2'
    generalize upd H4 q1 (.lst ((ms.map V.int).take at_.toNat ++ [V.int 7] ++ (ms.map V.int).drop at_.toNat)) = HA at kA sA eA eB ⊢
    refine q_drop ?_
    walk_at "s"
    refine ⟨tyN_lst eB, by decide, fun pl nl => al nl fun H5 t5 g5 => ?_⟩
    refine pick_ok (sA.sm t5) (asS_at g5) (sA.ne nl) (by show (6 : Nat) < _; decide) (by simp) fun j w H6 hj k6 s6 => ?_
    obtain ⟨wb, wt⟩ := no_digit hj
    have k06 := kA.trans ((kp_sm t5).trans k6)
    have o1 := k6.1 q1 _ (hs.ne n1) (t5 _ _ eA)
    have o2 := k6.1 q2 _ (hs.ne n2') (t5 _ _ eB)
    walk_at "s"
    simp only [o2]
    refine ⟨by rw [List.length_map]; show _ < 2 ^ 24; omega, a0, by omega, ?_⟩
    have kB := k06.put' (o := .lst ((es.map V.int).take at_.toNat ++ [w] ++ (es.map V.int).drop at_.toNat)) n2' (hs.ne n2')
    have sB := hs.put' (o := .lst ((es.map V.int).take at_.toNat ++ [w] ++ (es.map V.int).drop at_.toNat)) n2' k06 s6
    have fA : (upd H6 q2 (.lst ((es.map V.int).take at_.toNat ++ [w] ++ (es.map V.int).drop at_.toNat))) q1 = _ := (upd_ne d12).trans o1
    have fB : (upd H6 q2 (.lst ((es.map V.int).take at_.toNat ++ [w] ++ (es.map V.int).drop at_.toNat))) q2 = _ := upd_same
    generalize upd H6 q2 (.lst ((es.map V.int).take at_.toNat ++ [w] ++ (es.map V.int).drop at_.toNat)) = HB at kB sB fA fB ⊢
    rw [ins_ints] at fA
    walk_at "s"
    rw [hD]
    refine ⟨by decide, fun tt nt => fin _ _ _ _ tt ⟨(fun z => hs.ne n1 (V.ref.inj z)), (fun z => hs.ne n2' (V.ref.inj z))⟩ kB sB ⟨TyD.lst fA fun x hx => int_ty hx, TyD.lst fB fun x hx => ?_, .inr ⟨rfl, _, _, rfl, asL_at fA, ?_, ?_, ?_⟩⟩ nt⟩
    · rcases ins_mem hx with hx | rfl
      · exact int_ty hx
      · exact wt _
    · simp only [List.length_append, List.length_take, List.length_drop, List.length_singleton]
      omega
    · intro n hn
      simp only [List.mem_append, List.mem_singleton] at hn
      rcases hn with (hn | rfl) | hn
      · exact bm n (List.mem_of_mem_take hn)
      · exact ⟨by decide, by decide⟩
      · exact bm n (List.mem_of_mem_drop hn)
    · rw [dOk_lst fB]
      exact digits_bad wb _ (by rw [List.length_map]; omega) (by rw [List.length_map]; exact le)
  refine ite2 (fun c5 => ?_) fun c5 => ?_
  · simp only [asS_at g2']
    walk_at "s"
    refine ite2 (fun c6 => ?_) fun c6 => ?_
    · simp only [asL_at g2']
      refine fun pa na => al na fun H5 t5 g5 => ?_
      refine ⟨by decide, fun tt nt => fin _ _ _ _ tt ⟨(fun z => hs.ne n1 (V.ref.inj z)), fun z => s4.ne na (V.ref.inj z)⟩ (k04.trans (kp_sm t5)) (s4.sm t5) ⟨TyD.lst (t5 _ _ g1') fun x hx => int_ty hx, TyD.lst g5 fun x hx => int_ty (cutV_mem hx), .inr ⟨rfl, _, ms, rfl, asL_at (t5 _ _ g1'), by omega, bm, ?_⟩⟩ nt⟩
      rw [dOk_lst g5]
      refine digits_short ?_
      rw [List.length_map] at c6
      rw [cut1, List.length_map]
      omega
    · exact last rfl
  · exact last rfl
end XB

/-! There and back. -/
namespace XB
open PySem L2
local macro_rules | `(tactic| walk_at "s") => `(tactic| try simp only [u_var, u_c, u_op, u_un, u_nil, u_cons, u_cb, u_call, u_callS, u_tup, u_lst, u_test, u_B, u_and, u_or, u_not, u_andV, u_orV, u_notV, u_ifE, u_chain, u_sl, u_noPart, u_part, u_bm, u_bm0, u_rev, u_lc, u_try, u_sui, u_sui0, u_unb_rt, u_unb_nx, u_xf, u_WE, w_nil, w_cons, u_raise, u_rng1, u_rng2, u_next, u_ret, u_gname, u_gnil, u_gcons, u_gsub, u_gtup,
  f_add, f_addS, f_addR, f_sub, f_mul, f_mulR, f_mod, f_div, f_pow, f_neg, f_cmp, f_eq, f_eqB, f_eqS, f_ne, f_neB, f_neS, f_isN, f_notN, f_isB, f_ix, f_ixS, f_int, f_intB, f_len, f_lenS, f_max, f_min, f_abs, f_list, f_tuple, f_all, f_sum, f_isi, f_isiT, f_append, f_insert, f_pop, f_sl, f_set,
  kitS, tys, List.isEmpty_cons, Option.map_some, kt_NoneType_int, kt_NoneType_bool, kt_NoneType_str, kt_NoneType_list, kt_NoneType_tuple, kt_NoneType_dict, kt_int_int, kt_int_bool, kt_int_str, kt_int_list, kt_int_tuple, kt_int_dict, kt_bool_int, kt_bool_bool, kt_bool_str, kt_bool_list, kt_bool_tuple, kt_bool_dict, kt_str_int, kt_str_bool, kt_str_str, kt_str_list, kt_str_tuple, kt_str_dict, kt_list_int, kt_list_bool, kt_list_str, kt_list_list, kt_list_tuple, kt_list_dict, kt_tuple_int, kt_tuple_bool, kt_tuple_str, kt_tuple_list, kt_tuple_tuple, kt_tuple_dict, kt_dict_int, kt_dict_bool, kt_dict_str, kt_dict_list, kt_dict_tuple, kt_dict_dict, asL_lst, asL_frz, asL_tup, asT_tup, asS_lst, asS_frz, asS_tup, tyN_non, tyN_bl, tyN_int, tyN_str, atV_lit, ixN_lit, upd_same, upd_ne, upd_ne',
  List.getElem?_cons_zero, List.getElem?_cons_succ, List.set_cons_zero, List.set_cons_succ, List.append_nil, List.length_cons, List.length_nil, Option.some.injEq, exists_eq_left', exists_eq_left, exists_and_left, V.bl.injEq, V.int.injEq, V.str.injEq, V.ref.injEq, Bool.not_eq_true, Bool.not_true, Bool.not_false, decide_true, decide_false, decide_eq_true_eq, decide_eq_false_iff_not, Bool.false_eq_true, if_true, if_false, ite_true, ite_false, reduceCtorEq, true_and, and_true, Nat.reduceAdd, Nat.reduceLT, Nat.zero_add, ne_eq, not_false_eq_true, not_true_eq_false, List.cons.injEq, and_assoc])
local macro_rules | `(tactic| walk_at "S") => `(tactic| try simp only [u_var, u_c, u_op, u_un, u_nil, u_cons, u_cb, u_call, u_callS, u_tup, u_lst, u_test, u_B, u_and, u_or, u_not, u_andV, u_orV, u_notV, u_ifE, u_chain, u_sl, u_noPart, u_part, u_bm, u_bm0, u_rev, u_lc, u_try, u_sui, u_sui0, u_unb_rt, u_unb_nx, u_xf, u_WE, w_nil, w_cons, u_raise, u_rng1, u_rng2, u_next, u_ret, u_gname, u_gnil, u_gcons, u_gsub, u_gtup,
  f_add, f_addS, f_addR, f_sub, f_mul, f_mulR, f_mod, f_div, f_pow, f_neg, f_cmp, f_eq, f_eqB, f_eqS, f_ne, f_neB, f_neS, f_isN, f_notN, f_isB, f_ix, f_ixS, f_int, f_intB, f_len, f_lenS, f_max, f_min, f_abs, f_list, f_tuple, f_all, f_sum, f_isi, f_isiT, f_append, f_insert, f_pop, f_sl, f_set,
  kitS, tys, List.isEmpty_cons, Option.map_some, kt_NoneType_int, kt_NoneType_bool, kt_NoneType_str, kt_NoneType_list, kt_NoneType_tuple, kt_NoneType_dict, kt_int_int, kt_int_bool, kt_int_str, kt_int_list, kt_int_tuple, kt_int_dict, kt_bool_int, kt_bool_bool, kt_bool_str, kt_bool_list, kt_bool_tuple, kt_bool_dict, kt_str_int, kt_str_bool, kt_str_str, kt_str_list, kt_str_tuple, kt_str_dict, kt_list_int, kt_list_bool, kt_list_str, kt_list_list, kt_list_tuple, kt_list_dict, kt_tuple_int, kt_tuple_bool, kt_tuple_str, kt_tuple_list, kt_tuple_tuple, kt_tuple_dict, kt_dict_int, kt_dict_bool, kt_dict_str, kt_dict_list, kt_dict_tuple, kt_dict_dict, asL_lst, asL_frz, asL_tup, asT_tup, asS_lst, asS_frz, asS_tup, tyN_non, tyN_bl, tyN_int, tyN_str, atV_lit, ixN_lit, upd_same, upd_ne, upd_ne',
  List.getElem?_cons_zero, List.getElem?_cons_succ, List.set_cons_zero, List.set_cons_succ, List.append_nil, List.length_cons, List.length_nil, Option.some.injEq, exists_eq_left', exists_eq_left, exists_and_left, V.bl.injEq, V.int.injEq, V.str.injEq, V.ref.injEq, Bool.not_eq_true, Bool.not_true, Bool.not_false, decide_true, decide_false, decide_eq_true_eq, decide_eq_false_iff_not, Bool.false_eq_true, if_true, if_false, ite_true, ite_false, reduceCtorEq, true_and, and_true, Nat.reduceAdd, Nat.reduceLT, Nat.zero_add, ne_eq, not_false_eq_true, not_true_eq_false, List.cons.injEq, and_assoc, *])
theorem mixV_snoc : ∀ {ns ds : List Int} {n d a : Int}, ds.length = ns.length → mixV (ns ++ [n]) (ds ++ [d]) a = mixV ns ds a * n + d
  | [], [], _, _, _, _ => rfl
  | _ :: ns, _ :: ds, _, _, _, h => by
    simp only [List.cons_append, mixV]
    exact mixV_snoc (by simpa using h)
  | [], _ :: _, _, _, _, h => by simp at h
  | _ :: _, [], _, _, _, h => by simp at h
theorem digitsIn_unsnoc : ∀ {ds ns : List Int} {d n : Int}, ds.length = ns.length → digitsIn ((ds ++ [d]).map V.int) (ns ++ [n]) = true → digitsIn (ds.map V.int) ns = true ∧ 0 ≤ d ∧ d < n
  | [], [], d, n, _, h => by
    simp [digitsIn] at h
    exact ⟨rfl, h.1, h.2⟩
  | d0 :: ds, n0 :: ns, d, n, hl, h => by
    simp only [List.cons_append, List.map_cons, digitsIn, Bool.and_eq_true] at h
    obtain ⟨h1, h2⟩ := digitsIn_unsnoc (by simpa using hl) h.2
    simp only [List.map_cons, digitsIn, Bool.and_eq_true]
    exact ⟨⟨h.1, h1⟩, h2⟩
  | [], _ :: _, _, _, h, _ => by simp at h
  | _ :: _, [], _, _, h, _ => by simp at h
theorem mul_go : ∀ {l : List Int} {a : Int}, l.foldl (· * ·) a = a * l.foldl (· * ·) 1
  | [], a => by simp
  | b :: l, a => by
    rw [List.foldl_cons, List.foldl_cons, mul_go (a := a * b), mul_go (a := 1 * b), Int.one_mul, Int.mul_assoc]
theorem prodL_cons {b : Int} {l : List Int} : prodL (b :: l) = b * prodL l := by
  unfold prodL
  rw [List.foldl_cons, mul_go, Int.one_mul]
theorem prodL_pos : ∀ {l : List Int}, (∀ n ∈ l, 1 ≤ n ∧ n ≤ 1000) → 0 < prodL l
  | [], _ => by decide
  | b :: l, h => by
    rw [prodL_cons]
    exact Int.mul_pos (by have := h b List.mem_cons_self; omega) (prodL_pos fun n hn => h n (List.mem_cons_of_mem _ hn))
theorem snoc_of {α : Type} {l : List α} {m : Nat} (h : l.length = m + 1) : ∃ r x, l = r ++ [x] ∧ r.length = m := by
  refine ⟨l.dropLast, l.getLast (by intro z; rw [z] at h; cases h), (List.dropLast_concat_getLast _).symm, ?_⟩
  rw [List.length_dropLast, h]
  rfl
theorem trip : ∀ (m : Nat) {ns ds : List Int}, ns.length = m → digitsIn (ds.map V.int) ns = true → 0 ≤ mixV ns ds 0 ∧ mixV ns ds 0 < prodL ns.reverse ∧ digs ns (mixV ns ds 0) = ds
  | 0, ns, ds, hn, h => by
    have hl := digitsIn_len h
    obtain rfl : ns = [] := List.length_eq_zero_iff.1 hn
    obtain rfl : ds = [] := List.length_eq_zero_iff.1 (hl.trans rfl)
    exact ⟨by decide, by decide, rfl⟩
  | m + 1, ns, ds, hn, h => by
    have hl := digitsIn_len h
    obtain ⟨ns, n, rfl, hn'⟩ := snoc_of hn
    obtain ⟨ds, d, rfl, hd⟩ := snoc_of (hl.trans hn)
    have hl : ds.length = ns.length := hd.trans hn'.symm
    obtain ⟨h1, h2, h3⟩ := digitsIn_unsnoc hl h
    obtain ⟨g1, g2, g3⟩ := trip m hn' h1
    rw [mixV_snoc hl]
    have hp : (mixV ns ds 0 * n + d) % n = d := by
      rw [Int.add_comm, Int.add_mul_emod_self_right]
      exact Int.emod_eq_of_lt h2 h3
    have hq : (mixV ns ds 0 * n + d) / n = mixV ns ds 0 := by
      rw [Int.add_comm, Int.add_mul_ediv_right _ _ (by omega), Int.ediv_eq_zero_of_lt h2 h3, Int.zero_add]
    refine ⟨?_, ?_, ?_⟩
    · have := Int.mul_nonneg g1 (show 0 ≤ n by omega)
      omega
    · rw [List.reverse_append, List.reverse_singleton, List.singleton_append, prodL_cons]
      have e : (mixV ns ds 0 + 1) * n ≤ prodL ns.reverse * n := Int.mul_le_mul_of_nonneg_right (by omega) (by omega)
      rw [Int.add_mul, Int.one_mul] at e
      rw [Int.mul_comm n]
      omega
    · unfold digs at g3 ⊢
      rw [List.reverse_append, List.reverse_singleton, List.singleton_append]
      simp only [lowD]
      rw [hp, hq, List.reverse_cons, g3]
theorem trip2 : ∀ (m : Nat) {ns : List Int} {x : Int}, ns.length = m → (∀ n ∈ ns, 1 ≤ n ∧ n ≤ 1000) → 0 ≤ x → x < prodL ns.reverse → mixV ns (digs ns x) 0 = x ∧ digitsIn ((digs ns x).map V.int) ns = true
  | 0, ns, x, hn, hb, h0, h1 => by
    obtain rfl : ns = [] := List.length_eq_zero_iff.1 hn
    have e : prodL ([] : List Int).reverse = 1 := rfl
    rw [e] at h1
    obtain rfl : x = 0 := by omega
    exact ⟨rfl, rfl⟩
  | m + 1, ns, x, hn, hb, h0, h1 => by
    obtain ⟨ns, n, rfl, hn'⟩ := snoc_of hn
    have bn := hb n (by simp)
    rw [List.reverse_append, List.reverse_singleton, List.singleton_append, prodL_cons] at h1
    have hx : x / n < prodL ns.reverse := Int.ediv_lt_of_lt_mul (by omega) (by rw [Int.mul_comm]; exact h1)
    obtain ⟨g1, g2⟩ := trip2 m hn' (fun k hk => hb k (List.mem_append_left _ hk)) (Int.ediv_nonneg h0 (by omega)) hx
    have e : digs (ns ++ [n]) x = digs ns (x / n) ++ [x % n] := by
      unfold digs
      rw [List.reverse_append, List.reverse_singleton, List.singleton_append]
      simp only [lowD]
      rw [List.reverse_cons]
    rw [e]
    refine ⟨?_, digitsIn_snoc g2 (Int.emod_nonneg _ (by omega)) (Int.emod_lt_of_pos _ (by omega))⟩
    rw [mixV_snoc (digitsIn_len g2), g1, Int.mul_comm]
    exact Int.mul_ediv_add_emod x n
theorem All2.nil {R : V → PyData → Prop} : All2 R [] [] := ⟨rfl, fun i x d h => by simp at h⟩
theorem All2.cons {R : V → PyData → Prop} {x : V} {d : PyData} {xs : List V} {ds : List PyData} (h : R x d) (t : All2 R xs ds) : All2 R (x :: xs) (d :: ds) := ⟨by rw [List.length_cons, List.length_cons, t.1], fun i y e hy he => by
  cases i with
  | zero => cases hy; cases he; exact h
  | succ i => exact t.2 i y e hy he⟩
theorem All2.ints {H : Hp} {n : Nat} : ∀ {ns : List Int}, All2 (Rp H n) (ns.map V.int) (ns.map PyData.int)
  | [] => All2.nil
  | k :: ns => All2.cons (by cases n with | zero => exact .inr (.inr (.inl ⟨k, rfl, rfl⟩)) | succ n => exact .inl (.inr (.inr (.inl ⟨k, rfl, rfl⟩)))) All2.ints
theorem Rp.flat {H : Hp} {n : Nat} {v : V} {d : PyData} (h : Flat v d) : Rp H n v d := by
  cases n with
  | zero => exact h
  | succ n => exact .inl h
theorem Rp.i {H : Hp} {n : Nat} {k : Int} : Rp H n (.int k) (.int k) := .flat (.inr (.inr (.inl ⟨_, rfl, rfl⟩)))
theorem Rp.s {H : Hp} {n : Nat} {z : Str} : Rp H n (.str z) (.str z) := .flat (.inr (.inr (.inr ⟨_, rfl, rfl⟩)))
theorem Rp.lst {H : Hp} {n : Nat} {p : Addr} {xs : List V} {ds : List PyData} (h : H p = some (.lst xs)) (l : xs.length < 2 ^ 60) (a : All2 (Rp H n) xs ds) : Rp H (n + 1) (.ref p) (.list ds) :=
  .inr (.inl ⟨p, xs, ds, rfl, asL_at h, rfl, l, a⟩)
theorem Rp.tup {H : Hp} {n : Nat} {p : Addr} {xs : List V} {ds : List PyData} (h : H p = some (.tup xs)) (l : xs.length < 2 ^ 60) (a : All2 (Rp H n) xs ds) : Rp H (n + 1) (.ref p) (.tuple ds) :=
  .inr (.inr ⟨p, xs, ds, rfl, by rw [h]; rfl, rfl, l, a⟩)
theorem Rp.ints {H : Hp} {n : Nat} {p : Addr} {ns : List Int} (h : H p = some (.lst (ns.map V.int))) (l : ns.length ≤ 60) : Rp H (n + 1) (.ref p) (.list (ns.map PyData.int)) :=
  .lst h (by rw [List.length_map]; omega) All2.ints
theorem lt60 (n : Nat) (h : n < 2 ^ 60 := by decide) : n < 2 ^ 60 := h
theorem same_ok {K : PySem.W.Frag} {C : CA} {H : Hp} {Q : VK} {E : XK} {v1 v2 : V} (d : PyData) (r1 : Rp H 6 v1 d) (r2 : Rp H 6 v2 d) (q : ∀ H', Sm H H' → Q (.bl true) H') : sp_l_same K C [v1, v2] H Q E := ⟨v1, v2, d, rfl, r1, r2, q⟩
def sp_l_there_and_back (K : PySem.W.Frag) (C : CA) : Sp := fun vs H Q _ => ∃ (p1 p2 : Addr) (ns ds : List Int), vs = [.ref p1, .ref p2] ∧ H p1 = some (.lst (ns.map V.int)) ∧ H p2 = some (.lst (ds.map V.int)) ∧ ns.length ≤ 60 ∧ (∀ n ∈ ns, 1 ≤ n ∧ n ≤ 1000) ∧ digitsIn (ds.map V.int) ns = true ∧
  ∀ H', Sm H H' → Q (.bl true) H'
def rd_l_there_and_back (K : PySem.W.Frag) (C : CA) (E : XK) : TS :=
  (tSeq (tAsg (tCB fList (tCons (tVar 0) tNil)) (gName 2)) (tSeq (tAsg (tCB fList (tCons (tVar 1) tNil)) (gName 3)) (tSeq (tAsg (tCallS (sp_l_number_told K C) (fun _ => E0) (tCons (tVar 2) (tCons (tVar 3) tNil))) (gName 4)) (tSeq (tIfS (tOr (tNot (tB (tCallS (sp_l_same K C) (fun _ => E0) (tCons (tVar 4) (tCons (tLst (tCons (tC (.str ("good" : Str))) (tCons (tCallS (sp_l_worth K C) (fun _ => E0) (tCons (tVar 0) (tCons (tVar 1) tNil))) tNil))) tNil))))) (tNot (tB (tCallS (sp_l_same K C) (fun _ => E0) (tCons (tLst (tCons (tVar 2) (tCons (tVar 3) tNil))) (tCons (tLst (tCons (tVar 0) (tCons (tVar 1) tNil))) tNil)))))) (tRet (tC (.bl false))) tNext) (tSeq (tAsg (tCallS (sp_l_digits_told K C) (fun _ => E0) (tCons (tVar 2) (tCons (tOp fIx (tVar 4) (tC (.int 1))) tNil))) (gName 5)) (tSeq (tIfS (tOr (tNot (tB (tCallS (sp_l_same K C) (fun _ => E0) (tCons (tVar 5) (tCons (tLst (tCons (tC (.str ("good" : Str))) (tCons (tVar 1) tNil))) tNil))))) (tNot (tB (tCallS (sp_l_same K C) (fun _ => E0) (tCons (tVar 2) (tCons (tVar 0) tNil)))))) (tRet (tC (.bl false))) tNext) (tSeq (tDrop (tCallS (sp_l_spoil K C) (fun _ => E0) (tCons (tLst (tCons (tVar 2) (tCons (tVar 3) (tCons (tOp fIx (tVar 5) (tC (.int 1))) tNil)))) tNil))) (tRet (tCallS (sp_l_same K C) (fun _ => E0) (tCons (tCallS (sp_l_digits_told K C) (fun _ => E0) (tCons (tCB fList (tCons (tVar 0) tNil)) (tCons (tOp fIx (tVar 4) (tC (.int 1))) tNil))) (tCons (tLst (tCons (tC (.str ("good" : Str))) (tCons (tVar 1) tNil))) tNil)))))))))))
theorem pure_l_there_and_back {K : PySem.W.Frag} {C : CA} (vs : List V) (H : Hp) (Q : VK) (E : XK) (h : sp_l_there_and_back K C vs H Q E) : rd_l_there_and_back K C E { nx := fun _ H' => Q .non H', rt := Q } (start [("bases" : Str), ("digits" : Str), ("one" : Str), ("two" : Str), ("told" : Str), ("back" : Str)] vs) H := by
  obtain ⟨p1, p2, ns, ds, rfl, h1, h2, l1, bn, dn, q⟩ := h
  show rd_l_there_and_back K C E _ [some (.ref p1), some (.ref p2), none, none, none, none] H
  unfold rd_l_there_and_back
  refine q_asg ?_
  walk_at "s"
  simp only [asS_at h1]
  refine fun o1 n1 => al n1 fun H1 t1 g1 => ?_
  refine q_asg ?_
  walk_at "s"
  simp only [asS_at (t1 _ _ h2)]
  refine fun o2 n2 => al n2 fun H2 t2 g2 => ?_
  have g1 := t2 _ _ g1
  have t02 := sm_trans t1 t2
  obtain ⟨m0, m1, m2⟩ := trip _ rfl dn
  refine q_asg ?_
  walk_at "s"
  refine ⟨_, _, rfl, .ints (asL_at g1), .ints (asL_at g2), .inr ⟨o1, ns, rfl, asL_at g1, l1, bn, .inr ⟨o2, ds, rfl, asL_at g2, dn, fun o3 H3 t3 n3 g3 => ?_⟩⟩⟩
  have t03 := sm_trans t02 t3
  refine q_if ?_
  walk_at "s"
  refine ⟨p1, p2, ns, ds, rfl, asL_at (t03 _ _ h1), asL_at (t03 _ _ h2), l1, bn, dn, fun H4 t4 => ?_⟩
  have t04 := sm_trans t03 t4
  walk_at "s"
  refine ⟨by decide, fun o5 n5 => al n5 fun H5 t5 g5 => ?_⟩
  refine same_ok (.list [.str ("good" : Str), .int (mixV ns ds 0)]) (.lst (t5 _ _ (t4 _ _ g3)) (lt60 2) (.cons .s (.cons .i .nil))) (.lst g5 (lt60 2) (.cons .s (.cons .i .nil))) fun H6 t6 => ?_
  walk_at "s"
  refine ⟨by decide, fun o7 n7 => al n7 fun H7 t7 g7 => ⟨by decide, fun o8 n8 => al n8 fun H8 t8 g8 => ?_⟩⟩
  have t48 := sm_trans t5 (sm_trans t6 (sm_trans t7 t8))
  have t28 := sm_trans t3 (sm_trans t4 t48)
  have t08 := sm_trans t02 t28
  have ll : ds.length ≤ 60 := by rw [digitsIn_len dn]; exact l1
  refine same_ok (.list [.list (ns.map PyData.int), .list (ds.map PyData.int)]) (.lst (t8 _ _ g7) (lt60 2) (.cons (.ints (t28 _ _ g1) l1) (.cons (.ints (t28 _ _ g2) ll) .nil))) (.lst g8 (lt60 2) (.cons (.ints (t08 _ _ h1) l1) (.cons (.ints (t08 _ _ h2) ll) .nil))) fun H9 t9 => ?_
  have t39 := sm_trans t4 (sm_trans t48 t9)
  have t29 := sm_trans t3 t39
  have t09 := sm_trans t02 t29
  walk_at "s"
  have h39 := asS_at (t39 _ _ g3)
  refine q_asg ?_
  walk_at "s"
  simp only [h39]
  walk_at "s"
  refine ⟨_, _, rfl, .ints (asL_at (t29 _ _ g1)), ⟨_, rfl⟩, .inr ⟨o1, ns, rfl, asL_at (t29 _ _ g1), l1, bn, .inr ⟨_, rfl, m0, .inr ⟨m1, fun o10 b10 H10 t10 n10 nb d10 g10b g10 => ?_⟩⟩⟩⟩
  rw [m2] at g10b
  have t010 := sm_trans t09 t10
  have t210 := sm_trans t29 t10
  have t310 := sm_trans t39 t10
  refine q_if ?_
  walk_at "s"
  refine ⟨by decide, fun o11 n11 => al n11 fun H11 t11 g11 => ?_⟩
  refine same_ok (.list [.str ("good" : Str), .list (ds.map PyData.int)]) (.lst (t11 _ _ g10) (lt60 2) (.cons .s (.cons (.ints (t11 _ _ g10b) ll) .nil))) (.lst g11 (lt60 2) (.cons .s (.cons (.ints (t11 _ _ (t010 _ _ h2)) ll) .nil))) fun H12 t12 => ?_
  walk_at "s"
  have t112 := sm_trans t11 t12
  refine same_ok (.list (ns.map PyData.int)) (.ints (t112 _ _ (t210 _ _ g1)) l1) (.ints (t112 _ _ (t010 _ _ h1)) l1) fun H13 t13 => ?_
  walk_at "s"
  have t113 := sm_trans t112 t13
  refine q_drop ?_
  walk_at "s"
  simp only [asS_at (t113 _ _ g10)]
  walk_at "s"
  refine ⟨by decide, fun o14 n14 => al n14 fun H14 t14 g14 => ?_⟩
  have t1014 := sm_trans t113 t14
  have b1 := t1014 _ _ (t210 _ _ g1)
  have b2 := t1014 _ _ (t210 _ _ g2)
  have b3 := t1014 _ _ g10b
  have n2' := sm_none t1 n2
  have n12 : H o1 = none := n1
  have leaf : ∀ {p : Addr} {xs : List Int}, H14 p = some (.lst (xs.map V.int)) → xs.length ≤ 60 → ∃ ys, H14 p = some (.lst ys) ∧ ys.all flatV = true ∧ ys.length ≤ 1000 := fun hp hl => ⟨_, hp, by rw [List.all_eq_true]; intro x hx; obtain ⟨n, _, rfl⟩ := List.mem_map.1 hx; rfl, by rw [List.length_map]; omega⟩
  have nn14 : ∀ {p : Addr} {o : HO}, H13 p = some o → p ≠ o14 := fun hp => ne_of_none hp n14
  refine ⟨o14, _, fun a => a = o1 ∨ a = o2 ∨ a = b10, rfl, ?_, g14, by show 3 ≤ 1000; decide, ?_, ?_, fun H15 s15 => ?_⟩
  · rintro (e | e | e)
    · exact nn14 (t113 _ _ (t210 _ _ g1)) e.symm
    · exact nn14 (t113 _ _ (t210 _ _ g2)) e.symm
    · exact nn14 (t113 _ _ g10b) e.symm
  · intro x hx
    simp only [List.mem_cons, List.not_mem_nil, or_false] at hx
    rcases hx with rfl | rfl | rfl
    · exact ⟨_, rfl, .inl rfl⟩
    · exact ⟨_, rfl, .inr (.inl rfl)⟩
    · exact ⟨_, rfl, .inr (.inr rfl)⟩
  · rintro a (rfl | rfl | rfl)
    · exact leaf b1 l1
    · exact leaf b2 ll
    · exact leaf b3 ll
  have t015 : Sm H H15 := fun b o hb => by
    refine s15 b o ?_ (nn14 (t113 _ _ (t010 _ _ hb))) (t1014 _ _ (t010 _ _ hb))
    rintro (rfl | rfl | rfl)
    · exact ne_of_none hb n1 rfl
    · exact ne_of_none hb n2' rfl
    · exact ne_of_none (t09 _ _ hb) nb rfl
  have g3' : H15 o3 = some (HO.lst [V.str ("good" : Str), V.int (mixV ns ds 0)]) := by
    refine s15 _ _ ?_ (nn14 (t113 _ _ (t310 _ _ g3))) (t1014 _ _ (t310 _ _ g3))
    rintro (e | e | e)
    · exact ne_of_none g1 n3 e.symm
    · exact ne_of_none g2 n3 e.symm
    · exact ne_of_none (t39 _ _ g3) nb e
  simp only [asS_at (t015 _ _ h1)]
  refine fun o16 n16 => al n16 fun H16 t16 g16 => ?_
  simp only [asS_at (t16 _ _ g3')]
  walk_at "s"
  refine ⟨_, _, rfl, .ints (asL_at g16), ⟨_, rfl⟩, .inr ⟨o16, ns, rfl, asL_at g16, l1, bn, .inr ⟨_, rfl, m0, .inr ⟨m1, fun o17 b17 H17 t17 _ _ _ g17b g17 => ?_⟩⟩⟩⟩
  rw [m2] at g17b
  have t017 := sm_trans t015 (sm_trans t16 t17)
  walk_at "s"
  refine ⟨by decide, fun o18 n18 => al n18 fun H18 t18 g18 => ?_⟩
  refine same_ok (.list [.str ("good" : Str), .list (ds.map PyData.int)]) (.lst (t18 _ _ g17) (lt60 2) (.cons .s (.cons (.ints (t18 _ _ g17b) ll) .nil))) (.lst g18 (lt60 2) (.cons .s (.cons (.ints (t18 _ _ (t017 _ _ h2)) ll) .nil))) fun H19 t19 => ?_
  exact q H19 (sm_trans t017 (sm_trans t18 t19))
end XB

/-! The whole of k08. -/
namespace XB
open PySem L2
local macro_rules | `(tactic| walk_at "s") => `(tactic| try simp only [u_var, u_c, u_op, u_un, u_nil, u_cons, u_cb, u_call, u_callS, u_tup, u_lst, u_test, u_B, u_and, u_or, u_not, u_andV, u_orV, u_notV, u_ifE, u_chain, u_sl, u_noPart, u_part, u_bm, u_bm0, u_rev, u_lc, u_try, u_sui, u_sui0, u_unb_rt, u_unb_nx, u_xf, u_WE, w_nil, w_cons, u_raise, u_rng1, u_rng2, u_next, u_ret, u_gname, u_gnil, u_gcons, u_gsub, u_gtup,
  f_add, f_addS, f_addR, f_sub, f_mul, f_mulR, f_mod, f_div, f_pow, f_neg, f_cmp, f_eq, f_eqB, f_eqS, f_ne, f_neB, f_neS, f_isN, f_notN, f_isB, f_ix, f_ixS, f_int, f_intB, f_len, f_lenS, f_max, f_min, f_abs, f_list, f_tuple, f_all, f_sum, f_isi, f_isiT, f_append, f_insert, f_pop, f_sl, f_set,
  kitS, tys, List.isEmpty_cons, Option.map_some, kt_NoneType_int, kt_NoneType_bool, kt_NoneType_str, kt_NoneType_list, kt_NoneType_tuple, kt_NoneType_dict, kt_int_int, kt_int_bool, kt_int_str, kt_int_list, kt_int_tuple, kt_int_dict, kt_bool_int, kt_bool_bool, kt_bool_str, kt_bool_list, kt_bool_tuple, kt_bool_dict, kt_str_int, kt_str_bool, kt_str_str, kt_str_list, kt_str_tuple, kt_str_dict, kt_list_int, kt_list_bool, kt_list_str, kt_list_list, kt_list_tuple, kt_list_dict, kt_tuple_int, kt_tuple_bool, kt_tuple_str, kt_tuple_list, kt_tuple_tuple, kt_tuple_dict, kt_dict_int, kt_dict_bool, kt_dict_str, kt_dict_list, kt_dict_tuple, kt_dict_dict, asL_lst, asL_frz, asL_tup, asT_tup, asS_lst, asS_frz, asS_tup, tyN_non, tyN_bl, tyN_int, tyN_str, atV_lit, ixN_lit, upd_same, upd_ne, upd_ne',
  List.getElem?_cons_zero, List.getElem?_cons_succ, List.set_cons_zero, List.set_cons_succ, List.append_nil, List.length_cons, List.length_nil, Option.some.injEq, exists_eq_left', exists_eq_left, exists_and_left, V.bl.injEq, V.int.injEq, V.str.injEq, V.ref.injEq, Bool.not_eq_true, Bool.not_true, Bool.not_false, decide_true, decide_false, decide_eq_true_eq, decide_eq_false_iff_not, Bool.false_eq_true, if_true, if_false, ite_true, ite_false, reduceCtorEq, true_and, and_true, Nat.reduceAdd, Nat.reduceLT, Nat.zero_add, ne_eq, not_false_eq_true, not_true_eq_false, List.cons.injEq, and_assoc])
local macro_rules | `(tactic| walk_at "S") => `(tactic| try simp only [u_var, u_c, u_op, u_un, u_nil, u_cons, u_cb, u_call, u_callS, u_tup, u_lst, u_test, u_B, u_and, u_or, u_not, u_andV, u_orV, u_notV, u_ifE, u_chain, u_sl, u_noPart, u_part, u_bm, u_bm0, u_rev, u_lc, u_try, u_sui, u_sui0, u_unb_rt, u_unb_nx, u_xf, u_WE, w_nil, w_cons, u_raise, u_rng1, u_rng2, u_next, u_ret, u_gname, u_gnil, u_gcons, u_gsub, u_gtup,
  f_add, f_addS, f_addR, f_sub, f_mul, f_mulR, f_mod, f_div, f_pow, f_neg, f_cmp, f_eq, f_eqB, f_eqS, f_ne, f_neB, f_neS, f_isN, f_notN, f_isB, f_ix, f_ixS, f_int, f_intB, f_len, f_lenS, f_max, f_min, f_abs, f_list, f_tuple, f_all, f_sum, f_isi, f_isiT, f_append, f_insert, f_pop, f_sl, f_set,
  kitS, tys, List.isEmpty_cons, Option.map_some, kt_NoneType_int, kt_NoneType_bool, kt_NoneType_str, kt_NoneType_list, kt_NoneType_tuple, kt_NoneType_dict, kt_int_int, kt_int_bool, kt_int_str, kt_int_list, kt_int_tuple, kt_int_dict, kt_bool_int, kt_bool_bool, kt_bool_str, kt_bool_list, kt_bool_tuple, kt_bool_dict, kt_str_int, kt_str_bool, kt_str_str, kt_str_list, kt_str_tuple, kt_str_dict, kt_list_int, kt_list_bool, kt_list_str, kt_list_list, kt_list_tuple, kt_list_dict, kt_tuple_int, kt_tuple_bool, kt_tuple_str, kt_tuple_list, kt_tuple_tuple, kt_tuple_dict, kt_dict_int, kt_dict_bool, kt_dict_str, kt_dict_list, kt_dict_tuple, kt_dict_dict, asL_lst, asL_frz, asL_tup, asT_tup, asS_lst, asS_frz, asS_tup, tyN_non, tyN_bl, tyN_int, tyN_str, atV_lit, ixN_lit, upd_same, upd_ne, upd_ne',
  List.getElem?_cons_zero, List.getElem?_cons_succ, List.set_cons_zero, List.set_cons_succ, List.append_nil, List.length_cons, List.length_nil, Option.some.injEq, exists_eq_left', exists_eq_left, exists_and_left, V.bl.injEq, V.int.injEq, V.str.injEq, V.ref.injEq, Bool.not_eq_true, Bool.not_true, Bool.not_false, decide_true, decide_false, decide_eq_true_eq, decide_eq_false_iff_not, Bool.false_eq_true, if_true, if_false, ite_true, ite_false, reduceCtorEq, true_and, and_true, Nat.reduceAdd, Nat.reduceLT, Nat.zero_add, ne_eq, not_false_eq_true, not_true_eq_false, List.cons.injEq, and_assoc, *])
theorem digit_in : ∀ {ds ns : List Int} {k : Nat} {d n : Int}, digitsIn (ds.map V.int) ns = true → ds[k]? = some d → ns[k]? = some n → 0 ≤ d ∧ d < n
  | d0 :: ds, n0 :: ns, 0, d, n, h, e, f => by
    cases e
    cases f
    simp only [List.map_cons, digitsIn, Bool.and_eq_true, decide_eq_true_eq] at h
    exact h.1
  | d0 :: ds, n0 :: ns, k + 1, d, n, h, e, f => by
    simp only [List.map_cons, digitsIn, Bool.and_eq_true] at h
    exact digit_in (k := k) h.2 e f
  | [], _, _, _, _, _, e, _ => by simp at e
  | _ :: _, [], _, _, _, h, _, _ => by simp [digitsIn] at h
def sp_l_reads (K : PySem.W.Frag) (C : CA) : Sp := fun vs H Q _ => ∃ (p : Addr) (ns : List Int) (x : Int), vs = [.ref p, .int x] ∧ H p = some (.lst (ns.map V.int)) ∧ ns.length ≤ 60 ∧ (∀ n ∈ ns, 1 ≤ n ∧ n ≤ 1000) ∧ 0 ≤ x ∧
  ∀ H', Sm H H' → Q (.bl true) H'
def rd_l_reads (K : PySem.W.Frag) (C : CA) (E : XK) : TS :=
  (tSeq (tAsg (tCallS (sp_l_digits_told K C) (fun _ => E0) (tCons (tCB fList (tCons (tVar 0) tNil)) (tCons (tVar 1) tNil))) (gName 2)) (tSeq (tAsg (tOp fIx (tCallS (sp_l_weights K C) (fun _ => E0) (tCons (tVar 0) tNil)) (tC (.int 1))) (gName 3)) (tSeq (tIfS (tTest (tOp fGe (tVar 1) (tVar 3))) (tRet (tCallS (sp_l_same K C) (fun _ => E0) (tCons (tVar 2) (tCons (tLst (tCons (tC (.str ("NoRank" : Str))) (tCons (tVar 1) (tCons (tVar 3) tNil)))) tNil)))) tNext) (tSeq (tIfS (tOr (tTest (tOp (fNe K) (tOp fIx (tVar 2) (tC (.int 0))) (tC (.str ("good" : Str))))) (tOr (tNot (tB (tCB fIsi (tCons (tOp fIx (tVar 2) (tC (.int 1))) (tCons (tC (.ty "list")) tNil))))) (tTest (tOp (fNe K) (tCB fLen (tCons (tOp fIx (tVar 2) (tC (.int 1))) tNil)) (tCB fLen (tCons (tVar 0) tNil)))))) (tRet (tC (.bl false))) tNext) (tSeq (tFor (iRng1 (tCons (tCB fLen (tCons (tVar 0) tNil)) tNil)) (gName 4) (tIfS (tOr (tNot (tB (tCallS (sp_l_int K C) (fun _ => E0) (tCons (tOp fIx (tOp fIx (tVar 2) (tC (.int 1))) (tVar 4)) tNil)))) (tOr (tTest (tOp fLt (tOp fIx (tOp fIx (tVar 2) (tC (.int 1))) (tVar 4)) (tC (.int 0)))) (tTest (tOp fGe (tOp fIx (tOp fIx (tVar 2) (tC (.int 1))) (tVar 4)) (tOp fIx (tVar 0) (tVar 4)))))) (tRet (tC (.bl false))) tNext)) (tRet (tOp (fEq K) (tCallS (sp_l_worth K C) (fun _ => E0) (tCons (tVar 0) (tCons (tOp fIx (tVar 2) (tC (.int 1))) tNil))) (tVar 1))))))))
theorem pure_l_reads {K : PySem.W.Frag} {C : CA} (vs : List V) (H : Hp) (Q : VK) (E : XK) (h : sp_l_reads K C vs H Q E) : rd_l_reads K C E { nx := fun _ H' => Q .non H', rt := Q } (start [("bases" : Str), ("number" : Str), ("told" : Str), ("product" : Str), ("k" : Str)] vs) H := by
  obtain ⟨p, ns, x, rfl, h1, l1, bn, x0, q⟩ := h
  show rd_l_reads K C E _ [some (.ref p), some (.int x), none, none, none] H
  unfold rd_l_reads
  refine q_asg ?_
  walk_at "s"
  simp only [asS_at h1]
  refine fun o1 n1 => al n1 fun H1 t1 g1 => ?_
  by_cases big : prodL ns.reverse ≤ x
  · refine ⟨_, _, rfl, .ints (asL_at g1), ⟨_, rfl⟩, .inr ⟨o1, ns, rfl, asL_at g1, l1, bn, .inr ⟨x, rfl, x0, .inl ⟨big, fun o2 H2 t2 n2 g2 => ?_⟩⟩⟩⟩
    have t02 := sm_trans t1 t2
    refine q_asg ?_
    walk_at "s"
    refine ⟨p, ns, rfl, asL_at (t02 _ _ h1), l1, bn, fun o3 b3 H3 t3 g3b g3 => ?_⟩
    walk_at "s"
    simp only [asS_at g3]
    walk_at "s"
    refine q_if ?_
    walk_at "s"
    refine ite2 (fun c => ?_) fun c => absurd big (by simpa using c)
    refine ⟨by decide, fun o4 n4 => al n4 fun H4 t4 g4 => ?_⟩
    refine same_ok (.list [.str ("NoRank" : Str), .int x, .int (prodL ns.reverse)]) (.lst (t4 _ _ (t3 _ _ g2)) (lt60 3) (.cons .s (.cons .i (.cons .i .nil)))) (.lst g4 (lt60 3) (.cons .s (.cons .i (.cons .i .nil)))) fun H5 t5 => ?_
    exact q H5 (sm_trans t02 (sm_trans t3 (sm_trans t4 t5)))
  · have small : x < prodL ns.reverse := by omega
    obtain ⟨m1, m2⟩ := trip2 _ rfl bn x0 small
    refine ⟨_, _, rfl, .ints (asL_at g1), ⟨_, rfl⟩, .inr ⟨o1, ns, rfl, asL_at g1, l1, bn, .inr ⟨x, rfl, x0, .inr ⟨small, fun o2 b2 H2 t2 n2 nb d2 g2b g2 => ?_⟩⟩⟩⟩
    have t02 := sm_trans t1 t2
    refine q_asg ?_
    walk_at "s"
    refine ⟨p, ns, rfl, asL_at (t02 _ _ h1), l1, bn, fun o3 b3 H3 t3 g3b g3 => ?_⟩
    walk_at "s"
    simp only [asS_at g3]
    walk_at "s"
    refine q_if ?_
    walk_at "s"
    refine ite2 (fun c => absurd small (by simpa using c)) fun c => ?_
    have g2 := t3 _ _ g2
    have g2b := t3 _ _ g2b
    have t03 := sm_trans t02 t3
    have h1 := t03 _ _ h1
    refine q_if ?_
    walk_at "s"
    simp only [asS_at g2]
    walk_at "s"
    have ll := digitsIn_len m2
    simp only [asS_at g2]
    walk_at "s"
    simp only [tyN_lst g2b]
    walk_at "s"
    simp only [asS_at g2, asS_at g2b, asS_at h1]
    walk_at "s"
    have e0 : ((List.map V.int (digs ns x)).length : Int) = ((List.map V.int ns).length : Int) := by rw [List.length_map, List.length_map, ll]
    simp only [e0]
    walk_at "s"
    refine q_for ?_
    walk_at "s"
    simp only [asS_at h1]
    walk_at "s"
    rw [List.length_map]
    refine ⟨by omega, by omega, ?_⟩
    have en : ((ns.length : Nat) : Int).toNat = ns.length := by omega
    rw [en]
    refine loop_range (fun i σ H4 => ∃ v, σ = [some (.ref p), some (.int x), some (.ref o2), some (.int (prodL ns.reverse)), v] ∧ H4 = H3) ⟨_, rfl, rfl⟩ ?_ ?_
    · rintro i σ H4 hi ⟨v, rfl, rfl⟩
      have ei : (0 : Int) + (i : Nat) = (i : Nat) := Int.zero_add _
      have hd : i < (digs ns x).length := by omega
      walk_at "s"
      refine q_if1 ?_
      walk_at "s"
      simp only [asS_at g2]
      walk_at "s"
      simp only [asS_at g2b, ei]
      refine at_nat (v := .int (digs ns x)[i]) (by simp [hd]) ?_
      refine ⟨_, rfl, ?_⟩
      walk_at "s"
      simp only [asS_at g2]
      walk_at "s"
      simp only [asS_at g2b]
      refine at_nat (v := .int (digs ns x)[i]) (by simp [hd]) ?_
      obtain ⟨y0, y1⟩ := digit_in (k := i) m2 (d := (digs ns x)[i]) (n := ns[i]) (by simp [hd]) (by simp [hi])
      walk_at "s"
      refine ite2 (fun c => absurd c (by omega)) fun _ => ?_
      simp only [asS_at g2]
      walk_at "s"
      simp only [asS_at g2b]
      refine at_nat (v := .int (digs ns x)[i]) (by simp [hd]) ?_
      walk_at "s"
      simp only [asS_at h1]
      refine at_nat (v := .int ns[i]) (by simp [hi]) ?_
      walk_at "s"
      refine ite2 (fun c => absurd c (by omega)) fun _ => ?_
      trivial
    · rintro σ H4 ⟨v, rfl, rfl⟩
      walk_at "s"
      simp only [asS_at g2]
      walk_at "s"
      refine ⟨p, b2, ns, _, rfl, asL_at h1, asL_at g2b, l1, bn, m2, fun H5 t5 => ?_⟩
      walk_at "s"
      rw [m1, decide_eq_true rfl]
      exact q H5 (sm_trans t03 t5)
theorem Ty.kp {v : V} {st : Addr} {H H' : Hp} (h : Ty v H) (k : Kp st H H') (s : StAt H' st) : Ty v H' := by
  by_cases e : v = .ref st
  · subst e
    obtain ⟨c, ns, a, b, d, e, g, _⟩ := s
    exact ⟨_, tyN_lst g⟩
  · obtain ⟨t, h⟩ := h
    cases v with
    | ref p =>
      have np : p ≠ st := fun z => e (by rw [z])
      refine ⟨t, ?_⟩
      dsimp only [tyN] at h ⊢
      cases eo : H p with
      | none => rw [eo] at h; cases h
      | some o => rw [eo] at h; rw [k.1 p o np eo]; exact h
    | _ => exact ⟨t, h⟩
theorem lstOf_kp {v : V} {st : Addr} {H H' : Hp} (h : Ty v H) (k : Kp st H H') (e : v ≠ .ref st) : lstOf v H' = lstOf v H := by
  obtain ⟨t, h⟩ := h
  cases v with
  | ref p =>
    have np : p ≠ st := fun z => e (by rw [z])
    dsimp only [tyN] at h
    show asL (H' p) = asL (H p)
    cases eo : H p with
    | none => rw [eo] at h; cases h
    | some o => rw [k.1 p o np eo]
  | _ => rfl
theorem TyD.kp {v : V} {st : Addr} {H H' : Hp} (h : TyD v H) (k : Kp st H H') (s : StAt H' st) (e : v ≠ .ref st) : TyD v H' :=
  ⟨h.1.kp k s, fun xs el x hx => (h.2 xs (by rw [← lstOf_kp h.1 k e]; exact el) x hx).kp k s⟩
theorem Bad.kp {H H' : Hp} {st : Addr} {v1 v2 : V} {z : Str} (b : Bad H v1 v2 z) (k : Kp st H H') (s : StAt H' st) (n : v1 ≠ .ref st ∧ v2 ≠ .ref st) : Bad H' v1 v2 z := by
  obtain ⟨t1, t2, h⟩ := b
  refine ⟨t1.kp k s n.1, t2.kp k s n.2, ?_⟩
  rcases h with ⟨e, h⟩ | ⟨e, p1, ms, e1, e2, e3, e4, h⟩
  · refine .inl ⟨e, ?_⟩
    unfold basesOk at h ⊢
    rw [lstOf_kp t1.1 k n.1]
    exact h
  · refine .inr ⟨e, p1, ms, e1, k.asL (fun z => n.1 (by rw [e1, z])) e2, e3, e4, ?_⟩
    unfold digitsOk at h ⊢
    rw [lstOf_kp t2.1 k n.2]
    exact h
theorem ints_ne {H : Hp} {st p : Addr} {ns : List Int} (s : StAt H st) (h : H p = some (.lst (ns.map V.int))) : p ≠ st := by
  rintro rfl
  obtain ⟨c, _, _, _, _, _, h1, _⟩ := s
  rw [h] at h1
  cases ns with
  | nil => cases h1
  | cons _ _ => cases h1
theorem Pair.kp {H H' : Hp} {st t : Addr} {ns ds : List Int} (h : Pair H t ns ds) (s : StAt H st) (k : Kp st H H') : Pair H' t ns ds := by
  obtain ⟨p1, p2, e1, e2, e3, e4⟩ := h
  refine ⟨p1, p2, k.1 _ _ ?_ e1, k.1 _ _ (ints_ne s e2) e2, k.1 _ _ (ints_ne s e3) e3, e4⟩
  rintro rfl
  obtain ⟨c, _, _, _, _, _, g, _⟩ := s
  rw [e1] at g
  cases g
def sp_l_refuses (K : PySem.W.Frag) (C : CA) : Sp := fun vs H Q _ => ∃ (st t : Addr) (ns ds : List Int), vs = [.ref st, .ref t] ∧ StAt H st ∧ Pair H t ns ds ∧ ∀ H', Kp st H H' → StAt H' st → Q (.bl true) H'
def rd_l_refuses (K : PySem.W.Frag) (C : CA) (E : XK) : TS :=
  (tSeq (tAsg (tCallS (sp_l_bad_bases K C) (fun _ => E0) (tCons (tVar 0) (tCons (tVar 1) tNil))) (gTupF 3 (gCons (gName 2) (gCons (gName 3) (gCons (gName 4) gNil))))) (tSeq (tAsg (tCallS (sp_l_no_number K C) (fun _ => E0) (tCons (tVar 0) tNil)) (gName 5)) (tSeq (tAsg (tLst (tCons (tC (.str ("BadShape" : Str))) (tCons (tVar 4) tNil))) (gName 6)) (tSeq (tIfS (tNot (tB (tCallS (sp_l_same K C) (fun _ => E0) (tCons (tCallS (sp_l_number_told K C) (fun _ => E0) (tCons (tVar 2) (tCons (tVar 3) tNil))) (tCons (tVar 6) tNil))))) (tRet (tC (.bl false))) tNext) (tSeq (tIfS (tTest (tOp (fEq K) (tVar 4) (tC (.str ("digits" : Str))))) (tAsg (tLst (tCons (tC (.str ("BadShape" : Str))) (tCons (tC (.str ("number" : Str))) tNil))) (gName 6)) (tIfS (tNot (tB (tCallS (sp_l_same K C) (fun _ => E0) (tCons (tCallS (sp_l_digits_told K C) (fun _ => E0) (tCons (tVar 2) (tCons (tC (.int 0)) tNil))) (tCons (tVar 6) tNil))))) (tRet (tC (.bl false))) (tIfS (tNot (tB (tCallS (sp_l_same K C) (fun _ => E0) (tCons (tCallS (sp_l_number_told K C) (fun _ => E0) (tCons (tVar 2) (tCons (tC .non) tNil))) (tCons (tVar 6) tNil))))) (tRet (tC (.bl false))) tNext))) (tRet (tCallS (sp_l_same K C) (fun _ => E0) (tCons (tCallS (sp_l_digits_told K C) (fun _ => E0) (tCons (tVar 2) (tCons (tVar 5) tNil))) (tCons (tVar 6) tNil)))))))))
theorem pure_l_refuses {K : PySem.W.Frag} {C : CA} (vs : List V) (H : Hp) (Q : VK) (E : XK) (h : sp_l_refuses K C vs H Q E) : rd_l_refuses K C E { nx := fun _ H' => Q .non H', rt := Q } (start [("store" : Str), ("pair" : Str), ("bases" : Str), ("digits" : Str), ("parameter" : Str), ("wrong" : Str), ("number_due" : Str)] vs) H := by
  obtain ⟨st, t, ns, ds, rfl, hs, hp, q⟩ := h
  show rd_l_refuses K C E _ [some (.ref st), some (.ref t), none, none, none, none, none] H
  unfold rd_l_refuses
  refine q_asg ?_
  walk_at "s"
  refine ⟨st, t, ns, ds, rfl, hs, hp, fun tt v1 v2 z H1 k1 s1 g1 nn bad => ?_⟩
  walk_at "s"
  have tg : asT (H1 tt) = some [v1, v2, V.str z] := by rw [g1]; rfl
  simp only [tg]
  walk_at "s"
  refine q_asg ?_
  walk_at "s"
  refine ⟨st, rfl, s1, fun w H2 tw nw k2 s2 => ?_⟩
  have bad := bad.kp k2 s2 nn
  have k02 := k1.trans k2
  clear hp hs tg g1 k1 k2 s1 tt
  refine q_asg ?_
  walk_at "s"
  refine ⟨by decide, fun o3 n3 => al n3 fun H3 t3 g3 => ?_⟩
  obtain ⟨d1, d2, hb⟩ := bad.mono t3
  have told : ∀ {H4 H5 : Hp} {a b : Addr} {x y : Str} {Q' : VK}, H4 a = some (.lst [.str x, .str y]) → H4 b = some (.lst [.str x, .str y]) → (∀ H', Sm H4 H' → Q' (.bl true) H') → sp_l_same K C [.ref a, .ref b] H4 Q' E0 := fun ha hb q =>
    same_ok (.list [.str _, .str _]) (.lst ha (lt60 2) (.cons .s (.cons .s .nil))) (.lst hb (lt60 2) (.cons .s (.cons .s .nil))) q
  refine q_if ?_
  walk_at "s"
  refine ⟨v1, v2, rfl, d1, d2, ?_⟩
  rcases hb with ⟨rfl, h⟩ | ⟨rfl, p1, ms, e1, e2, e3, e4, h⟩
  · refine .inl ⟨h, fun o4 H4 t4 n4 g4 => ?_⟩
    refine told (H5 := H4) g4 (t4 _ _ g3) fun H5 t5 => ?_
    walk_at "s"
    have t35 := sm_trans t4 t5
    refine q_if ?_
    walk_at "s"
    refine ite2 (fun c => absurd c (by decide +kernel)) fun _ => ?_
    refine q_if1 ?_
    walk_at "s"
    have no : ∀ {H' : Hp}, Sm H3 H' → basesOk v1 H' = false := fun s => by
      unfold basesOk at h ⊢
      rw [lstOf_mono s d1.1]
      exact h
    refine ⟨v1, _, rfl, d1.mono t35, ⟨_, rfl⟩, .inl ⟨no t35, fun o6 H6 t6 n6 g6 => ?_⟩⟩
    have t36 := sm_trans t35 t6
    refine told (H5 := H6) g6 (t36 _ _ g3) fun H7 t7 => ?_
    have t37 := sm_trans t36 t7
    walk_at "s"
    refine q_if1 ?_
    walk_at "s"
    refine ⟨v1, _, rfl, d1.mono t37, TyD.no ⟨_, rfl⟩ rfl, .inl ⟨no t37, fun o8 H8 t8 n8 g8 => ?_⟩⟩
    have t38 := sm_trans t37 t8
    refine told (H5 := H8) g8 (t38 _ _ g3) fun H9 t9 => ?_
    have t39 := sm_trans t38 t9
    walk_at "s"
    refine ⟨v1, _, rfl, d1.mono t39, (tw.mono t3).mono t39, .inl ⟨no t39, fun oa Ha ta na ga => ?_⟩⟩
    have t3a := sm_trans t39 ta
    refine told (H5 := Ha) ga (t3a _ _ g3) fun Hb tb => ?_
    have t2b := sm_trans t3 (sm_trans t3a tb)
    exact q Hb (k02.trans (kp_sm t2b)) (s2.sm t2b)
  · refine .inr ⟨p1, ms, e1, e2, e3, e4, .inl ⟨h, fun o4 H4 t4 n4 g4 => ?_⟩⟩
    refine told (H5 := H4) g4 (t4 _ _ g3) fun H5 t5 => ?_
    walk_at "s"
    have t35 := sm_trans t4 t5
    refine q_if ?_
    walk_at "s"
    try refine ite2 (fun _ => ?_) fun c => absurd rfl c
    refine q_asg1 ?_
    walk_at "s"
    refine ⟨by decide, fun o6 n6 => al n6 fun H6 t6 g6 => ?_⟩
    have t36 := sm_trans t35 t6
    refine ⟨v1, _, rfl, d1.mono t36, (tw.mono t3).mono t36, .inr ⟨p1, ms, e1, sm_L t36 e2, e3, e4, .inl ⟨nw, fun oa Ha ta na ga => ?_⟩⟩⟩
    refine told (H5 := Ha) ga (ta _ _ g6) fun Hb tb => ?_
    have t2b := sm_trans t3 (sm_trans t36 (sm_trans ta tb))
    exact q Hb (k02.trans (kp_sm t2b)) (s2.sm t2b)
end XB

/-! The law. -/
namespace XB
open PySem L2
local macro_rules | `(tactic| walk_at "s") => `(tactic| try simp only [u_var, u_c, u_op, u_un, u_nil, u_cons, u_cb, u_call, u_callS, u_tup, u_lst, u_test, u_B, u_and, u_or, u_not, u_andV, u_orV, u_notV, u_ifE, u_chain, u_sl, u_noPart, u_part, u_bm, u_bm0, u_rev, u_lc, u_try, u_sui, u_sui0, u_unb_rt, u_unb_nx, u_xf, u_WE, w_nil, w_cons, u_raise, u_rng1, u_rng2, u_next, u_ret, u_gname, u_gnil, u_gcons, u_gsub, u_gtup,
  f_add, f_addS, f_addR, f_sub, f_mul, f_mulR, f_mod, f_div, f_pow, f_neg, f_cmp, f_eq, f_eqB, f_eqS, f_ne, f_neB, f_neS, f_isN, f_notN, f_isB, f_ix, f_ixS, f_int, f_intB, f_len, f_lenS, f_max, f_min, f_abs, f_list, f_tuple, f_all, f_sum, f_isi, f_isiT, f_append, f_insert, f_pop, f_sl, f_set,
  kitS, tys, List.isEmpty_cons, Option.map_some, kt_NoneType_int, kt_NoneType_bool, kt_NoneType_str, kt_NoneType_list, kt_NoneType_tuple, kt_NoneType_dict, kt_int_int, kt_int_bool, kt_int_str, kt_int_list, kt_int_tuple, kt_int_dict, kt_bool_int, kt_bool_bool, kt_bool_str, kt_bool_list, kt_bool_tuple, kt_bool_dict, kt_str_int, kt_str_bool, kt_str_str, kt_str_list, kt_str_tuple, kt_str_dict, kt_list_int, kt_list_bool, kt_list_str, kt_list_list, kt_list_tuple, kt_list_dict, kt_tuple_int, kt_tuple_bool, kt_tuple_str, kt_tuple_list, kt_tuple_tuple, kt_tuple_dict, kt_dict_int, kt_dict_bool, kt_dict_str, kt_dict_list, kt_dict_tuple, kt_dict_dict, asL_lst, asL_frz, asL_tup, asT_tup, asS_lst, asS_frz, asS_tup, tyN_non, tyN_bl, tyN_int, tyN_str, atV_lit, ixN_lit, upd_same, upd_ne, upd_ne',
  List.getElem?_cons_zero, List.getElem?_cons_succ, List.set_cons_zero, List.set_cons_succ, List.append_nil, List.length_cons, List.length_nil, Option.some.injEq, exists_eq_left', exists_eq_left, exists_and_left, V.bl.injEq, V.int.injEq, V.str.injEq, V.ref.injEq, Bool.not_eq_true, Bool.not_true, Bool.not_false, decide_true, decide_false, decide_eq_true_eq, decide_eq_false_iff_not, Bool.false_eq_true, if_true, if_false, ite_true, ite_false, reduceCtorEq, true_and, and_true, Nat.reduceAdd, Nat.reduceLT, Nat.zero_add, ne_eq, not_false_eq_true, not_true_eq_false, List.cons.injEq, and_assoc])
local macro_rules | `(tactic| walk_at "S") => `(tactic| try simp only [u_var, u_c, u_op, u_un, u_nil, u_cons, u_cb, u_call, u_callS, u_tup, u_lst, u_test, u_B, u_and, u_or, u_not, u_andV, u_orV, u_notV, u_ifE, u_chain, u_sl, u_noPart, u_part, u_bm, u_bm0, u_rev, u_lc, u_try, u_sui, u_sui0, u_unb_rt, u_unb_nx, u_xf, u_WE, w_nil, w_cons, u_raise, u_rng1, u_rng2, u_next, u_ret, u_gname, u_gnil, u_gcons, u_gsub, u_gtup,
  f_add, f_addS, f_addR, f_sub, f_mul, f_mulR, f_mod, f_div, f_pow, f_neg, f_cmp, f_eq, f_eqB, f_eqS, f_ne, f_neB, f_neS, f_isN, f_notN, f_isB, f_ix, f_ixS, f_int, f_intB, f_len, f_lenS, f_max, f_min, f_abs, f_list, f_tuple, f_all, f_sum, f_isi, f_isiT, f_append, f_insert, f_pop, f_sl, f_set,
  kitS, tys, List.isEmpty_cons, Option.map_some, kt_NoneType_int, kt_NoneType_bool, kt_NoneType_str, kt_NoneType_list, kt_NoneType_tuple, kt_NoneType_dict, kt_int_int, kt_int_bool, kt_int_str, kt_int_list, kt_int_tuple, kt_int_dict, kt_bool_int, kt_bool_bool, kt_bool_str, kt_bool_list, kt_bool_tuple, kt_bool_dict, kt_str_int, kt_str_bool, kt_str_str, kt_str_list, kt_str_tuple, kt_str_dict, kt_list_int, kt_list_bool, kt_list_str, kt_list_list, kt_list_tuple, kt_list_dict, kt_tuple_int, kt_tuple_bool, kt_tuple_str, kt_tuple_list, kt_tuple_tuple, kt_tuple_dict, kt_dict_int, kt_dict_bool, kt_dict_str, kt_dict_list, kt_dict_tuple, kt_dict_dict, asL_lst, asL_frz, asL_tup, asT_tup, asS_lst, asS_frz, asS_tup, tyN_non, tyN_bl, tyN_int, tyN_str, atV_lit, ixN_lit, upd_same, upd_ne, upd_ne',
  List.getElem?_cons_zero, List.getElem?_cons_succ, List.set_cons_zero, List.set_cons_succ, List.append_nil, List.length_cons, List.length_nil, Option.some.injEq, exists_eq_left', exists_eq_left, exists_and_left, V.bl.injEq, V.int.injEq, V.str.injEq, V.ref.injEq, Bool.not_eq_true, Bool.not_true, Bool.not_false, decide_true, decide_false, decide_eq_true_eq, decide_eq_false_iff_not, Bool.false_eq_true, if_true, if_false, ite_true, ite_false, reduceCtorEq, true_and, and_true, Nat.reduceAdd, Nat.reduceLT, Nat.zero_add, ne_eq, not_false_eq_true, not_true_eq_false, List.cons.injEq, and_assoc, *])
def sp_l_kept (K : PySem.W.Frag) (C : CA) : Sp := fun vs H Q _ => ∃ (p : Addr) (i j : Int), vs = [.int i, .ref p] ∧ H p = some (.tup [.non, .bl true, .int j]) ∧ ∀ H', Sm H H' → Q (.bl true) H'
def rd_l_kept (K : PySem.W.Frag) (C : CA) (E : XK) : TS :=
  (tSeq (tTryX K (fun W => (tRaiseF C.NoRank [("number" : Str), ("limit" : Str)] (W) (tCons (tVar 0) (tCons (tVar 1) tNil)))) (fun _ _ _ _ => False) ((.ref C.NoRank, some 2, fun a cls d => (tIfS (tNot (tB (tCallS (sp_l_same K C) (fun _ => E0) (tCons (tLst (tCons (tXf a cls d C.NoRank ("number" : Str) (tVar 2)) (tCons (tXf a cls d C.NoRank ("limit" : Str) (tVar 2)) tNil))) (tCons (tLst (tCons (tVar 0) (tCons (tVar 1) tNil))) tNil))))) (tRet (tC (.bl false))) tNext)) :: [])) (tSeq (tTryX K (fun W => (tRaiseF C.BadShape [("parameter" : Str)] (W) (tCons (tVar 0) tNil))) (fun _ _ _ _ => False) ((.ref C.BadShape, some 2, fun a cls d => (tRet (tCallS (sp_l_same K C) (fun _ => E0) (tCons (tXf a cls d C.BadShape ("parameter" : Str) (tVar 2)) (tCons (tVar 0) tNil))))) :: [])) (tRet (tC (.bl false)))))
theorem pure_l_kept {K : PySem.W.Frag} {C : CA} (F : EF K C) (vs : List V) (H : Hp) (Q : VK) (E : XK) (h : sp_l_kept K C vs H Q E) : rd_l_kept K C E { nx := fun _ H' => Q .non H', rt := Q } (start [("one" : Str), ("two" : Str), ("e" : Str)] vs) H := by
  obtain ⟨p, i, j, rfl, h1, q⟩ := h
  show rd_l_kept K C E _ [some (.int i), some (.ref p), none] H
  unfold rd_l_kept
  refine q_seq ?_
  walk_at "s"
  refine ⟨by decide, fun d H1 nd hd s1 => ?_⟩
  have f1 : (flds [("number" : Str), ("limit" : Str)] [V.int i, V.ref p] []).lookup ("number" : Str) = some (.int i) := lk2 (by decide +kernel) lk1
  have f2 : (flds [("number" : Str), ("limit" : Str)] [V.int i, V.ref p] []).lookup ("limit" : Str) = some (.ref p) := lk1
  have h2 := s1 _ _ h1
  refine wX_yes F.x_nn fun a na => ?_
  walk_at "s"
  refine q_if1 ?_
  walk_at "s"
  refine ⟨_, hd, _, f1, _, hd, _, f2, by decide, fun o2 n2 => al n2 fun H2 t2 g2 => ⟨by decide, fun o3 n3 => al n3 fun H3 t3 g3 => ?_⟩⟩
  have tup : ∀ {H' : Hp} {n : Nat}, H' p = some (.tup [.non, .bl true, .int j]) → Rp H' (n + 1) (.ref p) (.tuple [.none, .bool true, .int j]) := fun h => .tup h (lt60 3) (.cons (.flat (.inl ⟨rfl, rfl⟩)) (.cons (.flat (.inr (.inl ⟨_, rfl, rfl⟩))) (.cons .i .nil)))
  have h4 := t3 _ _ (t2 _ _ h2)
  refine same_ok (.list [.int i, .tuple [.none, .bool true, .int j]]) (.lst (t3 _ _ g2) (lt60 2) (.cons .i (.cons (tup h4) .nil))) (.lst g3 (lt60 2) (.cons .i (.cons (tup h4) .nil))) fun H4 t4 => ?_
  walk_at "s"
  refine q_seq ?_
  walk_at "s"
  refine ⟨by decide, fun d5 H5 nd5 hd5 s5 => ?_⟩
  have f3 : (flds [("parameter" : Str)] [V.int i] []).lookup ("parameter" : Str) = some (.int i) := lk1
  refine wX_yes F.x_bb fun a5 na5 => ?_
  walk_at "s"
  refine ⟨_, hd5, _, f3, ?_⟩
  refine same_ok (.int i) .i .i fun H6 t6 => ?_
  exact q H6 (sm_trans s1 (sm_trans t2 (sm_trans t3 (sm_trans t4 (sm_trans s5 t6)))))
theorem zeros_eq {n : Nat} : (List.replicate n [V.int 0]).flatten = (List.replicate n (0 : Int)).map V.int := by
  induction n with
  | zero => rfl
  | succ n ih => rw [List.replicate_succ, List.flatten_cons, ih, List.replicate_succ, List.map_cons]; rfl
theorem digits_top : ∀ {ns : List Int}, (∀ n ∈ ns, 1 ≤ n ∧ n ≤ 1000) → digitsIn ((ns.map (· - 1)).map V.int) ns = true
  | [], _ => rfl
  | n :: ns, h => by
    have b := h n List.mem_cons_self
    have ih := digits_top (ns := ns) fun k hk => h k (List.mem_cons_of_mem _ hk)
    simp only [List.map_cons, digitsIn, Bool.and_eq_true, decide_eq_true_eq]
    exact ⟨⟨by omega, by omega⟩, ih⟩
theorem digits_zero : ∀ {ns : List Int}, (∀ n ∈ ns, 1 ≤ n ∧ n ≤ 1000) → digitsIn ((List.replicate ns.length (0 : Int)).map V.int) ns = true
  | [], _ => rfl
  | n :: ns, h => by
    have b := h n List.mem_cons_self
    have ih := digits_zero (ns := ns) fun k hk => h k (List.mem_cons_of_mem _ hk)
    simp only [List.length_cons, List.replicate_succ, List.map_cons, digitsIn, Bool.and_eq_true, decide_eq_true_eq]
    exact ⟨⟨by omega, by omega⟩, ih⟩
def sp_law (K : PySem.W.Frag) (C : CA) : Sp := fun vs H Q _ => ∃ (a : Addr) (ns : List Int), vs = [.ref a] ∧ SqL K H a (ns.map V.int) ∧ ns.length ≤ 63 ∧ ∀ H', Q (.bl true) H'
def rd_law (K : PySem.W.Frag) (C : CA) (E : XK) : TS :=
  (tSeq (tAsg (tCallS (sp_l_store K C) (fun _ => E0) (tCons (tVar 0) tNil)) (gName 1)) (tSeq (tAsg (tLst (tCons (tCallS (sp_l_bases K C) (fun _ => E0) (tCons (tVar 1) tNil)) (tCons (tCallS (sp_l_bases K C) (fun _ => E0) (tCons (tVar 1) tNil)) tNil))) (gName 2)) (tSeq (tFor (iList K (tOp fAdd (tVar 2) (tVar 2))) (gName 3) (tSeq (tAsg (tVar 3) (gTupF 2 (gCons (gName 4) (gCons (gName 5) gNil)))) (tSeq (tFor (iList K (tLst (tCons (tVar 5) (tCons (tLc (iList K (tVar 4)) (gName 10) tYes (tOp fSub (tVar 10) (tC (.int 1))) [10]) (tCons (tOp fMul (tLst (tCons (tC (.int 0)) tNil)) (tCB fLen (tCons (tVar 4) tNil))) tNil))))) (gName 6) (tIfS (tNot (tB (tCallS (sp_l_there_and_back K C) (fun _ => E0) (tCons (tVar 4) (tCons (tVar 6) tNil))))) (tRet (tC (.bl false))) tNext)) (tSeq (tAsg (tOp fIx (tCallS (sp_l_weights K C) (fun _ => E0) (tCons (tVar 4) tNil)) (tC (.int 1))) (gName 7)) (tSeq (tAsg (tLst (tCons (tC (.int 0)) (tCons (tCB fAbs (tCons (tCallS (sp_l_number K C) (fun _ => E0) (tCons (tVar 1) tNil)) tNil)) tNil))) (gName 8)) (Evl.tCut (tIfS (tTest (tOp fLt (tVar 7) (tOp fSub (tOp fPow (tC (.int 10)) (tC (.int 30))) (tC (.int 1))))) (tAsg (tOp fAdd (tVar 8) (tLst (tCons (tOp fSub (tVar 7) (tC (.int 1))) (tCons (tVar 7) (tCons (tCallS (sp_l_near K C) (fun _ => E0) (tCons (tVar 1) (tCons (tVar 7) tNil))) (tCons (tCallS (sp_l_near K C) (fun _ => E0) (tCons (tVar 1) (tCons (tVar 7) tNil))) tNil)))))) (gName 8)) tNext) (tSeq (tFor (iList K (tVar 8)) (gName 9) (tIfS (tNot (tB (tCallS (sp_l_reads K C) (fun _ => E0) (tCons (tVar 4) (tCons (tVar 9) tNil))))) (tRet (tC (.bl false))) tNext)) (tIfS (tNot (tB (tCallS (sp_l_refuses K C) (fun _ => E0) (tCons (tVar 1) (tCons (tVar 3) tNil))))) (tRet (tC (.bl false))) tNext)))))))) (tRet (tCallS (sp_l_kept K C) (fun _ => E0) (tCons (tCallS (sp_l_number K C) (fun _ => E0) (tCons (tVar 1) tNil)) (tCons (tTup (tCons (tC .non) (tCons (tC (.bl true)) (tCons (tCallS (sp_l_number K C) (fun _ => E0) (tCons (tVar 1) tNil)) tNil)))) tNil)))))))
theorem pure_law {K : PySem.W.Frag} {C : CA} (vs : List V) (H : Hp) (Q : VK) (E : XK) (h : sp_law K C vs H Q E) : rd_law K C E { nx := fun _ H' => Q .non H', rt := Q } (start [("script" : Str), ("store" : Str), ("pairs" : Str), ("pair" : Str), ("bases" : Str), ("digits" : Str), ("row" : Str), ("product" : Str), ("numbers" : Str), ("number" : Str), ("base" : Str)] vs) H := by
  obtain ⟨a, ns, rfl, ha, hn, q⟩ := h
  show rd_law K C E _ [some (.ref a), none, none, none, none, none, none, none, none, none, none] H
  unfold rd_law
  refine q_asg ?_
  walk_at "s"
  refine ⟨a, ns, rfl, ha, hn, fun st H1 t1 ne1 s1 => ?_⟩
  refine q_asg ?_
  walk_at "s"
  refine ⟨st, rfl, s1, fun pa nsa dsa H2 k2 s2 pra => ⟨st, rfl, s2, fun pb nsb dsb H3 k3 s3 prb => ?_⟩⟩
  walk_at "s"
  refine ⟨by decide, fun op np => al np fun H4 t4 g4 => ?_⟩
  refine q_for ?_
  rw [u_list]
  walk_at "s"
  simp only [g4]
  refine ⟨by show 2 + 2 ≤ 2 ^ 24; decide, fun o5 n5 => al n5 fun H5 t5 g5 => ?_⟩
  have t35 := sm_trans t4 t5
  have s5 := s3.sm t35
  have prb5 : Pair H5 pb nsb dsb := prb.kp s3 (kp_sm t35)
  have pra5 : Pair H5 pa nsa dsa := (pra.kp s2 k3).kp s3 (kp_sm t35)
  have no5 : o5 ≠ st := (s3.sm t4).ne n5
  refine ⟨⟨[V.ref pa, V.ref pb, V.ref pa, V.ref pb], asL_seq (asL_at g5)⟩, ?_⟩
  refine loop_list (xs := [V.ref pa, V.ref pb, V.ref pa, V.ref pb]) (fun i σ H' => ∃ v3 v4 v5 v6 v7 v8 v9 v10 : Option V, σ = [some (.ref a), some (.ref st), some (.ref op), v3, v4, v5, v6, v7, v8, v9, v10] ∧ Kp st H5 H' ∧ StAt H' st) ⟨_, _, _, _, _, _, _, _, rfl, Kp.refl _ _, s5⟩
    (fun i σ H' _ ⟨_, _, _, _, _, _, _, _, _, k, _⟩ => asL_at (k.1 _ _ no5 g5)) ?_ ?_
  · rintro i x σ H6 hx ⟨v3, v4, v5, v6, v7, v8, v9, v10, rfl, k6, s6⟩
    obtain ⟨pr, ms, es, rfl, pp⟩ : ∃ (pr : Addr) (ms es : List Int), x = .ref pr ∧ Pair H6 pr ms es := by
      match i, hx with
      | 0, hx => cases hx; exact ⟨_, _, _, rfl, pra5.kp s5 k6⟩
      | 1, hx => cases hx; exact ⟨_, _, _, rfl, prb5.kp s5 k6⟩
      | 2, hx => cases hx; exact ⟨_, _, _, rfl, pra5.kp s5 k6⟩
      | 3, hx => cases hx; exact ⟨_, _, _, rfl, prb5.kp s5 k6⟩
      | _ + 4, hx => simp at hx
    obtain ⟨p1, p2, ht, h1, h2, l1, bn, dn⟩ := id pp
    have np1 := ints_ne s6 h1
    have ll := digitsIn_len dn
    walk_at "s"
    refine q_asg ?_
    walk_at "s"
    have tg : asT (H6 pr) = some [V.ref p1, V.ref p2] := by rw [ht]; rfl
    simp only [tg]
    walk_at "s"
    refine q_for ?_
    rw [u_list]
    walk_at "s"
    rw [u_list]
    walk_at "s"
    refine ⟨⟨_, asL_seq (asL_at h1)⟩, fun Dd hD => ?_⟩
    refine made_mapS (fun v => match v with | .int n => .int (n - 1) | v => v) (fun H' s => asL_seq (asL_at (s _ _ h1))) hD (by rw [List.length_map]; show _ < 2 ^ 24; omega) (fun _ => rfl) (fun i x H7 Q1 hx t7 q1 => ?_) fun H7 t7 g7 => ?_
    · obtain ⟨n, hn, rfl⟩ := get_int hx
      walk_at "s"
      exact q1 H7 fun _ _ z => z
    have g7 : H7 Dd = some (.lst ((ms.map (· - 1)).map V.int)) := by
      rw [g7, List.map_map, List.map_map]
      rfl
    refine ⟨by decide, fun o8 n8 => al n8 fun H8 t8 g8 => ?_⟩
    have t68 := sm_trans t7 t8
    simp only [asS_at (t68 _ _ h1)]
    have ez : ((((ms.map V.int).length : Nat) : Int)).toNat = ms.length := by rw [List.length_map]; omega
    rw [ez, zeros_eq]
    rw [List.length_map]
    refine ⟨by omega, by omega, by rw [Nat.one_mul]; show _ ≤ 2 ^ 24; omega, fun o9 n9 => al n9 fun H9 t9 g9 => ?_⟩
    refine ⟨by decide, fun oa na => al na fun Ha ta ga => ?_⟩
    have t6a := sm_trans t68 (sm_trans t9 ta)
    have gD := ta _ _ (t9 _ _ (t8 _ _ g7))
    have gZ := ta _ _ g9
    have gH := t6a _ _ h1
    refine ⟨⟨_, asL_seq (asL_at ga)⟩, ?_⟩
    refine loop_list (xs := [V.ref p2, V.ref Dd, V.ref o9]) (fun i σ H' => ∃ v6 : Option V, σ = [some (.ref a), some (.ref st), some (.ref op), some (.ref pr), some (.ref p1), some (.ref p2), v6, v7, v8, v9, v10] ∧ Sm Ha H') ⟨_, rfl, fun _ _ z => z⟩
      (fun i σ H' _ ⟨_, _, k⟩ => asL_at (k _ _ ga)) ?_ ?_
    · rintro i x σ Hb hx ⟨v6', rfl, tb⟩
      obtain ⟨pe, fs, rfl, hf, hd⟩ : ∃ (pe : Addr) (fs : List Int), x = .ref pe ∧ Ha pe = some (.lst (fs.map V.int)) ∧ digitsIn (fs.map V.int) ms = true := by
        match i, hx with
        | 0, hx => cases hx; exact ⟨_, _, rfl, t6a _ _ h2, dn⟩
        | 1, hx => cases hx; exact ⟨_, _, rfl, gD, digits_top bn⟩
        | 2, hx => cases hx; exact ⟨_, _, rfl, gZ, digits_zero bn⟩
        | _ + 3, hx => simp at hx
      walk_at "s"
      refine q_if1 ?_
      walk_at "s"
      refine ⟨p1, pe, ms, fs, rfl, tb _ _ gH, tb _ _ hf, l1, bn, hd, fun Hc tc => ?_⟩
      walk_at "s"
      exact sm_trans tb tc
    · rintro σ Hb ⟨v6', rfl, tb⟩
      have t6b := sm_trans t6a tb
      walk_at "s"
      refine q_asg ?_
      walk_at "s"
      refine ⟨p1, ms, rfl, asL_at (t6b _ _ h1), l1, bn, fun oc od Hc tc gd gc => ?_⟩
      walk_at "s"
      simp only [asS_at gc]
      walk_at "s"
      have t6c := sm_trans t6b tc
      have sc := s6.sm t6c
      have pos : 0 < prodL ms.reverse := prodL_pos fun n hn => bn n (List.mem_reverse.1 hn)
      refine q_asg ?_
      walk_at "s"
      refine number_ok sc fun r Hd _ _ kd sd => ?_
      walk_at "s"
      have mp : 0 ≤ (if r < 0 then -r else r) := by split <;> omega
      generalize (if r < 0 then -r else r) = m at mp ⊢
      refine ⟨by decide, fun oe nE => al nE fun He te ge => ?_⟩
      have ke : Kp st Hc He := kd.trans (kp_sm te)
      have se := sd.sm te
      generalize prodL ms.reverse = pd at pos ⊢
      refine ⟨fun σ H' => ∃ (on : Addr) (xs : List Int), σ = [some (.ref a), some (.ref st), some (.ref op), some (.ref pr), some (.ref p1), some (.ref p2), v6', some (.int pd), some (.ref on), v9, v10] ∧ Kp st Hc H' ∧ StAt H' st ∧ H' on = some (.lst (xs.map V.int)) ∧ ∀ m ∈ xs, 0 ≤ m, q_if1 ?_, ?_⟩
      · walk_at "s"
        refine ⟨⟨by decide, by decide, by decide⟩, ?_⟩
        refine ite2 (fun c => ?_) fun c => ?_
        · refine q_asg1 ?_
          walk_at "s"
          refine ⟨st, _, rfl, se, by omega, fun x Hf x0 kf sf => ?_⟩
          refine ⟨st, _, rfl, sf, by omega, fun y Hg y0 kg sg => ?_⟩
          have ge' := kg.1 _ _ (sd.ne nE) (kf.1 _ _ (sd.ne nE) ge)
          refine ⟨by decide, fun oh nh => al nh fun Hh th gh => ?_⟩
          simp only [th _ _ ge', gh]
          refine ⟨by show 2 + 4 ≤ 2 ^ 24; decide, fun oi ni => al ni fun Hi ti gi => ?_⟩
          have kk := ke.trans (kf.trans (kg.trans (kp_sm (sm_trans th ti))))
          refine ⟨kk, sg.sm (sm_trans th ti), [0, m, pd - 1, pd, x, y], by first | rfl | exact gi, ?_⟩
          intro k hk
          simp only [List.mem_cons, List.not_mem_nil, or_false] at hk
          omega
        · walk_at "s"
          refine ⟨ke, se, [0, m], by first | rfl | exact ge, ?_⟩
          intro k hk
          simp only [List.mem_cons, List.not_mem_nil, or_false] at hk
          omega
      · rintro σ Hf ⟨on, xs, rfl, kf, sf, gf, xp⟩
        have n1c := ints_ne sc (t6c _ _ h1)
        have h1f := kf.1 _ _ n1c (t6c _ _ h1)
        refine q_for ?_
        rw [u_list]
        walk_at "s"
        refine ⟨⟨_, asL_seq (asL_at gf)⟩, ?_⟩
        refine loop_list (xs := xs.map V.int) (fun i σ H' => ∃ v9' : Option V, σ = [some (.ref a), some (.ref st), some (.ref op), some (.ref pr), some (.ref p1), some (.ref p2), v6', some (.int pd), some (.ref on), v9', v10] ∧ Sm Hf H') ⟨_, rfl, fun _ _ z => z⟩
          (fun i σ H' _ ⟨_, _, k⟩ => asL_at (k _ _ gf)) ?_ ?_
        · rintro i x σ Hg hx ⟨v9', rfl, tg⟩
          obtain ⟨n, hn, rfl⟩ := get_int hx
          have n0 := xp n (List.mem_of_getElem? hn)
          walk_at "s"
          refine q_if1 ?_
          walk_at "s"
          refine ⟨p1, ms, n, rfl, tg _ _ h1f, l1, bn, n0, fun Hh th => ?_⟩
          walk_at "s"
          exact sm_trans tg th
        · rintro σ Hg ⟨v9', rfl, tg⟩
          walk_at "s"
          refine q_if1 ?_
          walk_at "s"
          have ppg : Pair Hg pr ms es := ((pp.kp s6 (kp_sm t6c)).kp sc kf).kp sf (kp_sm tg)
          refine ⟨st, pr, ms, es, rfl, sf.sm tg, ppg, fun Hh kh sh => ?_⟩
          walk_at "s"
          exact ⟨k6.trans ((kp_sm t6c).trans (kf.trans ((kp_sm tg).trans kh))), sh⟩
  · rintro σ H6 ⟨v3, v4, v5, v6, v7, v8, v9, v10, rfl, k6, s6⟩
    walk_at "s"
    refine number_ok s6 fun r H7 _ _ k7 s7 => ?_
    refine number_ok s7 fun r2 H8 _ _ k8 s8 => ?_
    refine ⟨by decide, fun o9 n9 => al n9 fun H9 t9 g9 => ?_⟩
    exact ⟨o9, r, r2, rfl, g9, fun H' _ => q H'⟩
end XB

/-! Each def holds what it promises. -/
namespace XB
open PySem PySem.Spec PyProof.Rows L2
def top (i : Nat) : Stmt := PySem.Challenge.pw_crossfarers_k08_mixed_numbers.main.body.getD i (.Pass ⟨0, 0, 0, 0⟩)
/-- a def of the text -/
structure Dfn (K : PySem.W.Frag) (mg : Str → Option Value) (x qual : Str) (st : Stmt) (ps : List Str) where
  f : Addr
  fd : FuncData
  mg : mg x = some (.ref f)
  fn : Fun K x qual st f fd
  bi : Binds K fd ps []
/-- an error's class and its __init__ -/
structure Ini (K : PySem.W.Frag) (C : Addr) (qual : Str) (st : Stmt) (ps names : List Str) where
  f : Addr
  fd : FuncData
  ex : OexC K C
  iC : PySem.W.findIn K (.ref C) "__init__" = some (some (.ref f))
  tI : PySem.W.typeIn K (.ref f) = some (.type "function")
  fn : Fun K "__init__" qual st f fd
  bi : Binds K fd ps []
  ec : ExcC K C
  xf : XfC K C
  no : ∀ n ∈ names, PySem.W.findIn K (.ref C) n = some none
theorem hot_of {X : Cx} {a : Addr} {oe : Obj} {cls : Value} {d : Option Addr} {pn : List (Addr × Obj)} (hz : L2N.Zn cls d oe) (hf : ∃ fv, oe.data = .fields fv) : L2H.HotC (X.suite a ((a, oe) :: pn)) := by
  obtain ⟨vs, e⟩ := hf
  exact ⟨(a, oe), ⟨rfl, vs, e, hz.2.2 vs e⟩, List.mem_cons_self⟩
theorem hu_H {k : Nat} {A : Around} (r : L2H.RoomH k A) : A.units + 64 < cLine := by have := r.un; omega
theorem no_fn {P : Program} {w : World} {K : PySem.W.Frag} {mg : Str → Option Value} {base : Heap} {CX : CXT} {k : Nat} {f : Addr} {fd : FuncData} {ps : List Str} : FnOk P w K mg base CX k f fd ps (fun _ _ _ _ => False) :=
  ⟨fun _ _ _ _ h => h.elim, fun _ _ _ _ _ _ _ _ _ _ _ _ _ h => h.elim⟩
theorem no_fnH {P : Program} {w : World} {K : PySem.W.Frag} {mg : Str → Option Value} {base : Heap} {CX : CXT} {k : Nat} {f : Addr} {fd : FuncData} {ps : List Str} : L2H.FnH P w K mg base CX k f fd ps (fun _ _ _ _ => False) :=
  ⟨fun _ _ _ _ h => h.elim, fun _ _ _ _ _ _ _ _ _ _ _ _ _ _ _ _ h => h.elim⟩
theorem okH {P : Program} {w : World} {K : PySem.W.Frag} {mg : Str → Option Value} {base : Heap} {x qual : Str} {st : Stmt} {f : Addr} {fd : FuncData} {N ps : List Str} {k : Nat} {sp : Sp} (F : Fun K x qual st f fd) (S : FnScope N ps (defScope st))
    (len : ∀ vs H Q E, sp vs H Q E → vs.length = ps.length)
    (hbody : ∀ (cdv : Value) (A : Around) (outer : List Env) (s : Shared) (H : Hp) (vs : List V) (Q : VK) (E : XK) (p : Addr × Obj), L2H.Hot1 A p → L2H.RoomH k (A.deeper (envOfC qual (defScope st) s.heap.objs.size f cdv)) → sp vs H Q E →
      ∃ t, PSs (L2H.cxH CX0 P w K mg base N qual (defScope st) f cdv A outer s H E p) (defBody st) t ∧ t { nx := fun _ H' => Q .non H', rt := Q } (start N vs) H) : L2H.FnH P w K mg base CX0 (k + 1) f fd ps sp := by
  obtain ⟨oc, od, kV, doc, pm, an, cdv, ct, osl, rfl, lk, hcd⟩ := F.ex
  exact L2H.fn_ofH lk hcd S len fun A outer s H vs Q E p hot hr hsp => hbody cdv A outer s H vs Q E p hot hr hsp
abbrev s_BadShape_init : Stmt := inClass (top 2) 0
abbrev sN_BadShape_init : List Str := [("self" : Str), ("parameter" : Str)]
theorem sc_BadShape_init : FnScope sN_BadShape_init [("self" : Str), ("parameter" : Str)] (defScope s_BadShape_init) := ⟨rfl, rfl, rfl, by decide +kernel, rfl, by decide +kernel, by decide +kernel⟩
abbrev s_NoRank_init : Stmt := inClass (top 4) 0
abbrev sN_NoRank_init : List Str := [("self" : Str), ("number" : Str), ("limit" : Str)]
theorem sc_NoRank_init : FnScope sN_NoRank_init [("self" : Str), ("number" : Str), ("limit" : Str)] (defScope s_NoRank_init) := ⟨rfl, rfl, rfl, by decide +kernel, rfl, by decide +kernel, by decide +kernel⟩
abbrev s_is_whole : Stmt := top 6
abbrev sN_is_whole : List Str := [("value" : Str)]
theorem sc_is_whole : FnScope sN_is_whole [("value" : Str)] (defScope s_is_whole) := ⟨rfl, rfl, rfl, by decide +kernel, rfl, by decide +kernel, by decide +kernel⟩
abbrev s_is_number : Stmt := top 7
abbrev sN_is_number : List Str := [("value" : Str)]
theorem sc_is_number : FnScope sN_is_number [("value" : Str)] (defScope s_is_number) := ⟨rfl, rfl, rfl, by decide +kernel, rfl, by decide +kernel, by decide +kernel⟩
abbrev s_check : Stmt := top 9
abbrev sN_check : List Str := [("fits" : Str), ("parameter" : Str)]
theorem sc_check : FnScope sN_check [("fits" : Str), ("parameter" : Str)] (defScope s_check) := ⟨rfl, rfl, rfl, by decide +kernel, rfl, by decide +kernel, by decide +kernel⟩
abbrev s_mixed_number : Stmt := top 13
abbrev sN_mixed_number : List Str := [("bases" : Str), ("digits" : Str), ("value" : Str), ("base" : Str), ("digit" : Str)]
theorem sc_mixed_number : FnScope sN_mixed_number [("bases" : Str), ("digits" : Str)] (defScope s_mixed_number) := ⟨rfl, rfl, rfl, by decide +kernel, rfl, by decide +kernel, by decide +kernel⟩
abbrev s_mixed_digits : Stmt := top 14
abbrev sN_mixed_digits : List Str := [("bases" : Str), ("number" : Str), ("digits" : Str), ("left" : Str), ("limit" : Str), ("base" : Str)]
theorem sc_mixed_digits : FnScope sN_mixed_digits [("bases" : Str), ("number" : Str)] (defScope s_mixed_digits) := ⟨rfl, rfl, rfl, by decide +kernel, rfl, by decide +kernel, by decide +kernel⟩
abbrev s_are_bases : Stmt := top 15
abbrev sN_are_bases : List Str := [("value" : Str), ("base" : Str)]
theorem sc_are_bases : FnScope sN_are_bases [("value" : Str)] (defScope s_are_bases) := ⟨rfl, rfl, rfl, by decide +kernel, rfl, by decide +kernel, by decide +kernel⟩
abbrev s_are_digits : Stmt := top 16
abbrev sN_are_digits : List Str := [("value" : Str), ("bases" : Str), ("base" : Str), ("digit" : Str)]
theorem sc_are_digits : FnScope sN_are_digits [("value" : Str), ("bases" : Str)] (defScope s_are_digits) := ⟨rfl, rfl, rfl, by decide +kernel, rfl, by decide +kernel, by decide +kernel⟩
abbrev s_l_mixed : Stmt := top 18
abbrev sN_l_mixed : List Str := [("cell" : Str), ("k" : Str), ("first" : Str), ("second" : Str)]
theorem sc_l_mixed : FnScope sN_l_mixed [("cell" : Str), ("k" : Str)] (defScope s_l_mixed) := ⟨rfl, rfl, rfl, by decide +kernel, rfl, by decide +kernel, by decide +kernel⟩
abbrev s_l_store : Stmt := top 19
abbrev sN_l_store : List Str := [("script" : Str), ("cell" : Str), ("cells" : Str), ("seed" : Str)]
theorem sc_l_store : FnScope sN_l_store [("script" : Str)] (defScope s_l_store) := ⟨rfl, rfl, rfl, by decide +kernel, rfl, by decide +kernel, by decide +kernel⟩
abbrev s_l_take : Stmt := top 20
abbrev sN_l_take : List Str := [("store" : Str), ("many" : Str), ("base" : Str), ("cell" : Str), ("digit" : Str)]
theorem sc_l_take : FnScope sN_l_take [("store" : Str), ("many" : Str)] (defScope s_l_take) := ⟨rfl, rfl, rfl, by decide +kernel, rfl, by decide +kernel, by decide +kernel⟩
abbrev s_l_great : Stmt := top 21
abbrev sN_l_great : List Str := [("store" : Str), ("many" : Str), ("number" : Str), ("k" : Str)]
theorem sc_l_great : FnScope sN_l_great [("store" : Str), ("many" : Str)] (defScope s_l_great) := ⟨rfl, rfl, rfl, by decide +kernel, rfl, by decide +kernel, by decide +kernel⟩
abbrev s_l_edge : Stmt := top 22
abbrev sN_l_edge : List Str := [("store" : Str), ("low" : Str), ("high" : Str), ("form" : Str)]
theorem sc_l_edge : FnScope sN_l_edge [("store" : Str), ("low" : Str), ("high" : Str)] (defScope s_l_edge) := ⟨rfl, rfl, rfl, by decide +kernel, rfl, by decide +kernel, by decide +kernel⟩
abbrev s_l_number : Stmt := top 23
abbrev sN_l_number : List Str := [("store" : Str), ("top" : Str), ("form" : Str)]
theorem sc_l_number : FnScope sN_l_number [("store" : Str)] (defScope s_l_number) := ⟨rfl, rfl, rfl, by decide +kernel, rfl, by decide +kernel, by decide +kernel⟩
abbrev s_l_near : Stmt := top 24
abbrev sN_l_near : List Str := [("store" : Str), ("limit" : Str), ("form" : Str)]
theorem sc_l_near : FnScope sN_l_near [("store" : Str), ("limit" : Str)] (defScope s_l_near) := ⟨rfl, rfl, rfl, by decide +kernel, rfl, by decide +kernel, by decide +kernel⟩
abbrev s_l_no_number : Stmt := top 25
abbrev sN_l_no_number : List Str := [("store" : Str), ("row" : Str)]
theorem sc_l_no_number : FnScope sN_l_no_number [("store" : Str)] (defScope s_l_no_number) := ⟨rfl, rfl, rfl, by decide +kernel, rfl, by decide +kernel, by decide +kernel⟩
abbrev s_l_pick : Stmt := top 26
abbrev sN_l_pick : List Str := [("store" : Str), ("row" : Str)]
theorem sc_l_pick : FnScope sN_l_pick [("store" : Str), ("row" : Str)] (defScope s_l_pick) := ⟨rfl, rfl, rfl, by decide +kernel, rfl, by decide +kernel, by decide +kernel⟩
abbrev s_l_int : Stmt := top 27
abbrev sN_l_int : List Str := [("value" : Str)]
theorem sc_l_int : FnScope sN_l_int [("value" : Str)] (defScope s_l_int) := ⟨rfl, rfl, rfl, by decide +kernel, rfl, by decide +kernel, by decide +kernel⟩
abbrev s_l_same : Stmt := top 28
abbrev sN_l_same : List Str := [("one" : Str), ("other" : Str), ("key" : Str), ("k" : Str), ("alike" : Str), ("found" : Str)]
theorem sc_l_same : FnScope sN_l_same [("one" : Str), ("other" : Str)] (defScope s_l_same) := ⟨rfl, rfl, rfl, by decide +kernel, rfl, by decide +kernel, by decide +kernel⟩
abbrev s_l_spoil : Stmt := top 29
abbrev sN_l_spoil : List Str := [("value" : Str), ("key" : Str), ("part" : Str)]
theorem sc_l_spoil : FnScope sN_l_spoil [("value" : Str)] (defScope s_l_spoil) := ⟨rfl, rfl, rfl, by decide +kernel, rfl, by decide +kernel, by decide +kernel⟩
abbrev s_l_bases : Stmt := top 30
abbrev sN_l_bases : List Str := [("store" : Str), ("many" : Str), ("bases" : Str), ("digits" : Str), ("k" : Str), ("base" : Str)]
theorem sc_l_bases : FnScope sN_l_bases [("store" : Str)] (defScope s_l_bases) := ⟨rfl, rfl, rfl, by decide +kernel, rfl, by decide +kernel, by decide +kernel⟩
abbrev s_l_bad_bases : Stmt := top 31
abbrev sN_l_bad_bases : List Str := [("store" : Str), ("pair" : Str), ("bases" : Str), ("digits" : Str), ("form" : Str), ("at" : Str)]
theorem sc_l_bad_bases : FnScope sN_l_bad_bases [("store" : Str), ("pair" : Str)] (defScope s_l_bad_bases) := ⟨rfl, rfl, rfl, by decide +kernel, rfl, by decide +kernel, by decide +kernel⟩
abbrev s_l_number_told : Stmt := top 32
abbrev sN_l_number_told : List Str := [("bases" : Str), ("digits" : Str), ("e" : Str)]
theorem sc_l_number_told : FnScope sN_l_number_told [("bases" : Str), ("digits" : Str)] (defScope s_l_number_told) := ⟨rfl, rfl, rfl, by decide +kernel, rfl, by decide +kernel, by decide +kernel⟩
abbrev s_l_digits_told : Stmt := top 33
abbrev sN_l_digits_told : List Str := [("bases" : Str), ("number" : Str), ("e" : Str)]
theorem sc_l_digits_told : FnScope sN_l_digits_told [("bases" : Str), ("number" : Str)] (defScope s_l_digits_told) := ⟨rfl, rfl, rfl, by decide +kernel, rfl, by decide +kernel, by decide +kernel⟩
abbrev s_l_weights : Stmt := top 34
abbrev sN_l_weights : List Str := [("bases" : Str), ("weights" : Str), ("weight" : Str), ("base" : Str)]
theorem sc_l_weights : FnScope sN_l_weights [("bases" : Str)] (defScope s_l_weights) := ⟨rfl, rfl, rfl, by decide +kernel, rfl, by decide +kernel, by decide +kernel⟩
abbrev s_l_worth : Stmt := top 35
abbrev sN_l_worth : List Str := [("bases" : Str), ("digits" : Str), ("weights" : Str), ("k" : Str)]
theorem sc_l_worth : FnScope sN_l_worth [("bases" : Str), ("digits" : Str)] (defScope s_l_worth) := ⟨rfl, rfl, rfl, by decide +kernel, rfl, by decide +kernel, by decide +kernel⟩
abbrev s_l_there_and_back : Stmt := top 36
abbrev sN_l_there_and_back : List Str := [("bases" : Str), ("digits" : Str), ("one" : Str), ("two" : Str), ("told" : Str), ("back" : Str)]
theorem sc_l_there_and_back : FnScope sN_l_there_and_back [("bases" : Str), ("digits" : Str)] (defScope s_l_there_and_back) := ⟨rfl, rfl, rfl, by decide +kernel, rfl, by decide +kernel, by decide +kernel⟩
abbrev s_l_reads : Stmt := top 37
abbrev sN_l_reads : List Str := [("bases" : Str), ("number" : Str), ("told" : Str), ("product" : Str), ("k" : Str)]
theorem sc_l_reads : FnScope sN_l_reads [("bases" : Str), ("number" : Str)] (defScope s_l_reads) := ⟨rfl, rfl, rfl, by decide +kernel, rfl, by decide +kernel, by decide +kernel⟩
abbrev s_l_refuses : Stmt := top 38
abbrev sN_l_refuses : List Str := [("store" : Str), ("pair" : Str), ("bases" : Str), ("digits" : Str), ("parameter" : Str), ("wrong" : Str), ("number_due" : Str)]
theorem sc_l_refuses : FnScope sN_l_refuses [("store" : Str), ("pair" : Str)] (defScope s_l_refuses) := ⟨rfl, rfl, rfl, by decide +kernel, rfl, by decide +kernel, by decide +kernel⟩
abbrev s_l_kept : Stmt := top 39
abbrev sN_l_kept : List Str := [("one" : Str), ("two" : Str), ("e" : Str)]
theorem sc_l_kept : FnScope sN_l_kept [("one" : Str), ("two" : Str)] (defScope s_l_kept) := ⟨rfl, rfl, rfl, by decide +kernel, rfl, by decide +kernel, by decide +kernel⟩
abbrev s_law : Stmt := top 40
abbrev sN_law : List Str := [("script" : Str), ("store" : Str), ("pairs" : Str), ("pair" : Str), ("bases" : Str), ("digits" : Str), ("row" : Str), ("product" : Str), ("numbers" : Str), ("number" : Str), ("base" : Str)]
theorem sc_law : FnScope sN_law [("script" : Str)] (defScope s_law) := ⟨rfl, rfl, rfl, by decide +kernel, rfl, by decide +kernel, by decide +kernel⟩
structure Txt (K : PySem.W.Frag) (mg : Str → Option Value) (C : CA) where
  e_BadShape : Ini K C.BadShape "BadShape.__init__" s_BadShape_init [("self" : Str), ("parameter" : Str)] [("parameter" : Str)]
  e_NoRank : Ini K C.NoRank "NoRank.__init__" s_NoRank_init [("self" : Str), ("number" : Str), ("limit" : Str)] [("number" : Str), ("limit" : Str)]
  d_is_whole : Dfn K mg "is_whole" "is_whole" s_is_whole [("value" : Str)]
  d_is_number : Dfn K mg "is_number" "is_number" s_is_number [("value" : Str)]
  d_check : Dfn K mg "check" "check" s_check [("fits" : Str), ("parameter" : Str)]
  d_mixed_number : Dfn K mg "mixed_number" "mixed_number" s_mixed_number [("bases" : Str), ("digits" : Str)]
  d_mixed_digits : Dfn K mg "mixed_digits" "mixed_digits" s_mixed_digits [("bases" : Str), ("number" : Str)]
  d_are_bases : Dfn K mg "are_bases" "are_bases" s_are_bases [("value" : Str)]
  d_are_digits : Dfn K mg "are_digits" "are_digits" s_are_digits [("value" : Str), ("bases" : Str)]
  d_l_mixed : Dfn K mg "_law_mixed" "_law_mixed" s_l_mixed [("cell" : Str), ("k" : Str)]
  d_l_store : Dfn K mg "_law_store" "_law_store" s_l_store [("script" : Str)]
  d_l_take : Dfn K mg "_law_take" "_law_take" s_l_take [("store" : Str), ("many" : Str)]
  d_l_great : Dfn K mg "_law_great" "_law_great" s_l_great [("store" : Str), ("many" : Str)]
  d_l_edge : Dfn K mg "_law_edge" "_law_edge" s_l_edge [("store" : Str), ("low" : Str), ("high" : Str)]
  d_l_number : Dfn K mg "_law_number" "_law_number" s_l_number [("store" : Str)]
  d_l_near : Dfn K mg "_law_near" "_law_near" s_l_near [("store" : Str), ("limit" : Str)]
  d_l_no_number : Dfn K mg "_law_no_number" "_law_no_number" s_l_no_number [("store" : Str)]
  d_l_pick : Dfn K mg "_law_pick" "_law_pick" s_l_pick [("store" : Str), ("row" : Str)]
  d_l_int : Dfn K mg "_law_int" "_law_int" s_l_int [("value" : Str)]
  d_l_same : Dfn K mg "_law_same" "_law_same" s_l_same [("one" : Str), ("other" : Str)]
  d_l_spoil : Dfn K mg "_law_spoil" "_law_spoil" s_l_spoil [("value" : Str)]
  d_l_bases : Dfn K mg "_law_bases" "_law_bases" s_l_bases [("store" : Str)]
  d_l_bad_bases : Dfn K mg "_law_bad_bases" "_law_bad_bases" s_l_bad_bases [("store" : Str), ("pair" : Str)]
  d_l_number_told : Dfn K mg "_law_number_told" "_law_number_told" s_l_number_told [("bases" : Str), ("digits" : Str)]
  d_l_digits_told : Dfn K mg "_law_digits_told" "_law_digits_told" s_l_digits_told [("bases" : Str), ("number" : Str)]
  d_l_weights : Dfn K mg "_law_weights" "_law_weights" s_l_weights [("bases" : Str)]
  d_l_worth : Dfn K mg "_law_worth" "_law_worth" s_l_worth [("bases" : Str), ("digits" : Str)]
  d_l_there_and_back : Dfn K mg "_law_there_and_back" "_law_there_and_back" s_l_there_and_back [("bases" : Str), ("digits" : Str)]
  d_l_reads : Dfn K mg "_law_reads" "_law_reads" s_l_reads [("bases" : Str), ("number" : Str)]
  d_l_refuses : Dfn K mg "_law_refuses" "_law_refuses" s_l_refuses [("store" : Str), ("pair" : Str)]
  d_l_kept : Dfn K mg "_law_kept" "_law_kept" s_l_kept [("one" : Str), ("two" : Str)]
  d_law : Dfn K mg "law" "law" s_law [("script" : Str)]
  g_BadShape : mg "BadShape" = some (.ref C.BadShape)
  g_CrossError : mg "CrossError" = some (.ref C.CrossError)
  g_Lacking : mg "Lacking" = some (.ref C.Lacking)
  g_NoRank : mg "NoRank" = some (.ref C.NoRank)
  t_GREATEST_BASE : Nat
  c_GREATEST_BASE : mg "GREATEST_BASE" = some (.int 1000 t_GREATEST_BASE)
  t_MOST_BASES : Nat
  c_MOST_BASES : mg "MOST_BASES" = some (.int 60 t_MOST_BASES)
  b_ValueError : mg "ValueError" = none
  b_abs : mg "abs" = none
  b_all : mg "all" = none
  b_bool : mg "bool" = none
  b_dict : mg "dict" = none
  b_int : mg "int" = none
  b_isinstance : mg "isinstance" = none
  b_len : mg "len" = none
  b_list : mg "list" = none
  b_max : mg "max" = none
  b_range : mg "range" = none
  b_reversed : mg "reversed" = none
  b_str : mg "str" = none
  b_sum : mg "sum" = none
  b_tuple : mg "tuple" = none
  b_zip : mg "zip" = none
  ef : EF K C
section
variable {P : Program} {w : World} {K : PySem.W.Frag} {mg : Str → Option Value} {base : Heap} {C : CA}
theorem pure_BadShape_init (I : Ini K C.BadShape "BadShape.__init__" s_BadShape_init [("self" : Str), ("parameter" : Str)] [("parameter" : Str)]) (vs : List V) (H : Hp) (Q : VK) (E : XK) (h : sp_einit C.BadShape [("parameter" : Str)] vs H Q E) : ((tOst K ("parameter" : Str) (tVar 0) (tVar 1))) { nx := fun _ H' => Q .non H', rt := Q } (start sN_BadShape_init vs) H := by
  obtain ⟨a, ws, rfl, hl, ha, q⟩ := h
  match ws, hl with
  | [x], _ =>
    refine ⟨_, rfl, _, rfl, a, C.BadShape, rfl, I.ex, I.no _ (by decide +kernel), .inl ⟨ha, fun d nd ne => ?_⟩⟩
    refine q d _ nd ne upd_same ?_ fun b na nb => ?_
    · rw [upd_ne ne]; exact upd_same
    · rw [upd_ne na, upd_ne nb]
theorem ok_BadShape_init (I : Ini K C.BadShape "BadShape.__init__" s_BadShape_init [("self" : Str), ("parameter" : Str)] [("parameter" : Str)]) : FnOk P w K mg base CX0 2 I.f I.fd [("self" : Str), ("parameter" : Str)] (sp_einit C.BadShape [("parameter" : Str)]) := by
  refine I.fn.ok sc_BadShape_init (fun vs H Q E h => ?_) (fun cdv A outer s H vs Q E hr h => ⟨_, ?_, pure_BadShape_init I vs H Q E h⟩)
  · obtain ⟨_, _, rfl, hl, _⟩ := h
    rw [List.length_cons, hl]
    rfl
  · exact (pss_one (ps_ost (pv 0) (pv 1)))
theorem pure_NoRank_init (I : Ini K C.NoRank "NoRank.__init__" s_NoRank_init [("self" : Str), ("number" : Str), ("limit" : Str)] [("number" : Str), ("limit" : Str)]) (vs : List V) (H : Hp) (Q : VK) (E : XK) (h : sp_einit C.NoRank [("number" : Str), ("limit" : Str)] vs H Q E) : ((tSeq (tOst K ("number" : Str) (tVar 0) (tVar 1)) (tOst K ("limit" : Str) (tVar 0) (tVar 2)))) { nx := fun _ H' => Q .non H', rt := Q } (start sN_NoRank_init vs) H := by
  obtain ⟨a, ws, rfl, hl, ha, q⟩ := h
  match ws, hl with
  | [x, y], _ =>
    refine ⟨_, rfl, _, rfl, a, C.NoRank, rfl, I.ex, I.no _ (by decide +kernel), .inl ⟨ha, fun d nd ne => ?_⟩⟩
    refine ⟨_, rfl, _, rfl, a, C.NoRank, rfl, I.ex, I.no _ (by decide +kernel), .inr ⟨d, _, upd_same, by rw [upd_ne ne]; exact upd_same, by show 1 ≤ 900; decide, ?_⟩⟩
    refine q d _ nd ne ?_ upd_same fun b na nb => ?_
    · rw [upd_ne ne.symm]; exact upd_same
    · rw [upd_ne nb, upd_ne na, upd_ne nb]
theorem ok_NoRank_init (I : Ini K C.NoRank "NoRank.__init__" s_NoRank_init [("self" : Str), ("number" : Str), ("limit" : Str)] [("number" : Str), ("limit" : Str)]) : FnOk P w K mg base CX0 2 I.f I.fd [("self" : Str), ("number" : Str), ("limit" : Str)] (sp_einit C.NoRank [("number" : Str), ("limit" : Str)]) := by
  refine I.fn.ok sc_NoRank_init (fun vs H Q E h => ?_) (fun cdv A outer s H vs Q E hr h => ⟨_, ?_, pure_NoRank_init I vs H Q E h⟩)
  · obtain ⟨_, _, rfl, hl, _⟩ := h
    rw [List.length_cons, hl]
    rfl
  · exact (pss_cons (ps_ost (pv 0) (pv 1)) (pss_one (ps_ost (pv 0) (pv 2))))
theorem ok_is_whole (T : Txt K mg C) : FnOk P w K mg base CX0 2 T.d_is_whole.f T.d_is_whole.fd [("value" : Str)] (sp_is_whole K C) := by
  refine T.d_is_whole.fn.ok sc_is_whole (fun vs H Q E h => ?_) (fun cdv A outer s H vs Q E hr h => ⟨rd_is_whole K C E, ?_, pure_is_whole vs H Q E h⟩)
  · first
    | (obtain ⟨_, rfl, _⟩ := h; rfl)
    | (obtain ⟨_, _, rfl, _⟩ := h; rfl)
    | (obtain ⟨_, _, _, rfl, _⟩ := h; rfl)
    | (obtain ⟨_, _, _, _, rfl, _⟩ := h; rfl)
    | (obtain ⟨_, _, _, _, _, rfl, _⟩ := h; rfl)
  · unfold rd_is_whole
    exact (pss_one (ps_ret (pe_and (pe_callB c_isi (by rfl) T.b_isinstance (by decide +kernel) (pa_cons (pv 0) (pa_cons (pe_bltn (v := .ty "int") (by rfl) T.b_int (by decide +kernel) rfl) pa_nil))) (pe_one (pe_not (pe_callB c_isi (by rfl) T.b_isinstance (by decide +kernel) (pa_cons (pv 0) (pa_cons (pe_bltn (v := .ty "bool") (by rfl) T.b_bool (by decide +kernel) rfl) pa_nil))))))))
theorem ok_is_number (T : Txt K mg C) : FnOk P w K mg base CX0 3 T.d_is_number.f T.d_is_number.fd [("value" : Str)] (sp_is_number K C) := by
  have G_is_whole := ok_is_whole (P := P) (w := w) (mg := mg) (base := base) T
  refine T.d_is_number.fn.ok sc_is_number (fun vs H Q E h => ?_) (fun cdv A outer s H vs Q E hr h => ⟨rd_is_number K C E, ?_, pure_is_number vs H Q E h⟩)
  · first
    | (obtain ⟨_, rfl, _⟩ := h; rfl)
    | (obtain ⟨_, _, rfl, _⟩ := h; rfl)
    | (obtain ⟨_, _, _, rfl, _⟩ := h; rfl)
    | (obtain ⟨_, _, _, _, rfl, _⟩ := h; rfl)
    | (obtain ⟨_, _, _, _, _, rfl, _⟩ := h; rfl)
  · unfold rd_is_number
    exact (pss_one (ps_ret (pe_and (pe_callS G_is_whole (hr.mono (by decide)) (by rfl) T.d_is_whole.mg T.d_is_whole.fn.kp T.d_is_whole.bi pass0S (pa_cons (pv 0) pa_nil)) (pe_one (pe_cmpR op_geF (pv 0) pe_int (nomark _))))))
theorem ok_check (T : Txt K mg C) : FnOk P w K mg base (L2N.CX P w) 4 T.d_check.f T.d_check.fd [("fits" : Str), ("parameter" : Str)] (sp_check K C) := by
  have G_BadShape_init := ok_BadShape_init (P := P) (w := w) (mg := mg) (base := base) T.e_BadShape
  refine okN T.d_check.fn sc_check (fun vs H Q E h => ?_) (fun cdv A outer s H vs Q E hr h => ⟨rd_check K C E, ?_, pure_check vs H Q E h⟩)
  · first
    | (obtain ⟨_, rfl, _⟩ := h; rfl)
    | (obtain ⟨_, _, rfl, _⟩ := h; rfl)
    | (obtain ⟨_, _, _, rfl, _⟩ := h; rfl)
    | (obtain ⟨_, _, _, _, rfl, _⟩ := h; rfl)
    | (obtain ⟨_, _, _, _, _, rfl, _⟩ := h; rfl)
  · unfold rd_check
    exact (pss_one (ps_if (pt_not (pt_val (pv 0))) (pss_one (ps_raiseF rfl T.e_BadShape.ex T.e_BadShape.iC T.e_BadShape.tI G_BadShape_init (hr.mono (by decide)) T.e_BadShape.bi passE (by rfl) T.g_BadShape (L2N.takes_of rfl rfl rfl rfl) (mon_cons mon_var mon_nil) (pa_cons (pv 1) pa_nil))) pss_nil))
theorem ok_are_bases (T : Txt K mg C) : FnOk P w K mg base CX0 4 T.d_are_bases.f T.d_are_bases.fd [("value" : Str)] (sp_are_bases K C) := by
  have G_is_number := ok_is_number (P := P) (w := w) (mg := mg) (base := base) T
  refine T.d_are_bases.fn.ok sc_are_bases (fun vs H Q E h => ?_) (fun cdv A outer s H vs Q E hr h => ⟨rd_are_bases K C E, ?_, pure_are_bases vs H Q E h⟩)
  · first
    | (obtain ⟨_, rfl, _⟩ := h; rfl)
    | (obtain ⟨_, _, rfl, _⟩ := h; rfl)
    | (obtain ⟨_, _, _, rfl, _⟩ := h; rfl)
    | (obtain ⟨_, _, _, _, rfl, _⟩ := h; rfl)
    | (obtain ⟨_, _, _, _, _, rfl, _⟩ := h; rfl)
  · unfold rd_are_bases
    exact (pss_cons (ps_if (PW.pt (pw_or (pt_not (pt_val (pe_callB c_isi (by rfl) T.b_isinstance (by decide +kernel) (pa_cons (pv 0) (pa_cons (pe_bltn (v := .ty "list") (by rfl) T.b_list (by decide +kernel) rfl) pa_nil))))) (pw_or1 (pt_cmpR op_gtF (pe_callB c_len (by rfl) T.b_len (by decide +kernel) (pa_cons (pv 0) pa_nil)) (pe_glob (by rfl) T.c_MOST_BASES ⟨_, rfl⟩) (nomark _))))) (pss_one (ps_ret pe_bl)) pss_nil) (pss_one (ps_ret (pe_callB (c_all rfl) (by rfl) T.b_all (by decide +kernel) (pa_cons (pe_lc (own := [(("base" : Str), 1)]) (g := (gName 1)) rfl sc_are_bases.nd (pi_list (pv 0)) (blkOk_by (own := [(("base" : Str), 1)]) (N := sN_are_bases) (sc := defScope s_are_bases) (by decide +kernel)) (fun _ _ _ _ _ => (pg_name (i := 1) sc_are_bases.nd rfl (by first | exact .inl rfl | exact .inr rfl))) (fun _ _ _ _ _ => pts_nil) (fun _ _ _ _ _ => (pe_and (pe_callS G_is_number (hr.mono (by decide)) (by rfl) T.d_is_number.mg T.d_is_number.fn.kp T.d_is_number.bi pass0S (pa_cons (pv 1) pa_nil)) (pe_one (pe_chain op_leF op_leF pe_int (pv 1) (pe_glob (by rfl) T.c_GREATEST_BASE ⟨_, rfl⟩)))))) pa_nil)))))
theorem ok_are_digits (T : Txt K mg C) : FnOk P w K mg base CX0 4 T.d_are_digits.f T.d_are_digits.fd [("value" : Str), ("bases" : Str)] (sp_are_digits K C) := by
  have G_is_number := ok_is_number (P := P) (w := w) (mg := mg) (base := base) T
  refine T.d_are_digits.fn.ok sc_are_digits (fun vs H Q E h => ?_) (fun cdv A outer s H vs Q E hr h => ⟨rd_are_digits K C E, ?_, pure_are_digits vs H Q E h⟩)
  · first
    | (obtain ⟨_, rfl, _⟩ := h; rfl)
    | (obtain ⟨_, _, rfl, _⟩ := h; rfl)
    | (obtain ⟨_, _, _, rfl, _⟩ := h; rfl)
    | (obtain ⟨_, _, _, _, rfl, _⟩ := h; rfl)
    | (obtain ⟨_, _, _, _, _, rfl, _⟩ := h; rfl)
  · unfold rd_are_digits
    exact (pss_cons (ps_if (PW.pt (pw_or (pt_not (pt_val (pe_callB c_isi (by rfl) T.b_isinstance (by decide +kernel) (pa_cons (pv 0) (pa_cons (pe_bltn (v := .ty "list") (by rfl) T.b_list (by decide +kernel) rfl) pa_nil))))) (pw_or1 (pt_cmpR (op_neF hr.units) (pe_callB c_len (by rfl) T.b_len (by decide +kernel) (pa_cons (pv 0) pa_nil)) (pe_callB c_len (by rfl) T.b_len (by decide +kernel) (pa_cons (pv 1) pa_nil)) (nomark _))))) (pss_one (ps_ret pe_bl)) pss_nil) (pss_one (ps_ret (pe_callB (c_all rfl) (by rfl) T.b_all (by decide +kernel) (pa_cons (pe_lc (own := [(("base" : Str), 2), (("digit" : Str), 3)]) (g := (gTupF 2 (gCons (gName 2) (gCons (gName 3) gNil)))) rfl sc_are_digits.nd (pi_zip (by rfl) T.b_zip (pa_cons (pv 1) (pa_cons (pv 0) pa_nil))) (blkOk_by (own := [(("base" : Str), 2), (("digit" : Str), 3)]) (N := sN_are_digits) (sc := defScope s_are_digits) (by decide +kernel)) (fun _ _ _ _ _ => (pg_tupF (by rfl) (pgs_cons (pg_name (i := 2) sc_are_digits.nd rfl (by first | exact .inl rfl | exact .inr rfl)) (pgs_cons (pg_name (i := 3) sc_are_digits.nd rfl (by first | exact .inl rfl | exact .inr rfl)) pgs_nil)))) (fun _ _ _ _ _ => pts_nil) (fun _ _ _ _ _ => (pe_and (pe_callS G_is_number (hr.mono (by decide)) (by rfl) T.d_is_number.mg T.d_is_number.fn.kp T.d_is_number.bi pass0S (pa_cons (pv 3) pa_nil)) (pe_one (pe_cmpR op_ltF (pv 3) (pv 2) (nomark _)))))) pa_nil)))))
theorem ok_mixed_number (T : Txt K mg C) : FnOk P w K mg base (L2N.CX P w) 5 T.d_mixed_number.f T.d_mixed_number.fd [("bases" : Str), ("digits" : Str)] (sp_mixed_number K C) := by
  have G_are_bases := ok_are_bases (P := P) (w := w) (mg := mg) (base := base) T
  have G_are_digits := ok_are_digits (P := P) (w := w) (mg := mg) (base := base) T
  have G_check := ok_check (P := P) (w := w) (mg := mg) (base := base) T
  refine okN T.d_mixed_number.fn sc_mixed_number (fun vs H Q E h => ?_) (fun cdv A outer s H vs Q E hr h => ⟨rd_mixed_number K C E, ?_, pure_mixed_number vs H Q E h⟩)
  · first
    | (obtain ⟨_, rfl, _⟩ := h; rfl)
    | (obtain ⟨_, _, rfl, _⟩ := h; rfl)
    | (obtain ⟨_, _, _, rfl, _⟩ := h; rfl)
    | (obtain ⟨_, _, _, _, rfl, _⟩ := h; rfl)
    | (obtain ⟨_, _, _, _, _, rfl, _⟩ := h; rfl)
  · unfold rd_mixed_number
    exact (pss_cons (ps_expr (pe_callS G_check (hr.mono (by decide)) (by rfl) T.d_check.mg T.d_check.fn.kp T.d_check.bi (fun σ => L2N.passAt (W := fun cls d _ H => E cls d H) (L2N.takes_of rfl rfl rfl rfl) σ) (pa_cons (pe_callS G_are_bases (hr.mono (by decide)) (by rfl) T.d_are_bases.mg T.d_are_bases.fn.kp T.d_are_bases.bi pass0S (pa_cons (pv 0) pa_nil)) (pa_cons pe_str pa_nil)))) (pss_cons (ps_expr (pe_callS G_check (hr.mono (by decide)) (by rfl) T.d_check.mg T.d_check.fn.kp T.d_check.bi (fun σ => L2N.passAt (W := fun cls d _ H => E cls d H) (L2N.takes_of rfl rfl rfl rfl) σ) (pa_cons (pe_callS G_are_digits (hr.mono (by decide)) (by rfl) T.d_are_digits.mg T.d_are_digits.fn.kp T.d_are_digits.bi pass0S (pa_cons (pv 1) (pa_cons (pv 0) pa_nil))) (pa_cons pe_str pa_nil)))) (pss_cons (ps_set (i := 2) sc_mixed_number.nd rfl (Or.inl rfl) pe_int) (pss_cons (ps_for (passes_of rfl) rfl (pi_zip (by rfl) T.b_zip (pa_cons (pv 0) (pa_cons (pv 1) pa_nil))) (pg_tupF (by rfl) (pgs_cons (pg_name (i := 3) sc_mixed_number.nd rfl (by first | exact .inl rfl | exact .inr rfl)) (pgs_cons (pg_name (i := 4) sc_mixed_number.nd rfl (by first | exact .inl rfl | exact .inr rfl)) pgs_nil))) (pss_one (ps_set (i := 2) sc_mixed_number.nd rfl (Or.inl rfl) (pe_op op_addF (pe_op op_mulF (pv 2) (pv 3)) (pv 4))))) (pss_one (ps_ret (pv 2)))))))
theorem ok_mixed_digits (T : Txt K mg C) : FnOk P w K mg base (L2N.CX P w) 5 T.d_mixed_digits.f T.d_mixed_digits.fd [("bases" : Str), ("number" : Str)] (sp_mixed_digits K C) := by
  have G_NoRank_init := ok_NoRank_init (P := P) (w := w) (mg := mg) (base := base) T.e_NoRank
  have G_are_bases := ok_are_bases (P := P) (w := w) (mg := mg) (base := base) T
  have G_check := ok_check (P := P) (w := w) (mg := mg) (base := base) T
  have G_is_number := ok_is_number (P := P) (w := w) (mg := mg) (base := base) T
  refine okN T.d_mixed_digits.fn sc_mixed_digits (fun vs H Q E h => ?_) (fun cdv A outer s H vs Q E hr h => ⟨rd_mixed_digits K C E, ?_, pure_mixed_digits vs H Q E h⟩)
  · first
    | (obtain ⟨_, rfl, _⟩ := h; rfl)
    | (obtain ⟨_, _, rfl, _⟩ := h; rfl)
    | (obtain ⟨_, _, _, rfl, _⟩ := h; rfl)
    | (obtain ⟨_, _, _, _, rfl, _⟩ := h; rfl)
    | (obtain ⟨_, _, _, _, _, rfl, _⟩ := h; rfl)
  · unfold rd_mixed_digits
    exact (pss_cons (ps_expr (pe_callS G_check (hr.mono (by decide)) (by rfl) T.d_check.mg T.d_check.fn.kp T.d_check.bi (fun σ => L2N.passAt (W := fun cls d _ H => E cls d H) (L2N.takes_of rfl rfl rfl rfl) σ) (pa_cons (pe_callS G_are_bases (hr.mono (by decide)) (by rfl) T.d_are_bases.mg T.d_are_bases.fn.kp T.d_are_bases.bi pass0S (pa_cons (pv 0) pa_nil)) (pa_cons pe_str pa_nil)))) (pss_cons (ps_expr (pe_callS G_check (hr.mono (by decide)) (by rfl) T.d_check.mg T.d_check.fn.kp T.d_check.bi (fun σ => L2N.passAt (W := fun cls d _ H => E cls d H) (L2N.takes_of rfl rfl rfl rfl) σ) (pa_cons (pe_callS G_is_number (hr.mono (by decide)) (by rfl) T.d_is_number.mg T.d_is_number.fn.kp T.d_is_number.bi pass0S (pa_cons (pv 1) pa_nil)) (pa_cons pe_str pa_nil)))) (pss_cons (ps_set (i := 2) sc_mixed_digits.nd rfl (Or.inl rfl) (pe_lst pa_nil)) (pss_cons (ps_set (i := 3) sc_mixed_digits.nd rfl (Or.inl rfl) (pv 1)) (pss_cons (ps_set (i := 4) sc_mixed_digits.nd rfl (Or.inl rfl) pe_int) (pss_cons (ps_for (passes_of rfl) rfl (pi_list (pe_imp (pe_revL (pv 0)) rev_var)) (pg_name (i := 5) sc_mixed_digits.nd rfl (by first | exact .inl rfl | exact .inr rfl)) (pss_cons (ps_expr (pe_imp (pe_bm PySem.F.plainAttrs_list PySem.F.slot_list_append PySem.F.type_list_append m_append (pv 2) (pa_cons (pe_op op_modF (pv 3) (pv 5)) pa_nil)) bm_var)) (pss_cons (ps_set (i := 3) sc_mixed_digits.nd rfl (Or.inl rfl) (pe_op op_divF (pv 3) (pv 5))) (pss_one (ps_set (i := 4) sc_mixed_digits.nd rfl (Or.inl rfl) (pe_op op_mulF (pv 4) (pv 5))))))) (pss_cons (ps_if (pt_cmpR op_geF (pv 1) (pv 4) (nomark _)) (pss_one (ps_raiseF rfl T.e_NoRank.ex T.e_NoRank.iC T.e_NoRank.tI G_NoRank_init (hr.mono (by decide)) T.e_NoRank.bi passE (by rfl) T.g_NoRank (L2N.takes_of rfl rfl rfl rfl) (mon_cons mon_var (mon_cons mon_var mon_nil)) (pa_cons (pv 1) (pa_cons (pv 4) pa_nil)))) pss_nil) (pss_one (ps_ret (pe_imp (pe_revL (pv 2)) rev_var))))))))))
theorem ok_l_mixed (T : Txt K mg C) : FnOk P w K mg base CX0 2 T.d_l_mixed.f T.d_l_mixed.fd [("cell" : Str), ("k" : Str)] (sp_l_mixed K C) := by
  refine T.d_l_mixed.fn.ok sc_l_mixed (fun vs H Q E h => ?_) (fun cdv A outer s H vs Q E hr h => ⟨rd_l_mixed K C E, ?_, pure_l_mixed vs H Q E h⟩)
  · first
    | (obtain ⟨_, rfl, _⟩ := h; rfl)
    | (obtain ⟨_, _, rfl, _⟩ := h; rfl)
    | (obtain ⟨_, _, _, rfl, _⟩ := h; rfl)
    | (obtain ⟨_, _, _, _, rfl, _⟩ := h; rfl)
    | (obtain ⟨_, _, _, _, _, rfl, _⟩ := h; rfl)
  · unfold rd_l_mixed
    exact (pss_cons (ps_set (i := 2) sc_l_mixed.nd rfl (Or.inl rfl) (pe_op op_modF (pe_callTy c_int (by rfl) T.b_int (by decide +kernel) (pa_cons (pe_op op_addF (pe_op op_addF (pe_op op_mulF (pe_callTy c_int (by rfl) T.b_int (by decide +kernel) (pa_cons (pv 0) pa_nil)) pe_int) (pe_op op_mulF (pv 1) pe_int)) pe_int) pa_nil)) pe_int)) (pss_cons (ps_set (i := 3) sc_l_mixed.nd rfl (Or.inl rfl) (pe_op op_modF (pe_callTy c_int (by rfl) T.b_int (by decide +kernel) (pa_cons (pe_op op_addF (pe_op op_addF (pe_op op_mulF (pv 2) (pv 2)) (pe_op op_mulF (pv 1) pe_int)) pe_int) pa_nil)) pe_int)) (pss_one (ps_ret (pe_op op_modF (pe_callTy c_int (by rfl) T.b_int (by decide +kernel) (pa_cons (pe_op op_addF (pe_op op_mulF (pv 3) (pv 3)) (pv 2)) pa_nil)) pe_int)))))
theorem ok_l_store (T : Txt K mg C) : FnOk P w K mg base CX0 3 T.d_l_store.f T.d_l_store.fd [("script" : Str)] (sp_l_store K C) := by
  have G_l_mixed := ok_l_mixed (P := P) (w := w) (mg := mg) (base := base) T
  refine T.d_l_store.fn.ok sc_l_store (fun vs H Q E h => ?_) (fun cdv A outer s H vs Q E hr h => ⟨rd_l_store K C E, ?_, pure_l_store vs H Q E h⟩)
  · first
    | (obtain ⟨_, rfl, _⟩ := h; rfl)
    | (obtain ⟨_, _, rfl, _⟩ := h; rfl)
    | (obtain ⟨_, _, _, rfl, _⟩ := h; rfl)
    | (obtain ⟨_, _, _, _, rfl, _⟩ := h; rfl)
    | (obtain ⟨_, _, _, _, _, rfl, _⟩ := h; rfl)
  · unfold rd_l_store
    exact (pss_cons (ps_setLc (i := 2) (own := [(("cell" : Str), 1)]) (g := (gName 1)) rfl sc_l_store.nd rfl rfl (sw_true rfl rfl rfl (by decide +kernel)) (pi_list (pv 0)) (blkOk_by (own := [(("cell" : Str), 1)]) (N := sN_l_store) (sc := defScope s_l_store) (by decide +kernel)) (fun _ _ _ _ _ => (pg_name (i := 1) sc_l_store.nd rfl (by first | exact .inl rfl | exact .inr rfl))) (fun _ _ _ _ _ => pts_nil) (fun _ _ _ _ _ => (pe_callTy c_int (by rfl) T.b_int (by decide +kernel) (pa_cons (pv 1) pa_nil)))) (pss_cons (ps_set (i := 3) sc_l_store.nd rfl (Or.inl rfl) pe_int) (pss_cons (ps_for PassesOwn.never rfl (pi_list (pv 2)) (pg_name (i := 1) sc_l_store.nd rfl (by first | exact .inl rfl | exact .inr rfl)) (pss_one (ps_set (i := 3) sc_l_store.nd rfl (Or.inl rfl) (pe_callS G_l_mixed (hr.mono (by decide)) (by rfl) T.d_l_mixed.mg T.d_l_mixed.fn.kp T.d_l_mixed.bi pass0S (pa_cons (pe_op op_addF (pe_callTy c_int (by rfl) T.b_int (by decide +kernel) (pa_cons (pv 1) pa_nil)) (pv 3)) (pa_cons (pe_callB c_len (by rfl) T.b_len (by decide +kernel) (pa_cons (pv 2) pa_nil)) pa_nil)))))) (pss_one (ps_ret (pe_lst (pa_cons (pv 2) (pa_cons pe_int (pa_cons pe_int (pa_cons pe_int (pa_cons (pv 3) pa_nil)))))))))))
theorem ok_l_take (T : Txt K mg C) : FnOk P w K mg base CX0 3 T.d_l_take.f T.d_l_take.fd [("store" : Str), ("many" : Str)] (sp_l_take K C) := by
  have G_l_mixed := ok_l_mixed (P := P) (w := w) (mg := mg) (base := base) T
  refine T.d_l_take.fn.ok sc_l_take (fun vs H Q E h => ?_) (fun cdv A outer s H vs Q E hr h => ⟨rd_l_take K C E, ?_, pure_l_take vs H Q E h⟩)
  · first
    | (obtain ⟨_, rfl, _⟩ := h; rfl)
    | (obtain ⟨_, _, rfl, _⟩ := h; rfl)
    | (obtain ⟨_, _, _, rfl, _⟩ := h; rfl)
    | (obtain ⟨_, _, _, _, rfl, _⟩ := h; rfl)
    | (obtain ⟨_, _, _, _, _, rfl, _⟩ := h; rfl)
  · unfold rd_l_take
    exact (pss_cons (ps_set (i := 2) sc_l_take.nd rfl (Or.inl rfl) (pe_callB (c_max rfl) (by rfl) T.b_max (by decide +kernel) (pa_cons pe_int (pa_cons (pv 1) pa_nil)))) (pss_cons (ps_asg (pe_op op_addF (pe_ix ix_F (pv 0) pe_int (fun _ _ => rfl)) pe_int) (pg_sub (pv 0) pe_int set_F)) (Evl.pss_cut (ps_if (PW.pt (pw_and (pt_cmpR (op_eqF hr.units) (pe_ix ix_F (pv 0) pe_int (fun _ _ => rfl)) pe_int (nomark _)) (pw_and1 (pt_cmpR op_ltF (pe_ix ix_F (pv 0) pe_int (fun _ _ => rfl)) (pe_callB c_len (by rfl) T.b_len (by decide +kernel) (pa_cons (pe_ix ix_F (pv 0) pe_int (fun _ _ => rfl)) pa_nil)) (nomark _))))) (pss_cons (ps_set (i := 3) sc_l_take.nd rfl (Or.inl rfl) (pe_callTy c_int (by rfl) T.b_int (by decide +kernel) (pa_cons (pe_ix ix_F (pe_ix ix_F (pv 0) pe_int (fun _ _ => rfl)) (pe_ix ix_F (pv 0) pe_int (fun _ _ => rfl)) (fun _ _ => rfl)) pa_nil))) (pss_cons (ps_asg (pe_op op_addF (pe_ix ix_F (pv 0) pe_int (fun _ _ => rfl)) pe_int) (pg_sub (pv 0) pe_int set_F)) (pss_cons (ps_if (pt_cmpR op_ltF (pv 3) (pe_op op_powF pe_int pe_int) (nomark _)) (pss_one (ps_ret (pe_op op_modF (pe_callTy c_int (by rfl) T.b_int (by decide +kernel) (pa_cons (pe_callS G_l_mixed (hr.mono (by decide)) (by rfl) T.d_l_mixed.mg T.d_l_mixed.fn.kp T.d_l_mixed.bi pass0S (pa_cons (pv 3) (pa_cons (pe_ix ix_F (pv 0) pe_int (fun _ _ => rfl)) pa_nil))) pa_nil)) (pv 2)))) pss_nil) (pss_one (ps_asg (pv 3) (pg_sub (pv 0) pe_int set_F)))))) pss_nil) (pss_cons (ps_if (pt_cmpR (op_eqF hr.units) (pe_ix ix_F (pv 0) pe_int (fun _ _ => rfl)) pe_int (nomark _)) (pss_one (ps_ret (pe_op op_modF (pe_callTy c_int (by rfl) T.b_int (by decide +kernel) (pa_cons (pe_callS G_l_mixed (hr.mono (by decide)) (by rfl) T.d_l_mixed.mg T.d_l_mixed.fn.kp T.d_l_mixed.bi pass0S (pa_cons (pe_ix ix_F (pv 0) pe_int (fun _ _ => rfl)) (pa_cons (pe_ix ix_F (pv 0) pe_int (fun _ _ => rfl)) pa_nil))) pa_nil)) (pv 2)))) pss_nil) (pss_cons (ps_set (i := 4) sc_l_take.nd rfl (Or.inl rfl) (pe_op op_modF (pe_callTy c_int (by rfl) T.b_int (by decide +kernel) (pa_cons (pe_ix ix_F (pv 0) pe_int (fun _ _ => rfl)) pa_nil)) (pv 2))) (pss_cons (ps_asg (pe_op op_divF (pe_callTy c_int (by rfl) T.b_int (by decide +kernel) (pa_cons (pe_ix ix_F (pv 0) pe_int (fun _ _ => rfl)) pa_nil)) (pv 2)) (pg_sub (pv 0) pe_int set_F)) (pss_one (ps_ret (pv 4)))))))))
theorem ok_l_great (T : Txt K mg C) : FnOk P w K mg base CX0 4 T.d_l_great.f T.d_l_great.fd [("store" : Str), ("many" : Str)] (sp_l_great K C) := by
  have G_l_take := ok_l_take (P := P) (w := w) (mg := mg) (base := base) T
  refine T.d_l_great.fn.ok sc_l_great (fun vs H Q E h => ?_) (fun cdv A outer s H vs Q E hr h => ⟨rd_l_great K C E, ?_, pure_l_great vs H Q E h⟩)
  · first
    | (obtain ⟨_, rfl, _⟩ := h; rfl)
    | (obtain ⟨_, _, rfl, _⟩ := h; rfl)
    | (obtain ⟨_, _, _, rfl, _⟩ := h; rfl)
    | (obtain ⟨_, _, _, _, rfl, _⟩ := h; rfl)
    | (obtain ⟨_, _, _, _, _, rfl, _⟩ := h; rfl)
  · unfold rd_l_great
    exact (pss_cons (ps_set (i := 2) sc_l_great.nd rfl (Or.inl rfl) pe_int) (pss_cons (ps_for PassesOwn.never rfl (pi_range1 (by rfl) T.b_range (pa_cons pe_int pa_nil)) (pg_name (i := 3) sc_l_great.nd rfl (by first | exact .inl rfl | exact .inr rfl)) (pss_one (ps_set (i := 2) sc_l_great.nd rfl (Or.inl rfl) (pe_op op_addF (pe_op op_mulF (pv 2) pe_int) (pe_callS G_l_take (hr.mono (by decide)) (by rfl) T.d_l_take.mg T.d_l_take.fn.kp T.d_l_take.bi pass0S (pa_cons (pv 0) (pa_cons pe_int pa_nil))))))) (pss_one (ps_ret (pe_op op_modF (pe_callTy c_int (by rfl) T.b_int (by decide +kernel) (pa_cons (pv 2) pa_nil)) (pe_callB (c_max rfl) (by rfl) T.b_max (by decide +kernel) (pa_cons pe_int (pa_cons (pv 1) pa_nil))))))))
theorem ok_l_edge (T : Txt K mg C) : FnOk P w K mg base CX0 5 T.d_l_edge.f T.d_l_edge.fd [("store" : Str), ("low" : Str), ("high" : Str)] (sp_l_edge K C) := by
  have G_l_great := ok_l_great (P := P) (w := w) (mg := mg) (base := base) T
  have G_l_take := ok_l_take (P := P) (w := w) (mg := mg) (base := base) T
  refine T.d_l_edge.fn.ok sc_l_edge (fun vs H Q E h => ?_) (fun cdv A outer s H vs Q E hr h => ⟨rd_l_edge K C E, ?_, pure_l_edge vs H Q E h⟩)
  · first
    | (obtain ⟨_, rfl, _⟩ := h; rfl)
    | (obtain ⟨_, _, rfl, _⟩ := h; rfl)
    | (obtain ⟨_, _, _, rfl, _⟩ := h; rfl)
    | (obtain ⟨_, _, _, _, rfl, _⟩ := h; rfl)
    | (obtain ⟨_, _, _, _, _, rfl, _⟩ := h; rfl)
  · unfold rd_l_edge
    exact (pss_cons (ps_if (pt_cmpR op_leF (pv 2) (pv 1) (nomark _)) (pss_one (ps_ret (pv 1))) pss_nil) (pss_cons (ps_set (i := 3) sc_l_edge.nd rfl (Or.inl rfl) (pe_callS G_l_take (hr.mono (by decide)) (by rfl) T.d_l_take.mg T.d_l_take.fn.kp T.d_l_take.bi pass0S (pa_cons (pv 0) (pa_cons pe_int pa_nil)))) (pss_cons (ps_if (pt_cmpR (op_eqF hr.units) (pv 3) pe_int (nomark _)) (pss_one (ps_ret (pv 1))) pss_nil) (pss_cons (ps_if (pt_cmpR (op_eqF hr.units) (pv 3) pe_int (nomark _)) (pss_one (ps_ret (pv 2))) pss_nil) (pss_cons (ps_if (pt_cmpR op_ltF (pe_op op_subF (pv 2) (pv 1)) pe_int (nomark _)) (pss_one (ps_ret (pe_op op_addF (pv 1) (pe_callS G_l_take (hr.mono (by decide)) (by rfl) T.d_l_take.mg T.d_l_take.fn.kp T.d_l_take.bi pass0S (pa_cons (pv 0) (pa_cons (pe_op op_addF (pe_op op_subF (pv 2) (pv 1)) pe_int) pa_nil)))))) pss_nil) (pss_one (ps_ret (pe_op op_addF (pv 1) (pe_callS G_l_great (hr.mono (by decide)) (by rfl) T.d_l_great.mg T.d_l_great.fn.kp T.d_l_great.bi pass0S (pa_cons (pv 0) (pa_cons (pe_op op_addF (pe_op op_subF (pv 2) (pv 1)) pe_int) pa_nil)))))))))))
theorem ok_l_number (T : Txt K mg C) : FnOk P w K mg base CX0 5 T.d_l_number.f T.d_l_number.fd [("store" : Str)] (sp_l_number K C) := by
  have G_l_great := ok_l_great (P := P) (w := w) (mg := mg) (base := base) T
  have G_l_take := ok_l_take (P := P) (w := w) (mg := mg) (base := base) T
  refine T.d_l_number.fn.ok sc_l_number (fun vs H Q E h => ?_) (fun cdv A outer s H vs Q E hr h => ⟨rd_l_number K C E, ?_, pure_l_number vs H Q E h⟩)
  · first
    | (obtain ⟨_, rfl, _⟩ := h; rfl)
    | (obtain ⟨_, _, rfl, _⟩ := h; rfl)
    | (obtain ⟨_, _, _, rfl, _⟩ := h; rfl)
    | (obtain ⟨_, _, _, _, rfl, _⟩ := h; rfl)
    | (obtain ⟨_, _, _, _, _, rfl, _⟩ := h; rfl)
  · unfold rd_l_number
    exact (pss_cons (ps_set (i := 1) sc_l_number.nd rfl (Or.inl rfl) (pe_op op_subF (pe_op op_powF pe_int pe_int) pe_int)) (pss_cons (ps_set (i := 2) sc_l_number.nd rfl (Or.inl rfl) (pe_callS G_l_take (hr.mono (by decide)) (by rfl) T.d_l_take.mg T.d_l_take.fn.kp T.d_l_take.bi pass0S (pa_cons (pv 0) (pa_cons pe_int pa_nil)))) (pss_cons (ps_if (pt_cmpR op_ltF (pv 2) pe_int (nomark _)) (pss_one (ps_ret (pe_ix ix_F (pe_lst (pa_cons pe_int (pa_cons pe_int (pa_cons (pe_un un_negF pe_int) (pa_cons (pv 1) (pa_cons (pe_op op_subF pe_int (pv 1)) pa_nil)))))) (pv 2) (fun _ _ => rfl)))) pss_nil) (pss_cons (ps_if (pt_cmpR op_ltF (pv 2) pe_int (nomark _)) (pss_one (ps_ret (pe_op op_subF (pe_callS G_l_take (hr.mono (by decide)) (by rfl) T.d_l_take.mg T.d_l_take.fn.kp T.d_l_take.bi pass0S (pa_cons (pv 0) (pa_cons pe_int pa_nil))) pe_int))) pss_nil) (pss_one (ps_ret (pe_op op_subF (pe_callS G_l_great (hr.mono (by decide)) (by rfl) T.d_l_great.mg T.d_l_great.fn.kp T.d_l_great.bi pass0S (pa_cons (pv 0) (pa_cons (pe_op op_addF (pe_op op_mulF pe_int (pv 1)) pe_int) pa_nil))) (pv 1))))))))
theorem ok_l_near (T : Txt K mg C) : FnOk P w K mg base CX0 6 T.d_l_near.f T.d_l_near.fd [("store" : Str), ("limit" : Str)] (sp_l_near K C) := by
  have G_l_edge := ok_l_edge (P := P) (w := w) (mg := mg) (base := base) T
  have G_l_take := ok_l_take (P := P) (w := w) (mg := mg) (base := base) T
  refine T.d_l_near.fn.ok sc_l_near (fun vs H Q E h => ?_) (fun cdv A outer s H vs Q E hr h => ⟨rd_l_near K C E, ?_, pure_l_near vs H Q E h⟩)
  · first
    | (obtain ⟨_, rfl, _⟩ := h; rfl)
    | (obtain ⟨_, _, rfl, _⟩ := h; rfl)
    | (obtain ⟨_, _, _, rfl, _⟩ := h; rfl)
    | (obtain ⟨_, _, _, _, rfl, _⟩ := h; rfl)
    | (obtain ⟨_, _, _, _, _, rfl, _⟩ := h; rfl)
  · unfold rd_l_near
    exact (pss_cons (ps_set (i := 2) sc_l_near.nd rfl (Or.inl rfl) (pe_callS G_l_take (hr.mono (by decide)) (by rfl) T.d_l_take.mg T.d_l_take.fn.kp T.d_l_take.bi pass0S (pa_cons (pv 0) (pa_cons pe_int pa_nil)))) (pss_cons (ps_if (pt_cmpR op_ltF (pv 2) pe_int (nomark _)) (pss_one (ps_ret (pe_ix ix_F (pe_lst (pa_cons pe_int (pa_cons (pe_callB (c_max rfl) (by rfl) T.b_max (by decide +kernel) (pa_cons pe_int (pa_cons (pe_op op_subF (pv 1) pe_int) pa_nil))) (pa_cons (pv 1) (pa_cons (pe_op op_addF (pv 1) pe_int) (pa_cons (pe_op op_subF (pe_op op_powF pe_int pe_int) pe_int) pa_nil)))))) (pv 2) (fun _ _ => rfl)))) pss_nil) (pss_cons (ps_if (pt_cmpR op_ltF (pv 2) pe_int (nomark _)) (pss_one (ps_ret (pe_callS G_l_edge (hr.mono (by decide)) (by rfl) T.d_l_edge.mg T.d_l_edge.fn.kp T.d_l_edge.bi pass0S (pa_cons (pv 0) (pa_cons pe_int (pa_cons (pv 1) pa_nil)))))) pss_nil) (pss_one (ps_ret (pe_callS G_l_take (hr.mono (by decide)) (by rfl) T.d_l_take.mg T.d_l_take.fn.kp T.d_l_take.bi pass0S (pa_cons (pv 0) (pa_cons pe_int pa_nil))))))))
theorem ok_l_no_number (T : Txt K mg C) : FnOk P w K mg base CX0 4 T.d_l_no_number.f T.d_l_no_number.fd [("store" : Str)] (sp_l_no_number K C) := by
  have G_l_take := ok_l_take (P := P) (w := w) (mg := mg) (base := base) T
  refine T.d_l_no_number.fn.ok sc_l_no_number (fun vs H Q E h => ?_) (fun cdv A outer s H vs Q E hr h => ⟨rd_l_no_number K C E, ?_, pure_l_no_number vs H Q E h⟩)
  · first
    | (obtain ⟨_, rfl, _⟩ := h; rfl)
    | (obtain ⟨_, _, rfl, _⟩ := h; rfl)
    | (obtain ⟨_, _, _, rfl, _⟩ := h; rfl)
    | (obtain ⟨_, _, _, _, rfl, _⟩ := h; rfl)
    | (obtain ⟨_, _, _, _, _, rfl, _⟩ := h; rfl)
  · unfold rd_l_no_number
    exact (pss_cons (ps_set (i := 1) sc_l_no_number.nd rfl (Or.inl rfl) (pe_lst (pa_cons (pe_un un_negF pe_int) (pa_cons pe_bl (pa_cons pe_bl (pa_cons pe_non (pa_cons pe_str (pa_cons pe_str (pa_cons (pe_lst (pa_cons pe_int pa_nil)) (pa_cons (pe_tup (pa_cons pe_int pa_nil)) (pa_cons (pe_lst pa_nil) (pa_cons (pe_tup pa_nil) (pa_cons (pe_op op_subF pe_int (pe_op op_powF pe_int pe_int)) (pa_cons pe_str pa_nil)))))))))))))) (pss_one (ps_ret (pe_ix ix_F (pv 1) (pe_callS G_l_take (hr.mono (by decide)) (by rfl) T.d_l_take.mg T.d_l_take.fn.kp T.d_l_take.bi pass0S (pa_cons (pv 0) (pa_cons (pe_callB c_len (by rfl) T.b_len (by decide +kernel) (pa_cons (pv 1) pa_nil)) pa_nil))) (fun _ _ => rfl)))))
theorem ok_l_pick (T : Txt K mg C) : FnOk P w K mg base CX0 4 T.d_l_pick.f T.d_l_pick.fd [("store" : Str), ("row" : Str)] (sp_l_pick K C) := by
  have G_l_take := ok_l_take (P := P) (w := w) (mg := mg) (base := base) T
  refine T.d_l_pick.fn.ok sc_l_pick (fun vs H Q E h => ?_) (fun cdv A outer s H vs Q E hr h => ⟨rd_l_pick K C E, ?_, pure_l_pick vs H Q E h⟩)
  · first
    | (obtain ⟨_, rfl, _⟩ := h; rfl)
    | (obtain ⟨_, _, rfl, _⟩ := h; rfl)
    | (obtain ⟨_, _, _, rfl, _⟩ := h; rfl)
    | (obtain ⟨_, _, _, _, rfl, _⟩ := h; rfl)
    | (obtain ⟨_, _, _, _, _, rfl, _⟩ := h; rfl)
  · unfold rd_l_pick
    exact (pss_cons (ps_if (pt_cmpR (op_eqF hr.units) (pe_callB c_len (by rfl) T.b_len (by decide +kernel) (pa_cons (pv 1) pa_nil)) pe_int (nomark _)) (pss_one (ps_ret pe_non)) pss_nil) (pss_one (ps_ret (pe_ix ix_F (pv 1) (pe_callS G_l_take (hr.mono (by decide)) (by rfl) T.d_l_take.mg T.d_l_take.fn.kp T.d_l_take.bi pass0S (pa_cons (pv 0) (pa_cons (pe_callB c_len (by rfl) T.b_len (by decide +kernel) (pa_cons (pv 1) pa_nil)) pa_nil))) (fun _ _ => rfl)))))
theorem ok_l_int (T : Txt K mg C) : FnOk P w K mg base CX0 2 T.d_l_int.f T.d_l_int.fd [("value" : Str)] (sp_l_int K C) := by
  refine T.d_l_int.fn.ok sc_l_int (fun vs H Q E h => ?_) (fun cdv A outer s H vs Q E hr h => ⟨rd_l_int K C E, ?_, pure_l_int vs H Q E h⟩)
  · first
    | (obtain ⟨_, rfl, _⟩ := h; rfl)
    | (obtain ⟨_, _, rfl, _⟩ := h; rfl)
    | (obtain ⟨_, _, _, rfl, _⟩ := h; rfl)
    | (obtain ⟨_, _, _, _, rfl, _⟩ := h; rfl)
    | (obtain ⟨_, _, _, _, _, rfl, _⟩ := h; rfl)
  · unfold rd_l_int
    exact (pss_one (ps_ret (pe_and (pe_callB c_isi (by rfl) T.b_isinstance (by decide +kernel) (pa_cons (pv 0) (pa_cons (pe_bltn (v := .ty "int") (by rfl) T.b_int (by decide +kernel) rfl) pa_nil))) (pe_one (pe_not (pe_callB c_isi (by rfl) T.b_isinstance (by decide +kernel) (pa_cons (pv 0) (pa_cons (pe_bltn (v := .ty "bool") (by rfl) T.b_bool (by decide +kernel) rfl) pa_nil))))))))
theorem step_same (T : Txt K mg C) (n : Nat) (G_l_same : FnOk P w K mg base CX0 (n + 1) T.d_l_same.f T.d_l_same.fd [("one" : Str), ("other" : Str)] (sp_same_in n)) : FnOk P w K mg base CX0 (n + 2) T.d_l_same.f T.d_l_same.fd [("one" : Str), ("other" : Str)] (sp_sameN n) := by
  refine T.d_l_same.fn.ok sc_l_same (fun vs H Q E h => ?_) (fun cdv A outer s H vs Q E hr h => ⟨rd_l_same K C (sp_same_in n) E, ?_, pure_l_sameN n vs H Q E h⟩)
  · obtain ⟨_, _, _, rfl, _⟩ := h
    rfl
  · unfold rd_l_same
    exact (pss_cons (ps_if (PW.pt (pw_or (pt_cmpR op_isNF (pv 0) pe_non (nomark _)) (pw_or1 (pt_cmpR op_isNF (pv 1) pe_non (nomark _))))) (pss_one (ps_ret (pe_and (pe_cmpR op_isNF (pv 0) pe_non (nomark _)) (pe_one (pe_cmpR op_isNF (pv 1) pe_non (nomark _)))))) pss_nil) (pss_cons (ps_if (PW.pt (pw_or (pt_val (pe_callB c_isi (by rfl) T.b_isinstance (by decide +kernel) (pa_cons (pv 0) (pa_cons (pe_bltn (v := .ty "bool") (by rfl) T.b_bool (by decide +kernel) rfl) pa_nil)))) (pw_or1 (pt_val (pe_callB c_isi (by rfl) T.b_isinstance (by decide +kernel) (pa_cons (pv 1) (pa_cons (pe_bltn (v := .ty "bool") (by rfl) T.b_bool (by decide +kernel) rfl) pa_nil))))))) (pss_one (ps_ret (pe_and (pe_callB c_isi (by rfl) T.b_isinstance (by decide +kernel) (pa_cons (pv 0) (pa_cons (pe_bltn (v := .ty "bool") (by rfl) T.b_bool (by decide +kernel) rfl) pa_nil))) (pe_and (pe_callB c_isi (by rfl) T.b_isinstance (by decide +kernel) (pa_cons (pv 1) (pa_cons (pe_bltn (v := .ty "bool") (by rfl) T.b_bool (by decide +kernel) rfl) pa_nil))) (pe_one (pe_cmpR (op_eqF hr.units) (pv 0) (pv 1) (nomark _))))))) pss_nil) (pss_cons (ps_if (PW.pt (pw_or (pt_val (pe_callB c_isi (by rfl) T.b_isinstance (by decide +kernel) (pa_cons (pv 0) (pa_cons (pe_bltn (v := .ty "int") (by rfl) T.b_int (by decide +kernel) rfl) pa_nil)))) (pw_or1 (pt_val (pe_callB c_isi (by rfl) T.b_isinstance (by decide +kernel) (pa_cons (pv 1) (pa_cons (pe_bltn (v := .ty "int") (by rfl) T.b_int (by decide +kernel) rfl) pa_nil))))))) (pss_one (ps_ret (pe_and (pe_callB c_isi (by rfl) T.b_isinstance (by decide +kernel) (pa_cons (pv 0) (pa_cons (pe_bltn (v := .ty "int") (by rfl) T.b_int (by decide +kernel) rfl) pa_nil))) (pe_and (pe_callB c_isi (by rfl) T.b_isinstance (by decide +kernel) (pa_cons (pv 1) (pa_cons (pe_bltn (v := .ty "int") (by rfl) T.b_int (by decide +kernel) rfl) pa_nil))) (pe_one (pe_cmpR (op_eqF hr.units) (pv 0) (pv 1) (nomark _))))))) pss_nil) (pss_cons (ps_if (PW.pt (pw_or (pt_val (pe_callB c_isi (by rfl) T.b_isinstance (by decide +kernel) (pa_cons (pv 0) (pa_cons (pe_bltn (v := .ty "str") (by rfl) T.b_str (by decide +kernel) rfl) pa_nil)))) (pw_or1 (pt_val (pe_callB c_isi (by rfl) T.b_isinstance (by decide +kernel) (pa_cons (pv 1) (pa_cons (pe_bltn (v := .ty "str") (by rfl) T.b_str (by decide +kernel) rfl) pa_nil))))))) (pss_one (ps_ret (pe_and (pe_callB c_isi (by rfl) T.b_isinstance (by decide +kernel) (pa_cons (pv 0) (pa_cons (pe_bltn (v := .ty "str") (by rfl) T.b_str (by decide +kernel) rfl) pa_nil))) (pe_and (pe_callB c_isi (by rfl) T.b_isinstance (by decide +kernel) (pa_cons (pv 1) (pa_cons (pe_bltn (v := .ty "str") (by rfl) T.b_str (by decide +kernel) rfl) pa_nil))) (pe_one (pe_cmpR (op_eqF hr.units) (pv 0) (pv 1) (nomark _))))))) pss_nil) (pss_cons (ps_if (PW.pt (pw_or (pt_val (pe_callB c_isi (by rfl) T.b_isinstance (by decide +kernel) (pa_cons (pv 0) (pa_cons (pe_bltn (v := .ty "dict") (by rfl) T.b_dict (by decide +kernel) rfl) pa_nil)))) (pw_or1 (pt_val (pe_callB c_isi (by rfl) T.b_isinstance (by decide +kernel) (pa_cons (pv 1) (pa_cons (pe_bltn (v := .ty "dict") (by rfl) T.b_dict (by decide +kernel) rfl) pa_nil))))))) pss_never pss_nil) (pss_cons (ps_if (PW.pt (pw_or (pt_val (pe_callB c_isiT (by rfl) T.b_isinstance (by decide +kernel) (pa_cons (pv 0) (pa_cons (pe_tup (pa_cons (pe_bltn (v := .ty "list") (by rfl) T.b_list (by decide +kernel) rfl) (pa_cons (pe_bltn (v := .ty "tuple") (by rfl) T.b_tuple (by decide +kernel) rfl) pa_nil))) pa_nil)))) (pw_or1 (pt_val (pe_callB c_isiT (by rfl) T.b_isinstance (by decide +kernel) (pa_cons (pv 1) (pa_cons (pe_tup (pa_cons (pe_bltn (v := .ty "list") (by rfl) T.b_list (by decide +kernel) rfl) (pa_cons (pe_bltn (v := .ty "tuple") (by rfl) T.b_tuple (by decide +kernel) rfl) pa_nil))) pa_nil))))))) (pss_cons (ps_if (PW.pt (pw_or (pt_cmpR (op_neF hr.units) (pe_callB c_isi (by rfl) T.b_isinstance (by decide +kernel) (pa_cons (pv 0) (pa_cons (pe_bltn (v := .ty "list") (by rfl) T.b_list (by decide +kernel) rfl) pa_nil))) (pe_callB c_isi (by rfl) T.b_isinstance (by decide +kernel) (pa_cons (pv 1) (pa_cons (pe_bltn (v := .ty "list") (by rfl) T.b_list (by decide +kernel) rfl) pa_nil))) (nomark _)) (pw_or1 (pt_cmpR (op_neF hr.units) (pe_callB c_isi (by rfl) T.b_isinstance (by decide +kernel) (pa_cons (pv 0) (pa_cons (pe_bltn (v := .ty "tuple") (by rfl) T.b_tuple (by decide +kernel) rfl) pa_nil))) (pe_callB c_isi (by rfl) T.b_isinstance (by decide +kernel) (pa_cons (pv 1) (pa_cons (pe_bltn (v := .ty "tuple") (by rfl) T.b_tuple (by decide +kernel) rfl) pa_nil))) (nomark _))))) (pss_one (ps_ret pe_bl)) pss_nil) (pss_cons (ps_if (pt_cmpR (op_neF hr.units) (pe_callB c_len (by rfl) T.b_len (by decide +kernel) (pa_cons (pv 0) pa_nil)) (pe_callB c_len (by rfl) T.b_len (by decide +kernel) (pa_cons (pv 1) pa_nil)) (nomark _)) (pss_one (ps_ret pe_bl)) pss_nil) (pss_cons (ps_for PassesOwn.never rfl (pi_range1 (by rfl) T.b_range (pa_cons (pe_callB c_len (by rfl) T.b_len (by decide +kernel) (pa_cons (pv 0) pa_nil)) pa_nil)) (pg_name (i := 3) sc_l_same.nd rfl (by first | exact .inl rfl | exact .inr rfl)) (pss_one (ps_if (pt_not (pt_val (pe_callS G_l_same hr (by rfl) T.d_l_same.mg T.d_l_same.fn.kp T.d_l_same.bi pass0S (pa_cons (pe_ix ix_F (pv 0) (pv 3) (fun _ _ => rfl)) (pa_cons (pe_ix ix_F (pv 1) (pv 3) (fun _ _ => rfl)) pa_nil))))) (pss_one (ps_ret pe_bl)) pss_nil))) (pss_one (ps_ret pe_bl))))) pss_nil) (pss_cons ps_never (pss_one ps_never))))))))
theorem ok_sameN (T : Txt K mg C) (n : Nat) : FnOk P w K mg base CX0 (n + 2) T.d_l_same.f T.d_l_same.fd [("one" : Str), ("other" : Str)] (sp_sameN n) := by
  induction n with
  | zero => exact step_same T 0 no_fn
  | succ n ih => exact step_same T (n + 1) ih
theorem ok_l_same (T : Txt K mg C) : FnOk P w K mg base CX0 8 T.d_l_same.f T.d_l_same.fd [("one" : Str), ("other" : Str)] (sp_l_same K C) := ok_sameN T 6
theorem step_sameH (T : Txt K mg C) (n : Nat) (H_l_same : L2H.FnH P w K mg base CX0 (n + 1) T.d_l_same.f T.d_l_same.fd [("one" : Str), ("other" : Str)] (sp_same_in n)) : L2H.FnH P w K mg base CX0 (n + 2) T.d_l_same.f T.d_l_same.fd [("one" : Str), ("other" : Str)] (sp_sameN n) := by
  refine okH T.d_l_same.fn sc_l_same (fun vs H Q E h => ?_) (fun cdv A outer s H vs Q E p hot hr h => ⟨rd_l_same K C (sp_same_in n) E, ?_, pure_l_sameN n vs H Q E h⟩)
  · obtain ⟨_, _, _, rfl, _⟩ := h
    rfl
  · have hotc : L2H.HotC (L2H.cxH CX0 P w K mg base sN_l_same "_law_same" (defScope s_l_same) T.d_l_same.f cdv A outer s H E p) := ⟨p, ⟨hot.1, hot.2⟩, List.mem_cons_self⟩
    unfold rd_l_same
    exact (pss_cons (ps_if (PW.pt (pw_or (pt_cmpR op_isNF (pv 0) pe_non (nomark _)) (pw_or1 (pt_cmpR op_isNF (pv 1) pe_non (nomark _))))) (pss_one (ps_ret (pe_and (pe_cmpR op_isNF (pv 0) pe_non (nomark _)) (pe_one (pe_cmpR op_isNF (pv 1) pe_non (nomark _)))))) pss_nil) (pss_cons (ps_if (PW.pt (pw_or (pt_val (pe_callB c_isi (by rfl) T.b_isinstance (by decide +kernel) (pa_cons (pv 0) (pa_cons (pe_bltn (v := .ty "bool") (by rfl) T.b_bool (by decide +kernel) rfl) pa_nil)))) (pw_or1 (pt_val (pe_callB c_isi (by rfl) T.b_isinstance (by decide +kernel) (pa_cons (pv 1) (pa_cons (pe_bltn (v := .ty "bool") (by rfl) T.b_bool (by decide +kernel) rfl) pa_nil))))))) (pss_one (ps_ret (pe_and (pe_callB c_isi (by rfl) T.b_isinstance (by decide +kernel) (pa_cons (pv 0) (pa_cons (pe_bltn (v := .ty "bool") (by rfl) T.b_bool (by decide +kernel) rfl) pa_nil))) (pe_and (pe_callB c_isi (by rfl) T.b_isinstance (by decide +kernel) (pa_cons (pv 1) (pa_cons (pe_bltn (v := .ty "bool") (by rfl) T.b_bool (by decide +kernel) rfl) pa_nil))) (pe_one (pe_cmpR (op_eqF (hu_H hr)) (pv 0) (pv 1) (nomark _))))))) pss_nil) (pss_cons (ps_if (PW.pt (pw_or (pt_val (pe_callB c_isi (by rfl) T.b_isinstance (by decide +kernel) (pa_cons (pv 0) (pa_cons (pe_bltn (v := .ty "int") (by rfl) T.b_int (by decide +kernel) rfl) pa_nil)))) (pw_or1 (pt_val (pe_callB c_isi (by rfl) T.b_isinstance (by decide +kernel) (pa_cons (pv 1) (pa_cons (pe_bltn (v := .ty "int") (by rfl) T.b_int (by decide +kernel) rfl) pa_nil))))))) (pss_one (ps_ret (pe_and (pe_callB c_isi (by rfl) T.b_isinstance (by decide +kernel) (pa_cons (pv 0) (pa_cons (pe_bltn (v := .ty "int") (by rfl) T.b_int (by decide +kernel) rfl) pa_nil))) (pe_and (pe_callB c_isi (by rfl) T.b_isinstance (by decide +kernel) (pa_cons (pv 1) (pa_cons (pe_bltn (v := .ty "int") (by rfl) T.b_int (by decide +kernel) rfl) pa_nil))) (pe_one (pe_cmpR (op_eqF (hu_H hr)) (pv 0) (pv 1) (nomark _))))))) pss_nil) (pss_cons (ps_if (PW.pt (pw_or (pt_val (pe_callB c_isi (by rfl) T.b_isinstance (by decide +kernel) (pa_cons (pv 0) (pa_cons (pe_bltn (v := .ty "str") (by rfl) T.b_str (by decide +kernel) rfl) pa_nil)))) (pw_or1 (pt_val (pe_callB c_isi (by rfl) T.b_isinstance (by decide +kernel) (pa_cons (pv 1) (pa_cons (pe_bltn (v := .ty "str") (by rfl) T.b_str (by decide +kernel) rfl) pa_nil))))))) (pss_one (ps_ret (pe_and (pe_callB c_isi (by rfl) T.b_isinstance (by decide +kernel) (pa_cons (pv 0) (pa_cons (pe_bltn (v := .ty "str") (by rfl) T.b_str (by decide +kernel) rfl) pa_nil))) (pe_and (pe_callB c_isi (by rfl) T.b_isinstance (by decide +kernel) (pa_cons (pv 1) (pa_cons (pe_bltn (v := .ty "str") (by rfl) T.b_str (by decide +kernel) rfl) pa_nil))) (pe_one (pe_cmpR (op_eqF (hu_H hr)) (pv 0) (pv 1) (nomark _))))))) pss_nil) (pss_cons (ps_if (PW.pt (pw_or (pt_val (pe_callB c_isi (by rfl) T.b_isinstance (by decide +kernel) (pa_cons (pv 0) (pa_cons (pe_bltn (v := .ty "dict") (by rfl) T.b_dict (by decide +kernel) rfl) pa_nil)))) (pw_or1 (pt_val (pe_callB c_isi (by rfl) T.b_isinstance (by decide +kernel) (pa_cons (pv 1) (pa_cons (pe_bltn (v := .ty "dict") (by rfl) T.b_dict (by decide +kernel) rfl) pa_nil))))))) pss_never pss_nil) (pss_cons (ps_if (PW.pt (pw_or (pt_val (pe_callB c_isiT (by rfl) T.b_isinstance (by decide +kernel) (pa_cons (pv 0) (pa_cons (pe_tup (pa_cons (pe_bltn (v := .ty "list") (by rfl) T.b_list (by decide +kernel) rfl) (pa_cons (pe_bltn (v := .ty "tuple") (by rfl) T.b_tuple (by decide +kernel) rfl) pa_nil))) pa_nil)))) (pw_or1 (pt_val (pe_callB c_isiT (by rfl) T.b_isinstance (by decide +kernel) (pa_cons (pv 1) (pa_cons (pe_tup (pa_cons (pe_bltn (v := .ty "list") (by rfl) T.b_list (by decide +kernel) rfl) (pa_cons (pe_bltn (v := .ty "tuple") (by rfl) T.b_tuple (by decide +kernel) rfl) pa_nil))) pa_nil))))))) (pss_cons (ps_if (PW.pt (pw_or (pt_cmpR (op_neF (hu_H hr)) (pe_callB c_isi (by rfl) T.b_isinstance (by decide +kernel) (pa_cons (pv 0) (pa_cons (pe_bltn (v := .ty "list") (by rfl) T.b_list (by decide +kernel) rfl) pa_nil))) (pe_callB c_isi (by rfl) T.b_isinstance (by decide +kernel) (pa_cons (pv 1) (pa_cons (pe_bltn (v := .ty "list") (by rfl) T.b_list (by decide +kernel) rfl) pa_nil))) (nomark _)) (pw_or1 (pt_cmpR (op_neF (hu_H hr)) (pe_callB c_isi (by rfl) T.b_isinstance (by decide +kernel) (pa_cons (pv 0) (pa_cons (pe_bltn (v := .ty "tuple") (by rfl) T.b_tuple (by decide +kernel) rfl) pa_nil))) (pe_callB c_isi (by rfl) T.b_isinstance (by decide +kernel) (pa_cons (pv 1) (pa_cons (pe_bltn (v := .ty "tuple") (by rfl) T.b_tuple (by decide +kernel) rfl) pa_nil))) (nomark _))))) (pss_one (ps_ret pe_bl)) pss_nil) (pss_cons (ps_if (pt_cmpR (op_neF (hu_H hr)) (pe_callB c_len (by rfl) T.b_len (by decide +kernel) (pa_cons (pv 0) pa_nil)) (pe_callB c_len (by rfl) T.b_len (by decide +kernel) (pa_cons (pv 1) pa_nil)) (nomark _)) (pss_one (ps_ret pe_bl)) pss_nil) (pss_cons (L2H.ps_forH (passes_of rfl) hotc (L2H.pi_range1H (by rfl) T.b_range (pa_cons (pe_callB c_len (by rfl) T.b_len (by decide +kernel) (pa_cons (pv 0) pa_nil)) pa_nil)) (pg_name (i := 3) sc_l_same.nd rfl (by first | exact .inl rfl | exact .inr rfl)) (pss_one (ps_if (pt_not (pt_val (L2H.pe_callH H_l_same hr hotc (by rfl) T.d_l_same.mg T.d_l_same.fn.kp T.d_l_same.bi pass0S (pa_cons (pe_ix ix_F (pv 0) (pv 3) (fun _ _ => rfl)) (pa_cons (pe_ix ix_F (pv 1) (pv 3) (fun _ _ => rfl)) pa_nil))))) (pss_one (ps_ret pe_bl)) pss_nil))) (pss_one (ps_ret pe_bl))))) pss_nil) (pss_cons ps_never (pss_one ps_never))))))))
theorem ok_sameNH (T : Txt K mg C) (n : Nat) : L2H.FnH P w K mg base CX0 (n + 2) T.d_l_same.f T.d_l_same.fd [("one" : Str), ("other" : Str)] (sp_sameN n) := by
  induction n with
  | zero => exact step_sameH T 0 no_fnH
  | succ n ih => exact step_sameH T (n + 1) ih
theorem okH_l_same (T : Txt K mg C) : L2H.FnH P w K mg base CX0 8 T.d_l_same.f T.d_l_same.fd [("one" : Str), ("other" : Str)] (sp_l_same K C) := ok_sameNH T 6
theorem step_spoil (T : Txt K mg C) (n : Nat) {spR spS : Sp} (len : ∀ vs H Q E, spS vs H Q E → vs.length = ([("value" : Str)] : List Str).length) (pure_ : ∀ vs H Q E, spS vs H Q E → rd_l_spoil K C spR E { nx := fun _ H' => Q .non H', rt := Q } (start sN_l_spoil vs) H)
    (G_l_spoil : FnOk P w K mg base CX0 (n + 1) T.d_l_spoil.f T.d_l_spoil.fd [("value" : Str)] spR) : FnOk P w K mg base CX0 (n + 2) T.d_l_spoil.f T.d_l_spoil.fd [("value" : Str)] spS := by
  refine T.d_l_spoil.fn.ok sc_l_spoil len (fun cdv A outer s H vs Q E hr h => ⟨rd_l_spoil K C spR E, ?_, pure_ vs H Q E h⟩)
  unfold rd_l_spoil
  exact (pss_cons (ps_if (pt_val (pe_callB c_isi (by rfl) T.b_isinstance (by decide +kernel) (pa_cons (pv 0) (pa_cons (pe_bltn (v := .ty "dict") (by rfl) T.b_dict (by decide +kernel) rfl) pa_nil)))) pss_never pss_nil) (pss_cons (ps_if (pt_val (pe_callB c_isiT (by rfl) T.b_isinstance (by decide +kernel) (pa_cons (pv 0) (pa_cons (pe_tup (pa_cons (pe_bltn (v := .ty "list") (by rfl) T.b_list (by decide +kernel) rfl) (pa_cons (pe_bltn (v := .ty "tuple") (by rfl) T.b_tuple (by decide +kernel) rfl) pa_nil))) pa_nil)))) (pss_one (ps_for PassesOwn.never rfl (pi_list (pe_callTy c_list (by rfl) T.b_list (by decide +kernel) (pa_cons (pv 0) pa_nil))) (pg_name (i := 2) sc_l_spoil.nd rfl (by first | exact .inl rfl | exact .inr rfl)) (pss_one (ps_expr (pe_callS G_l_spoil hr (by rfl) T.d_l_spoil.mg T.d_l_spoil.fn.kp T.d_l_spoil.bi pass0S (pa_cons (pv 2) pa_nil)))))) pss_nil) (pss_one (ps_if (pt_val (pe_callB c_isi (by rfl) T.b_isinstance (by decide +kernel) (pa_cons (pv 0) (pa_cons (pe_bltn (v := .ty "list") (by rfl) T.b_list (by decide +kernel) rfl) pa_nil)))) (pss_one (ps_if (pt_cmpR op_gtF (pe_callB c_len (by rfl) T.b_len (by decide +kernel) (pa_cons (pv 0) pa_nil)) pe_int (nomark _)) (pss_cons (ps_expr (pe_imp (pe_bm0 PySem.F.plainAttrs_list PySem.F.slot_list_pop PySem.F.type_list_pop m_pop (pv 0)) bm0_var)) (pss_one (ps_asg pe_non (pg_sub (pv 0) pe_int set_F)))) (pss_one (ps_expr (pe_imp (pe_bm PySem.F.plainAttrs_list PySem.F.slot_list_append PySem.F.type_list_append m_append (pv 0) (pa_cons pe_non pa_nil)) bm_var))))) pss_nil))))
theorem ok_l_spoil (T : Txt K mg C) : FnOk P w K mg base CX0 4 T.d_l_spoil.f T.d_l_spoil.fd [("value" : Str)] (sp_l_spoil K C) :=
  step_spoil T 2 (fun vs H Q E h => by obtain ⟨_, _, _, rfl, _⟩ := h; rfl) (fun vs H Q E h => pure_spoil2 vs H Q E h) (step_spoil T 1 (fun vs H Q E h => by obtain ⟨_, _, rfl, _⟩ := h; rfl) (fun vs H Q E h => pure_spoil1 vs H Q E h)
    (step_spoil T 0 (fun vs H Q E h => by obtain ⟨_, rfl, _⟩ := h; rfl) (fun vs H Q E h => pure_spoil0 vs H Q E h) no_fn))
theorem ok_l_bases (T : Txt K mg C) : FnOk P w K mg base CX0 6 T.d_l_bases.f T.d_l_bases.fd [("store" : Str)] (sp_l_bases K C) := by
  have G_l_edge := ok_l_edge (P := P) (w := w) (mg := mg) (base := base) T
  have G_l_pick := ok_l_pick (P := P) (w := w) (mg := mg) (base := base) T
  have G_l_take := ok_l_take (P := P) (w := w) (mg := mg) (base := base) T
  refine T.d_l_bases.fn.ok sc_l_bases (fun vs H Q E h => ?_) (fun cdv A outer s H vs Q E hr h => ⟨rd_l_bases K C E, ?_, pure_l_bases vs H Q E h⟩)
  · first
    | (obtain ⟨_, rfl, _⟩ := h; rfl)
    | (obtain ⟨_, _, rfl, _⟩ := h; rfl)
    | (obtain ⟨_, _, _, rfl, _⟩ := h; rfl)
    | (obtain ⟨_, _, _, _, rfl, _⟩ := h; rfl)
    | (obtain ⟨_, _, _, _, _, rfl, _⟩ := h; rfl)
  · unfold rd_l_bases
    exact (pss_cons (ps_set (i := 1) sc_l_bases.nd rfl (Or.inl rfl) (pe_callS G_l_take (hr.mono (by decide)) (by rfl) T.d_l_take.mg T.d_l_take.fn.kp T.d_l_take.bi pass0S (pa_cons (pv 0) (pa_cons pe_int pa_nil)))) (Evl.pss_cut (ps_if (pt_cmpR (op_eqF hr.units) (pe_callS G_l_take (hr.mono (by decide)) (by rfl) T.d_l_take.mg T.d_l_take.fn.kp T.d_l_take.bi pass0S (pa_cons (pv 0) (pa_cons pe_int pa_nil))) pe_int (nomark _)) (pss_one (ps_set (i := 1) sc_l_bases.nd rfl (Or.inl rfl) (pe_callS G_l_edge (hr.mono (by decide)) (by rfl) T.d_l_edge.mg T.d_l_edge.fn.kp T.d_l_edge.bi pass0S (pa_cons (pv 0) (pa_cons pe_int (pa_cons pe_int pa_nil)))))) pss_nil) (pss_cons (ps_set (i := 2) sc_l_bases.nd rfl (Or.inl rfl) (pe_lst pa_nil)) (pss_cons (ps_set (i := 3) sc_l_bases.nd rfl (Or.inl rfl) (pe_lst pa_nil)) (pss_cons (ps_for PassesOwn.never rfl (pi_range1 (by rfl) T.b_range (pa_cons (pv 1) pa_nil)) (pg_name (i := 4) sc_l_bases.nd rfl (by first | exact .inl rfl | exact .inr rfl)) (pss_cons (ps_set (i := 5) sc_l_bases.nd rfl (Or.inl rfl) (pe_callS G_l_pick (hr.mono (by decide)) (by rfl) T.d_l_pick.mg T.d_l_pick.fn.kp T.d_l_pick.bi pass0S (pa_cons (pv 0) (pa_cons (pe_lst (pa_cons pe_int (pa_cons pe_int (pa_cons pe_int (pa_cons pe_int (pa_cons pe_int (pa_cons (pe_op op_addF pe_int (pe_callS G_l_take (hr.mono (by decide)) (by rfl) T.d_l_take.mg T.d_l_take.fn.kp T.d_l_take.bi pass0S (pa_cons (pv 0) (pa_cons pe_int pa_nil)))) pa_nil))))))) pa_nil)))) (pss_cons (ps_expr (pe_imp (pe_bm PySem.F.plainAttrs_list PySem.F.slot_list_append PySem.F.type_list_append m_append (pv 2) (pa_cons (pv 5) pa_nil)) bm_var)) (pss_one (ps_expr (pe_imp (pe_bm PySem.F.plainAttrs_list PySem.F.slot_list_append PySem.F.type_list_append m_append (pv 3) (pa_cons (pe_callS G_l_edge (hr.mono (by decide)) (by rfl) T.d_l_edge.mg T.d_l_edge.fn.kp T.d_l_edge.bi pass0S (pa_cons (pv 0) (pa_cons pe_int (pa_cons (pe_op op_subF (pv 5) pe_int) pa_nil)))) pa_nil)) bm_var)))))) (pss_one (ps_ret (pe_tup (pa_cons (pv 2) (pa_cons (pv 3) pa_nil))))))))))
theorem ok_l_bad_bases (T : Txt K mg C) : FnOk P w K mg base CX0 5 T.d_l_bad_bases.f T.d_l_bad_bases.fd [("store" : Str), ("pair" : Str)] (sp_l_bad_bases K C) := by
  have G_l_pick := ok_l_pick (P := P) (w := w) (mg := mg) (base := base) T
  have G_l_take := ok_l_take (P := P) (w := w) (mg := mg) (base := base) T
  refine T.d_l_bad_bases.fn.ok sc_l_bad_bases (fun vs H Q E h => ?_) (fun cdv A outer s H vs Q E hr h => ⟨rd_l_bad_bases K C E, ?_, pure_l_bad_bases vs H Q E h⟩)
  · first
    | (obtain ⟨_, rfl, _⟩ := h; rfl)
    | (obtain ⟨_, _, rfl, _⟩ := h; rfl)
    | (obtain ⟨_, _, _, rfl, _⟩ := h; rfl)
    | (obtain ⟨_, _, _, _, rfl, _⟩ := h; rfl)
    | (obtain ⟨_, _, _, _, _, rfl, _⟩ := h; rfl)
  · unfold rd_l_bad_bases
    exact (pss_cons (ps_set (i := 2) sc_l_bad_bases.nd rfl (Or.inl rfl) (pe_slice sl_F (pe_ix ix_F (pv 1) pe_int (fun _ _ => rfl)) po_none (po_some pe_int))) (pss_cons (ps_set (i := 3) sc_l_bad_bases.nd rfl (Or.inl rfl) (pe_slice sl_F (pe_ix ix_F (pv 1) pe_int (fun _ _ => rfl)) po_none (po_some pe_int))) (pss_cons (ps_set (i := 4) sc_l_bad_bases.nd rfl (Or.inl rfl) (pe_callS G_l_take (hr.mono (by decide)) (by rfl) T.d_l_take.mg T.d_l_take.fn.kp T.d_l_take.bi pass0S (pa_cons (pv 0) (pa_cons pe_int pa_nil)))) (pss_cons (ps_set (i := 5) sc_l_bad_bases.nd rfl (Or.inl rfl) (pe_callS G_l_take (hr.mono (by decide)) (by rfl) T.d_l_take.mg T.d_l_take.fn.kp T.d_l_take.bi pass0S (pa_cons (pv 0) (pa_cons (pe_op op_addF (pe_callB c_len (by rfl) T.b_len (by decide +kernel) (pa_cons (pv 2) pa_nil)) pe_int) pa_nil)))) (pss_cons (ps_if (pt_cmpR op_ltF (pv 4) pe_int (nomark _)) (pss_cons (ps_expr (pe_imp (pe_bm PySem.F.plainAttrs_list PySem.F.slot_list_insert PySem.F.type_list_insert m_insert (pv 2) (pa_cons (pv 5) (pa_cons (pe_ix ix_F (pe_lst (pa_cons pe_int (pa_cons pe_int (pa_cons pe_bl (pa_cons (pe_un un_negF pe_int) (pa_cons pe_non (pa_cons pe_str pa_nil))))))) (pe_callS G_l_take (hr.mono (by decide)) (by rfl) T.d_l_take.mg T.d_l_take.fn.kp T.d_l_take.bi pass0S (pa_cons (pv 0) (pa_cons pe_int pa_nil))) (fun _ _ => rfl)) pa_nil))) bm_var)) (pss_cons (ps_expr (pe_imp (pe_bm PySem.F.plainAttrs_list PySem.F.slot_list_insert PySem.F.type_list_insert m_insert (pv 3) (pa_cons (pv 5) (pa_cons pe_int pa_nil))) bm_var)) (pss_one (ps_ret (pe_tup (pa_cons (pv 2) (pa_cons (pv 3) (pa_cons pe_str pa_nil)))))))) pss_nil) (pss_cons (ps_if (pt_cmpR (op_eqF hr.units) (pv 4) pe_int (nomark _)) (pss_one (ps_ret (pe_tup (pa_cons (pe_op op_mulF (pe_lst (pa_cons pe_int pa_nil)) pe_int) (pa_cons (pe_op op_mulF (pe_lst (pa_cons pe_int pa_nil)) pe_int) (pa_cons pe_str pa_nil)))))) pss_nil) (pss_cons (ps_if (pt_cmpR (op_eqF hr.units) (pv 4) pe_int (nomark _)) (pss_one (ps_ret (pe_tup (pa_cons (pe_callS G_l_pick (hr.mono (by decide)) (by rfl) T.d_l_pick.mg T.d_l_pick.fn.kp T.d_l_pick.bi pass0S (pa_cons (pv 0) (pa_cons (pe_lst (pa_cons (pe_callTy c_tuple (by rfl) T.b_tuple (by decide +kernel) (pa_cons (pv 2) pa_nil)) (pa_cons pe_non (pa_cons pe_dnewK (pa_cons pe_str pa_nil))))) pa_nil))) (pa_cons (pv 3) (pa_cons pe_str pa_nil)))))) pss_nil) (pss_cons (ps_if (pt_cmpR (op_eqF hr.units) (pv 4) pe_int (nomark _)) (pss_one (ps_ret (pe_tup (pa_cons (pv 2) (pa_cons (pe_callS G_l_pick (hr.mono (by decide)) (by rfl) T.d_l_pick.mg T.d_l_pick.fn.kp T.d_l_pick.bi pass0S (pa_cons (pv 0) (pa_cons (pe_lst (pa_cons (pe_callTy c_tuple (by rfl) T.b_tuple (by decide +kernel) (pa_cons (pv 3) pa_nil)) (pa_cons pe_non (pa_cons (pe_op op_addF (pv 3) (pe_lst (pa_cons pe_int pa_nil))) (pa_cons pe_str pa_nil))))) pa_nil))) (pa_cons pe_str pa_nil)))))) pss_nil) (pss_cons (ps_if (PW.pt (pw_and (pt_cmpR (op_eqF hr.units) (pv 4) pe_int (nomark _)) (pw_and1 (pt_cmpR op_gtF (pe_callB c_len (by rfl) T.b_len (by decide +kernel) (pa_cons (pv 3) pa_nil)) pe_int (nomark _))))) (pss_one (ps_ret (pe_tup (pa_cons (pv 2) (pa_cons (pe_slice sl_F (pv 3) (po_some pe_int) po_none) (pa_cons pe_str pa_nil)))))) pss_nil) (pss_cons (ps_expr (pe_imp (pe_bm PySem.F.plainAttrs_list PySem.F.slot_list_insert PySem.F.type_list_insert m_insert (pv 2) (pa_cons (pv 5) (pa_cons pe_int pa_nil))) bm_var)) (pss_cons (ps_expr (pe_imp (pe_bm PySem.F.plainAttrs_list PySem.F.slot_list_insert PySem.F.type_list_insert m_insert (pv 3) (pa_cons (pv 5) (pa_cons (pe_callS G_l_pick (hr.mono (by decide)) (by rfl) T.d_l_pick.mg T.d_l_pick.fn.kp T.d_l_pick.bi pass0S (pa_cons (pv 0) (pa_cons (pe_lst (pa_cons pe_int (pa_cons pe_int (pa_cons (pe_un un_negF pe_int) (pa_cons pe_bl (pa_cons pe_non (pa_cons pe_str pa_nil))))))) pa_nil))) pa_nil))) bm_var)) (pss_one (ps_ret (pe_tup (pa_cons (pv 2) (pa_cons (pv 3) (pa_cons pe_str pa_nil)))))))))))))))))
theorem ok_l_number_told (T : Txt K mg C) : FnOk P w K mg base CX0 6 T.d_l_number_told.f T.d_l_number_told.fd [("bases" : Str), ("digits" : Str)] (sp_l_number_told K C) := by
  have G_mixed_number := ok_mixed_number (P := P) (w := w) (mg := mg) (base := base) T
  refine T.d_l_number_told.fn.ok sc_l_number_told (fun vs H Q E h => ?_) (fun cdv A outer s H vs Q E hr h => ⟨rd_l_number_told K C E, ?_, pure_l_number_told T.ef vs H Q E h⟩)
  · first
    | (obtain ⟨_, rfl, _⟩ := h; rfl)
    | (obtain ⟨_, _, rfl, _⟩ := h; rfl)
    | (obtain ⟨_, _, _, rfl, _⟩ := h; rfl)
    | (obtain ⟨_, _, _, _, rfl, _⟩ := h; rfl)
    | (obtain ⟨_, _, _, _, _, rfl, _⟩ := h; rfl)
  · unfold rd_l_number_told
    exact (pss_one (ps_tryX (tb := fun W => (tRet (tLst (tCons (tC (.str ("good" : Str))) (tCons (tCallS (sp_mixed_number K C) (WE W) (tCons (tVar 0) (tCons (tVar 1) tNil))) tNil))))) (Wout := fun _ _ _ _ => False) rfl rfl takesN0 (fun W pn xe tk _ => (pss_one (ps_ret (pe_lst (pa_cons pe_str (pa_cons (pe_callS G_mixed_number (hr.mono (by decide)) (by rfl) T.d_mixed_number.mg T.d_mixed_number.fn.kp T.d_mixed_number.bi (fun σ => L2N.passAt tk σ) (pa_cons (pv 0) (pa_cons (pv 1) pa_nil))) pa_nil)))))) (HdX.as (i := 2) sc_l_number_told.nd rfl rfl ⟨rfl, by decide, .inl T.g_BadShape⟩ (fun a oe cls d pn hz hf => (pss_cons (ps_if (PW.pt (pw_or (pt_not (pt_val (pe_callB (c_isE T.e_BadShape.ec hz hf) (by rfl) T.b_isinstance (by decide +kernel) (pa_cons (pv 2) (pa_cons (pe_glob (v := .ref C.CrossError) (by rfl) T.g_CrossError rfl) pa_nil))))) (pw_or (pt_not (pt_val (pe_callB (c_isE T.e_BadShape.ec hz hf) (by rfl) T.b_isinstance (by decide +kernel) (pa_cons (pv 2) (pa_cons (pe_bltn (v := .ty "ValueError") (by rfl) T.b_ValueError (by decide +kernel) rfl) pa_nil))))) (pw_or1 (pt_val (pe_callB (c_isET T.e_BadShape.ec hz hf) (by rfl) T.b_isinstance (by decide +kernel) (pa_cons (pv 2) (pa_cons (pe_tup (pa_cons (pe_glob (v := .ref C.NoRank) (by rfl) T.g_NoRank rfl) (pa_cons (pe_glob (v := .ref C.Lacking) (by rfl) T.g_Lacking rfl) pa_nil))) pa_nil)))))))) (pss_one (ps_ret (pe_lst (pa_cons pe_str pa_nil)))) pss_nil) (pss_one (ps_ret (pe_lst (pa_cons pe_str (pa_cons (pe_xf T.e_BadShape.xf (T.e_BadShape.no _ (by decide +kernel)) hz.zc hf (pv 2)) pa_nil))))))) (HdX.plain ⟨rfl, by decide, .inl T.g_CrossError⟩ (fun a oe cls d pn hz hf => (pss_one (ps_ret (pe_lst (pa_cons pe_str pa_nil))))) HdX.nil))))
theorem ok_l_digits_told (T : Txt K mg C) : FnOk P w K mg base CX0 6 T.d_l_digits_told.f T.d_l_digits_told.fd [("bases" : Str), ("number" : Str)] (sp_l_digits_told K C) := by
  have G_mixed_digits := ok_mixed_digits (P := P) (w := w) (mg := mg) (base := base) T
  refine T.d_l_digits_told.fn.ok sc_l_digits_told (fun vs H Q E h => ?_) (fun cdv A outer s H vs Q E hr h => ⟨rd_l_digits_told K C E, ?_, pure_l_digits_told T.ef vs H Q E h⟩)
  · first
    | (obtain ⟨_, rfl, _⟩ := h; rfl)
    | (obtain ⟨_, _, rfl, _⟩ := h; rfl)
    | (obtain ⟨_, _, _, rfl, _⟩ := h; rfl)
    | (obtain ⟨_, _, _, _, rfl, _⟩ := h; rfl)
    | (obtain ⟨_, _, _, _, _, rfl, _⟩ := h; rfl)
  · unfold rd_l_digits_told
    exact (pss_one (ps_tryX (tb := fun W => (tRet (tLst (tCons (tC (.str ("good" : Str))) (tCons (tCallS (sp_mixed_digits K C) (WE W) (tCons (tVar 0) (tCons (tVar 1) tNil))) tNil))))) (Wout := fun _ _ _ _ => False) rfl rfl takesN0 (fun W pn xe tk _ => (pss_one (ps_ret (pe_lst (pa_cons pe_str (pa_cons (pe_callS G_mixed_digits (hr.mono (by decide)) (by rfl) T.d_mixed_digits.mg T.d_mixed_digits.fn.kp T.d_mixed_digits.bi (fun σ => L2N.passAt tk σ) (pa_cons (pv 0) (pa_cons (pv 1) pa_nil))) pa_nil)))))) (HdX.as (i := 2) sc_l_digits_told.nd rfl rfl ⟨rfl, by decide, .inl T.g_NoRank⟩ (fun a oe cls d pn hz hf => (pss_cons (ps_if (PW.pt (pw_or (pt_not (pt_val (pe_callB (c_isE T.e_NoRank.ec hz hf) (by rfl) T.b_isinstance (by decide +kernel) (pa_cons (pv 2) (pa_cons (pe_glob (v := .ref C.CrossError) (by rfl) T.g_CrossError rfl) pa_nil))))) (pw_or (pt_not (pt_val (pe_callB (c_isE T.e_NoRank.ec hz hf) (by rfl) T.b_isinstance (by decide +kernel) (pa_cons (pv 2) (pa_cons (pe_bltn (v := .ty "ValueError") (by rfl) T.b_ValueError (by decide +kernel) rfl) pa_nil))))) (pw_or1 (pt_val (pe_callB (c_isET T.e_NoRank.ec hz hf) (by rfl) T.b_isinstance (by decide +kernel) (pa_cons (pv 2) (pa_cons (pe_tup (pa_cons (pe_glob (v := .ref C.BadShape) (by rfl) T.g_BadShape rfl) (pa_cons (pe_glob (v := .ref C.Lacking) (by rfl) T.g_Lacking rfl) pa_nil))) pa_nil)))))))) (pss_one (ps_ret (pe_lst (pa_cons pe_str pa_nil)))) pss_nil) (pss_one (ps_ret (pe_lst (pa_cons pe_str (pa_cons (pe_xf T.e_NoRank.xf (T.e_NoRank.no _ (by decide +kernel)) hz.zc hf (pv 2)) (pa_cons (pe_xf T.e_NoRank.xf (T.e_NoRank.no _ (by decide +kernel)) hz.zc hf (pv 2)) pa_nil)))))))) (HdX.as (i := 2) sc_l_digits_told.nd rfl rfl ⟨rfl, by decide, .inl T.g_BadShape⟩ (fun a oe cls d pn hz hf => (pss_one (ps_ret (pe_lst (pa_cons pe_str (pa_cons (pe_xf T.e_BadShape.xf (T.e_BadShape.no _ (by decide +kernel)) hz.zc hf (pv 2)) pa_nil)))))) (HdX.plain ⟨rfl, by decide, .inl T.g_CrossError⟩ (fun a oe cls d pn hz hf => (pss_one (ps_ret (pe_lst (pa_cons pe_str pa_nil))))) HdX.nil)))))
theorem ok_l_weights (T : Txt K mg C) : FnOk P w K mg base CX0 2 T.d_l_weights.f T.d_l_weights.fd [("bases" : Str)] (sp_l_weights K C) := by
  refine T.d_l_weights.fn.ok sc_l_weights (fun vs H Q E h => ?_) (fun cdv A outer s H vs Q E hr h => ⟨rd_l_weights K C E, ?_, pure_l_weights vs H Q E h⟩)
  · first
    | (obtain ⟨_, rfl, _⟩ := h; rfl)
    | (obtain ⟨_, _, rfl, _⟩ := h; rfl)
    | (obtain ⟨_, _, _, rfl, _⟩ := h; rfl)
    | (obtain ⟨_, _, _, _, rfl, _⟩ := h; rfl)
    | (obtain ⟨_, _, _, _, _, rfl, _⟩ := h; rfl)
  · unfold rd_l_weights
    exact (pss_cons (ps_set (i := 1) sc_l_weights.nd rfl (Or.inl rfl) (pe_lst pa_nil)) (pss_cons (ps_set (i := 2) sc_l_weights.nd rfl (Or.inl rfl) pe_int) (pss_cons (ps_for PassesOwn.never rfl (pi_reversed (by rfl) T.b_reversed (pa_cons (pe_callTy c_list (by rfl) T.b_list (by decide +kernel) (pa_cons (pv 0) pa_nil)) pa_nil)) (pg_name (i := 3) sc_l_weights.nd rfl (by first | exact .inl rfl | exact .inr rfl)) (pss_cons (ps_set (i := 1) sc_l_weights.nd rfl (Or.inl rfl) (pe_op op_addF (pe_lst (pa_cons (pv 2) pa_nil)) (pv 1))) (pss_one (ps_set (i := 2) sc_l_weights.nd rfl (Or.inl rfl) (pe_op op_mulF (pv 2) (pv 3)))))) (pss_one (ps_ret (pe_lst (pa_cons (pv 1) (pa_cons (pv 2) pa_nil))))))))
theorem ok_l_worth (T : Txt K mg C) : FnOk P w K mg base CX0 3 T.d_l_worth.f T.d_l_worth.fd [("bases" : Str), ("digits" : Str)] (sp_l_worth K C) := by
  have G_l_weights := ok_l_weights (P := P) (w := w) (mg := mg) (base := base) T
  refine T.d_l_worth.fn.ok sc_l_worth (fun vs H Q E h => ?_) (fun cdv A outer s H vs Q E hr h => ⟨rd_l_worth K C E, ?_, pure_l_worth vs H Q E h⟩)
  · first
    | (obtain ⟨_, rfl, _⟩ := h; rfl)
    | (obtain ⟨_, _, rfl, _⟩ := h; rfl)
    | (obtain ⟨_, _, _, rfl, _⟩ := h; rfl)
    | (obtain ⟨_, _, _, _, rfl, _⟩ := h; rfl)
    | (obtain ⟨_, _, _, _, _, rfl, _⟩ := h; rfl)
  · unfold rd_l_worth
    exact (pss_cons (ps_set (i := 2) sc_l_worth.nd rfl (Or.inr rfl) (pe_ix ix_F (pe_callS G_l_weights (hr.mono (by decide)) (by rfl) T.d_l_weights.mg T.d_l_weights.fn.kp T.d_l_weights.bi pass0S (pa_cons (pv 0) pa_nil)) pe_int (fun _ _ => rfl))) (pss_one (ps_ret (pe_callB (c_sum rfl) (by rfl) T.b_sum (by decide +kernel) (pa_cons (pe_lc (own := [(("k" : Str), 3)]) (g := (gName 3)) rfl sc_l_worth.nd (pi_range1 (by rfl) T.b_range (pa_cons (pe_callB c_len (by rfl) T.b_len (by decide +kernel) (pa_cons (pv 1) pa_nil)) pa_nil)) (blkOk_by (own := [(("k" : Str), 3)]) (N := sN_l_worth) (sc := defScope s_l_worth) (by decide +kernel)) (fun _ _ _ _ _ => (pg_name (i := 3) sc_l_worth.nd rfl (by first | exact .inl rfl | exact .inr rfl))) (fun _ _ _ _ _ => pts_nil) (fun _ _ _ _ _ => (pe_op op_mulF (pe_ix ix_F (pv 1) (pv 3) (fun _ _ => rfl)) (pe_ix ix_F (pv 2) (pv 3) (fun _ _ => rfl))))) pa_nil)))))
theorem ok_l_there_and_back (T : Txt K mg C) : FnOk P w K mg base CX0 9 T.d_l_there_and_back.f T.d_l_there_and_back.fd [("bases" : Str), ("digits" : Str)] (sp_l_there_and_back K C) := by
  have G_l_digits_told := ok_l_digits_told (P := P) (w := w) (mg := mg) (base := base) T
  have G_l_number_told := ok_l_number_told (P := P) (w := w) (mg := mg) (base := base) T
  have G_l_same := ok_l_same (P := P) (w := w) (mg := mg) (base := base) T
  have G_l_spoil := ok_l_spoil (P := P) (w := w) (mg := mg) (base := base) T
  have G_l_worth := ok_l_worth (P := P) (w := w) (mg := mg) (base := base) T
  refine T.d_l_there_and_back.fn.ok sc_l_there_and_back (fun vs H Q E h => ?_) (fun cdv A outer s H vs Q E hr h => ⟨rd_l_there_and_back K C E, ?_, pure_l_there_and_back vs H Q E h⟩)
  · first
    | (obtain ⟨_, rfl, _⟩ := h; rfl)
    | (obtain ⟨_, _, rfl, _⟩ := h; rfl)
    | (obtain ⟨_, _, _, rfl, _⟩ := h; rfl)
    | (obtain ⟨_, _, _, _, rfl, _⟩ := h; rfl)
    | (obtain ⟨_, _, _, _, _, rfl, _⟩ := h; rfl)
  · unfold rd_l_there_and_back
    exact (pss_cons (ps_set (i := 2) sc_l_there_and_back.nd rfl (Or.inl rfl) (pe_callTy c_list (by rfl) T.b_list (by decide +kernel) (pa_cons (pv 0) pa_nil))) (pss_cons (ps_set (i := 3) sc_l_there_and_back.nd rfl (Or.inl rfl) (pe_callTy c_list (by rfl) T.b_list (by decide +kernel) (pa_cons (pv 1) pa_nil))) (pss_cons (ps_set (i := 4) sc_l_there_and_back.nd rfl (Or.inl rfl) (pe_callS G_l_number_told (hr.mono (by decide)) (by rfl) T.d_l_number_told.mg T.d_l_number_told.fn.kp T.d_l_number_told.bi pass0S (pa_cons (pv 2) (pa_cons (pv 3) pa_nil)))) (pss_cons (ps_if (PW.pt (pw_or (pt_not (pt_val (pe_callS G_l_same (hr.mono (by decide)) (by rfl) T.d_l_same.mg T.d_l_same.fn.kp T.d_l_same.bi pass0S (pa_cons (pv 4) (pa_cons (pe_lst (pa_cons pe_str (pa_cons (pe_callS G_l_worth (hr.mono (by decide)) (by rfl) T.d_l_worth.mg T.d_l_worth.fn.kp T.d_l_worth.bi pass0S (pa_cons (pv 0) (pa_cons (pv 1) pa_nil))) pa_nil))) pa_nil))))) (pw_or1 (pt_not (pt_val (pe_callS G_l_same (hr.mono (by decide)) (by rfl) T.d_l_same.mg T.d_l_same.fn.kp T.d_l_same.bi pass0S (pa_cons (pe_lst (pa_cons (pv 2) (pa_cons (pv 3) pa_nil))) (pa_cons (pe_lst (pa_cons (pv 0) (pa_cons (pv 1) pa_nil))) pa_nil)))))))) (pss_one (ps_ret pe_bl)) pss_nil) (pss_cons (ps_set (i := 5) sc_l_there_and_back.nd rfl (Or.inl rfl) (pe_callS G_l_digits_told (hr.mono (by decide)) (by rfl) T.d_l_digits_told.mg T.d_l_digits_told.fn.kp T.d_l_digits_told.bi pass0S (pa_cons (pv 2) (pa_cons (pe_ix ix_F (pv 4) pe_int (fun _ _ => rfl)) pa_nil)))) (pss_cons (ps_if (PW.pt (pw_or (pt_not (pt_val (pe_callS G_l_same (hr.mono (by decide)) (by rfl) T.d_l_same.mg T.d_l_same.fn.kp T.d_l_same.bi pass0S (pa_cons (pv 5) (pa_cons (pe_lst (pa_cons pe_str (pa_cons (pv 1) pa_nil))) pa_nil))))) (pw_or1 (pt_not (pt_val (pe_callS G_l_same (hr.mono (by decide)) (by rfl) T.d_l_same.mg T.d_l_same.fn.kp T.d_l_same.bi pass0S (pa_cons (pv 2) (pa_cons (pv 0) pa_nil)))))))) (pss_one (ps_ret pe_bl)) pss_nil) (pss_cons (ps_expr (pe_callS G_l_spoil (hr.mono (by decide)) (by rfl) T.d_l_spoil.mg T.d_l_spoil.fn.kp T.d_l_spoil.bi pass0S (pa_cons (pe_lst (pa_cons (pv 2) (pa_cons (pv 3) (pa_cons (pe_ix ix_F (pv 5) pe_int (fun _ _ => rfl)) pa_nil)))) pa_nil))) (pss_one (ps_ret (pe_callS G_l_same (hr.mono (by decide)) (by rfl) T.d_l_same.mg T.d_l_same.fn.kp T.d_l_same.bi pass0S (pa_cons (pe_callS G_l_digits_told (hr.mono (by decide)) (by rfl) T.d_l_digits_told.mg T.d_l_digits_told.fn.kp T.d_l_digits_told.bi pass0S (pa_cons (pe_callTy c_list (by rfl) T.b_list (by decide +kernel) (pa_cons (pv 0) pa_nil)) (pa_cons (pe_ix ix_F (pv 4) pe_int (fun _ _ => rfl)) pa_nil))) (pa_cons (pe_lst (pa_cons pe_str (pa_cons (pv 1) pa_nil))) pa_nil))))))))))))
theorem ok_l_reads (T : Txt K mg C) : FnOk P w K mg base CX0 9 T.d_l_reads.f T.d_l_reads.fd [("bases" : Str), ("number" : Str)] (sp_l_reads K C) := by
  have G_l_digits_told := ok_l_digits_told (P := P) (w := w) (mg := mg) (base := base) T
  have G_l_int := ok_l_int (P := P) (w := w) (mg := mg) (base := base) T
  have G_l_same := ok_l_same (P := P) (w := w) (mg := mg) (base := base) T
  have G_l_weights := ok_l_weights (P := P) (w := w) (mg := mg) (base := base) T
  have G_l_worth := ok_l_worth (P := P) (w := w) (mg := mg) (base := base) T
  refine T.d_l_reads.fn.ok sc_l_reads (fun vs H Q E h => ?_) (fun cdv A outer s H vs Q E hr h => ⟨rd_l_reads K C E, ?_, pure_l_reads vs H Q E h⟩)
  · first
    | (obtain ⟨_, rfl, _⟩ := h; rfl)
    | (obtain ⟨_, _, rfl, _⟩ := h; rfl)
    | (obtain ⟨_, _, _, rfl, _⟩ := h; rfl)
    | (obtain ⟨_, _, _, _, rfl, _⟩ := h; rfl)
    | (obtain ⟨_, _, _, _, _, rfl, _⟩ := h; rfl)
  · unfold rd_l_reads
    exact (pss_cons (ps_set (i := 2) sc_l_reads.nd rfl (Or.inl rfl) (pe_callS G_l_digits_told (hr.mono (by decide)) (by rfl) T.d_l_digits_told.mg T.d_l_digits_told.fn.kp T.d_l_digits_told.bi pass0S (pa_cons (pe_callTy c_list (by rfl) T.b_list (by decide +kernel) (pa_cons (pv 0) pa_nil)) (pa_cons (pv 1) pa_nil)))) (pss_cons (ps_set (i := 3) sc_l_reads.nd rfl (Or.inl rfl) (pe_ix ix_F (pe_callS G_l_weights (hr.mono (by decide)) (by rfl) T.d_l_weights.mg T.d_l_weights.fn.kp T.d_l_weights.bi pass0S (pa_cons (pv 0) pa_nil)) pe_int (fun _ _ => rfl))) (pss_cons (ps_if (pt_cmpR op_geF (pv 1) (pv 3) (nomark _)) (pss_one (ps_ret (pe_callS G_l_same (hr.mono (by decide)) (by rfl) T.d_l_same.mg T.d_l_same.fn.kp T.d_l_same.bi pass0S (pa_cons (pv 2) (pa_cons (pe_lst (pa_cons pe_str (pa_cons (pv 1) (pa_cons (pv 3) pa_nil)))) pa_nil))))) pss_nil) (pss_cons (ps_if (PW.pt (pw_or (pt_cmpR (op_neF hr.units) (pe_ix ix_F (pv 2) pe_int (fun _ _ => rfl)) pe_str (nomark _)) (pw_or (pt_not (pt_val (pe_callB c_isi (by rfl) T.b_isinstance (by decide +kernel) (pa_cons (pe_ix ix_F (pv 2) pe_int (fun _ _ => rfl)) (pa_cons (pe_bltn (v := .ty "list") (by rfl) T.b_list (by decide +kernel) rfl) pa_nil))))) (pw_or1 (pt_cmpR (op_neF hr.units) (pe_callB c_len (by rfl) T.b_len (by decide +kernel) (pa_cons (pe_ix ix_F (pv 2) pe_int (fun _ _ => rfl)) pa_nil)) (pe_callB c_len (by rfl) T.b_len (by decide +kernel) (pa_cons (pv 0) pa_nil)) (nomark _)))))) (pss_one (ps_ret pe_bl)) pss_nil) (pss_cons (ps_for PassesOwn.never rfl (pi_range1 (by rfl) T.b_range (pa_cons (pe_callB c_len (by rfl) T.b_len (by decide +kernel) (pa_cons (pv 0) pa_nil)) pa_nil)) (pg_name (i := 4) sc_l_reads.nd rfl (by first | exact .inl rfl | exact .inr rfl)) (pss_one (ps_if (PW.pt (pw_or (pt_not (pt_val (pe_callS G_l_int (hr.mono (by decide)) (by rfl) T.d_l_int.mg T.d_l_int.fn.kp T.d_l_int.bi pass0S (pa_cons (pe_ix ix_F (pe_ix ix_F (pv 2) pe_int (fun _ _ => rfl)) (pv 4) (fun _ _ => rfl)) pa_nil)))) (pw_or (pt_cmpR op_ltF (pe_ix ix_F (pe_ix ix_F (pv 2) pe_int (fun _ _ => rfl)) (pv 4) (fun _ _ => rfl)) pe_int (nomark _)) (pw_or1 (pt_cmpR op_geF (pe_ix ix_F (pe_ix ix_F (pv 2) pe_int (fun _ _ => rfl)) (pv 4) (fun _ _ => rfl)) (pe_ix ix_F (pv 0) (pv 4) (fun _ _ => rfl)) (nomark _)))))) (pss_one (ps_ret pe_bl)) pss_nil))) (pss_one (ps_ret (pe_cmpR (op_eqF hr.units) (pe_callS G_l_worth (hr.mono (by decide)) (by rfl) T.d_l_worth.mg T.d_l_worth.fn.kp T.d_l_worth.bi pass0S (pa_cons (pv 0) (pa_cons (pe_ix ix_F (pv 2) pe_int (fun _ _ => rfl)) pa_nil))) (pv 1) (nomark _)))))))))
theorem ok_l_refuses (T : Txt K mg C) : FnOk P w K mg base CX0 9 T.d_l_refuses.f T.d_l_refuses.fd [("store" : Str), ("pair" : Str)] (sp_l_refuses K C) := by
  have G_l_bad_bases := ok_l_bad_bases (P := P) (w := w) (mg := mg) (base := base) T
  have G_l_digits_told := ok_l_digits_told (P := P) (w := w) (mg := mg) (base := base) T
  have G_l_no_number := ok_l_no_number (P := P) (w := w) (mg := mg) (base := base) T
  have G_l_number_told := ok_l_number_told (P := P) (w := w) (mg := mg) (base := base) T
  have G_l_same := ok_l_same (P := P) (w := w) (mg := mg) (base := base) T
  refine T.d_l_refuses.fn.ok sc_l_refuses (fun vs H Q E h => ?_) (fun cdv A outer s H vs Q E hr h => ⟨rd_l_refuses K C E, ?_, pure_l_refuses vs H Q E h⟩)
  · first
    | (obtain ⟨_, rfl, _⟩ := h; rfl)
    | (obtain ⟨_, _, rfl, _⟩ := h; rfl)
    | (obtain ⟨_, _, _, rfl, _⟩ := h; rfl)
    | (obtain ⟨_, _, _, _, rfl, _⟩ := h; rfl)
    | (obtain ⟨_, _, _, _, _, rfl, _⟩ := h; rfl)
  · unfold rd_l_refuses
    exact (pss_cons (ps_asg (pe_callS G_l_bad_bases (hr.mono (by decide)) (by rfl) T.d_l_bad_bases.mg T.d_l_bad_bases.fn.kp T.d_l_bad_bases.bi pass0S (pa_cons (pv 0) (pa_cons (pv 1) pa_nil))) (pg_tupF (by rfl) (pgs_cons (pg_name (i := 2) sc_l_refuses.nd rfl (by first | exact .inl rfl | exact .inr rfl)) (pgs_cons (pg_name (i := 3) sc_l_refuses.nd rfl (by first | exact .inl rfl | exact .inr rfl)) (pgs_cons (pg_name (i := 4) sc_l_refuses.nd rfl (by first | exact .inl rfl | exact .inr rfl)) pgs_nil))))) (pss_cons (ps_set (i := 5) sc_l_refuses.nd rfl (Or.inl rfl) (pe_callS G_l_no_number (hr.mono (by decide)) (by rfl) T.d_l_no_number.mg T.d_l_no_number.fn.kp T.d_l_no_number.bi pass0S (pa_cons (pv 0) pa_nil))) (pss_cons (ps_set (i := 6) sc_l_refuses.nd rfl (Or.inl rfl) (pe_lst (pa_cons pe_str (pa_cons (pv 4) pa_nil)))) (pss_cons (ps_if (pt_not (pt_val (pe_callS G_l_same (hr.mono (by decide)) (by rfl) T.d_l_same.mg T.d_l_same.fn.kp T.d_l_same.bi pass0S (pa_cons (pe_callS G_l_number_told (hr.mono (by decide)) (by rfl) T.d_l_number_told.mg T.d_l_number_told.fn.kp T.d_l_number_told.bi pass0S (pa_cons (pv 2) (pa_cons (pv 3) pa_nil))) (pa_cons (pv 6) pa_nil))))) (pss_one (ps_ret pe_bl)) pss_nil) (pss_cons (ps_if (pt_cmpR (op_eqF hr.units) (pv 4) pe_str (nomark _)) (pss_one (ps_set (i := 6) sc_l_refuses.nd rfl (Or.inl rfl) (pe_lst (pa_cons pe_str (pa_cons pe_str pa_nil))))) (pss_one (ps_if (pt_not (pt_val (pe_callS G_l_same (hr.mono (by decide)) (by rfl) T.d_l_same.mg T.d_l_same.fn.kp T.d_l_same.bi pass0S (pa_cons (pe_callS G_l_digits_told (hr.mono (by decide)) (by rfl) T.d_l_digits_told.mg T.d_l_digits_told.fn.kp T.d_l_digits_told.bi pass0S (pa_cons (pv 2) (pa_cons pe_int pa_nil))) (pa_cons (pv 6) pa_nil))))) (pss_one (ps_ret pe_bl)) (pss_one (ps_if (pt_not (pt_val (pe_callS G_l_same (hr.mono (by decide)) (by rfl) T.d_l_same.mg T.d_l_same.fn.kp T.d_l_same.bi pass0S (pa_cons (pe_callS G_l_number_told (hr.mono (by decide)) (by rfl) T.d_l_number_told.mg T.d_l_number_told.fn.kp T.d_l_number_told.bi pass0S (pa_cons (pv 2) (pa_cons pe_non pa_nil))) (pa_cons (pv 6) pa_nil))))) (pss_one (ps_ret pe_bl)) pss_nil))))) (pss_one (ps_ret (pe_callS G_l_same (hr.mono (by decide)) (by rfl) T.d_l_same.mg T.d_l_same.fn.kp T.d_l_same.bi pass0S (pa_cons (pe_callS G_l_digits_told (hr.mono (by decide)) (by rfl) T.d_l_digits_told.mg T.d_l_digits_told.fn.kp T.d_l_digits_told.bi pass0S (pa_cons (pv 2) (pa_cons (pv 5) pa_nil))) (pa_cons (pv 6) pa_nil))))))))))
theorem ok_l_kept (T : Txt K mg C) : FnOk P w K mg base CX0 9 T.d_l_kept.f T.d_l_kept.fd [("one" : Str), ("two" : Str)] (sp_l_kept K C) := by
  have G_BadShape_init := ok_BadShape_init (P := P) (w := w) (mg := mg) (base := base) T.e_BadShape
  have G_NoRank_init := ok_NoRank_init (P := P) (w := w) (mg := mg) (base := base) T.e_NoRank
  have H_l_same := okH_l_same (P := P) (w := w) (base := base) T
  refine T.d_l_kept.fn.ok sc_l_kept (fun vs H Q E h => ?_) (fun cdv A outer s H vs Q E hr h => ⟨rd_l_kept K C E, ?_, pure_l_kept T.ef vs H Q E h⟩)
  · first
    | (obtain ⟨_, rfl, _⟩ := h; rfl)
    | (obtain ⟨_, _, rfl, _⟩ := h; rfl)
    | (obtain ⟨_, _, _, rfl, _⟩ := h; rfl)
    | (obtain ⟨_, _, _, _, rfl, _⟩ := h; rfl)
    | (obtain ⟨_, _, _, _, _, rfl, _⟩ := h; rfl)
  · unfold rd_l_kept
    exact (pss_cons (ps_tryX (tb := fun W => (tRaiseF C.NoRank [("number" : Str), ("limit" : Str)] (W) (tCons (tVar 0) (tCons (tVar 1) tNil)))) (Wout := fun _ _ _ _ => False) rfl rfl takesN0 (fun W pn xe tk _ => (pss_one (ps_raiseF rfl T.e_NoRank.ex T.e_NoRank.iC T.e_NoRank.tI G_NoRank_init (hr.mono (by decide)) T.e_NoRank.bi passE (by rfl) T.g_NoRank tk (mon_cons mon_var (mon_cons mon_var mon_nil)) (pa_cons (pv 0) (pa_cons (pv 1) pa_nil))))) (HdX.as (i := 2) sc_l_kept.nd rfl rfl ⟨rfl, by decide, .inl T.g_NoRank⟩ (fun a oe cls d pn hz hf => (pss_one (ps_if (pt_not (pt_val (L2H.pe_callH H_l_same (L2H.roomH_mark (hr.mono (by decide)) _) (hot_of hz hf) (by rfl) T.d_l_same.mg T.d_l_same.fn.kp T.d_l_same.bi pass0S (pa_cons (pe_lst (pa_cons (pe_xf T.e_NoRank.xf (T.e_NoRank.no _ (by decide +kernel)) hz.zc hf (pv 2)) (pa_cons (pe_xf T.e_NoRank.xf (T.e_NoRank.no _ (by decide +kernel)) hz.zc hf (pv 2)) pa_nil))) (pa_cons (pe_lst (pa_cons (pv 0) (pa_cons (pv 1) pa_nil))) pa_nil))))) (pss_one (ps_ret pe_bl)) pss_nil))) HdX.nil)) (pss_cons (ps_tryX (tb := fun W => (tRaiseF C.BadShape [("parameter" : Str)] (W) (tCons (tVar 0) tNil))) (Wout := fun _ _ _ _ => False) rfl rfl takesN0 (fun W pn xe tk _ => (pss_one (ps_raiseF rfl T.e_BadShape.ex T.e_BadShape.iC T.e_BadShape.tI G_BadShape_init (hr.mono (by decide)) T.e_BadShape.bi passE (by rfl) T.g_BadShape tk (mon_cons mon_var mon_nil) (pa_cons (pv 0) pa_nil)))) (HdX.as (i := 2) sc_l_kept.nd rfl rfl ⟨rfl, by decide, .inl T.g_BadShape⟩ (fun a oe cls d pn hz hf => (pss_one (ps_ret (L2H.pe_callH H_l_same (L2H.roomH_mark (hr.mono (by decide)) _) (hot_of hz hf) (by rfl) T.d_l_same.mg T.d_l_same.fn.kp T.d_l_same.bi pass0S (pa_cons (pe_xf T.e_BadShape.xf (T.e_BadShape.no _ (by decide +kernel)) hz.zc hf (pv 2)) (pa_cons (pv 0) pa_nil)))))) HdX.nil)) (pss_one (ps_ret pe_bl))))
theorem ok_law (T : Txt K mg C) : FnOk P w K mg base CX0 10 T.d_law.f T.d_law.fd [("script" : Str)] (sp_law K C) := by
  have G_l_bases := ok_l_bases (P := P) (w := w) (mg := mg) (base := base) T
  have G_l_kept := ok_l_kept (P := P) (w := w) (mg := mg) (base := base) T
  have G_l_near := ok_l_near (P := P) (w := w) (mg := mg) (base := base) T
  have G_l_number := ok_l_number (P := P) (w := w) (mg := mg) (base := base) T
  have G_l_reads := ok_l_reads (P := P) (w := w) (mg := mg) (base := base) T
  have G_l_refuses := ok_l_refuses (P := P) (w := w) (mg := mg) (base := base) T
  have G_l_store := ok_l_store (P := P) (w := w) (mg := mg) (base := base) T
  have G_l_there_and_back := ok_l_there_and_back (P := P) (w := w) (mg := mg) (base := base) T
  have G_l_weights := ok_l_weights (P := P) (w := w) (mg := mg) (base := base) T
  refine T.d_law.fn.ok sc_law (fun vs H Q E h => ?_) (fun cdv A outer s H vs Q E hr h => ⟨rd_law K C E, ?_, pure_law vs H Q E h⟩)
  · first
    | (obtain ⟨_, rfl, _⟩ := h; rfl)
    | (obtain ⟨_, _, rfl, _⟩ := h; rfl)
    | (obtain ⟨_, _, _, rfl, _⟩ := h; rfl)
    | (obtain ⟨_, _, _, _, rfl, _⟩ := h; rfl)
    | (obtain ⟨_, _, _, _, _, rfl, _⟩ := h; rfl)
  · unfold rd_law
    exact (pss_cons (ps_set (i := 1) sc_law.nd rfl (Or.inl rfl) (pe_callS G_l_store (hr.mono (by decide)) (by rfl) T.d_l_store.mg T.d_l_store.fn.kp T.d_l_store.bi pass0S (pa_cons (pv 0) pa_nil))) (pss_cons (ps_set (i := 2) sc_law.nd rfl (Or.inl rfl) (pe_lst (pa_cons (pe_callS G_l_bases (hr.mono (by decide)) (by rfl) T.d_l_bases.mg T.d_l_bases.fn.kp T.d_l_bases.bi pass0S (pa_cons (pv 1) pa_nil)) (pa_cons (pe_callS G_l_bases (hr.mono (by decide)) (by rfl) T.d_l_bases.mg T.d_l_bases.fn.kp T.d_l_bases.bi pass0S (pa_cons (pv 1) pa_nil)) pa_nil)))) (pss_cons (ps_for PassesOwn.never rfl (pi_list (pe_op op_addF (pv 2) (pv 2))) (pg_name (i := 3) sc_law.nd rfl (by first | exact .inl rfl | exact .inr rfl)) (pss_cons (ps_asg (pv 3) (pg_tupF (by rfl) (pgs_cons (pg_name (i := 4) sc_law.nd rfl (by first | exact .inl rfl | exact .inr rfl)) (pgs_cons (pg_name (i := 5) sc_law.nd rfl (by first | exact .inl rfl | exact .inr rfl)) pgs_nil)))) (pss_cons (ps_for PassesOwn.never rfl (pi_list (pe_lst (pa_cons (pv 5) (pa_cons (pe_lc (own := [(("base" : Str), 10)]) (g := (gName 10)) rfl sc_law.nd (pi_list (pv 4)) (blkOk_by (own := [(("base" : Str), 10)]) (N := sN_law) (sc := defScope s_law) (by decide +kernel)) (fun _ _ _ _ _ => (pg_name (i := 10) sc_law.nd rfl (by first | exact .inl rfl | exact .inr rfl))) (fun _ _ _ _ _ => pts_nil) (fun _ _ _ _ _ => (pe_op op_subF (pv 10) pe_int))) (pa_cons (pe_op op_mulF (pe_lst (pa_cons pe_int pa_nil)) (pe_callB c_len (by rfl) T.b_len (by decide +kernel) (pa_cons (pv 4) pa_nil))) pa_nil))))) (pg_name (i := 6) sc_law.nd rfl (by first | exact .inl rfl | exact .inr rfl)) (pss_one (ps_if (pt_not (pt_val (pe_callS G_l_there_and_back (hr.mono (by decide)) (by rfl) T.d_l_there_and_back.mg T.d_l_there_and_back.fn.kp T.d_l_there_and_back.bi pass0S (pa_cons (pv 4) (pa_cons (pv 6) pa_nil))))) (pss_one (ps_ret pe_bl)) pss_nil))) (pss_cons (ps_set (i := 7) sc_law.nd rfl (Or.inl rfl) (pe_ix ix_F (pe_callS G_l_weights (hr.mono (by decide)) (by rfl) T.d_l_weights.mg T.d_l_weights.fn.kp T.d_l_weights.bi pass0S (pa_cons (pv 4) pa_nil)) pe_int (fun _ _ => rfl))) (pss_cons (ps_set (i := 8) sc_law.nd rfl (Or.inl rfl) (pe_lst (pa_cons pe_int (pa_cons (pe_callB c_abs (by rfl) T.b_abs (by decide +kernel) (pa_cons (pe_callS G_l_number (hr.mono (by decide)) (by rfl) T.d_l_number.mg T.d_l_number.fn.kp T.d_l_number.bi pass0S (pa_cons (pv 1) pa_nil)) pa_nil)) pa_nil)))) (Evl.pss_cut (ps_if (pt_cmpR op_ltF (pv 7) (pe_op op_subF (pe_op op_powF pe_int pe_int) pe_int) (nomark _)) (pss_one (ps_set (i := 8) sc_law.nd rfl (Or.inl rfl) (pe_op op_addF (pv 8) (pe_lst (pa_cons (pe_op op_subF (pv 7) pe_int) (pa_cons (pv 7) (pa_cons (pe_callS G_l_near (hr.mono (by decide)) (by rfl) T.d_l_near.mg T.d_l_near.fn.kp T.d_l_near.bi pass0S (pa_cons (pv 1) (pa_cons (pv 7) pa_nil))) (pa_cons (pe_callS G_l_near (hr.mono (by decide)) (by rfl) T.d_l_near.mg T.d_l_near.fn.kp T.d_l_near.bi pass0S (pa_cons (pv 1) (pa_cons (pv 7) pa_nil))) pa_nil)))))))) pss_nil) (pss_cons (ps_for PassesOwn.never rfl (pi_list (pv 8)) (pg_name (i := 9) sc_law.nd rfl (by first | exact .inl rfl | exact .inr rfl)) (pss_one (ps_if (pt_not (pt_val (pe_callS G_l_reads (hr.mono (by decide)) (by rfl) T.d_l_reads.mg T.d_l_reads.fn.kp T.d_l_reads.bi pass0S (pa_cons (pv 4) (pa_cons (pv 9) pa_nil))))) (pss_one (ps_ret pe_bl)) pss_nil))) (pss_one (ps_if (pt_not (pt_val (pe_callS G_l_refuses (hr.mono (by decide)) (by rfl) T.d_l_refuses.mg T.d_l_refuses.fn.kp T.d_l_refuses.bi pass0S (pa_cons (pv 1) (pa_cons (pv 3) pa_nil))))) (pss_one (ps_ret pe_bl)) pss_nil))))))))) (pss_one (ps_ret (pe_callS G_l_kept (hr.mono (by decide)) (by rfl) T.d_l_kept.mg T.d_l_kept.fn.kp T.d_l_kept.bi pass0S (pa_cons (pe_callS G_l_number (hr.mono (by decide)) (by rfl) T.d_l_number.mg T.d_l_number.fn.kp T.d_l_number.bi pass0S (pa_cons (pv 1) pa_nil)) (pa_cons (pe_tup (pa_cons pe_non (pa_cons pe_bl (pa_cons (pe_callS G_l_number (hr.mono (by decide)) (by rfl) T.d_l_number.mg T.d_l_number.fn.kp T.d_l_number.bi pass0S (pa_cons (pv 1) pa_nil)) pa_nil)))) pa_nil))))))))
end
end XB

/-! The end. -/
namespace XB
open PySem PySem.Spec PyProof.Rows L2
def sp_lawK (K : PySem.W.Frag) : Sp := fun vs H Q _ => ∃ (a : Addr) (ns : List Int), vs = [.ref a] ∧ SqL K H a (ns.map V.int) ∧ ns.length ≤ 63 ∧ ∀ H', Q (.bl true) H'
theorem all_mk {P : Program} {w : World} {K : PySem.W.Frag} {h : Heap} {mg : Str → Option Value} {fa : Addr} (X : K.In h) (G : h.Ns mainGlobals mg) (hfa : mg "law" = some (.ref fa))
    {q0 q1 q2 q3 : Addr}
    {f1 : Addr} {od1 an1 : Option Addr} {sl1 : Array (Option Value)} {oc1 kV1 dc1 pm1 cd1 ct1 : Value}
    {nm1 qn1 : Str} {N1 : Addr} {bs1 bm1 : List Value} {sn1 : List Str} {sub1 : List Value} {ab1 : Bool} {col1 : Option Bool} {dd1 : Option Addr} {m01 m11 m21 m31 m51 : Option Value}
    {f2 : Addr} {od2 an2 : Option Addr} {sl2 : Array (Option Value)} {oc2 kV2 dc2 pm2 cd2 ct2 : Value}
    {nm2 qn2 : Str} {N2 : Addr} {bs2 bm2 : List Value} {sn2 : List Str} {sub2 : List Value} {ab2 : Bool} {col2 : Option Bool} {dd2 : Option Addr} {m02 m12 m22 m32 m52 : Option Value}
    {f3 : Addr} {od3 an3 : Option Addr} {sl3 : Array (Option Value)} {oc3 kV3 dc3 pm3 cd3 ct3 : Value}
    {f4 : Addr} {od4 an4 : Option Addr} {sl4 : Array (Option Value)} {oc4 kV4 dc4 pm4 cd4 ct4 : Value}
    {f5 : Addr} {od5 an5 : Option Addr} {sl5 : Array (Option Value)} {oc5 kV5 dc5 pm5 cd5 ct5 : Value}
    {f6 : Addr} {od6 an6 : Option Addr} {sl6 : Array (Option Value)} {oc6 kV6 dc6 pm6 cd6 ct6 : Value}
    {f7 : Addr} {od7 an7 : Option Addr} {sl7 : Array (Option Value)} {oc7 kV7 dc7 pm7 cd7 ct7 : Value}
    {f8 : Addr} {od8 an8 : Option Addr} {sl8 : Array (Option Value)} {oc8 kV8 dc8 pm8 cd8 ct8 : Value}
    {f9 : Addr} {od9 an9 : Option Addr} {sl9 : Array (Option Value)} {oc9 kV9 dc9 pm9 cd9 ct9 : Value}
    {f10 : Addr} {od10 an10 : Option Addr} {sl10 : Array (Option Value)} {oc10 kV10 dc10 pm10 cd10 ct10 : Value}
    {f11 : Addr} {od11 an11 : Option Addr} {sl11 : Array (Option Value)} {oc11 kV11 dc11 pm11 cd11 ct11 : Value}
    {f12 : Addr} {od12 an12 : Option Addr} {sl12 : Array (Option Value)} {oc12 kV12 dc12 pm12 cd12 ct12 : Value}
    {f13 : Addr} {od13 an13 : Option Addr} {sl13 : Array (Option Value)} {oc13 kV13 dc13 pm13 cd13 ct13 : Value}
    {f14 : Addr} {od14 an14 : Option Addr} {sl14 : Array (Option Value)} {oc14 kV14 dc14 pm14 cd14 ct14 : Value}
    {f15 : Addr} {od15 an15 : Option Addr} {sl15 : Array (Option Value)} {oc15 kV15 dc15 pm15 cd15 ct15 : Value}
    {f16 : Addr} {od16 an16 : Option Addr} {sl16 : Array (Option Value)} {oc16 kV16 dc16 pm16 cd16 ct16 : Value}
    {f17 : Addr} {od17 an17 : Option Addr} {sl17 : Array (Option Value)} {oc17 kV17 dc17 pm17 cd17 ct17 : Value}
    {f18 : Addr} {od18 an18 : Option Addr} {sl18 : Array (Option Value)} {oc18 kV18 dc18 pm18 cd18 ct18 : Value}
    {f19 : Addr} {od19 an19 : Option Addr} {sl19 : Array (Option Value)} {oc19 kV19 dc19 pm19 cd19 ct19 : Value}
    {f20 : Addr} {od20 an20 : Option Addr} {sl20 : Array (Option Value)} {oc20 kV20 dc20 pm20 cd20 ct20 : Value}
    {f21 : Addr} {od21 an21 : Option Addr} {sl21 : Array (Option Value)} {oc21 kV21 dc21 pm21 cd21 ct21 : Value}
    {f22 : Addr} {od22 an22 : Option Addr} {sl22 : Array (Option Value)} {oc22 kV22 dc22 pm22 cd22 ct22 : Value}
    {f23 : Addr} {od23 an23 : Option Addr} {sl23 : Array (Option Value)} {oc23 kV23 dc23 pm23 cd23 ct23 : Value}
    {f24 : Addr} {od24 an24 : Option Addr} {sl24 : Array (Option Value)} {oc24 kV24 dc24 pm24 cd24 ct24 : Value}
    {f25 : Addr} {od25 an25 : Option Addr} {sl25 : Array (Option Value)} {oc25 kV25 dc25 pm25 cd25 ct25 : Value}
    {f26 : Addr} {od26 an26 : Option Addr} {sl26 : Array (Option Value)} {oc26 kV26 dc26 pm26 cd26 ct26 : Value}
    {f27 : Addr} {od27 an27 : Option Addr} {sl27 : Array (Option Value)} {oc27 kV27 dc27 pm27 cd27 ct27 : Value}
    {f28 : Addr} {od28 an28 : Option Addr} {sl28 : Array (Option Value)} {oc28 kV28 dc28 pm28 cd28 ct28 : Value}
    {f29 : Addr} {od29 an29 : Option Addr} {sl29 : Array (Option Value)} {oc29 kV29 dc29 pm29 cd29 ct29 : Value}
    {f30 : Addr} {od30 an30 : Option Addr} {sl30 : Array (Option Value)} {oc30 kV30 dc30 pm30 cd30 ct30 : Value}
    {f31 : Addr} {od31 an31 : Option Addr} {sl31 : Array (Option Value)} {oc31 kV31 dc31 pm31 cd31 ct31 : Value}
    {f32 : Addr} {od32 an32 : Option Addr} {sl32 : Array (Option Value)} {oc32 kV32 dc32 pm32 cd32 ct32 : Value}
    {t_GREATEST_BASE : Nat}
    {t_MOST_BASES : Nat}
    (a_BadShape : PySem.W.nsIn K mainGlobals "BadShape" = some (some (.ref q1)))
    (a_CrossError : PySem.W.nsIn K mainGlobals "CrossError" = some (some (.ref q0)))
    (a_Lacking : PySem.W.nsIn K mainGlobals "Lacking" = some (some (.ref q2)))
    (a_NoRank : PySem.W.nsIn K mainGlobals "NoRank" = some (some (.ref q3)))
    (x_BadShape : K.lookup q1 = some (excClassObj nm1 qn1 q1 N1 bs1 bm1 true sn1 sub1 ab1 col1 dd1 m01 m11 m21 m31 m51 "ValueError.__new__"))
    (rb_BadShape : PySem.HandSPX.refsVE bm1 = true)
    (sa_BadShape : PySem.W.findIn K (.ref q1) "__setattr__" = some (some (.builtin "object.__setattr__")))
    (ga_BadShape : PySem.W.findIn K (.ref q1) "__getattribute__" = some (some (.builtin "BaseException.__getattribute__")))
    (gg_BadShape : PySem.W.findIn K (.ref q1) "__getattr__" = some none)
    (ha_BadShape : PySem.W.findIn K (.ref q1) "__class__" = some (some (.builtin "object.__class__")))
    (iC_BadShape : PySem.W.findIn K (.ref q1) "__init__" = some (some (.ref f1)))
    (no_parameter_BadShape : PySem.W.findIn K (.ref q1) "parameter" = some none)
    (kC_BadShape : PySem.W.keepIn K (.ref q1) = true)
    (eC_BadShape : PySem.W.subIn K (.ref q1) (.type "BaseException") = some true)
    (tC_BadShape : PySem.W.typeIn K (.ref q1) = some (.type "type"))
    (hC_BadShape : PySem.W.hasDictIn K q1 = true)
    (mr_BadShape : PySem.W.mroIn K q1 (.type "object") = some true)
    (tI_BadShape : PySem.W.typeIn K (.ref f1) = some (.type "function"))
    (l_BadShape_init : K.lookup f1 = some ⟨oc1, od1, .func (PySem.W.fnOf "__init__" "BadShape.__init__" (defArgs s_BadShape_init) (defBody s_BadShape_init) (defScope s_BadShape_init) .none kV1 dc1 pm1 an1 cd1 ct1), sl1⟩)
    (c_BadShape_init : PySem.W.codeIn K cd1 "BadShape.__init__" = true)
    (k_BadShape_init : PySem.W.keepIn K (.ref f1) = true)
    (x_NoRank : K.lookup q3 = some (excClassObj nm2 qn2 q3 N2 bs2 bm2 true sn2 sub2 ab2 col2 dd2 m02 m12 m22 m32 m52 "ValueError.__new__"))
    (rb_NoRank : PySem.HandSPX.refsVE bm2 = true)
    (sa_NoRank : PySem.W.findIn K (.ref q3) "__setattr__" = some (some (.builtin "object.__setattr__")))
    (ga_NoRank : PySem.W.findIn K (.ref q3) "__getattribute__" = some (some (.builtin "BaseException.__getattribute__")))
    (gg_NoRank : PySem.W.findIn K (.ref q3) "__getattr__" = some none)
    (ha_NoRank : PySem.W.findIn K (.ref q3) "__class__" = some (some (.builtin "object.__class__")))
    (iC_NoRank : PySem.W.findIn K (.ref q3) "__init__" = some (some (.ref f2)))
    (no_number_NoRank : PySem.W.findIn K (.ref q3) "number" = some none)
    (no_limit_NoRank : PySem.W.findIn K (.ref q3) "limit" = some none)
    (kC_NoRank : PySem.W.keepIn K (.ref q3) = true)
    (eC_NoRank : PySem.W.subIn K (.ref q3) (.type "BaseException") = some true)
    (tC_NoRank : PySem.W.typeIn K (.ref q3) = some (.type "type"))
    (hC_NoRank : PySem.W.hasDictIn K q3 = true)
    (mr_NoRank : PySem.W.mroIn K q3 (.type "object") = some true)
    (tI_NoRank : PySem.W.typeIn K (.ref f2) = some (.type "function"))
    (l_NoRank_init : K.lookup f2 = some ⟨oc2, od2, .func (PySem.W.fnOf "__init__" "NoRank.__init__" (defArgs s_NoRank_init) (defBody s_NoRank_init) (defScope s_NoRank_init) .none kV2 dc2 pm2 an2 cd2 ct2), sl2⟩)
    (c_NoRank_init : PySem.W.codeIn K cd2 "NoRank.__init__" = true)
    (k_NoRank_init : PySem.W.keepIn K (.ref f2) = true)
    (a_is_whole : PySem.W.nsIn K mainGlobals "is_whole" = some (some (.ref f3)))
    (l_is_whole : K.lookup f3 = some ⟨oc3, od3, .func (PySem.W.fnOf "is_whole" "is_whole" (defArgs s_is_whole) (defBody s_is_whole) (defScope s_is_whole) .none kV3 dc3 pm3 an3 cd3 ct3), sl3⟩)
    (c_is_whole : PySem.W.codeIn K cd3 "is_whole" = true)
    (k_is_whole : PySem.W.keepIn K (.ref f3) = true)
    (a_is_number : PySem.W.nsIn K mainGlobals "is_number" = some (some (.ref f4)))
    (l_is_number : K.lookup f4 = some ⟨oc4, od4, .func (PySem.W.fnOf "is_number" "is_number" (defArgs s_is_number) (defBody s_is_number) (defScope s_is_number) .none kV4 dc4 pm4 an4 cd4 ct4), sl4⟩)
    (c_is_number : PySem.W.codeIn K cd4 "is_number" = true)
    (k_is_number : PySem.W.keepIn K (.ref f4) = true)
    (a_check : PySem.W.nsIn K mainGlobals "check" = some (some (.ref f5)))
    (l_check : K.lookup f5 = some ⟨oc5, od5, .func (PySem.W.fnOf "check" "check" (defArgs s_check) (defBody s_check) (defScope s_check) .none kV5 dc5 pm5 an5 cd5 ct5), sl5⟩)
    (c_check : PySem.W.codeIn K cd5 "check" = true)
    (k_check : PySem.W.keepIn K (.ref f5) = true)
    (a_mixed_number : PySem.W.nsIn K mainGlobals "mixed_number" = some (some (.ref f6)))
    (l_mixed_number : K.lookup f6 = some ⟨oc6, od6, .func (PySem.W.fnOf "mixed_number" "mixed_number" (defArgs s_mixed_number) (defBody s_mixed_number) (defScope s_mixed_number) .none kV6 dc6 pm6 an6 cd6 ct6), sl6⟩)
    (c_mixed_number : PySem.W.codeIn K cd6 "mixed_number" = true)
    (k_mixed_number : PySem.W.keepIn K (.ref f6) = true)
    (a_mixed_digits : PySem.W.nsIn K mainGlobals "mixed_digits" = some (some (.ref f7)))
    (l_mixed_digits : K.lookup f7 = some ⟨oc7, od7, .func (PySem.W.fnOf "mixed_digits" "mixed_digits" (defArgs s_mixed_digits) (defBody s_mixed_digits) (defScope s_mixed_digits) .none kV7 dc7 pm7 an7 cd7 ct7), sl7⟩)
    (c_mixed_digits : PySem.W.codeIn K cd7 "mixed_digits" = true)
    (k_mixed_digits : PySem.W.keepIn K (.ref f7) = true)
    (a_are_bases : PySem.W.nsIn K mainGlobals "are_bases" = some (some (.ref f8)))
    (l_are_bases : K.lookup f8 = some ⟨oc8, od8, .func (PySem.W.fnOf "are_bases" "are_bases" (defArgs s_are_bases) (defBody s_are_bases) (defScope s_are_bases) .none kV8 dc8 pm8 an8 cd8 ct8), sl8⟩)
    (c_are_bases : PySem.W.codeIn K cd8 "are_bases" = true)
    (k_are_bases : PySem.W.keepIn K (.ref f8) = true)
    (a_are_digits : PySem.W.nsIn K mainGlobals "are_digits" = some (some (.ref f9)))
    (l_are_digits : K.lookup f9 = some ⟨oc9, od9, .func (PySem.W.fnOf "are_digits" "are_digits" (defArgs s_are_digits) (defBody s_are_digits) (defScope s_are_digits) .none kV9 dc9 pm9 an9 cd9 ct9), sl9⟩)
    (c_are_digits : PySem.W.codeIn K cd9 "are_digits" = true)
    (k_are_digits : PySem.W.keepIn K (.ref f9) = true)
    (a_l_mixed : PySem.W.nsIn K mainGlobals "_law_mixed" = some (some (.ref f10)))
    (l_l_mixed : K.lookup f10 = some ⟨oc10, od10, .func (PySem.W.fnOf "_law_mixed" "_law_mixed" (defArgs s_l_mixed) (defBody s_l_mixed) (defScope s_l_mixed) .none kV10 dc10 pm10 an10 cd10 ct10), sl10⟩)
    (c_l_mixed : PySem.W.codeIn K cd10 "_law_mixed" = true)
    (k_l_mixed : PySem.W.keepIn K (.ref f10) = true)
    (a_l_store : PySem.W.nsIn K mainGlobals "_law_store" = some (some (.ref f11)))
    (l_l_store : K.lookup f11 = some ⟨oc11, od11, .func (PySem.W.fnOf "_law_store" "_law_store" (defArgs s_l_store) (defBody s_l_store) (defScope s_l_store) .none kV11 dc11 pm11 an11 cd11 ct11), sl11⟩)
    (c_l_store : PySem.W.codeIn K cd11 "_law_store" = true)
    (k_l_store : PySem.W.keepIn K (.ref f11) = true)
    (a_l_take : PySem.W.nsIn K mainGlobals "_law_take" = some (some (.ref f12)))
    (l_l_take : K.lookup f12 = some ⟨oc12, od12, .func (PySem.W.fnOf "_law_take" "_law_take" (defArgs s_l_take) (defBody s_l_take) (defScope s_l_take) .none kV12 dc12 pm12 an12 cd12 ct12), sl12⟩)
    (c_l_take : PySem.W.codeIn K cd12 "_law_take" = true)
    (k_l_take : PySem.W.keepIn K (.ref f12) = true)
    (a_l_great : PySem.W.nsIn K mainGlobals "_law_great" = some (some (.ref f13)))
    (l_l_great : K.lookup f13 = some ⟨oc13, od13, .func (PySem.W.fnOf "_law_great" "_law_great" (defArgs s_l_great) (defBody s_l_great) (defScope s_l_great) .none kV13 dc13 pm13 an13 cd13 ct13), sl13⟩)
    (c_l_great : PySem.W.codeIn K cd13 "_law_great" = true)
    (k_l_great : PySem.W.keepIn K (.ref f13) = true)
    (a_l_edge : PySem.W.nsIn K mainGlobals "_law_edge" = some (some (.ref f14)))
    (l_l_edge : K.lookup f14 = some ⟨oc14, od14, .func (PySem.W.fnOf "_law_edge" "_law_edge" (defArgs s_l_edge) (defBody s_l_edge) (defScope s_l_edge) .none kV14 dc14 pm14 an14 cd14 ct14), sl14⟩)
    (c_l_edge : PySem.W.codeIn K cd14 "_law_edge" = true)
    (k_l_edge : PySem.W.keepIn K (.ref f14) = true)
    (a_l_number : PySem.W.nsIn K mainGlobals "_law_number" = some (some (.ref f15)))
    (l_l_number : K.lookup f15 = some ⟨oc15, od15, .func (PySem.W.fnOf "_law_number" "_law_number" (defArgs s_l_number) (defBody s_l_number) (defScope s_l_number) .none kV15 dc15 pm15 an15 cd15 ct15), sl15⟩)
    (c_l_number : PySem.W.codeIn K cd15 "_law_number" = true)
    (k_l_number : PySem.W.keepIn K (.ref f15) = true)
    (a_l_near : PySem.W.nsIn K mainGlobals "_law_near" = some (some (.ref f16)))
    (l_l_near : K.lookup f16 = some ⟨oc16, od16, .func (PySem.W.fnOf "_law_near" "_law_near" (defArgs s_l_near) (defBody s_l_near) (defScope s_l_near) .none kV16 dc16 pm16 an16 cd16 ct16), sl16⟩)
    (c_l_near : PySem.W.codeIn K cd16 "_law_near" = true)
    (k_l_near : PySem.W.keepIn K (.ref f16) = true)
    (a_l_no_number : PySem.W.nsIn K mainGlobals "_law_no_number" = some (some (.ref f17)))
    (l_l_no_number : K.lookup f17 = some ⟨oc17, od17, .func (PySem.W.fnOf "_law_no_number" "_law_no_number" (defArgs s_l_no_number) (defBody s_l_no_number) (defScope s_l_no_number) .none kV17 dc17 pm17 an17 cd17 ct17), sl17⟩)
    (c_l_no_number : PySem.W.codeIn K cd17 "_law_no_number" = true)
    (k_l_no_number : PySem.W.keepIn K (.ref f17) = true)
    (a_l_pick : PySem.W.nsIn K mainGlobals "_law_pick" = some (some (.ref f18)))
    (l_l_pick : K.lookup f18 = some ⟨oc18, od18, .func (PySem.W.fnOf "_law_pick" "_law_pick" (defArgs s_l_pick) (defBody s_l_pick) (defScope s_l_pick) .none kV18 dc18 pm18 an18 cd18 ct18), sl18⟩)
    (c_l_pick : PySem.W.codeIn K cd18 "_law_pick" = true)
    (k_l_pick : PySem.W.keepIn K (.ref f18) = true)
    (a_l_int : PySem.W.nsIn K mainGlobals "_law_int" = some (some (.ref f19)))
    (l_l_int : K.lookup f19 = some ⟨oc19, od19, .func (PySem.W.fnOf "_law_int" "_law_int" (defArgs s_l_int) (defBody s_l_int) (defScope s_l_int) .none kV19 dc19 pm19 an19 cd19 ct19), sl19⟩)
    (c_l_int : PySem.W.codeIn K cd19 "_law_int" = true)
    (k_l_int : PySem.W.keepIn K (.ref f19) = true)
    (a_l_same : PySem.W.nsIn K mainGlobals "_law_same" = some (some (.ref f20)))
    (l_l_same : K.lookup f20 = some ⟨oc20, od20, .func (PySem.W.fnOf "_law_same" "_law_same" (defArgs s_l_same) (defBody s_l_same) (defScope s_l_same) .none kV20 dc20 pm20 an20 cd20 ct20), sl20⟩)
    (c_l_same : PySem.W.codeIn K cd20 "_law_same" = true)
    (k_l_same : PySem.W.keepIn K (.ref f20) = true)
    (a_l_spoil : PySem.W.nsIn K mainGlobals "_law_spoil" = some (some (.ref f21)))
    (l_l_spoil : K.lookup f21 = some ⟨oc21, od21, .func (PySem.W.fnOf "_law_spoil" "_law_spoil" (defArgs s_l_spoil) (defBody s_l_spoil) (defScope s_l_spoil) .none kV21 dc21 pm21 an21 cd21 ct21), sl21⟩)
    (c_l_spoil : PySem.W.codeIn K cd21 "_law_spoil" = true)
    (k_l_spoil : PySem.W.keepIn K (.ref f21) = true)
    (a_l_bases : PySem.W.nsIn K mainGlobals "_law_bases" = some (some (.ref f22)))
    (l_l_bases : K.lookup f22 = some ⟨oc22, od22, .func (PySem.W.fnOf "_law_bases" "_law_bases" (defArgs s_l_bases) (defBody s_l_bases) (defScope s_l_bases) .none kV22 dc22 pm22 an22 cd22 ct22), sl22⟩)
    (c_l_bases : PySem.W.codeIn K cd22 "_law_bases" = true)
    (k_l_bases : PySem.W.keepIn K (.ref f22) = true)
    (a_l_bad_bases : PySem.W.nsIn K mainGlobals "_law_bad_bases" = some (some (.ref f23)))
    (l_l_bad_bases : K.lookup f23 = some ⟨oc23, od23, .func (PySem.W.fnOf "_law_bad_bases" "_law_bad_bases" (defArgs s_l_bad_bases) (defBody s_l_bad_bases) (defScope s_l_bad_bases) .none kV23 dc23 pm23 an23 cd23 ct23), sl23⟩)
    (c_l_bad_bases : PySem.W.codeIn K cd23 "_law_bad_bases" = true)
    (k_l_bad_bases : PySem.W.keepIn K (.ref f23) = true)
    (a_l_number_told : PySem.W.nsIn K mainGlobals "_law_number_told" = some (some (.ref f24)))
    (l_l_number_told : K.lookup f24 = some ⟨oc24, od24, .func (PySem.W.fnOf "_law_number_told" "_law_number_told" (defArgs s_l_number_told) (defBody s_l_number_told) (defScope s_l_number_told) .none kV24 dc24 pm24 an24 cd24 ct24), sl24⟩)
    (c_l_number_told : PySem.W.codeIn K cd24 "_law_number_told" = true)
    (k_l_number_told : PySem.W.keepIn K (.ref f24) = true)
    (a_l_digits_told : PySem.W.nsIn K mainGlobals "_law_digits_told" = some (some (.ref f25)))
    (l_l_digits_told : K.lookup f25 = some ⟨oc25, od25, .func (PySem.W.fnOf "_law_digits_told" "_law_digits_told" (defArgs s_l_digits_told) (defBody s_l_digits_told) (defScope s_l_digits_told) .none kV25 dc25 pm25 an25 cd25 ct25), sl25⟩)
    (c_l_digits_told : PySem.W.codeIn K cd25 "_law_digits_told" = true)
    (k_l_digits_told : PySem.W.keepIn K (.ref f25) = true)
    (a_l_weights : PySem.W.nsIn K mainGlobals "_law_weights" = some (some (.ref f26)))
    (l_l_weights : K.lookup f26 = some ⟨oc26, od26, .func (PySem.W.fnOf "_law_weights" "_law_weights" (defArgs s_l_weights) (defBody s_l_weights) (defScope s_l_weights) .none kV26 dc26 pm26 an26 cd26 ct26), sl26⟩)
    (c_l_weights : PySem.W.codeIn K cd26 "_law_weights" = true)
    (k_l_weights : PySem.W.keepIn K (.ref f26) = true)
    (a_l_worth : PySem.W.nsIn K mainGlobals "_law_worth" = some (some (.ref f27)))
    (l_l_worth : K.lookup f27 = some ⟨oc27, od27, .func (PySem.W.fnOf "_law_worth" "_law_worth" (defArgs s_l_worth) (defBody s_l_worth) (defScope s_l_worth) .none kV27 dc27 pm27 an27 cd27 ct27), sl27⟩)
    (c_l_worth : PySem.W.codeIn K cd27 "_law_worth" = true)
    (k_l_worth : PySem.W.keepIn K (.ref f27) = true)
    (a_l_there_and_back : PySem.W.nsIn K mainGlobals "_law_there_and_back" = some (some (.ref f28)))
    (l_l_there_and_back : K.lookup f28 = some ⟨oc28, od28, .func (PySem.W.fnOf "_law_there_and_back" "_law_there_and_back" (defArgs s_l_there_and_back) (defBody s_l_there_and_back) (defScope s_l_there_and_back) .none kV28 dc28 pm28 an28 cd28 ct28), sl28⟩)
    (c_l_there_and_back : PySem.W.codeIn K cd28 "_law_there_and_back" = true)
    (k_l_there_and_back : PySem.W.keepIn K (.ref f28) = true)
    (a_l_reads : PySem.W.nsIn K mainGlobals "_law_reads" = some (some (.ref f29)))
    (l_l_reads : K.lookup f29 = some ⟨oc29, od29, .func (PySem.W.fnOf "_law_reads" "_law_reads" (defArgs s_l_reads) (defBody s_l_reads) (defScope s_l_reads) .none kV29 dc29 pm29 an29 cd29 ct29), sl29⟩)
    (c_l_reads : PySem.W.codeIn K cd29 "_law_reads" = true)
    (k_l_reads : PySem.W.keepIn K (.ref f29) = true)
    (a_l_refuses : PySem.W.nsIn K mainGlobals "_law_refuses" = some (some (.ref f30)))
    (l_l_refuses : K.lookup f30 = some ⟨oc30, od30, .func (PySem.W.fnOf "_law_refuses" "_law_refuses" (defArgs s_l_refuses) (defBody s_l_refuses) (defScope s_l_refuses) .none kV30 dc30 pm30 an30 cd30 ct30), sl30⟩)
    (c_l_refuses : PySem.W.codeIn K cd30 "_law_refuses" = true)
    (k_l_refuses : PySem.W.keepIn K (.ref f30) = true)
    (a_l_kept : PySem.W.nsIn K mainGlobals "_law_kept" = some (some (.ref f31)))
    (l_l_kept : K.lookup f31 = some ⟨oc31, od31, .func (PySem.W.fnOf "_law_kept" "_law_kept" (defArgs s_l_kept) (defBody s_l_kept) (defScope s_l_kept) .none kV31 dc31 pm31 an31 cd31 ct31), sl31⟩)
    (c_l_kept : PySem.W.codeIn K cd31 "_law_kept" = true)
    (k_l_kept : PySem.W.keepIn K (.ref f31) = true)
    (a_law : PySem.W.nsIn K mainGlobals "law" = some (some (.ref f32)))
    (l_law : K.lookup f32 = some ⟨oc32, od32, .func (PySem.W.fnOf "law" "law" (defArgs s_law) (defBody s_law) (defScope s_law) .none kV32 dc32 pm32 an32 cd32 ct32), sl32⟩)
    (c_law : PySem.W.codeIn K cd32 "law" = true)
    (k_law : PySem.W.keepIn K (.ref f32) = true)
    (hn : PySem.W.specialIn K (.builtin "object.__class__") "__get__" = some (some (.builtin "getset_descriptor.__get__")))
    (ht : PySem.W.takesIn K (.builtin "object.__class__") = some true)
    (a_GREATEST_BASE : PySem.W.nsIn K mainGlobals "GREATEST_BASE" = some (some (.int 1000 t_GREATEST_BASE)))
    (a_MOST_BASES : PySem.W.nsIn K mainGlobals "MOST_BASES" = some (some (.int 60 t_MOST_BASES)))
    (z_ValueError : PySem.W.nsIn K mainGlobals "ValueError" = some none)
    (z_abs : PySem.W.nsIn K mainGlobals "abs" = some none)
    (z_all : PySem.W.nsIn K mainGlobals "all" = some none)
    (z_bool : PySem.W.nsIn K mainGlobals "bool" = some none)
    (z_dict : PySem.W.nsIn K mainGlobals "dict" = some none)
    (z_int : PySem.W.nsIn K mainGlobals "int" = some none)
    (z_isinstance : PySem.W.nsIn K mainGlobals "isinstance" = some none)
    (z_len : PySem.W.nsIn K mainGlobals "len" = some none)
    (z_list : PySem.W.nsIn K mainGlobals "list" = some none)
    (z_max : PySem.W.nsIn K mainGlobals "max" = some none)
    (z_range : PySem.W.nsIn K mainGlobals "range" = some none)
    (z_reversed : PySem.W.nsIn K mainGlobals "reversed" = some none)
    (z_str : PySem.W.nsIn K mainGlobals "str" = some none)
    (z_sum : PySem.W.nsIn K mainGlobals "sum" = some none)
    (z_tuple : PySem.W.nsIn K mainGlobals "tuple" = some none)
    (z_zip : PySem.W.nsIn K mainGlobals "zip" = some none)
    (ef_x_bb : PySem.W.exmOne K (.ref q1) (.ref q1) = some true)
    (ef_x_bn : PySem.W.exmOne K (.ref q1) (.ref q3) = some false)
    (ef_x_nn : PySem.W.exmOne K (.ref q3) (.ref q3) = some true)
    (ef_k_bc : PySem.W.kitOne K (.ref q1) (.ref q0) = some true)
    (ef_k_bv : PySem.W.kitOne K (.ref q1) (.type "ValueError") = some true)
    (ef_k_nc : PySem.W.kitOne K (.ref q3) (.ref q0) = some true)
    (ef_k_nv : PySem.W.kitOne K (.ref q3) (.type "ValueError") = some true)
    (ef_a_b : PySem.W.kitAny K (.ref q1) [.ref q3, .ref q2] = some false)
    (ef_a_n : PySem.W.kitAny K (.ref q3) [.ref q1, .ref q2] = some false)
    : ∃ fd : FuncData, (∀ (s : Shared) (u : Value), BindsTo s fd ⟨[u], []⟩ [("script", u)]) ∧ ∀ base : Heap, K.In base → base.Ns mainGlobals mg → FnOk P w K mg base CX0 30 fa fd ["script"] (sp_lawK K) := by
  have e := hfa.symm.trans (PySem.W.mg_of X G a_law)
  cases e
  let T : Txt K mg (⟨q0, q1, q2, q3⟩ : CA) := {
    e_BadShape := ⟨f1, _, ⟨⟨_, _, _, _, _, _, _, _, _, _, _, _, _, _, _, x_BadShape, rb_BadShape⟩, sa_BadShape, eC_BadShape, tC_BadShape, kC_BadShape⟩, iC_BadShape, tI_BadShape, fun_mk (st := s_BadShape_init) l_BadShape_init c_BadShape_init k_BadShape_init, (Fun.binds (ps := [("self" : Str), ("parameter" : Str)]) (fun_mk (st := s_BadShape_init) l_BadShape_init c_BadShape_init k_BadShape_init) fun _ _ _ _ _ _ us hl => match us, hl with | [_, _], _ => rfl),
    ⟨ga_BadShape, gg_BadShape, eC_BadShape, hC_BadShape, ha_BadShape, hn, ht, mr_BadShape⟩, ⟨ga_BadShape, gg_BadShape, eC_BadShape, hC_BadShape⟩, (List.forall_mem_cons.2 ⟨no_parameter_BadShape, (fun _ h => absurd h List.not_mem_nil)⟩)⟩,
    e_NoRank := ⟨f2, _, ⟨⟨_, _, _, _, _, _, _, _, _, _, _, _, _, _, _, x_NoRank, rb_NoRank⟩, sa_NoRank, eC_NoRank, tC_NoRank, kC_NoRank⟩, iC_NoRank, tI_NoRank, fun_mk (st := s_NoRank_init) l_NoRank_init c_NoRank_init k_NoRank_init, (Fun.binds (ps := [("self" : Str), ("number" : Str), ("limit" : Str)]) (fun_mk (st := s_NoRank_init) l_NoRank_init c_NoRank_init k_NoRank_init) fun _ _ _ _ _ _ us hl => match us, hl with | [_, _, _], _ => rfl),
    ⟨ga_NoRank, gg_NoRank, eC_NoRank, hC_NoRank, ha_NoRank, hn, ht, mr_NoRank⟩, ⟨ga_NoRank, gg_NoRank, eC_NoRank, hC_NoRank⟩, (List.forall_mem_cons.2 ⟨no_number_NoRank, (List.forall_mem_cons.2 ⟨no_limit_NoRank, (fun _ h => absurd h List.not_mem_nil)⟩)⟩)⟩,
    d_is_whole := ⟨f3, _, PySem.W.mg_of X G a_is_whole, fun_mk (st := s_is_whole) l_is_whole c_is_whole k_is_whole, (Fun.binds (ps := [("value" : Str)]) (fun_mk (st := s_is_whole) l_is_whole c_is_whole k_is_whole) fun _ _ _ _ _ _ us hl => match us, hl with | [_], _ => rfl)⟩,
    d_is_number := ⟨f4, _, PySem.W.mg_of X G a_is_number, fun_mk (st := s_is_number) l_is_number c_is_number k_is_number, (Fun.binds (ps := [("value" : Str)]) (fun_mk (st := s_is_number) l_is_number c_is_number k_is_number) fun _ _ _ _ _ _ us hl => match us, hl with | [_], _ => rfl)⟩,
    d_check := ⟨f5, _, PySem.W.mg_of X G a_check, fun_mk (st := s_check) l_check c_check k_check, (Fun.binds (ps := [("fits" : Str), ("parameter" : Str)]) (fun_mk (st := s_check) l_check c_check k_check) fun _ _ _ _ _ _ us hl => match us, hl with | [_, _], _ => rfl)⟩,
    d_mixed_number := ⟨f6, _, PySem.W.mg_of X G a_mixed_number, fun_mk (st := s_mixed_number) l_mixed_number c_mixed_number k_mixed_number, (Fun.binds (ps := [("bases" : Str), ("digits" : Str)]) (fun_mk (st := s_mixed_number) l_mixed_number c_mixed_number k_mixed_number) fun _ _ _ _ _ _ us hl => match us, hl with | [_, _], _ => rfl)⟩,
    d_mixed_digits := ⟨f7, _, PySem.W.mg_of X G a_mixed_digits, fun_mk (st := s_mixed_digits) l_mixed_digits c_mixed_digits k_mixed_digits, (Fun.binds (ps := [("bases" : Str), ("number" : Str)]) (fun_mk (st := s_mixed_digits) l_mixed_digits c_mixed_digits k_mixed_digits) fun _ _ _ _ _ _ us hl => match us, hl with | [_, _], _ => rfl)⟩,
    d_are_bases := ⟨f8, _, PySem.W.mg_of X G a_are_bases, fun_mk (st := s_are_bases) l_are_bases c_are_bases k_are_bases, (Fun.binds (ps := [("value" : Str)]) (fun_mk (st := s_are_bases) l_are_bases c_are_bases k_are_bases) fun _ _ _ _ _ _ us hl => match us, hl with | [_], _ => rfl)⟩,
    d_are_digits := ⟨f9, _, PySem.W.mg_of X G a_are_digits, fun_mk (st := s_are_digits) l_are_digits c_are_digits k_are_digits, (Fun.binds (ps := [("value" : Str), ("bases" : Str)]) (fun_mk (st := s_are_digits) l_are_digits c_are_digits k_are_digits) fun _ _ _ _ _ _ us hl => match us, hl with | [_, _], _ => rfl)⟩,
    d_l_mixed := ⟨f10, _, PySem.W.mg_of X G a_l_mixed, fun_mk (st := s_l_mixed) l_l_mixed c_l_mixed k_l_mixed, (Fun.binds (ps := [("cell" : Str), ("k" : Str)]) (fun_mk (st := s_l_mixed) l_l_mixed c_l_mixed k_l_mixed) fun _ _ _ _ _ _ us hl => match us, hl with | [_, _], _ => rfl)⟩,
    d_l_store := ⟨f11, _, PySem.W.mg_of X G a_l_store, fun_mk (st := s_l_store) l_l_store c_l_store k_l_store, (Fun.binds (ps := [("script" : Str)]) (fun_mk (st := s_l_store) l_l_store c_l_store k_l_store) fun _ _ _ _ _ _ us hl => match us, hl with | [_], _ => rfl)⟩,
    d_l_take := ⟨f12, _, PySem.W.mg_of X G a_l_take, fun_mk (st := s_l_take) l_l_take c_l_take k_l_take, (Fun.binds (ps := [("store" : Str), ("many" : Str)]) (fun_mk (st := s_l_take) l_l_take c_l_take k_l_take) fun _ _ _ _ _ _ us hl => match us, hl with | [_, _], _ => rfl)⟩,
    d_l_great := ⟨f13, _, PySem.W.mg_of X G a_l_great, fun_mk (st := s_l_great) l_l_great c_l_great k_l_great, (Fun.binds (ps := [("store" : Str), ("many" : Str)]) (fun_mk (st := s_l_great) l_l_great c_l_great k_l_great) fun _ _ _ _ _ _ us hl => match us, hl with | [_, _], _ => rfl)⟩,
    d_l_edge := ⟨f14, _, PySem.W.mg_of X G a_l_edge, fun_mk (st := s_l_edge) l_l_edge c_l_edge k_l_edge, (Fun.binds (ps := [("store" : Str), ("low" : Str), ("high" : Str)]) (fun_mk (st := s_l_edge) l_l_edge c_l_edge k_l_edge) fun _ _ _ _ _ _ us hl => match us, hl with | [_, _, _], _ => rfl)⟩,
    d_l_number := ⟨f15, _, PySem.W.mg_of X G a_l_number, fun_mk (st := s_l_number) l_l_number c_l_number k_l_number, (Fun.binds (ps := [("store" : Str)]) (fun_mk (st := s_l_number) l_l_number c_l_number k_l_number) fun _ _ _ _ _ _ us hl => match us, hl with | [_], _ => rfl)⟩,
    d_l_near := ⟨f16, _, PySem.W.mg_of X G a_l_near, fun_mk (st := s_l_near) l_l_near c_l_near k_l_near, (Fun.binds (ps := [("store" : Str), ("limit" : Str)]) (fun_mk (st := s_l_near) l_l_near c_l_near k_l_near) fun _ _ _ _ _ _ us hl => match us, hl with | [_, _], _ => rfl)⟩,
    d_l_no_number := ⟨f17, _, PySem.W.mg_of X G a_l_no_number, fun_mk (st := s_l_no_number) l_l_no_number c_l_no_number k_l_no_number, (Fun.binds (ps := [("store" : Str)]) (fun_mk (st := s_l_no_number) l_l_no_number c_l_no_number k_l_no_number) fun _ _ _ _ _ _ us hl => match us, hl with | [_], _ => rfl)⟩,
    d_l_pick := ⟨f18, _, PySem.W.mg_of X G a_l_pick, fun_mk (st := s_l_pick) l_l_pick c_l_pick k_l_pick, (Fun.binds (ps := [("store" : Str), ("row" : Str)]) (fun_mk (st := s_l_pick) l_l_pick c_l_pick k_l_pick) fun _ _ _ _ _ _ us hl => match us, hl with | [_, _], _ => rfl)⟩,
    d_l_int := ⟨f19, _, PySem.W.mg_of X G a_l_int, fun_mk (st := s_l_int) l_l_int c_l_int k_l_int, (Fun.binds (ps := [("value" : Str)]) (fun_mk (st := s_l_int) l_l_int c_l_int k_l_int) fun _ _ _ _ _ _ us hl => match us, hl with | [_], _ => rfl)⟩,
    d_l_same := ⟨f20, _, PySem.W.mg_of X G a_l_same, fun_mk (st := s_l_same) l_l_same c_l_same k_l_same, (Fun.binds (ps := [("one" : Str), ("other" : Str)]) (fun_mk (st := s_l_same) l_l_same c_l_same k_l_same) fun _ _ _ _ _ _ us hl => match us, hl with | [_, _], _ => rfl)⟩,
    d_l_spoil := ⟨f21, _, PySem.W.mg_of X G a_l_spoil, fun_mk (st := s_l_spoil) l_l_spoil c_l_spoil k_l_spoil, (Fun.binds (ps := [("value" : Str)]) (fun_mk (st := s_l_spoil) l_l_spoil c_l_spoil k_l_spoil) fun _ _ _ _ _ _ us hl => match us, hl with | [_], _ => rfl)⟩,
    d_l_bases := ⟨f22, _, PySem.W.mg_of X G a_l_bases, fun_mk (st := s_l_bases) l_l_bases c_l_bases k_l_bases, (Fun.binds (ps := [("store" : Str)]) (fun_mk (st := s_l_bases) l_l_bases c_l_bases k_l_bases) fun _ _ _ _ _ _ us hl => match us, hl with | [_], _ => rfl)⟩,
    d_l_bad_bases := ⟨f23, _, PySem.W.mg_of X G a_l_bad_bases, fun_mk (st := s_l_bad_bases) l_l_bad_bases c_l_bad_bases k_l_bad_bases, (Fun.binds (ps := [("store" : Str), ("pair" : Str)]) (fun_mk (st := s_l_bad_bases) l_l_bad_bases c_l_bad_bases k_l_bad_bases) fun _ _ _ _ _ _ us hl => match us, hl with | [_, _], _ => rfl)⟩,
    d_l_number_told := ⟨f24, _, PySem.W.mg_of X G a_l_number_told, fun_mk (st := s_l_number_told) l_l_number_told c_l_number_told k_l_number_told, (Fun.binds (ps := [("bases" : Str), ("digits" : Str)]) (fun_mk (st := s_l_number_told) l_l_number_told c_l_number_told k_l_number_told) fun _ _ _ _ _ _ us hl => match us, hl with | [_, _], _ => rfl)⟩,
    d_l_digits_told := ⟨f25, _, PySem.W.mg_of X G a_l_digits_told, fun_mk (st := s_l_digits_told) l_l_digits_told c_l_digits_told k_l_digits_told, (Fun.binds (ps := [("bases" : Str), ("number" : Str)]) (fun_mk (st := s_l_digits_told) l_l_digits_told c_l_digits_told k_l_digits_told) fun _ _ _ _ _ _ us hl => match us, hl with | [_, _], _ => rfl)⟩,
    d_l_weights := ⟨f26, _, PySem.W.mg_of X G a_l_weights, fun_mk (st := s_l_weights) l_l_weights c_l_weights k_l_weights, (Fun.binds (ps := [("bases" : Str)]) (fun_mk (st := s_l_weights) l_l_weights c_l_weights k_l_weights) fun _ _ _ _ _ _ us hl => match us, hl with | [_], _ => rfl)⟩,
    d_l_worth := ⟨f27, _, PySem.W.mg_of X G a_l_worth, fun_mk (st := s_l_worth) l_l_worth c_l_worth k_l_worth, (Fun.binds (ps := [("bases" : Str), ("digits" : Str)]) (fun_mk (st := s_l_worth) l_l_worth c_l_worth k_l_worth) fun _ _ _ _ _ _ us hl => match us, hl with | [_, _], _ => rfl)⟩,
    d_l_there_and_back := ⟨f28, _, PySem.W.mg_of X G a_l_there_and_back, fun_mk (st := s_l_there_and_back) l_l_there_and_back c_l_there_and_back k_l_there_and_back, (Fun.binds (ps := [("bases" : Str), ("digits" : Str)]) (fun_mk (st := s_l_there_and_back) l_l_there_and_back c_l_there_and_back k_l_there_and_back) fun _ _ _ _ _ _ us hl => match us, hl with | [_, _], _ => rfl)⟩,
    d_l_reads := ⟨f29, _, PySem.W.mg_of X G a_l_reads, fun_mk (st := s_l_reads) l_l_reads c_l_reads k_l_reads, (Fun.binds (ps := [("bases" : Str), ("number" : Str)]) (fun_mk (st := s_l_reads) l_l_reads c_l_reads k_l_reads) fun _ _ _ _ _ _ us hl => match us, hl with | [_, _], _ => rfl)⟩,
    d_l_refuses := ⟨f30, _, PySem.W.mg_of X G a_l_refuses, fun_mk (st := s_l_refuses) l_l_refuses c_l_refuses k_l_refuses, (Fun.binds (ps := [("store" : Str), ("pair" : Str)]) (fun_mk (st := s_l_refuses) l_l_refuses c_l_refuses k_l_refuses) fun _ _ _ _ _ _ us hl => match us, hl with | [_, _], _ => rfl)⟩,
    d_l_kept := ⟨f31, _, PySem.W.mg_of X G a_l_kept, fun_mk (st := s_l_kept) l_l_kept c_l_kept k_l_kept, (Fun.binds (ps := [("one" : Str), ("two" : Str)]) (fun_mk (st := s_l_kept) l_l_kept c_l_kept k_l_kept) fun _ _ _ _ _ _ us hl => match us, hl with | [_, _], _ => rfl)⟩,
    d_law := ⟨fa, _, PySem.W.mg_of X G a_law, fun_mk (st := s_law) l_law c_law k_law, (Fun.binds (ps := [("script" : Str)]) (fun_mk (st := s_law) l_law c_law k_law) fun _ _ _ _ _ _ us hl => match us, hl with | [_], _ => rfl)⟩,
    g_BadShape := PySem.W.mg_of X G a_BadShape,
    g_CrossError := PySem.W.mg_of X G a_CrossError,
    g_Lacking := PySem.W.mg_of X G a_Lacking,
    g_NoRank := PySem.W.mg_of X G a_NoRank,
    t_GREATEST_BASE := t_GREATEST_BASE,
    c_GREATEST_BASE := PySem.W.mg_of X G a_GREATEST_BASE,
    t_MOST_BASES := t_MOST_BASES,
    c_MOST_BASES := PySem.W.mg_of X G a_MOST_BASES,
    b_ValueError := PySem.W.mg_none_of X G z_ValueError,
    b_abs := PySem.W.mg_none_of X G z_abs,
    b_all := PySem.W.mg_none_of X G z_all,
    b_bool := PySem.W.mg_none_of X G z_bool,
    b_dict := PySem.W.mg_none_of X G z_dict,
    b_int := PySem.W.mg_none_of X G z_int,
    b_isinstance := PySem.W.mg_none_of X G z_isinstance,
    b_len := PySem.W.mg_none_of X G z_len,
    b_list := PySem.W.mg_none_of X G z_list,
    b_max := PySem.W.mg_none_of X G z_max,
    b_range := PySem.W.mg_none_of X G z_range,
    b_reversed := PySem.W.mg_none_of X G z_reversed,
    b_str := PySem.W.mg_none_of X G z_str,
    b_sum := PySem.W.mg_none_of X G z_sum,
    b_tuple := PySem.W.mg_none_of X G z_tuple,
    b_zip := PySem.W.mg_none_of X G z_zip,
    ef := ⟨ef_x_bb, ef_x_bn, ef_x_nn, ef_k_bc, ef_k_bv, ef_k_nc, ef_k_nv, ef_a_b, ef_a_n⟩ }
  exact ⟨_, fun s u => .of_eq rfl, fun base _ _ => (ok_law T).mono (by decide)⟩
end XB

/-! The end. -/
namespace XB
open PySem PySem.Spec PyProof.Rows L2
theorem walk {l : PySem.W.OpenLaw} {q : Program} {loose : List Str} {XP : (Str → Option Value) → Heap → Prop} {YP : World → Heap → Prop} {d : DefRec} {K : Params → PySem.W.Frag} (hn : l.most = some 63) (hdf : d.params.defaults = [])
    (hY : ∀ (w : World) (h : Heap), YP w h → (K w.params).In h) 
    (F : ∀ (w : World) (mg : Str → Option Value) (fa : Addr) (h : Heap), (K w.params).In h → h.Ns mainGlobals mg → mg d.name = some (.ref fa) →
      ∃ fd : FuncData, (∀ (s : Shared) (u : Value), BindsTo s fd ⟨[u], []⟩ [("script", u)]) ∧ ∀ base : Heap, (K w.params).In base → base.Ns mainGlobals mg → FnOk l.prog w (K w.params) mg base CX0 30 fa fd ["script"] (sp_lawK (K w.params))) :
    PySem.W.WalkO q loose XP YP l.row.toRowW d [] (fun f vs => PySem.call f vs) :=
  L2.walk_of (n := 63) (k := 30) (x := "script") (CX := fun _ => CX0) (sp := fun w => sp_lawK (K w.params)) hn (by decide) hdf ⟨rfl, by decide, by decide⟩ hY F (fun _ _ a ns hl _ hS => ⟨a, ns, rfl, hS, hl, fun _ => rfl⟩) fun _ _ _ _ _ z => z
end XB
open PySem PySem.W PyProof.Rows in
set_option maxRecDepth 100000 in
set_option maxHeartbeats 0 in
theorem PySem.Challenge.cw_crossfarers_k08_mixed_numbers_holds : PySem.Challenge.rw_crossfarers_k08_mixed_numbers.Holds := by
  w_on; o_law; k_head; (case hw => w_witness2)
  k_fill
  refine XB.walk (l := PySem.Challenge.rw_crossfarers_k08_mixed_numbers) rfl rfl (fun w h Y => PySem.W.kIn_of Y) ?F
  case F =>
    intro w mg fa h KX G hmg
    refine' XB.all_mk KX G hmg ?a_BadShape ?a_CrossError ?a_Lacking ?a_NoRank ?x_BadShape ?rb_BadShape ?sa_BadShape ?ga_BadShape ?gg_BadShape ?ha_BadShape ?iC_BadShape ?no_parameter_BadShape ?kC_BadShape ?eC_BadShape ?tC_BadShape ?hC_BadShape ?mr_BadShape ?tI_BadShape ?l_BadShape_init ?c_BadShape_init ?k_BadShape_init ?x_NoRank ?rb_NoRank ?sa_NoRank ?ga_NoRank ?gg_NoRank ?ha_NoRank ?iC_NoRank ?no_number_NoRank ?no_limit_NoRank ?kC_NoRank ?eC_NoRank ?tC_NoRank ?hC_NoRank ?mr_NoRank ?tI_NoRank ?l_NoRank_init ?c_NoRank_init ?k_NoRank_init ?a_is_whole ?l_is_whole ?c_is_whole ?k_is_whole ?a_is_number ?l_is_number ?c_is_number ?k_is_number ?a_check ?l_check ?c_check ?k_check ?a_mixed_number ?l_mixed_number ?c_mixed_number ?k_mixed_number ?a_mixed_digits ?l_mixed_digits ?c_mixed_digits ?k_mixed_digits ?a_are_bases ?l_are_bases ?c_are_bases ?k_are_bases ?a_are_digits ?l_are_digits ?c_are_digits ?k_are_digits ?a_l_mixed ?l_l_mixed ?c_l_mixed ?k_l_mixed ?a_l_store ?l_l_store ?c_l_store ?k_l_store ?a_l_take ?l_l_take ?c_l_take ?k_l_take ?a_l_great ?l_l_great ?c_l_great ?k_l_great ?a_l_edge ?l_l_edge ?c_l_edge ?k_l_edge ?a_l_number ?l_l_number ?c_l_number ?k_l_number ?a_l_near ?l_l_near ?c_l_near ?k_l_near ?a_l_no_number ?l_l_no_number ?c_l_no_number ?k_l_no_number ?a_l_pick ?l_l_pick ?c_l_pick ?k_l_pick ?a_l_int ?l_l_int ?c_l_int ?k_l_int ?a_l_same ?l_l_same ?c_l_same ?k_l_same ?a_l_spoil ?l_l_spoil ?c_l_spoil ?k_l_spoil ?a_l_bases ?l_l_bases ?c_l_bases ?k_l_bases ?a_l_bad_bases ?l_l_bad_bases ?c_l_bad_bases ?k_l_bad_bases ?a_l_number_told ?l_l_number_told ?c_l_number_told ?k_l_number_told ?a_l_digits_told ?l_l_digits_told ?c_l_digits_told ?k_l_digits_told ?a_l_weights ?l_l_weights ?c_l_weights ?k_l_weights ?a_l_worth ?l_l_worth ?c_l_worth ?k_l_worth ?a_l_there_and_back ?l_l_there_and_back ?c_l_there_and_back ?k_l_there_and_back ?a_l_reads ?l_l_reads ?c_l_reads ?k_l_reads ?a_l_refuses ?l_l_refuses ?c_l_refuses ?k_l_refuses ?a_l_kept ?l_l_kept ?c_l_kept ?k_l_kept ?a_law ?l_law ?c_law ?k_law ?hn ?ht ?a_GREATEST_BASE ?a_MOST_BASES ?z_ValueError ?z_abs ?z_all ?z_bool ?z_dict ?z_int ?z_isinstance ?z_len ?z_list ?z_max ?z_range ?z_reversed ?z_str ?z_sum ?z_tuple ?z_zip ?ef_x_bb ?ef_x_bn ?ef_x_nn ?ef_k_bc ?ef_k_bv ?ef_k_nc ?ef_k_nv ?ef_a_b ?ef_a_n
    (case a_BadShape => k_is)
    (case a_CrossError => k_is)
    (case a_Lacking => k_is)
    (case a_NoRank => k_is)
    (case x_BadShape => k_is)
    (case rb_BadShape => decide +kernel)
    (case sa_BadShape => k_is)
    (case ga_BadShape => k_is)
    (case gg_BadShape => k_is)
    (case ha_BadShape => k_is)
    (case iC_BadShape => k_is)
    (case no_parameter_BadShape => k_is)
    (case kC_BadShape => k_is)
    (case eC_BadShape => k_is)
    (case tC_BadShape => k_is)
    (case hC_BadShape => k_is)
    (case mr_BadShape => k_is)
    (case tI_BadShape => k_is)
    (case l_BadShape_init => k_is)
    (case c_BadShape_init => k_is)
    (case k_BadShape_init => k_is)
    (case x_NoRank => k_is)
    (case rb_NoRank => decide +kernel)
    (case sa_NoRank => k_is)
    (case ga_NoRank => k_is)
    (case gg_NoRank => k_is)
    (case ha_NoRank => k_is)
    (case iC_NoRank => k_is)
    (case no_number_NoRank => k_is)
    (case no_limit_NoRank => k_is)
    (case kC_NoRank => k_is)
    (case eC_NoRank => k_is)
    (case tC_NoRank => k_is)
    (case hC_NoRank => k_is)
    (case mr_NoRank => k_is)
    (case tI_NoRank => k_is)
    (case l_NoRank_init => k_is)
    (case c_NoRank_init => k_is)
    (case k_NoRank_init => k_is)
    (case a_is_whole => k_is)
    (case l_is_whole => k_is)
    (case c_is_whole => k_is)
    (case k_is_whole => k_is)
    (case a_is_number => k_is)
    (case l_is_number => k_is)
    (case c_is_number => k_is)
    (case k_is_number => k_is)
    (case a_check => k_is)
    (case l_check => k_is)
    (case c_check => k_is)
    (case k_check => k_is)
    (case a_mixed_number => k_is)
    (case l_mixed_number => k_is)
    (case c_mixed_number => k_is)
    (case k_mixed_number => k_is)
    (case a_mixed_digits => k_is)
    (case l_mixed_digits => k_is)
    (case c_mixed_digits => k_is)
    (case k_mixed_digits => k_is)
    (case a_are_bases => k_is)
    (case l_are_bases => k_is)
    (case c_are_bases => k_is)
    (case k_are_bases => k_is)
    (case a_are_digits => k_is)
    (case l_are_digits => k_is)
    (case c_are_digits => k_is)
    (case k_are_digits => k_is)
    (case a_l_mixed => k_is)
    (case l_l_mixed => k_is)
    (case c_l_mixed => k_is)
    (case k_l_mixed => k_is)
    (case a_l_store => k_is)
    (case l_l_store => k_is)
    (case c_l_store => k_is)
    (case k_l_store => k_is)
    (case a_l_take => k_is)
    (case l_l_take => k_is)
    (case c_l_take => k_is)
    (case k_l_take => k_is)
    (case a_l_great => k_is)
    (case l_l_great => k_is)
    (case c_l_great => k_is)
    (case k_l_great => k_is)
    (case a_l_edge => k_is)
    (case l_l_edge => k_is)
    (case c_l_edge => k_is)
    (case k_l_edge => k_is)
    (case a_l_number => k_is)
    (case l_l_number => k_is)
    (case c_l_number => k_is)
    (case k_l_number => k_is)
    (case a_l_near => k_is)
    (case l_l_near => k_is)
    (case c_l_near => k_is)
    (case k_l_near => k_is)
    (case a_l_no_number => k_is)
    (case l_l_no_number => k_is)
    (case c_l_no_number => k_is)
    (case k_l_no_number => k_is)
    (case a_l_pick => k_is)
    (case l_l_pick => k_is)
    (case c_l_pick => k_is)
    (case k_l_pick => k_is)
    (case a_l_int => k_is)
    (case l_l_int => k_is)
    (case c_l_int => k_is)
    (case k_l_int => k_is)
    (case a_l_same => k_is)
    (case l_l_same => k_is)
    (case c_l_same => k_is)
    (case k_l_same => k_is)
    (case a_l_spoil => k_is)
    (case l_l_spoil => k_is)
    (case c_l_spoil => k_is)
    (case k_l_spoil => k_is)
    (case a_l_bases => k_is)
    (case l_l_bases => k_is)
    (case c_l_bases => k_is)
    (case k_l_bases => k_is)
    (case a_l_bad_bases => k_is)
    (case l_l_bad_bases => k_is)
    (case c_l_bad_bases => k_is)
    (case k_l_bad_bases => k_is)
    (case a_l_number_told => k_is)
    (case l_l_number_told => k_is)
    (case c_l_number_told => k_is)
    (case k_l_number_told => k_is)
    (case a_l_digits_told => k_is)
    (case l_l_digits_told => k_is)
    (case c_l_digits_told => k_is)
    (case k_l_digits_told => k_is)
    (case a_l_weights => k_is)
    (case l_l_weights => k_is)
    (case c_l_weights => k_is)
    (case k_l_weights => k_is)
    (case a_l_worth => k_is)
    (case l_l_worth => k_is)
    (case c_l_worth => k_is)
    (case k_l_worth => k_is)
    (case a_l_there_and_back => k_is)
    (case l_l_there_and_back => k_is)
    (case c_l_there_and_back => k_is)
    (case k_l_there_and_back => k_is)
    (case a_l_reads => k_is)
    (case l_l_reads => k_is)
    (case c_l_reads => k_is)
    (case k_l_reads => k_is)
    (case a_l_refuses => k_is)
    (case l_l_refuses => k_is)
    (case c_l_refuses => k_is)
    (case k_l_refuses => k_is)
    (case a_l_kept => k_is)
    (case l_l_kept => k_is)
    (case c_l_kept => k_is)
    (case k_l_kept => k_is)
    (case a_law => k_is)
    (case l_law => k_is)
    (case c_law => k_is)
    (case k_law => k_is)
    (case hn => k_is)
    (case ht => k_is)
    (case a_GREATEST_BASE => k_is)
    (case a_MOST_BASES => k_is)
    (case z_ValueError => k_is)
    (case z_abs => k_is)
    (case z_all => k_is)
    (case z_bool => k_is)
    (case z_dict => k_is)
    (case z_int => k_is)
    (case z_isinstance => k_is)
    (case z_len => k_is)
    (case z_list => k_is)
    (case z_max => k_is)
    (case z_range => k_is)
    (case z_reversed => k_is)
    (case z_str => k_is)
    (case z_sum => k_is)
    (case z_tuple => k_is)
    (case z_zip => k_is)
    (case ef_x_bb => first | kernel_rfl | exact rfl)
    (case ef_x_bn => first | kernel_rfl | exact rfl)
    (case ef_x_nn => first | kernel_rfl | exact rfl)
    (case ef_k_bc => first | kernel_rfl | exact rfl)
    (case ef_k_bv => first | kernel_rfl | exact rfl)
    (case ef_k_nc => first | kernel_rfl | exact rfl)
    (case ef_k_nv => first | kernel_rfl | exact rfl)
    (case ef_a_b => first | kernel_rfl | exact rfl)
    (case ef_a_n => first | kernel_rfl | exact rfl)
