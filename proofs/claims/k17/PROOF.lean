import PyProof.Rows.All
import Wide.All
import OpenK.AllK
import Wide.FinOn
import HandS.ForMost
import HandS.ForExc
import HandS.Wide
import HandS.More
import HandS.Evl
import HandS.IsInst
import HandS.TupMul
import HandS.TupLe
import HandS.TryMany
import HandS.ExcInit
import HandS.ExcField
import HandS.ExcIs
import HandS.Style
import HandS.Zip
import HandS.HotCalls
import HandS.ExcInitHot
import HandS.Codes
import HandS.WordsDict
import HandS.DictEq
import PySem.Challenge.RW_crossfarers_k17_legs_of_a_plan_read_back
set_option Elab.async false
set_option linter.all false
set_option maxRecDepth 100000
set_option maxHeartbeats 8000000

/-! Own words over the hand layer. Each operator's reading is a function of the values and the heap (so that simp runs it); how a reading is taken apart. -/
namespace XB
open PySem L2
/-! ### what stands in the heap -/
def asL : Option HO → Option (List V)
  | some (.lst xs) => some xs
  | some (.frz _ (.lst xs)) => some xs
  | _ => none
def asT : Option HO → Option (List V)
  | some (.tup xs) => some xs
  | some (.frz _ (.tup xs)) => some xs
  | _ => none
theorem asL_seq {K : PySem.W.Frag} {H : Hp} {p : Addr} {xs : List V} (h : asL (H p) = some xs) : SqL K H p xs := by
  unfold asL at h
  split at h
  · rename_i ys e; cases h; exact .inl (.inl e)
  · rename_i o ys e; cases h; exact .inl (.inr ⟨o, e⟩)
  · cases h
theorem asT_seq {K : PySem.W.Frag} {H : Hp} {p : Addr} {xs : List V} (h : asT (H p) = some xs) : SqT K H p xs := by
  unfold asT at h
  split at h
  · rename_i ys e; cases h; exact .inl (.inl e)
  · rename_i o ys e; cases h; exact .inl (.inr ⟨o, e⟩)
  · cases h
def asS (o : Option HO) : Option (List V) := match asL o with
  | some xs => some xs
  | none => asT o
theorem asS_or {o : Option HO} {xs : List V} (h : asS o = some xs) : asL o = some xs ∨ asT o = some xs := by
  unfold asS at h
  split at h
  · rename_i e; rw [← h]; exact .inl e
  · exact .inr h
def atV (xs : List V) (i : Int) (q : V → Prop) : Prop := match atI xs i with
  | some v => q v
  | none => False
/-! ### operators -/
def fAdd : R2 := fun x y H Q => match x, y with
  | .int i, .int j => Q (.int (i + j)) H
  | .str a, .str b => a.length + b.length ≤ sizeLine ∧ Q (.str (a ++ b)) H
  | .ref a, .ref b => (match H a, H b with
    | some (.lst xs), some (.lst ys) => xs.length + ys.length ≤ sizeLine ∧ ∀ p, H p = none → Q (.ref p) (upd H p (.lst (xs ++ ys)))
    | some (.tup xs), some (.tup ys) => xs ≠ [] ∧ ys ≠ [] ∧ xs.length + ys.length ≤ sizeLine ∧ ∀ p, H p = none → Q (.ref p) (upd H p (.tup (xs ++ ys)))
    | _, _ => False)
  | _, _ => False
def fSub : R2 := fun x y H Q => match x, y with
  | .int i, .int j => Q (.int (i - j)) H
  | _, _ => False
def fMul : R2 := fun x y H Q => match x, y with
  | .int i, .int j => CMul i j ∧ Q (.int (i * j)) H
  | .ref a, .int k => (match H a with
    | some (.lst xs) => (-(2 ^ 63) ≤ k ∧ k < 2 ^ 63 ∧ xs.length * k.toNat ≤ sizeLine) ∧ ∀ p, H p = none → Q (.ref p) (upd H p (.lst (List.replicate k.toNat xs).flatten))
    | _ => False)
  | _, _ => False
def fMod : R2 := fun x y H Q => match x, y with
  | .int i, .int j => 0 < j ∧ Q (.int (i % j)) H
  | _, _ => False
def fDiv : R2 := fun x y H Q => match x, y with
  | .int i, .int j => CDivW i j ∧ Q (.int (i / j)) H
  | _, _ => False
def fPow : R2 := fun x y H Q => match x, y with
  | .int i, .int j => CPow i j ∧ Q (.int (i ^ j.toNat)) H
  | _, _ => False
def fNeg : V → Hp → VK → Prop := fun x H Q => match x with
  | .int i => Q (.int (-i)) H
  | _ => False
def fCmp (f : Int → Int → Bool) : R2 := fun x y H Q => match x, y with
  | .int i, .int j => Q (.bl (f i j)) H
  | _, _ => False
abbrev fLt : R2 := fCmp fun i j => decide (i < j)
abbrev fLe : R2 := fCmp fun i j => decide (i ≤ j)
abbrev fGt : R2 := fCmp fun i j => decide (j < i)
abbrev fGe : R2 := fCmp fun i j => decide (j ≤ i)
def fEq (K : PySem.W.Frag) : R2 := fun x y H Q => match x, y with
  | .int i, .int j => Q (.bl (decide (i = j))) H
  | .bl i, .bl j => Q (.bl (decide (i = j))) H
  | .str i, .str j => Q (.bl (decide (i = j))) H
  | .ref a, .ref b => rEqD K (.ref a) (.ref b) H Q
  | x, y => scal x y = true ∧ Q (.bl (decide (x = y))) H
def fNe (K : PySem.W.Frag) : R2 := fun x y H Q => match x, y with
  | .int i, .int j => Q (.bl (!decide (i = j))) H
  | .bl i, .bl j => Q (.bl (!decide (i = j))) H
  | .str i, .str j => Q (.bl (!decide (i = j))) H
  | .ref a, .ref b => rNeD K (.ref a) (.ref b) H Q
  | x, y => scal x y = true ∧ Q (.bl (!decide (x = y))) H
def fIsN : R2 := fun x y H Q => match y with
  | .non => Q (.bl (decide (x = .non))) H
  | _ => False
def fNotN : R2 := fun x y H Q => match y with
  | .non => Q (.bl (!decide (x = .non))) H
  | _ => False
def fIsB : R2 := fun x y H Q => match x, y with
  | .bl a, .bl b => Q (.bl (decide (a = b))) H
  | _, _ => False
def fIx : R2 := fun x y H Q => match x, y with
  | .ref p, .int i => (match asS (H p) with
    | some xs => atV xs i fun v => Q v H
    | none => False)
  | .str z, .int i => z.length ≤ sizeLine ∧ ∃ c, atI z.cps.toList i = some c ∧ Q (.str ⟨#[c]⟩) H
  | _, _ => False
def fIn (K : PySem.W.Frag) : R2 := fun x y H Q => match x, y with
  | .str ⟨⟨[c]⟩⟩, .str z => Q (.bl (decide (c ∈ z.cps.toList))) H
  | x, .ref p => (match asS (H p) with
    | some xs => flatV x = true ∧ xs.all flatV = true ∧ Q (.bl (inV x xs)) H
    | none => False)
  | _, _ => False
/-! ### calls of what is built in -/
abbrev RL := List V → Hp → VK → Prop
def fInt : RL := fun xs H Q => match xs with
  | [.int i] => Q (.int i) H
  | [.bl k] => Q (.int (if k then 1 else 0)) H
  | _ => False
def fLen : RL := fun xs H Q => match xs with
  | [.str z] => z.length ≤ sizeLine ∧ Q (.int (z.length : Nat)) H
  | [.ref p] => (match asS (H p) with
    | some ys => Q (.int (ys.length : Nat)) H
    | none => False)
  | _ => False
def fMax : RL := fun xs H Q => match xs with
  | [.int i, .int j] => Q (.int (max i j)) H
  | _ => False
def fMin : RL := fun xs H Q => match xs with
  | [.int i, .int j] => Q (.int (min i j)) H
  | _ => False
def fAbs : RL := fun xs H Q => match xs with
  | [.int i] => Q (.int (if i < 0 then -i else i)) H
  | _ => False
def fList : RL := fun xs H Q => match xs with
  | [.ref p] => (match asS (H p) with
    | some ys => ∀ l, H l = none → Q (.ref l) (upd H l (.lst ys))
    | none => False)
  | _ => False
def fTuple : RL := fun xs H Q => match xs with
  | [.ref p] => (match asL (H p) with
    | some ys => ∀ l, H l = none → Q (.ref l) (upd H l (.tup ys))
    | none => False)
  | _ => False
def fAll : RL := fun xs H Q => match xs with
  | [.ref p] => (match asL (H p) with
    | some ys => ∃ bs : List Bool, ys = bs.map V.bl ∧ Q (.bl (bs.all id)) H
    | none => False)
  | _ => False
def fSum : RL := fun xs H Q => match xs with
  | [.ref p] => (match asL (H p) with
    | some ys => ∃ ns : List Int, ys = ns.map V.int ∧ Q (.int ns.sum) H
    | none => False)
  | _ => False
/-- the built-in class of a value -/
def tyN (x : V) (H : Hp) : Option String := match x with
  | .non => some "NoneType"
  | .bl _ => some "bool"
  | .int _ => some "int"
  | .str _ => some "str"
  | .ref p => (match H p with
    | some (.lst _) => some "list"
    | some (.frz _ (.lst _)) => some "list"
    | some (.tup _) => some "tuple"
    | some (.frz _ (.tup _)) => some "tuple"
    | some (.dK _) => some "dict"
    | some (.dT _) => some "dict"
    | some (.frz _ (.dK _)) => some "dict"
    | _ => none)
  | _ => none
theorem tyN_x {K : PySem.W.Frag} {x : V} {H : Hp} {t : String} (h : tyN x H = some t) : TyX K H x (.type t) := by
  unfold tyN at h
  split at h
  · cases h; exact .base .non
  · cases h; exact .base (.bl _)
  · cases h; exact .base (.int _)
  · cases h; exact .base (.str _)
  · split at h
    · rename_i e; cases h; exact .base (.lst e)
    · rename_i e; cases h; exact .base (.frz e)
    · rename_i e; cases h; exact .base (.tup e)
    · rename_i e; cases h; exact .fTuple e
    · rename_i e; cases h; exact .base (.dK e)
    · rename_i e; cases h; exact .base (.dT e)
    · rename_i e; cases h; exact .fDict e
    · cases h
  · cases h
def tys : List V → Option (List String)
  | [] => some []
  | .ty c :: r => (tys r).map (c :: ·)
  | _ => none
def kitS (t : String) : List String → Option Bool
  | [] => some false
  | c :: r => (match kitB t c with
    | some true => some true
    | some false => kitS t r
    | none => none)
theorem kitS_any {K : PySem.W.Frag} {t : String} : ∀ {ns : List String} {b : Bool}, kitS t ns = some b → PySem.W.kitAny K (.type t) (ns.map Value.type) = some b
  | [], b, h => h
  | c :: r, b, h => by
    unfold kitS at h
    split at h
    · rename_i e
      exact kitAny_cons (kit_ty e) (fun z => by cases z) (fun _ => by cases h; rfl)
    · rename_i e
      exact kitAny_cons (kit_ty e) (fun _ => kitS_any h) (fun z => by cases z)
    · cases h
theorem tys_pair : ∀ {cs : List V} {ns : List String}, tys cs = some ns → Paired ClsV cs (ns.map Value.type)
  | [], ns, h => by cases h; exact .nil
  | .ty c :: r, ns, h => by
    unfold tys at h
    cases e : tys r with
    | none => rw [e] at h; cases h
    | some m => rw [e] at h; cases h; exact .cons (.ty c) (tys_pair e)
  | .non :: _, _, h => by cases h
  | .bl _ :: _, _, h => by cases h
  | .int _ :: _, _, h => by cases h
  | .str _ :: _, _, h => by cases h
  | .byt _ :: _, _, h => by cases h
  | .flt _ :: _, _, h => by cases h
  | .ref _ :: _, _, h => by cases h
def fIsi : RL := fun xs H Q => match xs with
  | [x, .ty c] => (match tyN x H with
    | some t => (match kitB t c with
      | some b => Q (.bl b) H
      | none => False)
    | none => False)
  | _ => False
def fIsiT : RL := fun xs H Q => match xs with
  | [x, .ref tp] => (match tyN x H, H tp with
    | some t, some (.tup cs) => (match tys cs with
      | some ns => (match kitS t ns with
        | some b => Q (.bl b) H
        | none => False)
      | none => False)
    | _, _ => False)
  | _ => False
/-! ### methods, slices, stores, targets -/
abbrev RM := V → List V → Hp → VK → Prop
def fAppend : RM := fun x vs H Q => match x, vs with
  | .ref l, [y] => (match H l with
    | some (.lst xs) => xs.length < sizeLine ∧ Q .non (upd H l (.lst (xs ++ [y])))
    | _ => False)
  | _, _ => False
def fInsert : RM := fun x vs H Q => match x, vs with
  | .ref l, [.int i, y] => (match H l with
    | some (.lst xs) => (xs.length < sizeLine ∧ 0 ≤ i ∧ i < 2 ^ 63) ∧ Q .non (upd H l (.lst (xs.take i.toNat ++ [y] ++ xs.drop i.toNat)))
    | _ => False)
  | _, _ => False
def fPop : RM := fun x vs H Q => match x, vs with
  | .ref l, [] => (match H l with
    | some (.lst xs) => (match xs[xs.length - 1]? with
      | some y => Q y (upd H l (.lst xs.dropLast))
      | none => False)
    | _ => False)
  | _, _ => False
def fSl : V → Option Int → Option Int → Hp → VK → Prop := fun x lo hi H Q => match x with
  | .ref p => (match asL (H p) with
    | some xs => ∀ q, H q = none → Q (.ref q) (upd H q (.lst (cutV xs lo hi)))
    | none => (match asT (H p) with
      | some xs => ¬ (HT.sIx xs.length 0 lo = 0 ∧ HT.sIx xs.length xs.length hi = xs.length) ∧ ∀ q, H q = none → Q (.ref q) (upd H q (.tup (cutV xs lo hi)))
      | none => False))
  | _ => False
def fSet : V → V → V → Hp → (Hp → Prop) → Prop := fun o i v H Q => match o, i with
  | .ref p, .int k => (match H p with
    | some (.lst xs) => (match ixN xs.length k with
      | some j => Q (upd H p (.lst (xs.set j v)))
      | none => False)
    | _ => False)
  | _, _ => False
def gTupF (n : Nat) (t : TGs) : TG := fun v σ H Q => match v with
  | .ref a => (match asT (H a) with
    | some xs => xs.length = n ∧ t xs σ H Q
    | none => False)
  | _ => False
def tBMF (T : String) (r : RM) (to : TE) (t : TA) : TE := fun σ H Q => to σ H fun x H1 => tyN x H1 = some T ∧ t σ H1 fun xs H2 => r x xs H2 Q
def tBM0F (T : String) (r : RM) (to : TE) : TE := fun σ H Q => to σ H fun x H1 => tyN x H1 = some T ∧ r x [] H1 Q
def tRevF (te : TE) : TE := fun σ H Q => te σ H fun x H1 => match x with
  | .ref a => (match asL (H1 a) with
    | some xs => ∀ p, H1 p = none → Q (.ref p) (upd H1 p (.lst xs.reverse))
    | none => False)
  | _ => False
theorem ty_of_list {K : PySem.W.Frag} {x : V} {H : Hp} (h : tyN x H = some "list") : tyV K "list" x H := by
  unfold tyN at h
  split at h
  · exact absurd (Option.some.inj h) (by decide)
  · exact absurd (Option.some.inj h) (by decide)
  · exact absurd (Option.some.inj h) (by decide)
  · exact absurd (Option.some.inj h) (by decide)
  · split at h
    · rename_i e; exact .inl ⟨rfl, _, .inl (.inl e)⟩
    · rename_i o xs e; exact .inl ⟨rfl, _, .inl (.inr ⟨o, e⟩)⟩
    · exact absurd (Option.some.inj h) (by decide)
    · exact absurd (Option.some.inj h) (by decide)
    · exact absurd (Option.some.inj h) (by decide)
    · exact absurd (Option.some.inj h) (by decide)
    · exact absurd (Option.some.inj h) (by decide)
    · cases h
  · cases h
theorem bm_var {K : PySem.W.Frag} {r : RM} {n : Nat} {t : TA} : ∀ σ H Q, tBMF "list" r (tVar n) t σ H Q → tBM K "list" r (tVar n) t σ H Q := fun σ H Q ⟨v, e, h1, h2⟩ => ⟨v, e, ty_of_list h1, h2⟩
theorem bm0_var {K : PySem.W.Frag} {r : RM} {n : Nat} : ∀ σ H Q, tBM0F "list" r (tVar n) σ H Q → tBM0 K "list" r (tVar n) σ H Q := fun σ H Q ⟨v, e, h1, h2⟩ => ⟨v, e, ty_of_list h1, h2⟩
theorem rev_var {K : PySem.W.Frag} {n : Nat} : ∀ σ H Q, tRevF (tVar n) σ H Q → tRevL K (tVar n) σ H Q := fun σ H Q ⟨v, e, h⟩ => by
  refine ⟨v, e, ?_⟩
  dsimp only at h ⊢
  split at h
  · split at h
    · rename_i e2
      exact ⟨_, _, rfl, asL_seq e2, h⟩
    · exact h.elim
  · exact h.elim
section
variable {X : Cx}
theorem op_imp {f : Value → Value → Sem Value} {r r' : R2} (h : OpR X f r) (k : ∀ x y H Q, r' x y H Q → r x y H Q) : OpR X f r' :=
  fun pins s σ H x y v u Q I rx ry q => h pins s σ H x y v u Q I rx ry (k x y H Q q)
theorem un_imp {f : Value → Sem Value} {r r' : V → Hp → VK → Prop} (h : UnR X f r) (k : ∀ x H Q, r' x H Q → r x H Q) : UnR X f r' :=
  fun pins s σ H x v Q I rx q => h pins s σ H x v Q I rx (k x H Q q)
theorem call_imp {f : Value} {r r' : RL} (h : CallR X f r) (k : ∀ xs H Q, r' xs H Q → r xs H Q) : CallR X f r' :=
  fun pins s σ H xs us Q I rs q => h pins s σ H xs us Q I rs (k xs H Q q)
theorem mt_imp {id : String} {r r' : RM} (h : MtR X id r) (k : ∀ x xs H Q, r' x xs H Q → r x xs H Q) : MtR X id r' :=
  fun pins s σ H x xs v us Q I rx rs q => h pins s σ H x xs v us Q I rx rs (k x xs H Q q)
theorem ix_imp {r r' : R2} (h : IxR X r) (k : ∀ x y H Q, r' x y H Q → r x y H Q) : IxR X r' :=
  fun value slice pins s σ H x y v u Q I rx ry q hs => h value slice pins s σ H x y v u Q I rx ry (k x y H Q q) hs
theorem op_addF : OpR X (binaryOp .Add) fAdd := op_imp (op_add.or (op_cat.or (op_catT.or op_add_str))) fun x y H Q h => by
  unfold fAdd at h
  split at h
  · exact .inl ⟨_, _, rfl, rfl, h⟩
  · exact .inr (.inr (.inr ⟨_, _, rfl, rfl, h.1, h.2⟩))
  · split at h
    · rename_i e1 e2
      exact .inr (.inl ⟨_, _, _, _, rfl, rfl, e1, e2, h.1, h.2⟩)
    · rename_i e1 e2
      exact .inr (.inr (.inl ⟨_, _, _, _, rfl, rfl, .inl (.inl e1), .inl (.inl e2), h.1, h.2.2.1, fun z => absurd z h.2.1, fun _ => h.2.2.2⟩))
    · exact h.elim
  · exact h.elim
theorem op_subF : OpR X (binaryOp .Sub) fSub := op_imp op_sub fun x y H Q h => by
  unfold fSub at h
  split at h
  · exact ⟨_, _, rfl, rfl, h⟩
  · exact h.elim
theorem op_mulF : OpR X (binaryOp .Mult) fMul := op_imp (op_mul.or op_rep) fun x y H Q h => by
  unfold fMul at h
  split at h
  · exact .inl ⟨_, _, rfl, rfl, h.1, h.2⟩
  · split at h
    · rename_i e
      exact .inr ⟨_, _, _, rfl, rfl, e, h.1.1, h.1.2.1, h.1.2.2, h.2⟩
    · exact h.elim
  · exact h.elim
theorem op_modF : OpR X (binaryOp .Mod) fMod := op_imp op_mod fun x y H Q h => by
  unfold fMod at h
  split at h
  · exact ⟨_, _, rfl, rfl, h.1, h.2⟩
  · exact h.elim
theorem op_divF : OpR X (binaryOp .FloorDiv) fDiv := op_imp op_fdivW fun x y H Q h => by
  unfold fDiv at h
  split at h
  · exact ⟨_, _, rfl, rfl, h.1, h.2⟩
  · exact h.elim
theorem op_powF : OpR X (binaryOp .Pow) fPow := op_imp op_pow fun x y H Q h => by
  unfold fPow at h
  split at h
  · exact ⟨_, _, rfl, rfl, h.1, h.2⟩
  · exact h.elim
theorem un_negF : UnR X (unaryOp .USub) fNeg := un_imp un_neg fun x H Q h => by
  unfold fNeg at h
  split at h
  · exact ⟨_, rfl, h⟩
  · exact h.elim
theorem cmp_back {f : Int → Int → Bool} {x y : V} {H : Hp} {Q : VK} (h : fCmp f x y H Q) : rI0 (fun i j => .bl (f i j)) x y H Q := by
  unfold fCmp at h
  split at h
  · exact ⟨_, _, rfl, rfl, h⟩
  · exact h.elim
theorem op_ltF : OpR X (compareOp .Lt) fLt := op_imp op_lt fun _ _ _ _ h => cmp_back h
theorem op_leF : OpR X (compareOp .LtE) fLe := op_imp op_le fun _ _ _ _ h => cmp_back h
theorem op_gtF : OpR X (compareOp .Gt) fGt := op_imp op_gt fun _ _ _ _ h => cmp_back h
theorem op_geF : OpR X (compareOp .GtE) fGe := op_imp op_ge fun _ _ _ _ h => cmp_back h
theorem op_eqF (hu : X.A.units + 64 < cLine) : OpR X (compareOp .Eq) (fEq X.K) := op_imp (op_eq.or (op_eqD hu)) fun x y H Q h => by
  unfold fEq at h
  split at h
  · rename_i i j
    exact .inl ⟨rfl, by have e : decide (V.int i = V.int j) = decide (i = j) := by simp
                        rw [e]; exact h⟩
  · rename_i i j
    exact .inl ⟨rfl, by have e : decide (V.bl i = V.bl j) = decide (i = j) := by simp
                        rw [e]; exact h⟩
  · rename_i i j
    exact .inl ⟨rfl, by have e : decide (V.str i = V.str j) = decide (i = j) := by simp
                        rw [e]; exact h⟩
  · exact .inr h
  · exact .inl h
theorem op_neF (hu : X.A.units + 64 < cLine) : OpR X (compareOp .NotEq) (fNe X.K) := op_imp (op_ne.or (op_neD hu)) fun x y H Q h => by
  unfold fNe at h
  split at h
  · rename_i i j
    exact .inl ⟨rfl, by have e : decide (V.int i = V.int j) = decide (i = j) := by simp
                        rw [e]; exact h⟩
  · rename_i i j
    exact .inl ⟨rfl, by have e : decide (V.bl i = V.bl j) = decide (i = j) := by simp
                        rw [e]; exact h⟩
  · rename_i i j
    exact .inl ⟨rfl, by have e : decide (V.str i = V.str j) = decide (i = j) := by simp
                        rw [e]; exact h⟩
  · exact .inr h
  · exact .inl h
theorem op_isNF : OpR X (compareOp .Is) fIsN := op_imp op_isN fun x y H Q h => by
  unfold fIsN at h
  split at h
  · exact ⟨rfl, h⟩
  · exact h.elim
theorem op_notNF : OpR X (compareOp .IsNot) fNotN := op_imp op_notN fun x y H Q h => by
  unfold fNotN at h
  split at h
  · exact ⟨rfl, h⟩
  · exact h.elim
theorem op_isBF : OpR X (compareOp .Is) fIsB := op_imp op_is_bl fun x y H Q h => by
  unfold fIsB at h
  split at h
  · exact ⟨_, _, rfl, rfl, h⟩
  · exact h.elim
theorem ix_F : IxR X fIx := ix_imp ix_seq fun x y H Q h => by
  unfold fIx at h
  split at h
  · split at h
    · rename_i e
      unfold atV at h
      split at h
      · rename_i e2
        rcases asS_or e with e | e
        · exact .inl ⟨_, _, _, _, rfl, rfl, asL_seq e, e2, h⟩
        · exact .inr (.inl ⟨_, _, _, _, rfl, rfl, asT_seq e, e2, h⟩)
      · exact h.elim
    · exact h.elim
  · obtain ⟨h1, c, h2, h3⟩ := h
    exact .inr (.inr ⟨_, _, _, rfl, rfl, h1, h2, h3⟩)
  · exact h.elim
theorem op_inF : OpR X (compareOp .In) (fIn X.K) := op_imp (op_in_seq.or op_in_sign) fun x y H Q h => by
  unfold fIn at h
  split at h
  · exact .inr ⟨_, _, rfl, rfl, h⟩
  · split at h
    · rename_i e
      obtain ⟨h1, h2, h3⟩ := h
      exact .inl ⟨_, _, rfl, (asS_or e).elim (fun e => .inl (asL_seq e)) (fun e => .inr (asT_seq e)), h1, h2, h3⟩
    · exact h.elim
  · exact h.elim
theorem c_int : CallR X (.type "int") fInt := call_imp call_int1 fun xs H Q h => by
  unfold fInt at h
  split at h
  · exact .inl ⟨_, rfl, h⟩
  · exact .inr ⟨_, rfl, h⟩
  · exact h.elim
theorem c_len : CallR X (.builtin "len") fLen := call_imp call_len fun xs H Q h => by
  unfold fLen at h
  split at h
  · exact ⟨_, _, rfl, ⟨h.1, rfl⟩, h.2⟩
  · split at h
    · rename_i p _ ys e
      exact ⟨.ref p, _, rfl, (asS_or e).elim (fun e => .inl ⟨_, asL_seq e, rfl⟩) (fun e => .inr ⟨_, asT_seq e, rfl⟩), h⟩
    · exact h.elim
  · exact h.elim
theorem c_max (hc : X.calm = true) : CallR X (.builtin "max") fMax := call_imp (call_max2 hc) fun xs H Q h => by
  unfold fMax at h
  split at h
  · rename_i i j
    refine ⟨i, j, rfl, ?_⟩
    have e : (if j > i then j else i) = max i j := by
      split <;> omega
    rw [e]
    exact h
  · exact h.elim
theorem c_min (hc : X.calm = true) : CallR X (.builtin "min") fMin := call_imp (call_min2 hc) fun xs H Q h => by
  unfold fMin at h
  split at h
  · rename_i i j
    refine ⟨i, j, rfl, ?_⟩
    have e : (if j < i then j else i) = min i j := by
      split <;> omega
    rw [e]
    exact h
  · exact h.elim
theorem c_abs : CallR X (.builtin "abs") fAbs := call_imp call_abs fun xs H Q h => by
  unfold fAbs at h
  split at h
  · exact ⟨_, rfl, h⟩
  · exact h.elim
theorem c_list : CallR X (.type "list") fList := call_imp call_list_of fun xs H Q h => by
  unfold fList at h
  split at h
  · split at h
    · rename_i e
      exact ⟨_, _, rfl, (asS_or e).elim (fun e => .inl (asL_seq e)) (fun e => .inr (asT_seq e)), h⟩
    · exact h.elim
  · exact h.elim
theorem c_tuple : CallR X (.type "tuple") fTuple := call_imp call_tuple_of fun xs H Q h => by
  unfold fTuple at h
  split at h
  · split at h
    · rename_i e
      exact ⟨_, _, rfl, .inl ⟨asL_seq e, h⟩⟩
    · exact h.elim
  · exact h.elim
theorem c_all (hc : X.calm = true) : CallR X (.builtin "all") fAll := call_imp (cr_all hc) fun xs H Q h => by
  unfold fAll at h
  split at h
  · split at h
    · rename_i e
      obtain ⟨bs, rfl, q⟩ := h
      exact ⟨_, bs, rfl, asL_seq e, q⟩
    · exact h.elim
  · exact h.elim
theorem c_sum (hc : X.calm = true) : CallR X (.builtin "sum") fSum := call_imp (cr_sum hc) fun xs H Q h => by
  unfold fSum at h
  split at h
  · split at h
    · rename_i e
      obtain ⟨bs, rfl, q⟩ := h
      exact ⟨_, bs, rfl, asL_seq e, q⟩
    · exact h.elim
  · exact h.elim
theorem c_isi : CallR X (.builtin "isinstance") fIsi := call_imp call_isi fun xs H Q h => by
  unfold fIsi at h
  split at h
  · split at h
    · rename_i t e
      split at h
      · rename_i b e2
        exact ⟨_, _, _, _, b, rfl, .ty _, tyN_x e, kit_ty e2, h⟩
      · exact h.elim
    · exact h.elim
  · exact h.elim
theorem c_isiT : CallR X (.builtin "isinstance") fIsiT := call_imp call_isiT fun xs H Q h => by
  unfold fIsiT at h
  split at h
  · split at h
    · rename_i e1 e2
      split at h
      · rename_i e3
        split at h
        · rename_i b e4
          exact ⟨_, _, _, _, _, b, rfl, e2, tys_pair e3, tyN_x e1, kitS_any e4, h⟩
        · exact h.elim
      · exact h.elim
    · exact h.elim
  · exact h.elim
theorem m_append : MtR X "list.append" fAppend := mt_imp mt_append fun x xs H Q h => by
  unfold fAppend at h
  split at h
  · split at h
    · rename_i e
      exact ⟨_, _, _, rfl, rfl, e, h.1, h.2⟩
    · exact h.elim
  · exact h.elim
theorem m_insert : MtR X "list.insert" fInsert := mt_imp mt_insert fun x xs H Q h => by
  unfold fInsert at h
  split at h
  · split at h
    · rename_i e
      exact ⟨_, _, _, _, rfl, rfl, e, h.1.1, h.1.2.1, h.1.2.2, h.2⟩
    · exact h.elim
  · exact h.elim
theorem m_pop : MtR X "list.pop" fPop := mt_imp mt_pop fun x xs H Q h => by
  unfold fPop at h
  split at h
  · split at h
    · rename_i e
      split at h
      · rename_i e2
        exact ⟨_, _, _, rfl, rfl, e, e2, h⟩
      · exact h.elim
    · exact h.elim
  · exact h.elim
theorem sl_F : SlR X fSl := fun pins s σ H x v vl vu lo hi sl Q I rx hs pl pu h => by
  refine (sl_list.or sl_tup) pins s σ H x v vl vu lo hi sl Q I rx hs pl pu ?_
  unfold fSl at h
  split at h
  · split at h
    · rename_i e
      exact .inl ⟨_, _, rfl, asL_seq e, h⟩
    · split at h
      · rename_i e
        exact .inr ⟨_, _, rfl, asT_seq e, h.1, h.2⟩
      · exact h.elim
  · exact h.elim
theorem set_F : PSet X fSet := fun pins s σ H o i v ov iv u Q I ro ri rv h => by
  refine set_list pins s σ H o i v ov iv u Q I ro ri rv ?_
  unfold fSet at h
  split at h
  · split at h
    · rename_i e
      split at h
      · rename_i e2
        exact ⟨_, _, _, _, rfl, rfl, e, e2, h⟩
      · exact h.elim
    · exact h.elim
  · exact h.elim
theorem pg_tupF {es : List Expr} {k : Nat} {t : TGs} {n : Nat} {pos : Pos} (hc : X.calm = true) (h : PGs X es t)
    (hn : (assignEach es X.env).length = n := by rfl) (hst : (assignEach es X.env).findIdx? (·.1) = none := by rfl) : PG X (.Tuple es k pos) (gTupF n t) := by
  refine ⟨fun pins s σ H v u Q I r hw => (pg_tup hc h hn hst).run pins s σ H v u Q I r ?_⟩
  unfold gTupF at hw
  split at hw
  · split at hw
    · rename_i e
      exact ⟨_, _, rfl, asT_seq e, hw.1, hw.2⟩
    · exact hw.elim
  · exact hw.elim
theorem pe_imp {e : Expr} {t t' : TE} (h : PE X e t) (k : ∀ σ H Q, t' σ H Q → t σ H Q) : PE X e t' := ⟨fun pins s σ H Q I q => h.run pins s σ H Q I (k σ H Q q)⟩
end
/-! ### all that a reading's part does is bear a weaker wish -/
def MonE (t : TE) : Prop := ∀ σ H (Q Q' : VK), (∀ v H', Q v H' → Q' v H') → t σ H Q → t σ H Q'
theorem kit_table : kitB "NoneType" "int" = some false ∧ kitB "NoneType" "bool" = some false ∧ kitB "NoneType" "str" = some false ∧ kitB "NoneType" "list" = some false ∧ kitB "NoneType" "tuple" = some false ∧ kitB "NoneType" "dict" = some false ∧ kitB "int" "int" = some true ∧ kitB "int" "bool" = some false ∧ kitB "int" "str" = some false ∧ kitB "int" "list" = some false ∧ kitB "int" "tuple" = some false ∧ kitB "int" "dict" = some false ∧ kitB "bool" "int" = some true ∧ kitB "bool" "bool" = some true ∧ kitB "bool" "str" = some false ∧ kitB "bool" "list" = some false ∧ kitB "bool" "tuple" = some false ∧ kitB "bool" "dict" = some false ∧ kitB "str" "int" = some false ∧ kitB "str" "bool" = some false ∧ kitB "str" "str" = some true ∧ kitB "str" "list" = some false ∧ kitB "str" "tuple" = some false ∧ kitB "str" "dict" = some false ∧ kitB "list" "int" = some false ∧ kitB "list" "bool" = some false ∧ kitB "list" "str" = some false ∧ kitB "list" "list" = some true ∧ kitB "list" "tuple" = some false ∧ kitB "list" "dict" = some false ∧ kitB "tuple" "int" = some false ∧ kitB "tuple" "bool" = some false ∧ kitB "tuple" "str" = some false ∧ kitB "tuple" "list" = some false ∧ kitB "tuple" "tuple" = some true ∧ kitB "tuple" "dict" = some false ∧ kitB "dict" "int" = some false ∧ kitB "dict" "bool" = some false ∧ kitB "dict" "str" = some false ∧ kitB "dict" "list" = some false ∧ kitB "dict" "tuple" = some false ∧ kitB "dict" "dict" = some true := by decide +kernel
theorem kt_NoneType_int : kitB "NoneType" "int" = some false := kit_table.1
theorem kt_NoneType_bool : kitB "NoneType" "bool" = some false := kit_table.2.1
theorem kt_NoneType_str : kitB "NoneType" "str" = some false := kit_table.2.2.1
theorem kt_NoneType_list : kitB "NoneType" "list" = some false := kit_table.2.2.2.1
theorem kt_NoneType_tuple : kitB "NoneType" "tuple" = some false := kit_table.2.2.2.2.1
theorem kt_NoneType_dict : kitB "NoneType" "dict" = some false := kit_table.2.2.2.2.2.1
theorem kt_int_int : kitB "int" "int" = some true := kit_table.2.2.2.2.2.2.1
theorem kt_int_bool : kitB "int" "bool" = some false := kit_table.2.2.2.2.2.2.2.1
theorem kt_int_str : kitB "int" "str" = some false := kit_table.2.2.2.2.2.2.2.2.1
theorem kt_int_list : kitB "int" "list" = some false := kit_table.2.2.2.2.2.2.2.2.2.1
theorem kt_int_tuple : kitB "int" "tuple" = some false := kit_table.2.2.2.2.2.2.2.2.2.2.1
theorem kt_int_dict : kitB "int" "dict" = some false := kit_table.2.2.2.2.2.2.2.2.2.2.2.1
theorem kt_bool_int : kitB "bool" "int" = some true := kit_table.2.2.2.2.2.2.2.2.2.2.2.2.1
theorem kt_bool_bool : kitB "bool" "bool" = some true := kit_table.2.2.2.2.2.2.2.2.2.2.2.2.2.1
theorem kt_bool_str : kitB "bool" "str" = some false := kit_table.2.2.2.2.2.2.2.2.2.2.2.2.2.2.1
theorem kt_bool_list : kitB "bool" "list" = some false := kit_table.2.2.2.2.2.2.2.2.2.2.2.2.2.2.2.1
theorem kt_bool_tuple : kitB "bool" "tuple" = some false := kit_table.2.2.2.2.2.2.2.2.2.2.2.2.2.2.2.2.1
theorem kt_bool_dict : kitB "bool" "dict" = some false := kit_table.2.2.2.2.2.2.2.2.2.2.2.2.2.2.2.2.2.1
theorem kt_str_int : kitB "str" "int" = some false := kit_table.2.2.2.2.2.2.2.2.2.2.2.2.2.2.2.2.2.2.1
theorem kt_str_bool : kitB "str" "bool" = some false := kit_table.2.2.2.2.2.2.2.2.2.2.2.2.2.2.2.2.2.2.2.1
theorem kt_str_str : kitB "str" "str" = some true := kit_table.2.2.2.2.2.2.2.2.2.2.2.2.2.2.2.2.2.2.2.2.1
theorem kt_str_list : kitB "str" "list" = some false := kit_table.2.2.2.2.2.2.2.2.2.2.2.2.2.2.2.2.2.2.2.2.2.1
theorem kt_str_tuple : kitB "str" "tuple" = some false := kit_table.2.2.2.2.2.2.2.2.2.2.2.2.2.2.2.2.2.2.2.2.2.2.1
theorem kt_str_dict : kitB "str" "dict" = some false := kit_table.2.2.2.2.2.2.2.2.2.2.2.2.2.2.2.2.2.2.2.2.2.2.2.1
theorem kt_list_int : kitB "list" "int" = some false := kit_table.2.2.2.2.2.2.2.2.2.2.2.2.2.2.2.2.2.2.2.2.2.2.2.2.1
theorem kt_list_bool : kitB "list" "bool" = some false := kit_table.2.2.2.2.2.2.2.2.2.2.2.2.2.2.2.2.2.2.2.2.2.2.2.2.2.1
theorem kt_list_str : kitB "list" "str" = some false := kit_table.2.2.2.2.2.2.2.2.2.2.2.2.2.2.2.2.2.2.2.2.2.2.2.2.2.2.1
theorem kt_list_list : kitB "list" "list" = some true := kit_table.2.2.2.2.2.2.2.2.2.2.2.2.2.2.2.2.2.2.2.2.2.2.2.2.2.2.2.1
theorem kt_list_tuple : kitB "list" "tuple" = some false := kit_table.2.2.2.2.2.2.2.2.2.2.2.2.2.2.2.2.2.2.2.2.2.2.2.2.2.2.2.2.1
theorem kt_list_dict : kitB "list" "dict" = some false := kit_table.2.2.2.2.2.2.2.2.2.2.2.2.2.2.2.2.2.2.2.2.2.2.2.2.2.2.2.2.2.1
theorem kt_tuple_int : kitB "tuple" "int" = some false := kit_table.2.2.2.2.2.2.2.2.2.2.2.2.2.2.2.2.2.2.2.2.2.2.2.2.2.2.2.2.2.2.1
theorem kt_tuple_bool : kitB "tuple" "bool" = some false := kit_table.2.2.2.2.2.2.2.2.2.2.2.2.2.2.2.2.2.2.2.2.2.2.2.2.2.2.2.2.2.2.2.1
theorem kt_tuple_str : kitB "tuple" "str" = some false := kit_table.2.2.2.2.2.2.2.2.2.2.2.2.2.2.2.2.2.2.2.2.2.2.2.2.2.2.2.2.2.2.2.2.1
theorem kt_tuple_list : kitB "tuple" "list" = some false := kit_table.2.2.2.2.2.2.2.2.2.2.2.2.2.2.2.2.2.2.2.2.2.2.2.2.2.2.2.2.2.2.2.2.2.1
theorem kt_tuple_tuple : kitB "tuple" "tuple" = some true := kit_table.2.2.2.2.2.2.2.2.2.2.2.2.2.2.2.2.2.2.2.2.2.2.2.2.2.2.2.2.2.2.2.2.2.2.1
theorem kt_tuple_dict : kitB "tuple" "dict" = some false := kit_table.2.2.2.2.2.2.2.2.2.2.2.2.2.2.2.2.2.2.2.2.2.2.2.2.2.2.2.2.2.2.2.2.2.2.2.1
theorem kt_dict_int : kitB "dict" "int" = some false := kit_table.2.2.2.2.2.2.2.2.2.2.2.2.2.2.2.2.2.2.2.2.2.2.2.2.2.2.2.2.2.2.2.2.2.2.2.2.1
theorem kt_dict_bool : kitB "dict" "bool" = some false := kit_table.2.2.2.2.2.2.2.2.2.2.2.2.2.2.2.2.2.2.2.2.2.2.2.2.2.2.2.2.2.2.2.2.2.2.2.2.2.1
theorem kt_dict_str : kitB "dict" "str" = some false := kit_table.2.2.2.2.2.2.2.2.2.2.2.2.2.2.2.2.2.2.2.2.2.2.2.2.2.2.2.2.2.2.2.2.2.2.2.2.2.2.1
theorem kt_dict_list : kitB "dict" "list" = some false := kit_table.2.2.2.2.2.2.2.2.2.2.2.2.2.2.2.2.2.2.2.2.2.2.2.2.2.2.2.2.2.2.2.2.2.2.2.2.2.2.2.1
theorem kt_dict_tuple : kitB "dict" "tuple" = some false := kit_table.2.2.2.2.2.2.2.2.2.2.2.2.2.2.2.2.2.2.2.2.2.2.2.2.2.2.2.2.2.2.2.2.2.2.2.2.2.2.2.2.1
theorem kt_dict_dict : kitB "dict" "dict" = some true := kit_table.2.2.2.2.2.2.2.2.2.2.2.2.2.2.2.2.2.2.2.2.2.2.2.2.2.2.2.2.2.2.2.2.2.2.2.2.2.2.2.2.2
end XB

/-! How a reading is taken apart: each row fires where the reading stands with all that it wants. -/
namespace XB
open PySem L2
/-- a loop that has its iterator -/
def Loop (J : It) (g : TG) (tb : TS) (D : Ends) (σ : L2.St) (H : Hp) : Prop := ∃ W : Nat → Nat → L2.St → Hp → Prop, (∃ m, W 0 m σ H) ∧ ∀ i m σ H, W i m σ H →
  (J.stop i H ∧ D.nx σ H) ∨ (J.go i H ∧ ∃ N : L2.St → Hp → Prop, (∀ σ' H', N σ' H' → ∃ m', m' < m ∧ W (i + 1) m' σ' H') ∧ ∀ x H', J.yld i H x H' → g x σ H' fun σ2 H2 => tb { D with nx := N, ct := N, bk := D.nx } σ2 H2)
/-- a comprehension that has its iterator and its new list at D -/
def Made (J : It) (g : TG) (tt : TT) (te : TE) (vs : List Nat) (σ : L2.St) (D : Addr) (H1 : Hp) (Qd : Hp → Prop) : Prop := ∃ W : Nat → Nat → Hp → Prop, (∃ m, W 0 m (upd H1 D (.lst []))) ∧ ∀ i m H, W i m H →
  (J.stop i H ∧ Qd H) ∨ (J.go i H ∧ ∃ Nx : Hp → Prop, (∀ H', Nx H' → ∃ m', m' < m ∧ W (i + 1) m' H') ∧ ∀ x H', J.yld i H x H' → g x (wipe σ vs) H' fun σ2 H2 => wipe σ2 vs = wipe σ vs ∧ tt σ2 H2 fun b H3 =>
    if b = true then te σ2 H3 fun y H4 => ∃ acc, H4 D = some (.lst acc) ∧ acc.length < sizeLine ∧ Nx (upd H4 D (.lst (acc ++ [y]))) else Nx H3)
section
variable {K : PySem.W.Frag} {σ : L2.St} {H : Hp} {Q : VK} {i j : Int} {v : V}
theorem u_var {n : Nat} : tVar n σ H Q = ∃ v, σ[n]? = some (some v) ∧ Q v H := rfl
theorem u_c : tC v σ H Q = Q v H := rfl
theorem u_op {r : R2} {ta tb : TE} : tOp r ta tb σ H Q = ta σ H fun x H1 => tb σ H1 fun y H2 => r x y H2 Q := rfl
theorem u_un {r : V → Hp → VK → Prop} {ta : TE} : tUn r ta σ H Q = ta σ H fun x H1 => r x H1 Q := rfl
theorem u_nil {R : List V → Hp → Prop} : tNil σ H R = R [] H := rfl
theorem u_cons {te : TE} {tr : TA} {R : List V → Hp → Prop} : tCons te tr σ H R = te σ H fun x H1 => tr σ H1 fun xs H2 => R (x :: xs) H2 := rfl
theorem u_cb {r : List V → Hp → VK → Prop} {t : TA} : tCB r t σ H Q = t σ H fun vs H1 => r vs H1 Q := rfl
theorem u_call {sp : Sp} {dvs : List V} {E : XK} {t : TA} : tCall sp dvs E t σ H Q = t σ H fun vs H1 => sp (vs ++ dvs) H1 Q E := rfl
theorem u_callS {sp : Sp} {E : L2.St → XK} {t : TA} : tCallS sp E t σ H Q = t σ H fun vs H1 => sp vs H1 Q (E σ) := rfl
theorem u_tup {t : TA} : tTup t σ H Q = t σ H fun xs H1 => xs.length ≤ sizeLine ∧ ∀ p, H1 p = none → Q (.ref p) (upd H1 p (.tup xs)) := rfl
theorem u_lst {t : TA} : tLst t σ H Q = t σ H fun xs H1 => xs.length ≤ sizeLine ∧ ∀ p, H1 p = none → Q (.ref p) (upd H1 p (.lst xs)) := rfl
theorem u_test {te : TE} {R : Bool → Hp → Prop} : tTest te σ H R = te σ H fun x H1 => ∃ k, x = .bl k ∧ R k H1 := rfl
theorem u_B {te : TE} {R : Bool → Hp → Prop} : tB te σ H R = te σ H fun x H1 => ∃ k, x = .bl k ∧ R k H1 := rfl
theorem u_and {t u : TT} {R : Bool → Hp → Prop} : tAnd t u σ H R = t σ H fun c H1 => if c = true then u σ H1 R else R false H1 := rfl
theorem u_or {t u : TT} {R : Bool → Hp → Prop} : tOr t u σ H R = t σ H fun c H1 => if c = true then R true H1 else u σ H1 R := rfl
theorem u_not {t : TT} {R : Bool → Hp → Prop} : tNot t σ H R = t σ H fun c H1 => R (!c) H1 := rfl
theorem u_andV {ta tb : TE} : tAndV ta tb σ H Q = ta σ H fun x H1 => ∃ c, x = .bl c ∧ if c = true then tb σ H1 Q else Q (.bl false) H1 := rfl
theorem u_orV {ta tb : TE} : tOrV ta tb σ H Q = ta σ H fun x H1 => ∃ c, x = .bl c ∧ if c = true then Q (.bl true) H1 else tb σ H1 Q := rfl
theorem u_notV {ta : TE} : tNotV ta σ H Q = ta σ H fun x H1 => ∃ c, x = .bl c ∧ Q (.bl (!c)) H1 := rfl
theorem u_ifE {t : TT} {ta tb : TE} : tIf t ta tb σ H Q = t σ H fun c H1 => if c = true then ta σ H1 Q else tb σ H1 Q := rfl
theorem u_chain {r r' : R2} {ta tb tc : TE} : tChain r r' ta tb tc σ H Q = ta σ H fun x H1 => tb σ H1 fun y H2 => r x y H2 fun z H3 => ∃ k, z = .bl k ∧ (if k = true then tc σ H3 fun w' H4 => r' y w' H4 Q else Q (.bl false) H3) := rfl
theorem u_sl {r : V → Option Int → Option Int → Hp → VK → Prop} {te : TE} {tl th : TO} : tSl r te tl th σ H Q = te σ H fun x H1 => tl σ H1 fun l H2 => th σ H2 fun u H3 => r x l u H3 Q := rfl
theorem u_noPart {R : Option Int → Hp → Prop} : tNoPart σ H R = R none H := rfl
theorem u_part {te : TE} {R : Option Int → Hp → Prop} : tPart te σ H R = te σ H fun x H1 => ∃ i, x = .int i ∧ R (some i) H1 := rfl
theorem u_bm {T : String} {r : RM} {to : TE} {t : TA} : tBMF T r to t σ H Q = to σ H fun x H1 => tyN x H1 = some T ∧ t σ H1 fun xs H2 => r x xs H2 Q := rfl
theorem u_bm0 {T : String} {r : RM} {to : TE} : tBM0F T r to σ H Q = to σ H fun x H1 => tyN x H1 = some T ∧ r x [] H1 Q := rfl
theorem u_rev {te : TE} : tRevF te σ H Q = te σ H fun x H1 => match x with
  | .ref a => (match asL (H1 a) with
    | some xs => ∀ p, H1 p = none → Q (.ref p) (upd H1 p (.lst xs.reverse))
    | none => False)
  | _ => False := rfl
theorem u_lc {wi : TI} {g : TG} {tt : TT} {te : TE} {vs : List Nat} : tLc wi g tt te vs σ H Q = wi σ H fun J H1 => ∀ D, H1 D = none → Made J g tt te vs σ D H1 fun H' => Q (.ref D) H' := rfl
-- what is walked
variable {R : It → Hp → Prop}
theorem u_rng1 {ta : TA} : iRng1 ta σ H R = ta σ H fun vs H1 => ∃ j : Int, vs = [.int j] ∧ -(2 ^ 62) ≤ j ∧ j < 2 ^ 62 ∧ R (Itr 0 j.toNat) H1 := rfl
theorem u_rng2 {ta : TA} : iRng2 ta σ H R = ta σ H fun vs H1 => ∃ i j : Int, vs = [.int i, .int j] ∧ (-(2 ^ 62) ≤ i ∧ i < 2 ^ 62 ∧ -(2 ^ 62) ≤ j ∧ j < 2 ^ 62) ∧ R (Itr i (j - i).toNat) H1 := rfl
theorem u_list {tl : TE} : iList K tl σ H R = tl σ H fun x H1 => ∃ a, x = .ref a ∧ (∃ xs, SqL K H1 a xs) ∧ R (Itl K a) H1 := rfl
theorem u_revI {ta : TA} : iRev K ta σ H R = ta σ H fun vs H1 => ∃ (a : Addr) (xs : List V), vs = [.ref a] ∧ SqL K H1 a xs ∧ R (Itv K a xs.length) H1 := rfl
theorem u_zipI {ta : TA} : iZip K ta σ H R = ta σ H fun vs H1 => ∃ a b xs ys, vs = [.ref a, .ref b] ∧ SqL K H1 a xs ∧ SqL K H1 b ys ∧ R (Itz K a b) H1 := rfl
-- statements
variable {D : Ends} {t u w : TS} {te : TE} {g : TG} {n : Nat}
theorem u_next : tNext D σ H = D.nx σ H := rfl
theorem u_ret : tRet te D σ H = te σ H D.rt := rfl
theorem u_gname {S : L2.St → Hp → Prop} : gName n v σ H S = S (σ.set n (some v)) H := rfl
theorem u_gnil {vs : List V} {S : L2.St → Hp → Prop} : gNil vs σ H S = (vs = [] ∧ S σ H) := rfl
theorem u_gcons {t : TG} {u : TGs} {vs : List V} {S : L2.St → Hp → Prop} : gCons t u vs σ H S = ∃ v r, vs = v :: r ∧ t v σ H fun σ' H' => u r σ' H' S := rfl
theorem u_gsub {to ti : TE} {t : TSet} {S : L2.St → Hp → Prop} : gSub to ti t v σ H S = to σ H fun o H1 => ti σ H1 fun i H2 => t o i v H2 fun H3 => S σ H3 := rfl
theorem u_gtup {t : TGs} {a : Addr} {S : L2.St → Hp → Prop} : gTupF n t (.ref a) σ H S = (match asT (H a) with
    | some xs => xs.length = n ∧ t xs σ H S
    | none => False) := rfl
theorem q_asg (h : te σ H fun x H1 => g x σ H1 (u D)) : tSeq (tAsg te g) u D σ H := h
theorem q_asg1 (h : te σ H fun x H1 => g x σ H1 D.nx) : tAsg te g D σ H := h
theorem q_drop (h : te σ H fun _ H1 => u D σ H1) : tSeq (tDrop te) u D σ H := h
theorem q_drop1 (h : te σ H fun _ H1 => D.nx σ H1) : tDrop te D σ H := h
theorem q_if {c : TT} (h : c σ H fun b H1 => if b = true then t { D with nx := u D } σ H1 else w { D with nx := u D } σ H1) : tSeq (tIfS c t w) u D σ H := h
theorem q_if1 {c : TT} (h : c σ H fun b H1 => if b = true then t D σ H1 else w D σ H1) : tIfS c t w D σ H := h
theorem q_ret (h : te σ H D.rt) : tRet te D σ H := h
theorem q_seq (h : t { D with nx := u D } σ H) : tSeq t u D σ H := h
theorem q_for {wi : TI} (h : wi σ H fun J H1 => Loop J g t { D with nx := u D } σ H1) : tSeq (tFor wi g t) u D σ H := h
theorem q_for1 {wi : TI} (h : wi σ H fun J H1 => Loop J g t D σ H1) : tFor wi g t D σ H := h
-- operators at values
theorem f_add : fAdd (.int i) (.int j) H Q = Q (.int (i + j)) H := rfl
theorem f_addS {a b : Str} : fAdd (.str a) (.str b) H Q = (a.length + b.length ≤ sizeLine ∧ Q (.str (a ++ b)) H) := rfl
theorem f_addR {a b : Addr} : fAdd (.ref a) (.ref b) H Q = (match H a, H b with
    | some (.lst xs), some (.lst ys) => xs.length + ys.length ≤ sizeLine ∧ ∀ p, H p = none → Q (.ref p) (upd H p (.lst (xs ++ ys)))
    | some (.tup xs), some (.tup ys) => xs ≠ [] ∧ ys ≠ [] ∧ xs.length + ys.length ≤ sizeLine ∧ ∀ p, H p = none → Q (.ref p) (upd H p (.tup (xs ++ ys)))
    | _, _ => False) := rfl
theorem f_sub : fSub (.int i) (.int j) H Q = Q (.int (i - j)) H := rfl
theorem f_mul : fMul (.int i) (.int j) H Q = (CMul i j ∧ Q (.int (i * j)) H) := rfl
theorem f_mulR {a : Addr} : fMul (.ref a) (.int i) H Q = (match H a with
    | some (.lst xs) => (-(2 ^ 63) ≤ i ∧ i < 2 ^ 63 ∧ xs.length * i.toNat ≤ sizeLine) ∧ ∀ p, H p = none → Q (.ref p) (upd H p (.lst (List.replicate i.toNat xs).flatten))
    | _ => False) := rfl
theorem f_mod : fMod (.int i) (.int j) H Q = (0 < j ∧ Q (.int (i % j)) H) := rfl
theorem f_div : fDiv (.int i) (.int j) H Q = (CDivW i j ∧ Q (.int (i / j)) H) := rfl
theorem f_pow : fPow (.int i) (.int j) H Q = (CPow i j ∧ Q (.int (i ^ j.toNat)) H) := rfl
theorem f_neg : fNeg (.int i) H Q = Q (.int (-i)) H := rfl
theorem f_cmp {f : Int → Int → Bool} : fCmp f (.int i) (.int j) H Q = Q (.bl (f i j)) H := rfl
theorem f_eq : fEq K (.int i) (.int j) H Q = Q (.bl (decide (i = j))) H := rfl
theorem f_eqB {a b : Bool} : fEq K (.bl a) (.bl b) H Q = Q (.bl (decide (a = b))) H := rfl
theorem f_eqS {a b : Str} : fEq K (.str a) (.str b) H Q = Q (.bl (decide (a = b))) H := rfl
theorem f_ne : fNe K (.int i) (.int j) H Q = Q (.bl (!decide (i = j))) H := rfl
theorem f_neB {a b : Bool} : fNe K (.bl a) (.bl b) H Q = Q (.bl (!decide (a = b))) H := rfl
theorem f_neS {a b : Str} : fNe K (.str a) (.str b) H Q = Q (.bl (!decide (a = b))) H := rfl
theorem f_isN : fIsN v .non H Q = Q (.bl (decide (v = .non))) H := rfl
theorem f_notN : fNotN v .non H Q = Q (.bl (!decide (v = .non))) H := rfl
theorem f_isB {a b : Bool} : fIsB (.bl a) (.bl b) H Q = Q (.bl (decide (a = b))) H := rfl
theorem f_ix {p : Addr} : fIx (.ref p) (.int i) H Q = (match asS (H p) with
    | some xs => atV xs i fun v => Q v H
    | none => False) := rfl
theorem f_ixS {z : Str} : fIx (.str z) (.int i) H Q = (z.length ≤ sizeLine ∧ ∃ c, atI z.cps.toList i = some c ∧ Q (.str ⟨#[c]⟩) H) := rfl
theorem f_int : fInt [.int i] H Q = Q (.int i) H := rfl
theorem f_intB {k : Bool} : fInt [.bl k] H Q = Q (.int (if k then 1 else 0)) H := rfl
theorem f_len {p : Addr} : fLen [.ref p] H Q = (match asS (H p) with
    | some ys => Q (.int (ys.length : Nat)) H
    | none => False) := rfl
theorem f_lenS {z : Str} : fLen [.str z] H Q = (z.length ≤ sizeLine ∧ Q (.int (z.length : Nat)) H) := rfl
theorem f_max : fMax [.int i, .int j] H Q = Q (.int (max i j)) H := rfl
theorem f_min : fMin [.int i, .int j] H Q = Q (.int (min i j)) H := rfl
theorem f_abs : fAbs [.int i] H Q = Q (.int (if i < 0 then -i else i)) H := rfl
theorem f_list {p : Addr} : fList [.ref p] H Q = (match asS (H p) with
    | some ys => ∀ l, H l = none → Q (.ref l) (upd H l (.lst ys))
    | none => False) := rfl
theorem f_tuple {p : Addr} : fTuple [.ref p] H Q = (match asL (H p) with
    | some ys => ∀ l, H l = none → Q (.ref l) (upd H l (.tup ys))
    | none => False) := rfl
theorem f_all {p : Addr} : fAll [.ref p] H Q = (match asL (H p) with
    | some ys => ∃ bs : List Bool, ys = bs.map V.bl ∧ Q (.bl (bs.all id)) H
    | none => False) := rfl
theorem f_sum {p : Addr} : fSum [.ref p] H Q = (match asL (H p) with
    | some ys => ∃ ns : List Int, ys = ns.map V.int ∧ Q (.int ns.sum) H
    | none => False) := rfl
theorem f_isi {c : String} : fIsi [v, .ty c] H Q = (match tyN v H with
    | some t => (match kitB t c with
      | some b => Q (.bl b) H
      | none => False)
    | none => False) := rfl
theorem f_isiT {p : Addr} : fIsiT [v, .ref p] H Q = (match tyN v H, H p with
    | some t, some (.tup cs) => (match tys cs with
      | some ns => (match kitS t ns with
        | some b => Q (.bl b) H
        | none => False)
      | none => False)
    | _, _ => False) := rfl
theorem f_append {l : Addr} : fAppend (.ref l) [v] H Q = (match H l with
    | some (.lst xs) => xs.length < sizeLine ∧ Q .non (upd H l (.lst (xs ++ [v])))
    | _ => False) := rfl
theorem f_insert {l : Addr} : fInsert (.ref l) [.int i, v] H Q = (match H l with
    | some (.lst xs) => (xs.length < sizeLine ∧ 0 ≤ i ∧ i < 2 ^ 63) ∧ Q .non (upd H l (.lst (xs.take i.toNat ++ [v] ++ xs.drop i.toNat)))
    | _ => False) := rfl
theorem f_pop {l : Addr} : fPop (.ref l) [] H Q = (match H l with
    | some (.lst xs) => (match xs[xs.length - 1]? with
      | some y => Q y (upd H l (.lst xs.dropLast))
      | none => False)
    | _ => False) := rfl
theorem f_sl {p : Addr} {lo hi : Option Int} : fSl (.ref p) lo hi H Q = (match asL (H p) with
    | some xs => ∀ q, H q = none → Q (.ref q) (upd H q (.lst (cutV xs lo hi)))
    | none => (match asT (H p) with
      | some xs => ¬ (HT.sIx xs.length 0 lo = 0 ∧ HT.sIx xs.length xs.length hi = xs.length) ∧ ∀ q, H q = none → Q (.ref q) (upd H q (.tup (cutV xs lo hi)))
      | none => False)) := rfl
theorem f_set {p : Addr} {S : Hp → Prop} : fSet (.ref p) (.int i) v H S = (match H p with
    | some (.lst xs) => (match ixN xs.length i with
      | some j => S (upd H p (.lst (xs.set j v)))
      | none => False)
    | _ => False) := rfl
theorem asL_lst {xs : List V} : asL (some (.lst xs)) = some xs := rfl
theorem asL_frz {xs : List V} {o : Obj} : asL (some (.frz o (.lst xs))) = some xs := rfl
theorem asL_tup {xs : List V} : asL (some (.tup xs)) = none := rfl
theorem asT_tup {xs : List V} : asT (some (.tup xs)) = some xs := rfl
theorem asS_lst {xs : List V} : asS (some (.lst xs)) = some xs := rfl
theorem asS_frz {xs : List V} {o : Obj} : asS (some (.frz o (.lst xs))) = some xs := rfl
theorem asS_tup {xs : List V} : asS (some (.tup xs)) = some xs := rfl
theorem tyN_non : tyN .non H = some "NoneType" := rfl
theorem tyN_bl {b : Bool} : tyN (.bl b) H = some "bool" := rfl
theorem tyN_int : tyN (.int i) H = some "int" := rfl
theorem tyN_str {z : Str} : tyN (.str z) H = some "str" := rfl
theorem tyN_lst {p : Addr} {xs : List V} (h : H p = some (.lst xs)) : tyN (.ref p) H = some "list" := by simp only [tyN, h]
theorem tyN_tup {p : Addr} {xs : List V} (h : H p = some (.tup xs)) : tyN (.ref p) H = some "tuple" := by simp only [tyN, h]
theorem tyN_dK {p : Addr} {kvs : List (Key × V)} (h : H p = some (.dK kvs)) : tyN (.ref p) H = some "dict" := by simp only [tyN, h]
theorem at_nat {xs : List V} {k : Nat} {q : V → Prop} (h : xs[k]? = some v) (hq : q v) : atV xs (k : Int) q := by
  unfold atV
  rw [atI_nat h]
  exact hq
theorem atV_lit {xs : List V} {k : Nat} {q : V → Prop} : atV xs (no_index (OfNat.ofNat k)) q = (match xs[k]? with
    | some v => q v
    | none => False) := by
  have e : (OfNat.ofNat k : Int) = (k : Int) := rfl
  unfold atV
  cases h : xs[k]? with
  | some v => rw [e, atI_nat h]
  | none =>
    have hk : xs.length ≤ k := List.getElem?_eq_none_iff.mp h
    have e2 : atI xs (OfNat.ofNat k) = none := by
      unfold atI ixN
      rw [e, if_pos (by omega), if_neg (by omega)]
      rfl
    rw [e2]
theorem ixN_lit {n k : Nat} : ixN n (no_index (OfNat.ofNat k)) = if k < n then some k else none := by
  have e : (OfNat.ofNat k : Int) = (k : Int) := rfl
  unfold ixN
  rw [e, if_pos (by omega)]
  by_cases h : k < n
  · rw [if_pos (by omega), if_pos h]
    simp
  · rw [if_neg (by omega), if_neg h]
/-! ### loops -/
theorem loop_list {a : Addr} {xs : List V} {tb : TS} (Pv : Nat → L2.St → Hp → Prop) (h0 : Pv 0 σ H) (hl : ∀ i σ H, i ≤ xs.length → Pv i σ H → asL (H a) = some xs)
    (hs : ∀ i x σ H, xs[i]? = some x → Pv i σ H → g x σ H fun σ2 H2 => tb { D with nx := Pv (i + 1), ct := Pv (i + 1), bk := D.nx } σ2 H2) (hd : ∀ σ H, Pv xs.length σ H → D.nx σ H) : Loop (Itl K a) g tb D σ H :=
  for_list (K := K) Pv h0 (fun i σ H h p => asL_seq (hl i σ H h p)) hs hd
theorem loop_range {lo : Int} {m : Nat} {tb : TS} (Pv : Nat → L2.St → Hp → Prop) (h0 : Pv 0 σ H) (hs : ∀ i σ H, i < m → Pv i σ H → g (.int (lo + i)) σ H fun σ2 H2 => tb { D with nx := Pv (i + 1), ct := Pv (i + 1), bk := D.nx } σ2 H2)
    (hd : ∀ σ H, Pv m σ H → D.nx σ H) : Loop (Itr lo m) g tb D σ H := for_range Pv h0 hs hd
theorem walk_list {te : TE} {R : It → Hp → Prop} (h : te σ H fun x H1 => ∃ a xs, x = .ref a ∧ asL (H1 a) = some xs ∧ R (Itl K a) H1) (m : ∀ (Q Q' : VK), (∀ v H', Q v H' → Q' v H') → te σ H Q → te σ H Q') : iList K te σ H R :=
  m _ _ (fun v H' ⟨a, xs, e, e2, r⟩ => ⟨a, e, ⟨xs, asL_seq e2⟩, r⟩) h
theorem u_listV {R : It → Hp → Prop} {a : Addr} {xs : List V} (h : σ[n]? = some (some (.ref a))) (e : asL (H a) = some xs) (q : R (Itl K a) H) : iList K (tVar n) σ H R := ⟨_, h, a, rfl, ⟨xs, asL_seq e⟩, q⟩
theorem made_list {a Dd : Addr} {xs : List V} {tt : TT} {te : TE} {vs : List Nat} {Qd : Hp → Prop} (Pv : Nat → Hp → Prop) (h0 : Pv 0 (upd H Dd (.lst []))) (hl : ∀ i H, i ≤ xs.length → Pv i H → asL (H a) = some xs)
    (hs : ∀ i x H, xs[i]? = some x → Pv i H → g x (wipe σ vs) H fun σ2 H2 => wipe σ2 vs = wipe σ vs ∧ tt σ2 H2 fun b H3 =>
      if b = true then te σ2 H3 fun y H4 => ∃ acc, H4 Dd = some (.lst acc) ∧ acc.length < sizeLine ∧ Pv (i + 1) (upd H4 Dd (.lst (acc ++ [y]))) else Pv (i + 1) H3) (hd : ∀ H, Pv xs.length H → Qd H) : Made (Itl K a) g tt te vs σ Dd H Qd :=
  lc_list (K := K) Pv h0 (fun i H h p => asL_seq (hl i H h p)) hs hd
theorem made_range {lo : Int} {m : Nat} {Dd : Addr} {tt : TT} {te : TE} {vs : List Nat} {Qd : Hp → Prop} (Pv : Nat → Hp → Prop) (h0 : Pv 0 (upd H Dd (.lst [])))
    (hs : ∀ i H, i < m → Pv i H → g (.int (lo + i)) (wipe σ vs) H fun σ2 H2 => wipe σ2 vs = wipe σ vs ∧ tt σ2 H2 fun b H3 =>
      if b = true then te σ2 H3 fun y H4 => ∃ acc, H4 Dd = some (.lst acc) ∧ acc.length < sizeLine ∧ Pv (i + 1) (upd H4 Dd (.lst (acc ++ [y]))) else Pv (i + 1) H3) (hd : ∀ H, Pv m H → Qd H) : Made (Itr lo m) g tt te vs σ Dd H Qd :=
  lc_range Pv h0 hs hd
theorem w_nil : wipe σ [] = σ := rfl
theorem w_cons {k : Nat} {ks : List Nat} : wipe σ (k :: ks) = (wipe σ ks).set k none := rfl
/-- what stood stands -/
abbrev Sm (H H' : Hp) : Prop := ∀ b o, H b = some o → H' b = some o
theorem sm_new {H H1 : Hp} {p : Addr} {o : HO} (s : Sm H H1) (h : H1 p = none) : Sm H (upd H1 p o) := fun b u e => by
  rw [upd_ne (ne_of_none (s b u e) h)]
  exact s b u e
@[elab_as_elim] theorem al {H : Hp} {p : Addr} {o : HO} {motive : Hp → Prop} (np : H p = none) (k : ∀ H', Sm H H' → H' p = some o → motive H') : motive (upd H p o) := k _ (sm_new (fun _ _ z => z) np) upd_same
theorem sm_none {H H' : Hp} {p : Addr} (s : Sm H H') (h : H' p = none) : H p = none := by
  cases e : H p with
  | none => rfl
  | some o => rw [s _ _ e] at h; cases h
theorem sm_trans {H H1 H2 : Hp} (a : Sm H H1) (b : Sm H1 H2) : Sm H H2 := fun p o z => b p o (a p o z)
theorem sm_put {H H1 : Hp} {p : Addr} {o : HO} (s : Sm H H1) (h : H p = none) : Sm H (upd H1 p o) := fun b u e => by
  rw [upd_ne (ne_of_none e h)]
  exact s b u e
theorem sm_L {p : Addr} {H H' : Hp} {xs : List V} (s : Sm H H') (h : asL (H p) = some xs) : asL (H' p) = some xs := by
  cases e : H p with
  | none => rw [e] at h; cases h
  | some o => rw [s p o e, ← e]; exact h
theorem sm_T {p : Addr} {H H' : Hp} {xs : List V} (s : Sm H H') (h : asT (H p) = some xs) : asT (H' p) = some xs := by
  cases e : H p with
  | none => rw [e] at h; cases h
  | some o => rw [s p o e, ← e]; exact h
theorem sm_S {p : Addr} {H H' : Hp} {xs : List V} (s : Sm H H') (h : asS (H p) = some xs) : asS (H' p) = some xs := by
  cases e : H p with
  | none => rw [e] at h; cases h
  | some o => rw [s p o e, ← e]; exact h
theorem take_map_succ {α β : Type} {xs : List α} {i : Nat} {x : α} {f : α → β} (h : xs[i]? = some x) : (xs.take (i + 1)).map f = (xs.take i).map f ++ [f x] := by
  have hi := (List.getElem?_eq_some_iff.mp h)
  obtain ⟨hl, e⟩ := hi
  rw [List.take_add_one, h]
  simp
/-- a comprehension over a list, one value for each item -/
theorem made_map {a Dd : Addr} {xs : List V} {te : TE} {vs : List Nat} {Qd : Hp → Prop} (f : V → V) (hl : asL (H a) = some xs) (hD : H Dd = none) (hz : xs.length < sizeLine) (hw : ∀ x, wipe ((wipe σ vs).set n (some x)) vs = wipe σ vs)
    (he : ∀ (i : Nat) (x : V) (H' : Hp) (Q : VK), xs[i]? = some x → Sm H H' → (∀ H2, Sm H' H2 → Q (f x) H2) → te ((wipe σ vs).set n (some x)) H' Q) (hd : ∀ H', Sm H H' → H' Dd = some (.lst (xs.map f)) → Qd H') : Made (Itl K a) (gName n) tYes te vs σ Dd H Qd := by
  refine made_list (fun i H' => Sm H H' ∧ H' Dd = some (.lst ((xs.take i).map f))) ⟨sm_new (fun _ _ h => h) hD, upd_same⟩ (fun i H' _ p => sm_L p.1 hl) (fun i x H' hx p => ⟨hw x, ?_⟩) fun H' p => hd H' p.1 (by rw [← List.take_length (l := xs)]; exact p.2)
  refine iteT (B := Sm H H' ∧ H' Dd = some (.lst ((xs.take (i + 1)).map f))) ?_
  refine he i x H' _ hx p.1 fun H2 s2 => ⟨(xs.take i).map f, s2 _ _ p.2, ?_, ?_, ?_⟩
  · rw [List.length_map, List.length_take]; omega
  · exact sm_put (fun b o z => s2 b o (p.1 b o z)) hD
  · rw [upd_same, take_map_succ hx]
/-- .. over a list that stands for good -/
theorem made_mapS {a Dd : Addr} {xs : List V} {te : TE} {vs : List Nat} {Qd : Hp → Prop} (f : V → V) (hl : ∀ H', Sm H H' → SqL K H' a xs) (hD : H Dd = none) (hz : xs.length < sizeLine) (hw : ∀ x, wipe ((wipe σ vs).set n (some x)) vs = wipe σ vs)
    (he : ∀ (i : Nat) (x : V) (H' : Hp) (Q : VK), xs[i]? = some x → Sm H H' → (∀ H2, Sm H' H2 → Q (f x) H2) → te ((wipe σ vs).set n (some x)) H' Q) (hd : ∀ H', Sm H H' → H' Dd = some (.lst (xs.map f)) → Qd H') : Made (Itl K a) (gName n) tYes te vs σ Dd H Qd := by
  refine lc_list (K := K) (fun i H' => Sm H H' ∧ H' Dd = some (.lst ((xs.take i).map f))) ⟨sm_new (fun _ _ h => h) hD, upd_same⟩ (fun i H' _ p => hl H' p.1) (fun i x H' hx p => ⟨hw x, ?_⟩) fun H' p => hd H' p.1 (by rw [← List.take_length (l := xs)]; exact p.2)
  refine iteT (B := Sm H H' ∧ H' Dd = some (.lst ((xs.take (i + 1)).map f))) ?_
  refine he i x H' _ hx p.1 fun H2 s2 => ⟨(xs.take i).map f, s2 _ _ p.2, ?_, ?_, ?_⟩
  · rw [List.length_map, List.length_take]; omega
  · exact sm_put (fun b o z => s2 b o (p.1 b o z)) hD
  · rw [upd_same, take_map_succ hx]
/-- .. over a range -/
theorem made_mapR {lo : Int} {m : Nat} {Dd : Addr} {te : TE} {vs : List Nat} {Qd : Hp → Prop} (f : Nat → V) (hD : H Dd = none) (hz : m < sizeLine) (hw : ∀ x, wipe ((wipe σ vs).set n (some x)) vs = wipe σ vs)
    (he : ∀ (i : Nat) (H' : Hp) (Q : VK), i < m → Sm H H' → (∀ H2, Sm H' H2 → Q (f i) H2) → te ((wipe σ vs).set n (some (.int (lo + (i : Nat))))) H' Q) (hd : ∀ H', Sm H H' → H' Dd = some (.lst ((List.range m).map f)) → Qd H') : Made (Itr lo m) (gName n) tYes te vs σ Dd H Qd := by
  refine made_range (fun i H' => Sm H H' ∧ H' Dd = some (.lst ((List.range i).map f))) ⟨sm_new (fun _ _ h => h) hD, upd_same⟩ (fun i H' hi p => ⟨hw _, ?_⟩) fun H' p => hd H' p.1 p.2
  refine iteT (B := Sm H H' ∧ H' Dd = some (.lst ((List.range (i + 1)).map f))) ?_
  refine he i H' _ hi p.1 fun H2 s2 => ⟨(List.range i).map f, s2 _ _ p.2, ?_, ?_, ?_⟩
  · rw [List.length_map, List.length_range]; omega
  · exact sm_put (fun b o z => s2 b o (p.1 b o z)) hD
  · rw [upd_same, List.range_succ, List.map_append]
    rfl
/-- a comprehension over two lists of one length -/
theorem made_zip {a b Dd : Addr} {xs ys : List V} {tt : TT} {te : TE} {vs : List Nat} {Qd : Hp → Prop} (hl : xs.length = ys.length) (Pv : Nat → Hp → Prop) (h0 : Pv 0 (upd H Dd (.lst [])))
    (hq : ∀ i H, Pv i H → asL (H a) = some xs ∧ asL (H b) = some ys)
    (hs : ∀ (i : Nat) (x y : V) (T : Addr) (H : Hp), xs[i]? = some x → ys[i]? = some y → Pv i H → H T = none → g (.ref T) (wipe σ vs) (upd H T (.tup [x, y])) fun σ2 H2 => wipe σ2 vs = wipe σ vs ∧ tt σ2 H2 fun b H3 =>
      if b = true then te σ2 H3 fun y H4 => ∃ acc, H4 Dd = some (.lst acc) ∧ acc.length < sizeLine ∧ Pv (i + 1) (upd H4 Dd (.lst (acc ++ [y]))) else Pv (i + 1) H3)
    (hd : ∀ H, Pv xs.length H → Qd H) : Made (Itz K a b) g tt te vs σ Dd H Qd := by
  refine ⟨fun i m H => m = xs.length - i ∧ i ≤ xs.length ∧ Pv i H, ⟨xs.length, by simp, Nat.zero_le _, h0⟩, ?_⟩
  rintro i m H2 ⟨rfl, hi, p⟩
  obtain ⟨q1, q2⟩ := hq i H2 p
  by_cases hlt : i < xs.length
  · have hly : i < ys.length := by omega
    refine .inr ⟨⟨xs, ys, xs[i], ys[i], asL_seq q1, asL_seq q2, by simp [hlt], by simp [hly]⟩, Pv (i + 1), fun H' p' => ⟨xs.length - (i + 1), by omega, rfl, hlt, p'⟩, ?_⟩
    rintro v H' ⟨T, x, y, rfl, hT, rfl, hx, hy⟩
    exact hs i x y T H2 (hx xs (asL_seq q1)) (hy ys (asL_seq q2)) p hT
  · have e : i = xs.length := by omega
    subst e
    exact .inl ⟨⟨xs, ys, asL_seq q1, asL_seq q2, .inl (Nat.le_refl _)⟩, hd H2 p⟩
theorem loop_zip {a b : Addr} {xs ys : List V} {tb : TS} (hl : xs.length = ys.length) (Pv : Nat → L2.St → Hp → Prop) (h0 : Pv 0 σ H) (hq : ∀ i σ H, Pv i σ H → asL (H a) = some xs ∧ asL (H b) = some ys)
    (hs : ∀ (i : Nat) (x y : V) (T : Addr) (σ : L2.St) (H : Hp), xs[i]? = some x → ys[i]? = some y → Pv i σ H → H T = none → g (.ref T) σ (upd H T (.tup [x, y])) fun σ2 H2 => tb { D with nx := Pv (i + 1), ct := Pv (i + 1), bk := D.nx } σ2 H2)
    (hd : ∀ σ H, Pv xs.length σ H → D.nx σ H) : Loop (Itz K a b) g tb D σ H := RZ.for_zipL hl Pv h0 (fun i σ H p => ⟨asL_seq (hq i σ H p).1, asL_seq (hq i σ H p).2⟩) hs hd
theorem loop_rev {a : Addr} {xs : List V} {m : Nat} {tb : TS} (hm : m = xs.length) (Pv : Nat → L2.St → Hp → Prop) (h0 : Pv 0 σ H) (hl : ∀ i σ H, i ≤ xs.length → Pv i σ H → asL (H a) = some xs)
    (hs : ∀ (i : Nat) (x : V) (σ : L2.St) (H : Hp), i < xs.length → xs[xs.length - 1 - i]? = some x → Pv i σ H → g x σ H fun σ2 H2 => tb { D with nx := Pv (i + 1), ct := Pv (i + 1), bk := D.nx } σ2 H2) (hd : ∀ σ H, Pv xs.length σ H → D.nx σ H) : Loop (Itv K a m) g tb D σ H := by
  subst hm
  refine ⟨fun i m σ H => m = xs.length - i ∧ i ≤ xs.length ∧ Pv i σ H, ⟨xs.length, by simp, Nat.zero_le _, h0⟩, ?_⟩
  rintro i m σ2 H2 ⟨rfl, hi, p⟩
  have q := asL_seq (K := K) (hl i σ2 H2 hi p)
  by_cases hlt : i < xs.length
  · have hj : xs.length - 1 - i < xs.length := by omega
    refine .inr ⟨⟨hlt, xs, xs[xs.length - 1 - i], q, by simp [hj]⟩, Pv (i + 1), fun σ' H' p' => ⟨xs.length - (i + 1), by omega, rfl, hlt, p'⟩, ?_⟩
    rintro x H' ⟨rfl, hx⟩
    exact hs i x σ2 H' hlt (hx xs q) p
  · have e : i = xs.length := by omega
    subst e
    exact .inl ⟨Nat.le_refl _, hd σ2 H2 p⟩
theorem made_zipmap {a b Dd : Addr} {xs ys : List V} {te : TE} {vs : List Nat} {m : Nat} {Qd : Hp → Prop} (f : V → V → V) (ha : asL (H a) = some xs) (hb : asL (H b) = some ys) (hl : xs.length = ys.length) (hD : H Dd = none) (hz : xs.length < sizeLine)
    (hw : ∀ x y, wipe (((wipe σ vs).set m (some x)).set n (some y)) vs = wipe σ vs)
    (he : ∀ (i : Nat) (x y : V) (H' : Hp) (Q : VK), xs[i]? = some x → ys[i]? = some y → Sm H H' → (∀ H2, Sm H' H2 → Q (f x y) H2) → te (((wipe σ vs).set m (some x)).set n (some y)) H' Q)
    (hd : ∀ H', Sm H H' → H' Dd = some (.lst (List.zipWith f xs ys)) → Qd H') : Made (Itz K a b) (gTupF 2 (gCons (gName m) (gCons (gName n) gNil))) tYes te vs σ Dd H Qd := by
  refine made_zip hl (fun i H' => Sm H H' ∧ H' Dd = some (.lst (List.zipWith f (xs.take i) (ys.take i)))) ⟨sm_new (fun _ _ h => h) hD, upd_same⟩ (fun i H' p => ⟨sm_L p.1 ha, sm_L p.1 hb⟩) (fun i x y T H' hx hy p hT => ?_)
    fun H' p => hd H' p.1 (by have e := p.2; rw [List.take_length, hl, List.take_length] at e; exact e)
  have e1 : asT (upd H' T (.tup [x, y]) T) = some [x, y] := by rw [upd_same] <;> rfl
  rw [u_gtup, e1]
  refine ⟨rfl, x, [y], rfl, y, [], rfl, rfl, hw x y, ?_⟩
  have s1 : Sm H (upd H' T (.tup [x, y])) := sm_new p.1 hT
  have d1 : upd H' T (.tup [x, y]) Dd = some (.lst (List.zipWith f (xs.take i) (ys.take i))) := by
    rw [upd_ne (ne_of_none p.2 hT)]; exact p.2
  refine iteT (B := Sm H (upd H' T (.tup [x, y])) ∧ (upd H' T (.tup [x, y])) Dd = some (.lst (List.zipWith f (xs.take (i + 1)) (ys.take (i + 1))))) ?_
  refine he i x y _ _ hx hy s1 fun H2 s2 => ⟨_, s2 _ _ d1, ?_, ?_, ?_⟩
  · rw [List.length_zipWith, List.length_take]; omega
  · exact sm_put (fun b o z => s2 b o (s1 b o z)) hD
  · rw [upd_same, List.take_add_one, List.take_add_one, hx, hy, List.zipWith_append]
    · rfl
    · rw [List.length_take, List.length_take, hl]
end
end XB

/-! Errors: several clauses with and without a name, the making of an error with fields, isinstance of a caught one. -/
namespace XB
open PySem PySem.Spec PyProof.Rows L2 L2N
abbrev Sui := Addr → Value → Option Addr → TS
/-- the ends of a suite whose clause binds the name in slot i -/
def unb (i : Nat) (D : Ends) : Ends := { nx := fun σ H => D.nx (σ.set i none) H, rt := D.rt, bk := fun σ H => D.bk (σ.set i none) H, ct := fun σ H => D.ct (σ.set i none) H }
def suiAt (o : Option Nat) (ts : Sui) (a : Addr) (cls : Value) (d : Option Addr) (D : Ends) (σ : L2.St) (H : Hp) : Prop := match o with
  | none => ts a cls d D σ H
  | some i => ts a cls d (unb i D) (σ.set i (some (.ref a))) H
def wX (K : PySem.W.Frag) (Wout : WX) (D : Ends) : List (Value × Option Nat × Sui) → WX
  | [] => Wout
  | (c, o, ts) :: r => fun cls d σ H => ∃ b, PySem.W.exmOne K cls c = some b ∧ (b = true → ∀ a, H a = none → suiAt o ts a cls d D σ H) ∧ (b = false → wX K Wout D r cls d σ H)
def tTryX (K : PySem.W.Frag) (tb : WX → TS) (Wout : WX) (l : List (Value × Option Nat × Sui)) : TS := fun D σ H => tb (wX K Wout D l) D σ H
/-- a suite holds for every error that may come -/
def SuOk (X : Cx) (sts : List Stmt) (ts : Sui) : Prop := ∀ (a : Addr) (oe : Obj) (cls : Value) (d : Option Addr) (pn : List (Addr × Obj)), Zn cls d oe → (∃ fv, oe.data = .fields fv) → PSs (X.suite a ((a, oe) :: pn)) sts (ts a cls d)
inductive HdX (X : Cx) : List ExceptHandler → List (Value × Option Nat × Sui) → Prop
  | nil : HdX X [] []
  | plain {x : Str} {c : Value} {ts : Sui} {s0 : Stmt} {sr : List Stmt} {p1 p2 : Pos} {hs : List ExceptHandler} {l : List (Value × Option Nat × Sui)} (nm : Names X x c) (su : SuOk X (s0 :: sr) ts) (r : HdX X hs l) :
      HdX X (.ExceptHandler (some (.Name x p1)) none (s0 :: sr) p2 :: hs) ((c, none, ts) :: l)
  | as {x n : Str} {i : Nat} {c : Value} {ts : Sui} {s0 : Stmt} {sr : List Stmt} {p1 p2 : Pos} {hs : List ExceptHandler} {l : List (Value × Option Nat × Sui)} (nd : X.N.Nodup) (at_ : X.N[i]? = some n) (loc : X.env.kindOf n = some .local) (nm : Names X x c) (su : SuOk X (s0 :: sr) ts) (r : HdX X hs l) :
      HdX X (.ExceptHandler (some (.Name x p1)) (some n) (s0 :: sr) p2 :: hs) ((c, some i, ts) :: l)
section
variable {X : Cx}
theorem ps_tryX {body : List Stmt} {h0 : ExceptHandler} {hr : List ExceptHandler} {l : List (Value × Option Nat × Sui)} {pos : Pos} {tb : WX → TS} {Wout : WX} (stk : X.stack = X.env :: X.outer) (frm : X.env.frame = some X.env.locals) (tk : L2N.Takes X Wout)
    (bd : ∀ (W : WX) (pn : List (Addr × Obj)) (xe : Value → Shared → Prop), L2N.Takes (X.tr pn xe) W → PassesOwn (model X.prog X.w) X.A X.env xe → PSs (X.tr pn xe) body (tb W))
    (hd : HdX X (h0 :: hr) l) : PS X (.Try body (h0 :: hr) [] [] pos) (tTryX X.K tb Wout l) := by
  refine ⟨fun pins s σ H D I hyp => ?_⟩
  have okX := I.ok
  have frs2 : X.A.frames = some (X.env :: X.outer) := okX.frames.trans (by rw [stk])
  refine wpAny_Try_except ?_
  refine wpAny_mono ((bd (wX X.K Wout D l) (X.pn ++ pins) (fun er sa => wpAny (model X.prog X.w) X.A (noteFrame er X.env)
    (fun _ sb => wpAny (model X.prog X.w) X.A (setFlight er none) (fun _ sc => wpAny (model X.prog X.w) X.A (handleBy er X.env (h0 :: hr)) (SP X pins D) X.xe sc) X.xe sb) X.xe sa)
    (fun er st thrown => ?caught) PassesOwn.looking).run [] s σ H D (I.toTry _) hyp) (fun fl st done => ?went) (fun er st z => z)
  case caught =>
    obtain ⟨ea, G, sI, pinsT, σ2, H2, cls, d, rfl, Itry, nb, upS, sky, nea, eos, bare, wish⟩ := thrown
    have J : Inv X pins σ2 H2 sI := Itry.ofTry okX
    have sky2 : Sky G (X.env :: X.outer) ea (Zn cls d) X.env.locals st.heap := stk ▸ sky
    show wpAny (model X.prog X.w) X.A (noteFrame (.ref ea) X.env) _ _ _
    refine L2N.Sky.land Zn.steady frs2 frm sky2 fun ha fla upa => ?_
    have Ja : Inv X pins σ2 H2 { st with heap := ha } := J.landed nb fla.1 (upS.trans upa) eos bare
    obtain ⟨oa, va, ga, za, da⟩ := fla.there
    have out : ea ∉ frs (X.env :: X.outer) := fun inn => by
      obtain ⟨_, o2, g2, fv⟩ := fla.2.2.1.mem inn
      rw [ga] at g2
      cases g2
      exact fv _ da
    have ne1 : ea ≠ X.env.locals := fun z => out (List.mem_filterMap.mpr ⟨X.env, List.mem_cons_self, by rw [frm, z]⟩)
    have ne2 : ea ∉ X.fs := fun inn => by
      obtain ⟨e2, m2, q2⟩ := List.mem_filterMap.mp inn
      exact out (List.mem_filterMap.mpr ⟨e2, List.mem_cons_of_mem _ m2, q2⟩)
    have Sa := Ja.suite ga da nea ne1 ne2
    -- what a clause's test tells
    have asks : ∀ {x : Str} {c : Value} {b : Bool} {np : Pos} {Q : Value → Shared → Prop} {E : Value → Shared → Prop}, Names X x c → (∀ sx, sx = { st with heap := ha } → Q c sx) →
        wpAny (model X.prog X.w) (X.A.mark (some (.ref ea))) (eval (.Name x np) X.env) Q E { st with heap := ha } := fun {x c b np Q E} nm q => by
      obtain ⟨gl, dbg, k1 | ⟨k1, k2, k3⟩⟩ := nm
      · exact ld_glob (X := X.suite ea ((ea, oa) :: (X.pn ++ pins))) Sa gl k1 (q _ rfl) dbg
      · exact ld_blt (X := X.suite ea ((ea, oa) :: (X.pn ++ pins))) Sa gl k1 k2 (q _ rfl) k3 dbg
    have ty : PySem.W.Looks (model X.prog X.w) ha (typeOf (.ref ea)) cls := fun A Q E s5 k q => wpAny_typeOf_ref (k _ _ ga) (za.1 ▸ q)
    have walk : ∀ {hs2 : List ExceptHandler} {l2 : List (Value × Option Nat × Sui)}, HdX X hs2 l2 → wX X.K Wout D l2 cls d σ2 H2 → wpAny (model X.prog X.w) X.A (handleBy (.ref ea) X.env hs2) (SP X pins D) X.xe { st with heap := ha } := by
      intro hs2 l2 hok
      induction hok with
      | nil =>
        intro wl
        refine wpAny_handleBy_nil ?_
        obtain ⟨r1, r2, r3, ox, vx, T, oT, tx, gx, zx, dx, t1, rx⟩ := id fla
        unfold PySem.passOn
        refine wpAny_bind (wpAny_field gx dx t1 ?_)
        have nn : ¬ ((Value.ref T == Value.none) = true) := by simp
        rw [if_neg nn]
        have up9 : wpAny (model X.prog X.w) X.A (setFlight (.ref ea) X.env.frame) (fun _ s9 => wpAny (model X.prog X.w) X.A (throw (.ref ea) : Sem Flow) (SP X pins D) X.xe s9) X.xe { st with heap := ha } := by
          rw [frm]
          refine HandSPX.setFlight_upZ fla fun hb hhb upb => wpAny_throw (tk _ _ ?_)
          exact ⟨ea, G, sI, pins, σ2, H2, cls, d, rfl, J, nb, (upS.trans upa).trans upb, .inr (.inr (stk.symm ▸ hhb)), nea, eos, bare, wl⟩
        first
          | exact wpAny_bind (wpAny_pure (wpAny_bind up9))
          | exact wpAny_bind up9
      | @plain x c ts s0 sr p1 p2 hs3 l3 nm su r ih =>
        intro wl
        obtain ⟨b, hb, yes, no⟩ := wl
        refine wpAny_handleBy_cons (codeAny_handlers_test ?_) (by intro q; cases q)
        have LM := PySem.W.exm_one (M := model X.prog X.w) Ja.kIn ty hb
        refine asks (b := b) nm fun sx ex => ?_
        subst ex
        refine LM.here ?_
        cases b with
        | false => exact ih (no rfl)
        | true =>
          refine codeAny_handlers_suite ?_
          refine HandSPX.lands_againZ fla fun hb2 flb upb => ?_
          have Jb : Inv X pins σ2 H2 { st with heap := hb2 } := J.landed nb flb.1 ((upS.trans upa).trans upb) eos bare
          obtain ⟨ob, vb, gb, zb, db⟩ := flb.there
          have Sb := Jb.suite gb db nea ne1 ne2
          refine wpAny_mono ((su ea ob cls d (X.pn ++ pins) zb ⟨_, db⟩).run [] _ _ H2 _ Sb (yes rfl ea nea)) (fun f s6 res => ?_) (fun _ _ z => False.elim z)
          cases f with
          | next => obtain ⟨σ6, H6, S6, q6⟩ := res; exact ⟨_, _, S6.unsuite okX, q6⟩
          | brk => obtain ⟨σ6, H6, S6, q6⟩ := res; exact ⟨_, _, S6.unsuite okX, q6⟩
          | cont => obtain ⟨σ6, H6, S6, q6⟩ := res; exact ⟨_, _, S6.unsuite okX, q6⟩
          | ret u => obtain ⟨v6, σ6, H6, S6, r6, q6⟩ := res; exact ⟨_, _, _, S6.unsuite okX, r6, q6⟩
      | @as x n i c ts s0 sr p1 p2 hs3 l3 nd at_ loc nm su r ih =>
        intro wl
        obtain ⟨b, hb, yes, no⟩ := wl
        have hloc : Loc X.env.scope n := .inl loc
        refine wpAny_handleBy_cons (codeAny_handlers_test ?_) (by intro q; cases q)
        have LM := PySem.W.exm_one (M := model X.prog X.w) Ja.kIn ty hb
        refine asks (b := b) nm fun sx ex => ?_
        subst ex
        refine LM.here ?_
        cases b with
        | false => exact ih (no rfl)
        | true =>
          refine codeAny_handlers_suite_as ?_
          refine HandSPX.lands_againZ fla fun hb2 flb upb => ?_
          have Jb : Inv X pins σ2 H2 { st with heap := hb2 } := J.landed nb flb.1 ((upS.trans upa).trans upb) eos bare
          obtain ⟨ob, vb, gb, zb, db⟩ := flb.there
          have Sb := Jb.suite gb db nea ne1 ne2
          refine store_ok (X := X.suite ea ((ea, ob) :: (X.pn ++ pins))) (v := .ref ea) Sb nd at_ hloc rfl (fun s5 S5 => ?_) (.inr loc)
          refine wpAny_mono ((su ea ob cls d (X.pn ++ pins) zb ⟨_, db⟩).run [] s5 _ H2 _ S5 (yes rfl ea nea)) (fun f s6 res => ?_) (fun _ _ z => False.elim z)
          have fin : ∀ {σ6 : L2.St} {H6 : Hp} {Q : Shared → Prop}, Inv (X.suite ea ((ea, ob) :: (X.pn ++ pins))) [] σ6 H6 s6 → (∀ s7, Inv X pins (σ6.set i none) H6 s7 → Q s7) →
              wpAny (model X.prog X.w) X.A (do bindName X.env n .none; unbindBehindTheSuite X.env n p2) (fun _ s7 => Q s7) X.xe s6 := fun {σ6 H6 Q} S6 k => gone_ok (S6.unsuite okX) nd at_ loc k
          cases f with
          | next => obtain ⟨σ6, H6, S6, q6⟩ := res; exact fin S6 fun s7 J7 => ⟨_, _, J7, q6⟩
          | brk => obtain ⟨σ6, H6, S6, q6⟩ := res; exact fin S6 fun s7 J7 => ⟨_, _, J7, q6⟩
          | cont => obtain ⟨σ6, H6, S6, q6⟩ := res; exact fin S6 fun s7 J7 => ⟨_, _, J7, q6⟩
          | ret u => obtain ⟨v6, σ6, H6, S6, r6, q6⟩ := res; exact fin S6 fun s7 J7 => ⟨_, _, _, J7, r6, q6⟩
    exact walk hd wish
  case went =>
    cases fl with
    | next => obtain ⟨σ2, H2, J2, q⟩ := done; exact wpAny_execs_nil ⟨σ2, H2, J2.ofTry okX, q⟩
    | brk => obtain ⟨σ2, H2, J2, q⟩ := done; exact ⟨σ2, H2, J2.ofTry okX, q⟩
    | cont => obtain ⟨σ2, H2, J2, q⟩ := done; exact ⟨σ2, H2, J2.ofTry okX, q⟩
    | ret u => obtain ⟨v, σ2, H2, J2, r, q⟩ := done; exact ⟨v, σ2, H2, J2.ofTry okX, r, q⟩
/-- C(e, ..), C an error's class with its own __init__; what is made has no context -/
theorem pmk_N {CX : CXT} {x : Str} {e : Expr} {es : List Expr} {ta : TA} {p pos : Pos} {C fI : Addr} {k : Nat} {fd : FuncData} {ps : List Str} {sp : Sp} (T : OexC X.K C)
    (iC : PySem.W.findIn X.K (.ref C) "__init__" = some (some (.ref fI))) (tI : PySem.W.typeIn X.K (.ref fI) = some (.type "function")) (F1 : FnOk X.prog X.w X.K X.mg X.base CX k fI fd ps sp) (hr : Room (k + 1) X.A)
    (hb : Binds X.K fd ps []) (hx : Passes CX X (fun _ _ _ => False)) (hg : Gl X x) (hm : X.mg x = some (.ref C)) (ha : PA X (e :: es) ta) (hdb : (x == ("__debug__" : Str)) = false := by decide)
    (he : starEach (e :: es) X.env = (false, eval e X.env) :: starEach es X.env := by rfl) (hpl : (backTo pos (starEach es X.env)).any (·.1) = false := by rfl) : L2N.PMk X (.Call (.Name x p) (e :: es) [] pos) (tMkO C sp [] ta) := by
  intro pins s σ H Q I hyp
  obtain ⟨nm, qn, N, bs, bm, sn, sub, ab, col, dd, m0, m1, m2, m3, m5, lkC, okB⟩ := T.cls
  refine wpAny_Call_Name_kw (ld_glob I hg hm ?_ hdb)
  refine PySem.W.callWith_K (h₀ := X.base) I.ok.mod.kin T.kC (thn (ha.run pos pins s σ H _ I hyp) fun us st ⟨vs, H1, I1, rel, short, next⟩ => ⟨I1.kIn, ?_⟩) he hpl
  show wpAny _ _ (call (.ref C) us) _ _ _
  obtain ⟨hp, gs, dr, tk, os⟩ := st
  have sz1 : hp.objs.size ≤ hp.objs.size + 1 := Nat.le_succ _
  have fresh : H1 (hp.objs.size + 1) = none := I1.hok.fresh sz1
  have pro := next (hp.objs.size + 1) fresh
  rw [List.append_nil] at pro
  have keeps : ∀ b o, hp.get? b = some o → ((hp.push (PySem.W.kdv_tup us)).push (PySem.HandSPX.excO C hp.objs.size)).get? b = some o := fun b o z => Heap.get?_push_of_some _ (Heap.get?_push_of_some _ z)
  have stands : ((hp.push (PySem.W.kdv_tup us)).push (PySem.HandSPX.excO C hp.objs.size)).get? (hp.objs.size + 1) = some (PySem.HandSPX.excO C hp.objs.size) := by heap_get
  have Inew : Inv X pins σ (upd H1 (hp.objs.size + 1) (exo (hp.objs.size + 1) C none)) ⟨(hp.push (PySem.W.kdv_tup us)).push (PySem.HandSPX.excO C hp.objs.size), gs, dr, tk, os⟩ :=
    I1.laid (t' := tk) (h' := (hp.push (PySem.W.kdv_tup us)).push (PySem.HandSPX.excO C hp.objs.size)) (o := exo (hp.objs.size + 1) C none) (a := hp.objs.size + 1) keeps sz1 (exo_ok stands)
  have rel2 : Vals (V.ref (hp.objs.size + 1) :: vs) (Value.ref (hp.objs.size + 1) :: us) := .cons rfl rel
  have len2 : (Value.ref (hp.objs.size + 1) :: us ++ []).length = ps.length := by
    have z := rel2.length
    rw [F1.len _ _ _ _ pro] at z
    rw [List.append_nil]
    exact z.symm
  have fits : us.length ≤ sizeLine := by
    rw [← Paired.length rel, sizeLine_eq]
    omega
  have bnd := hb _ (Value.ref (hp.objs.size + 1) :: us) Inew.kIn len2
  rw [List.append_nil] at bnd
  refine wpAny_call (PySem.HandSPX.call_own F.excBase_ValueError (fun Y => PySem.HandSPX.refsVE_contains Y bm okB) (I1.kIn _ _ lkC) (PySem.W.looks_findIn I1.kIn iC) (fun me => PySem.W.bind_fn I1.kIn me tI) fits
    (codeAny_mono (F1.run _ X.stack _ _ ⟨Value.ref (hp.objs.size + 1) :: us, []⟩ (Value.ref (hp.objs.size + 1) :: us) _ _ (fun _ _ _ => False) (hr.make C us []) (Inew.env0.make C us []) bnd rel2 pro) fun r s2 res => ?_))
  cases r with
  | error er => exact hx pins σ _ _ er s2 Inew res
  | ok fl =>
    cases fl with
    | ret u =>
      obtain ⟨v, H2, os2, bare2, un2, hok2, rv, ev, d, fs, ea, ed, hd1, q2⟩ := res
      subst ev
      obtain ⟨h2, g2, d2, t2, osx⟩ := s2
      obtain ⟨t0, G, J, kG, gone, there, na⟩ := mk_end0 (d2 := d2) (t2 := t2) I1 sz1 keeps un2 hok2 os2 bare2 ea ed hd1
      refine ⟨rv, hp.objs.size + 1, _, _, ⟨G, g2, d2, t2, osx⟩, _, .ref C, some d, rfl, J, kG, gone, there, ⟨rfl, rfl, fun fv z => ?_⟩, rfl, rfl, na, rfl, bare2, raises_own T.exC T.tyC, q2⟩
      cases z
      rfl
    | next => exact False.elim res
    | brk => exact False.elim res
    | cont => exact False.elim res
end
/-- the fields that an error's __init__ stores, the last one first -/
def flds : List Str → List V → List (Str × V) → List (Str × V)
  | f :: fs, v :: vs, acc => flds fs vs ((f, v) :: acc)
  | _, _, acc => acc
/-- __init__(self, f1, ..): the fields are stored in order -/
def sp_einit (C : Addr) (names : List Str) : Sp := fun vs H Q _ => ∃ (a : Addr) (ws : List V), vs = .ref a :: ws ∧ ws.length = names.length ∧ H a = some (exo a C none) ∧
  ∀ (d : Addr) (H' : Hp), H d = none → d ≠ a → H' a = some (exo a C (some d)) → H' d = some (exd d (flds names ws [])) → (∀ b, b ≠ a → b ≠ d → H' b = H b) → Q .non H'
/-- raise C(e, ..): an error of the class, whose own dict at d, new, holds the fields -/
def tRaiseF (C : Addr) (names : List Str) (Wout : WX) (ta : TA) : TS := fun D σ H => ta σ H fun vs H1 => vs.length = names.length ∧ vs.length ≤ 1000 ∧
  ∀ (d : Addr) (H' : Hp), H1 d = none → H' d = some (.xd (flds names vs [])) → (∀ b o, H1 b = some o → H' b = some o) → Wout (.ref C) (some d) σ H'
theorem mko_of {C : Addr} {names : List Str} {ta : TA} {σ : L2.St} {H : Hp} {Q : XK} (m : ∀ (R R' : List V → Hp → Prop), (∀ vs H1, R vs H1 → R' vs H1) → ta σ H R → ta σ H R')
    (h : ta σ H fun vs H1 => vs.length = names.length ∧ vs.length ≤ 1000 ∧ ∀ (d : Addr) (H' : Hp), H1 d = none → H' d = some (.xd (flds names vs [])) → (∀ b o, H1 b = some o → H' b = some o) → Q (.ref C) (some d) H') :
    tMkO C (sp_einit C names) [] ta σ H Q := m _ _ (fun vs H1 ⟨l1, l2, k⟩ => ⟨l2, fun a na => by
  rw [List.append_nil]
  refine ⟨a, vs, rfl, l1, upd_same, fun d H' nd ne ha hd rest => ⟨rfl, d, _, ha, hd, ?_, ?_⟩⟩
  · rw [upd_ne ne] at nd; exact nd
  · rw [upd_ne ne] at nd
    refine k d _ nd upd_same fun b o hb => ?_
    have nba : b ≠ a := ne_of_none hb na
    have nbd : b ≠ d := ne_of_none hb nd
    rw [upd_ne nbd, del_ne nba, rest b nba nbd, upd_ne nba]
    exact hb⟩) h
theorem u_try {K : PySem.W.Frag} {tb : WX → TS} {W : WX} {l : List (Value × Option Nat × Sui)} {D : Ends} {σ : L2.St} {H : Hp} : tTryX K tb W l D σ H = tb (wX K W D l) D σ H := rfl
theorem u_sui {i : Nat} {ts : Sui} {a : Addr} {cls : Value} {d : Option Addr} {D : Ends} {σ : L2.St} {H : Hp} : suiAt (some i) ts a cls d D σ H = ts a cls d (unb i D) (σ.set i (some (.ref a))) H := rfl
theorem u_sui0 {ts : Sui} {a : Addr} {cls : Value} {d : Option Addr} {D : Ends} {σ : L2.St} {H : Hp} : suiAt none ts a cls d D σ H = ts a cls d D σ H := rfl
theorem u_unb_rt {i : Nat} {D : Ends} : (unb i D).rt = D.rt := rfl
theorem u_unb_nx {i : Nat} {D : Ends} {σ : L2.St} {H : Hp} : (unb i D).nx σ H = D.nx (σ.set i none) H := rfl
theorem u_xf {a C : Addr} {cls : Value} {d : Option Addr} {f : Str} {te : TE} {σ : L2.St} {H : Hp} {Q : VK} : tXf a cls d C f te σ H Q = te σ H fun x H1 => x = .ref a ∧ cls = .ref C ∧ ∃ (dd : Addr) (fs : List (Str × V)) (v : V), d = some dd ∧ H1 dd = some (.xd fs) ∧ fs.lookup f = some v ∧ Q v H1 := rfl
/-- the clause that takes the error *)-/
theorem wX_yes {K : PySem.W.Frag} {W : WX} {D : Ends} {c : Value} {o : Option Nat} {ts : Sui} {r : List (Value × Option Nat × Sui)} {cls : Value} {d : Option Addr} {σ : L2.St} {H : Hp} (h : PySem.W.exmOne K cls c = some true) (k : ∀ a, H a = none → suiAt o ts a cls d D σ H) :
    wX K W D ((c, o, ts) :: r) cls d σ H := ⟨true, h, fun _ => k, fun z => (by cases z)⟩
theorem wX_no {K : PySem.W.Frag} {W : WX} {D : Ends} {c : Value} {o : Option Nat} {ts : Sui} {r : List (Value × Option Nat × Sui)} {cls : Value} {d : Option Addr} {σ : L2.St} {H : Hp} (h : PySem.W.exmOne K cls c = some false) (k : wX K W D r cls d σ H) :
    wX K W D ((c, o, ts) :: r) cls d σ H := ⟨false, h, fun z => (by cases z), fun _ => k⟩
theorem u_WE {W : WX} {σ : L2.St} {cls : Value} {d : Option Addr} {H : Hp} : WE W σ cls d H = W cls d σ H := rfl
theorem u_raise {C : Addr} {names : List Str} {W : WX} {ta : TA} {D : Ends} {σ : L2.St} {H : Hp} : tRaiseF C names W ta D σ H = ta σ H fun vs H1 => vs.length = names.length ∧ vs.length ≤ 1000 ∧
  ∀ (d : Addr) (H' : Hp), H1 d = none → H' d = some (.xd (flds names vs [])) → (∀ b o, H1 b = some o → H' b = some o) → W (.ref C) (some d) σ H' := rfl
/-- an argument list bears a weaker wish -/
def MonA (ta : TA) : Prop := ∀ (σ : L2.St) (H : Hp) (R R' : List V → Hp → Prop), (∀ vs H1, R vs H1 → R' vs H1) → ta σ H R → ta σ H R'
def MonT (te : TE) : Prop := ∀ (σ : L2.St) (H : Hp) (R R' : VK), (∀ v H1, R v H1 → R' v H1) → te σ H R → te σ H R'
theorem mon_nil : MonA tNil := fun σ H R R' k h => k _ _ h
theorem mon_cons {te : TE} {tr : TA} (h1 : MonT te) (h2 : MonA tr) : MonA (tCons te tr) := fun σ H R R' k h => h1 σ H _ _ (fun v H1 q => h2 σ H1 _ _ (fun vs H2 q2 => k _ _ q2) q) h
theorem mon_var {i : Nat} : MonT (tVar i) := fun σ H R R' k ⟨v, e, q⟩ => ⟨v, e, k _ _ q⟩
theorem mon_c {v : V} : MonT (tC v) := fun σ H R R' k q => k _ _ q
section
variable {X : Cx}
theorem ps_raiseF {CX : CXT} {x : Str} {e : Expr} {es : List Expr} {ta : TA} {p pos pos2 : Pos} {C fI : Addr} {k : Nat} {fd : FuncData} {ps names : List Str} {W : WX} (hc : X.calm = true) (T : OexC X.K C)
    (iC : PySem.W.findIn X.K (.ref C) "__init__" = some (some (.ref fI))) (tI : PySem.W.typeIn X.K (.ref fI) = some (.type "function")) (F1 : FnOk X.prog X.w X.K X.mg X.base CX k fI fd ps (sp_einit C names)) (hr : Room (k + 1) X.A)
    (hb : Binds X.K fd ps []) (hx : Passes CX X (fun _ _ _ => False)) (hg : Gl X x) (hm : X.mg x = some (.ref C)) (tk : L2N.Takes X W) (mon : MonA ta) (ha : PA X (e :: es) ta) (hdb : (x == ("__debug__" : Str)) = false := by decide)
    (he : starEach (e :: es) X.env = (false, eval e X.env) :: starEach es X.env := by rfl) (hpl : (backTo pos (starEach es X.env)).any (·.1) = false := by rfl) :
    PS X (.Raise (some (.Call (.Name x p) (e :: es) [] pos)) none pos2) (tRaiseF C names W ta) :=
  ⟨fun pins s σ H D I q => (L2N.ps_raise hc tk (pmk_N T iC tI F1 hr hb hx hg hm ha hdb he hpl)).run pins s σ H D I (mko_of (Q := fun cls d H' => W cls d σ H') (fun R R' => mon σ H R R') q)⟩
theorem takesN0 {X : Cx} : L2N.Takes X (fun _ _ _ _ => False) := fun _ _ z => by
  obtain ⟨_, _, _, _, _, _, _, _, _, _, _, _, _, _, _, _, no⟩ := z
  exact no.elim
theorem pass0S {X : Cx} {E : L2.St → XK} : ∀ σ, PassesAt CX0 X σ (E σ) := fun _ _ _ _ _ _ _ z => z.elim
theorem passE {X : Cx} {E : XK} : Passes CX0 X E := fun _ _ _ _ _ _ _ z => z.elim
/-- a def that may raise -/
theorem okN {P : Program} {w : World} {K : PySem.W.Frag} {mg : Str → Option Value} {base : Heap} {x qual : Str} {st : Stmt} {f : Addr} {fd : FuncData} {N ps : List Str} {k : Nat} {sp : Sp} (F : Fun K x qual st f fd) (S : FnScope N ps (defScope st))
    (len : ∀ vs H Q E, sp vs H Q E → vs.length = ps.length)
    (hbody : ∀ (cdv : Value) (A : Around) (outer : List Env) (s : Shared) (H : Hp) (vs : List V) (Q : VK) (E : XK), Room k (A.deeper (envOfC qual (defScope st) s.heap.objs.size f cdv)) → sp vs H Q E →
      ∃ t, PSs (cxOf (L2N.CX P w) P w K mg base N qual (defScope st) f cdv A outer s H E) (defBody st) t ∧ t { nx := fun _ H' => Q .non H', rt := Q } (start N vs) H) : FnOk P w K mg base (L2N.CX P w) (k + 1) f fd ps sp := by
  obtain ⟨oc, od, kV, doc, pm, an, cdv, ct, osl, rfl, lk, hcd⟩ := F.ex
  exact fn_of lk hcd S len fun A outer s H vs Q E hr hsp => hbody cdv A outer s H vs Q E hr hsp
end
end XB

/-! isinstance of a caught error that has its own dict. -/
namespace XB
open PySem PySem.Spec PySem.Calls PyProof.Rows PySem.W
section
variable {prog : Program} {w : World} {A : Around} {E : Value → Shared → Prop} {s : Shared} {K : Frag} {x D : Addr} {ox : Obj} {od : Option Obj}
theorem err_class {Q : Option Value → Shared → Prop} (T : L2.ExcC K D) (hf : findObj K D od "__class__" = some (.bind (.builtin "getset_descriptor.__get__") (.builtin "object.__class__")))
    (X : K.In s.heap) (I : InstAt s.heap x ox D od) (h : Q (some (.ref D)) { s with toks := s.toks + 1 }) : wpAny (model prog w) A (getAttr? (.ref x) "__class__") Q E s := by
  obtain ⟨hp, gs, dr, tk, os⟩ := s
  have lk0 := I.type (M := model prog w)
  have lk1 := looks_findIn (M := model prog w) X T.hg
  have lk2 := looks_findIn (M := model prog w) X T.hk
  have lk3 := looks_find (M := model prog w) X I hf
  have isB : Looks (model prog w) hp (isInstance (.ref x) (.type "BaseException")) true := lk0.andThen (looks_subIn X T.hs)
  have e0 : (false && onTheHeap (Value.builtin "BaseException.__getattribute__")) = false := rfl
  have e2 : (Value.builtin "BaseException.__getattribute__" == Value.builtin "object.__getattribute__") = false := by decide +kernel
  have e1 : (onTheHeap (Value.ref D) && Value.builtin "BaseException.__getattribute__" == Value.builtin "object.__getattribute__") = false := by rw [e2] <;> rfl
  unfold getAttr? getAttrBy? getAttrBy
  refine wpAny_bind (wpAny_mkText (wpAny_bind (wpAny_attempt (wpAny_holding (wpAny_bind (lk0.at (wpAny_bind (lk1.at ?go))))))))
  case go =>
    show wpAny _ _ (if (onTheHeap (Value.ref D) && Value.builtin "BaseException.__getattribute__" == Value.builtin "object.__getattribute__") = true then _ else _) _ _ _
    rw [e1]
    rw [if_neg Bool.false_ne_true]
    unfold getAttrByItsOwn hookBefore
    refine wpAny_bind ?own
    case own =>
      rw [if_pos (show onTheHeap (Value.ref D) = true from rfl)]
      refine lk2.at (wpAny_bind (wpAny_attempt (wpAny_holding ?inner)))
      case inner =>
        unfold callGetattribute
        rw [e0]
        rw [if_neg Bool.false_ne_true]
        unfold boundAndCalled
        rw [PySem.F.excAttr_ValueError.ga.bind (.ref x)]
        refine wpAny_bind (wpAny_pure ?called)
        case called =>
          show wpAny _ _ (call (.builtin "BaseException.__getattribute__") [.ref x, .str "__class__" tk]) _ _ _
          refine wpAny_call (codeAny_call_builtin PySem.F.excAttr_ValueError.ga.plain PySem.F.entry_bexc_ga ?slot)
          case slot =>
            refine @check_slot (model prog w) _ _ ⟨hp, gs, dr, tk + 1, os⟩ "BaseException.__getattribute__" "BaseException" "__getattribute__" (.ref x) [.str "__class__" tk] [] _ (by decide +kernel) (by decide +kernel) isB (PySem.F.args_bexc_ga (.ref x) (.str "__class__" tk)) ?body
            case body =>
              unfold Builtin.«object.__getattribute__»
              refine wpAny_bind (wpAny_of_eq (a := ((Value.ref x : Value), [Value.str "__class__" tk])) (by first | rfl | (simp only [slotArgs] <;> rfl)) ?rest)
              case rest =>
                refine wpAny_bind (wpAny_pure (wpAny_bind (lk0.at (wpAny_bind (lk3.at ?get)))))
                case get =>
                  show wpAny _ _ (holding [Value.builtin "object.__class__"] (call (.builtin "getset_descriptor.__get__") [.builtin "object.__class__", .ref x, .ref D]) >>= ret) _ _ _
                  refine wpAny_bind (wpAny_holding (wpAny_call (class_get (s := ⟨hp, gs, dr, tk + 1, os⟩) (ox := ox) (od := od) X I T.hm ?out)))
                  case out =>
                    refine wpAny_pure ?end_
                    case end_ =>
                      show wpAny _ _ (handedOut (.ref D)) _ _ _
                      rw [handedOut_of (v := .ref D) rfl]
                      first
                        | exact wpAny_pure (wpAny_pure h)
                        | exact wpAny_pure h
                        | exact wpAny_pure (wpAny_bind (wpAny_pure (wpAny_pure h)))
theorem err_kit (T : L2.ExcC K D) (hf : findObj K D od "__class__" = some (.bind (.builtin "getset_descriptor.__get__") (.builtin "object.__class__"))) : KitX K (.ref x) (.ref D) (fun hp => InstAt hp x ox D od) where
  ty := fun _ _ _ I => I.type
  it := fun _ _ X _ => by
    obtain ⟨cd, hc, _⟩ := any_some T.hd
    unfold clsIn at hc
    split at hc
    · rename_i o2 d2 c2 l2 at2
      intro A2 Q2 E2 s2 k q
      unfold isType loadHead
      exact wpAny_bind (wpAny_loadPart (k _ _ (X _ _ at2)) (wpAny_pure q))
    · cases hc
  ne := fun hp tp dd its n sl X at_ => by
    obtain ⟨cd, hc, _⟩ := any_some T.hd
    refine Bool.eq_false_iff.mpr fun z => ?_
    have same : D = tp := Value.ref.inj (beq_iff_eq.mp z)
    subst same
    unfold clsIn at hc
    split at hc
    · rename_i o2 d2 c2 l2 at2
      have y := (X _ _ at2).symm.trans at_
      cases y
    · cases hc
  ca := fun X I k => err_class T hf X I k
end
open L2
/-- what the class at D must say, that isinstance asks its instances rightly -/
structure ErrC (K : PySem.W.Frag) (D : Addr) : Prop where
  ex : L2.ExcC K D
def fIsE (K : PySem.W.Frag) (D a : Addr) (cls : Value) (d : Option Addr) : RL := fun xs H Q => ∃ (c : V) (cv : Value) (b : Bool) (dd : Addr) (fs : List (Str × V)), xs = [.ref a, c] ∧ (∀ u, RelV c u → u = cv) ∧ cls = .ref D ∧ d = some dd ∧ H dd = some (.xd fs) ∧
  PySem.W.kitOne K (.ref D) cv = some b ∧ Q (.bl b) H
def fIsET (K : PySem.W.Frag) (D a : Addr) (cls : Value) (d : Option Addr) : RL := fun xs H Q => ∃ (tp : Addr) (cs : List V) (us : List Value) (b : Bool) (dd : Addr) (fs : List (Str × V)), xs = [.ref a, .ref tp] ∧ H tp = some (.tup cs) ∧ Paired ClsV cs us ∧ cls = .ref D ∧ d = some dd ∧ H dd = some (.xd fs) ∧
  PySem.W.kitAny K (.ref D) us = some b ∧ Q (.bl b) H
section
variable {X : Cx} {a D : Addr} {oe : Obj} {cls : Value} {d : Option Addr} {pn : List (Addr × Obj)}
theorem err_at {pins : List (Addr × Obj)} {σ : L2.St} {H : Hp} {s : Shared} {dd : Addr} {fs : List (Str × V)} (I : Inv (X.suite a ((a, oe) :: pn)) pins σ H s) (hz : L2N.Zn (.ref D) (some dd) oe) (hf : ∃ fv, oe.data = .fields fv) (hx : H dd = some (.xd fs)) :
    ∃ od, PySem.W.InstAt s.heap a oe D (some od) := by
  obtain ⟨at_, _⟩ := I.pin (a, oe) (List.mem_append_left _ List.mem_cons_self)
  have ob : ObjOk (X.suite a ((a, oe) :: pn)).prog (X.suite a ((a, oe) :: pn)).w H s.heap dd (.xd fs) := I.hok dd _ hx
  obtain ⟨mA, hns, _⟩ := ob
  obtain ⟨od, ho, _⟩ := lookIn_ns hns
  obtain ⟨fv, hd⟩ := hf
  exact ⟨od, at_, hz.1, by unfold PySem.W.notCls; rw [hd] <;> rfl, by rw [hz.2.1]; exact ho⟩
theorem c_isE (T : L2.ExcC X.K D) (hz : L2N.Zn cls d oe) (hf : ∃ fv, oe.data = .fields fv) : CallR (X.suite a ((a, oe) :: pn)) (.builtin "isinstance") (fIsE X.K D a cls d) := by
  intro pins s σ H xs us Q I r h
  obtain ⟨c, cv, b, dd, fs, rfl, hcv, rfl, rfl, hx, e, q⟩ := h
  obtain ⟨u1, u2, rfl, r1, r2⟩ := vals2 r
  cases (show u1 = Value.ref a from r1)
  have ec := hcv _ r2
  subst ec
  obtain ⟨od, J⟩ := err_at I hz hf hx
  exact PySem.W.kia_one (err_kit T (PySem.W.findObj_data (by obtain ⟨cd, hc, _⟩ := PySem.W.any_some T.hd; rw [hc] <;> rfl) T.ha T.hn T.ht)) I.kIn J e (fun z => nomatch z) fun tk => ⟨.bl b, H, I.kept (t' := tk) fun _ _ z => z, rfl, q⟩
theorem c_isET (T : L2.ExcC X.K D) (hz : L2N.Zn cls d oe) (hf : ∃ fv, oe.data = .fields fv) : CallR (X.suite a ((a, oe) :: pn)) (.builtin "isinstance") (fIsET X.K D a cls d) := by
  intro pins s σ H xs us Q I r h
  obtain ⟨tp, cs, ws, b, dd, fs, rfl, hT, k, rfl, rfl, hx, e, q⟩ := h
  obtain ⟨u1, u2, rfl, r1, r2⟩ := vals2 r
  cases (show u1 = Value.ref a from r1)
  cases (show u2 = Value.ref tp from r2)
  obtain ⟨od, J⟩ := err_at I hz hf hx
  have ot : ObjOk (X.suite a ((a, oe) :: pn)).prog (X.suite a ((a, oe) :: pn)).w H s.heap tp (.tup cs) := I.hok tp _ hT
  obtain ⟨_, its, rv, o, h1, h2, n, h3⟩ := ot
  have e3 := ClsV.all k rv
  subst e3
  obtain ⟨oc, odd, dt, sl⟩ := o
  simp only at h2 h3
  subst h2 h3
  exact PySem.W.kia_tup (err_kit T (PySem.W.findObj_data (by obtain ⟨cd, hc, _⟩ := PySem.W.any_some T.hd; rw [hc] <;> rfl) T.ha T.hn T.ht)) I.kIn J h1 e (fun z => nomatch z) fun tk => ⟨.bl b, H, I.kept (t' := tk) fun _ _ z => z, rfl, q⟩
end
end XB

/-! Texts: not in, slices, str of a number, loops over a text. -/
namespace XB
open PySem L2
def fNin (K : PySem.W.Frag) : R2 := fun x y H Q => match x, y with
  | .str ⟨⟨[c]⟩⟩, .str z => Q (.bl (!decide (c ∈ z.cps.toList))) H
  | x, .ref p => (match asS (H p) with
    | some xs => flatV x = true ∧ xs.all flatV = true ∧ Q (.bl (!inV x xs)) H
    | none => False)
  | _, _ => False
section
variable {X : Cx}
theorem op_ninF : OpR X (compareOp .NotIn) (fNin X.K) := op_imp (op_notIn_seq.or op_notIn_sign) fun x y H Q h => by
  unfold fNin at h
  split at h
  · exact .inr ⟨_, _, rfl, rfl, h⟩
  · split at h
    · rename_i e
      obtain ⟨h1, h2, h3⟩ := h
      exact .inl ⟨_, _, rfl, (asS_or e).elim (fun e => .inl (asL_seq e)) (fun e => .inr (asT_seq e)), h1, h2, h3⟩
    · exact h.elim
  · exact h.elim
/-- a slice of a text too -/
def fSl2 : V → Option Int → Option Int → Hp → VK → Prop := fun x lo hi H Q => match x with
  | .str z => z.length ≤ sizeLine ∧ Q (.str (Txt.slice z lo hi)) H
  | x => fSl x lo hi H Q
theorem sl_F2 : SlR X fSl2 := fun pins s σ H x v vl vu lo hi sl Q I rx hs pl pu h => by
  refine (C8.sl_txt.or sl_F) pins s σ H x v vl vu lo hi sl Q I rx hs pl pu ?_
  unfold fSl2 at h
  split at h
  · exact .inl ⟨_, rfl, h.1, h.2⟩
  · exact .inr h
def fStrI : RL := fun xs H Q => match xs with
  | [.int i] => i.natAbs.log2 < 1920 ∧ Q (.str (toString i)) H
  | _ => False
theorem c_strI : CallR X (.type "str") fStrI := fun pins s σ H xs us Q I r h => by
  refine call_str_int pins s σ H xs us Q I r ?_
  unfold fStrI at h
  split at h
  · exact ⟨_, rfl, h.1, h.2⟩
  · exact h.elim
end
section
variable {K : PySem.W.Frag} {H : Hp} {Q : VK} {σ : L2.St} {v : V} {D : Ends} {g : TG} {n : Nat}
theorem u_strI {te : TE} {R : It → Hp → Prop} : iStr te σ H R = te σ H fun v H1 => ∃ x, v = .str x ∧ R (Its x) H1 := rfl
theorem f_nin1 {c : Nat} {z : Str} : fNin K (.str ⟨⟨[c]⟩⟩) (.str z) H Q = Q (.bl (!decide (c ∈ z.cps.toList))) H := rfl
theorem f_in1 {c : Nat} {z : Str} : fIn K (.str ⟨⟨[c]⟩⟩) (.str z) H Q = Q (.bl (decide (c ∈ z.cps.toList))) H := rfl
theorem f_slS {z : Str} {lo hi : Option Int} : fSl2 (.str z) lo hi H Q = (z.length ≤ sizeLine ∧ Q (.str (Txt.slice z lo hi)) H) := rfl
theorem f_slR {p : Addr} {lo hi : Option Int} : fSl2 (.ref p) lo hi H Q = fSl (.ref p) lo hi H Q := rfl
theorem f_strI {i : Int} : fStrI [.int i] H Q = (i.natAbs.log2 < 1920 ∧ Q (.str (toString i)) H) := rfl
end
section
variable {K : PySem.W.Frag} {H : Hp} {σ : L2.St} {D : Ends} {g : TG} {n : Nat}
/-- a loop over a text's signs -/
theorem loop_str {z : Str} {tb : TS} (Pv : Nat → L2.St → Hp → Prop) (h0 : Pv 0 σ H)
    (hs : ∀ i c σ H, z.cps[i]? = some c → Pv i σ H → g (.str ⟨#[c]⟩) σ H fun σ2 H2 => tb { D with nx := Pv (i + 1), ct := Pv (i + 1), bk := D.nx } σ2 H2) (hd : ∀ σ H, Pv z.cps.size σ H → D.nx σ H) : Loop (Its z) g tb D σ H := by
  refine ⟨fun i m σ H => m = z.cps.size - i ∧ i ≤ z.cps.size ∧ Pv i σ H, ⟨z.cps.size, rfl, Nat.zero_le _, h0⟩, ?_⟩
  rintro i m σ H ⟨rfl, hi, p⟩
  by_cases hlt : i < z.cps.size
  · refine .inr ⟨hlt, Pv (i + 1), fun σ' H' p' => ⟨z.cps.size - (i + 1), by omega, rfl, hlt, p'⟩, fun x H' y => ?_⟩
    obtain ⟨e, c, hc, rfl⟩ := y
    subst e
    exact hs i c σ _ hc p
  · have e : i = z.cps.size := by omega
    subst e
    exact .inl ⟨Nat.le_refl _, hd σ H p⟩
/-- a list made of a text's signs, each by f -/
theorem made_mapStr {z : Str} {Dd : Addr} {te : TE} {vs : List Nat} {Qd : Hp → Prop} (f : Nat → V) (hD : H Dd = none) (hz : z.cps.size < sizeLine) (hw : ∀ x, wipe ((wipe σ vs).set n (some x)) vs = wipe σ vs)
    (he : ∀ (i c : Nat) (H' : Hp) (Q : VK), z.cps[i]? = some c → Sm H H' → (∀ H2, Sm H' H2 → Q (f c) H2) → te ((wipe σ vs).set n (some (.str ⟨#[c]⟩))) H' Q) (hd : ∀ H', Sm H H' → H' Dd = some (.lst (z.cps.toList.map f)) → Qd H') : Made (Its z) (gName n) tYes te vs σ Dd H Qd := by
  refine ⟨fun i m H' => m = z.cps.size - i ∧ i ≤ z.cps.size ∧ Sm H H' ∧ H' Dd = some (.lst ((z.cps.toList.take i).map f)), ⟨z.cps.size, rfl, Nat.zero_le _, sm_new (fun _ _ h => h) hD, upd_same⟩, ?_⟩
  rintro i m H' ⟨rfl, hi, s1, h1⟩
  by_cases hlt : i < z.cps.size
  · refine .inr ⟨hlt, fun H' => Sm H H' ∧ H' Dd = some (.lst ((z.cps.toList.take (i + 1)).map f)), fun H' p' => ⟨z.cps.size - (i + 1), by omega, rfl, hlt, p'⟩, fun x H2 y => ?_⟩
    obtain ⟨e, c, hc, rfl⟩ := y
    subst e
    refine ⟨hw _, ?_⟩
    refine iteT (B := Sm H H2 ∧ H2 Dd = some (.lst ((z.cps.toList.take (i + 1)).map f))) ?_
    refine he i c _ _ hc s1 fun H3 s3 => ⟨(z.cps.toList.take i).map f, s3 _ _ h1, ?_, ?_, ?_⟩
    · rw [List.length_map, List.length_take]
      have : z.cps.toList.length = z.cps.size := Array.length_toList
      omega
    · exact sm_put (fun b o q => s3 b o (s1 b o q)) hD
    · have hc2 : z.cps.toList[i]? = some c := by rw [Array.getElem?_toList]; exact hc
      rw [upd_same, take_map_succ hc2]
  · have e : i = z.cps.size := by omega
    subst e
    refine .inl ⟨Nat.le_refl _, hd _ s1 ?_⟩
    have : z.cps.toList.length = z.cps.size := Array.length_toList
    rw [h1, ← this, List.take_length]
end
end XB

/-! Empty dicts among the data; a thing of the heap == a text. -/
namespace XB
open PySem PySem.Spec PySem.Calls PyProof.Rows PySem.W
section
variable {M : Model} {prog : Program} {w : World} {A : Around} {E : Value → Shared → Prop} {s : Shared}
theorem dict_declines {a : Addr} {z : Str} {u : Tok} (da : s.TypeIs (.ref a) "dict") {Q : Value → Shared → Prop} (h : Q .notImplemented s) : wpAny (model prog w) A (call (.builtin "dict.__eq__") [.ref a, .str z u]) Q E s := by
  refine wpAny_call_entry PySem.F.slot_dict_eq da PySem.F.entry_dict_eq ?_ (PySem.F.args_dict_eq_2 _ _)
  show wpAny _ _ (Builtin.Dict.dictSlotArgs "__eq__" ⟨[.ref a, .str z u], []⟩ >>= _) _ _ s
  refine wpAny_bind ?_
  unfold Builtin.Dict.dictSlotArgs
  refine wpAny_bind (wpAny_notOrdered_dict da ?_)
  show wpAny _ _ (pure (Value.ref a, Value.str z u)) _ _ s
  refine wpAny_pure ?_
  refine wpAny_bind (wpAny_isInstance (T := "str") (typeIs_str s z u) PySem.F.sub_str_dict ?_)
  simp only [Bool.not_false, if_true]
  obtain ⟨hp, g, d, tk, os⟩ := s
  wp_walk
  exact ⟨_, rfl, h⟩
theorem str_declines (z : Str) (u : Tok) (a : Addr) (ob : Obj) (hd : ∃ es ep, ob.data = .dict es ep) : Meets (Builtin.«str.__eq__» ⟨[.str z u, .ref a], []⟩) (fun _ R s => s.heap.get? a = some ob ∧ R (.ok (.ret .notImplemented)) s) := by
  obtain ⟨es, ep, hd⟩ := hd
  obtain ⟨c, dd, dt, sl⟩ := ob
  simp only at hd
  subst hd
  exact .of_wp fun prog w A R s h => by
    obtain ⟨hp, g, d, tk, os⟩ := s
    obtain ⟨hl, h⟩ := h
    wp_walk using wpAny_loadPart' hl, wpAny_load hl
    exact ⟨_, rfl, h⟩
end
section
variable {prog : Program} {w : World} {A : Around} {s : Shared}
theorem rc_dict_str {a : Addr} {ob : Obj} (z : Str) (u : Tok) (da : s.TypeIs (.ref a) "dict") (ha : s.heap.get? a = some ob) (hd : ∃ es ep, ob.data = .dict es ep) (hu : A.units < cLine) {E Q : Value → Shared → Prop} (h : Q (.bool false) s) :
    wpAny (model prog w) A (richCompare .Eq (.ref a) (.str z u)) Q E s :=
  SeqAt.rc_eq_decline_or (k := false) da (typeIs_str s z u) (by decide) PySem.F.sub_str_dict PySem.F.slot_dict_eq PySem.F.slot_str_eq_refl
    (fun _ hq => dict_declines da hq)
    (fun _ hq => call_meets PySem.F.slot_str_eq_refl (typeIs_str s z u) PySem.F.entry_str_eq (PySem.F.args_str_eq_2 _ _) (str_declines z u a ob hd) ⟨ha, hq⟩)
    (fun _ hq => wpAny_of_eq (rfl : isSame (.ref a) (.str z u) = pure false) hq) (.inr hu) h
end
open L2
section
variable {X : Cx}
/-- what stands in the heap == a text: False -/
def rEqRS (K : PySem.W.Frag) : R2 := fun x y H Q => ∃ p z, x = .ref p ∧ y = .str z ∧ ((∃ xs, SqL K H p xs) ∨ (∃ xs, SqT K H p xs) ∨ ∃ kvs, H p = some (.dK kvs)) ∧ Q (.bl false) H
theorem op_eqRS (hu : X.A.units < cLine) : OpR X (compareOp .Eq) (rEqRS X.K) := by
  intro pins s σ H x y v u Q I rx ry h
  obtain ⟨p, z, rfl, rfl, h, q⟩ := h
  cases (show v = Value.ref p from rx)
  obtain ⟨t, rfl⟩ : ∃ t, u = .str z t := ry
  rcases h with ⟨xs, h⟩ | ⟨xs, h⟩ | ⟨kvs, h⟩
  · obtain ⟨its, _, pl, _⟩ := I.list h
    exact SeqAt.RcAt.list_str z t pl.isList hu X.prog X.w _ _ ⟨.bl false, H, I, rfl, q⟩
  · obtain ⟨its, _, pl, _⟩ := I.tuple h
    exact SeqAt.RcAt.tuple_str z t pl hu X.prog X.w _ _ ⟨.bl false, H, I, rfl, q⟩
  · obtain ⟨_, ya, va, ra, da⟩ := (show ObjOk X.prog X.w H s.heap p (.dK kvs) from I.hok p _ h)
    obtain ⟨o, es, ep, ho, _, hd, _⟩ := id da
    exact rc_dict_str z t da.typeIs ho ⟨es, ep, hd⟩ hu ⟨.bl false, H, I, rfl, q⟩
def fEqX (K : PySem.W.Frag) : R2 := fun x y H Q => match x, y with
  | .ref p, .str _ => (match H p with
    | some (.dK _) => Q (.bl false) H
    | _ => (match asS (H p) with
      | some _ => Q (.bl false) H
      | none => False))
  | x, y => fEq K x y H Q
theorem op_eqX (hu : X.A.units + 64 < cLine) : OpR X (compareOp .Eq) (fEqX X.K) := op_imp ((op_eqRS (by omega)).or (op_eqF hu)) fun x y H Q h => by
  unfold fEqX at h
  split at h
  · rename_i p z
    split at h
    · rename_i kvs e
      exact .inl ⟨p, z, rfl, rfl, .inr (.inr ⟨kvs, e⟩), h⟩
    · split at h
      · rename_i xs e
        refine .inl ⟨p, z, rfl, rfl, ?_, h⟩
        rcases asS_or e with e | e
        · exact .inl ⟨xs, asL_seq e⟩
        · exact .inr (.inl ⟨xs, asT_seq e⟩)
      · exact h.elim
  · exact .inr h
/-- two tuples put together -/
def fAddT : R2 := fun x y H Q => match x, y with
  | .ref a, .ref b => (match asT (H a), asT (H b) with
    | some xs, some ys => xs ≠ [] ∧ ys ≠ [] ∧ xs.length + ys.length ≤ sizeLine ∧ ∀ p, H p = none → Q (.ref p) (upd H p (.tup (xs ++ ys)))
    | _, _ => False)
  | _, _ => False
theorem op_addT : OpR X (binaryOp .Add) fAddT := op_imp op_catT fun x y H Q h => by
  unfold fAddT at h
  split at h
  · split at h
    · rename_i e1 e2
      exact ⟨_, _, _, _, rfl, rfl, asT_seq e1, asT_seq e2, h.1, h.2.2.1, fun z => absurd z h.2.1, fun _ => h.2.2.2⟩
    · exact h.elim
  · exact h.elim
/-- len, of a dict too -/
def fLen2 : RL := fun xs H Q => match xs with
  | [.ref p] => (match H p with
    | some (.dK kvs) => Q (.int (kvs.length : Nat)) H
    | _ => (match asS (H p) with
      | some ys => Q (.int (ys.length : Nat)) H
      | none => False))
  | xs => fLen xs H Q
theorem c_len2 : CallR X (.builtin "len") fLen2 := call_imp (c_len.or L2.call_lenD) fun xs H Q h => by
  unfold fLen2 at h
  split at h
  · rename_i p
    split at h
    · rename_i kvs e
      exact .inr ⟨p, kvs, rfl, e, h⟩
    · refine .inl ?_
      show (match asS (H p) with
        | some ys => Q (.int (ys.length : Nat)) H
        | none => False)
      exact h
  · exact .inl h
end
section
variable {K : PySem.W.Frag} {H : Hp} {Q : VK} {σ : L2.St} {D : Ends} {g : TG} {tb : TS} {n : Nat}
theorem f_lenL {p : Addr} {xs : List V} (h : asS (H p) = some xs) : fLen2 [.ref p] H Q = Q (.int (xs.length : Nat)) H := by
  unfold fLen2
  dsimp only
  split
  · rename_i e
    rw [e] at h
    cases h
  · rw [h]
theorem f_lenD {p : Addr} {kvs : List (Key × V)} (h : H p = some (.dK kvs)) : fLen2 [.ref p] H Q = Q (.int (kvs.length : Nat)) H := by
  unfold fLen2
  dsimp only
  rw [h]
theorem f_eqRS {p : Addr} {z : Str} {xs : List V} (h : asS (H p) = some xs) : fEqX K (.ref p) (.str z) H Q = Q (.bl false) H := by
  unfold fEqX
  dsimp only
  split
  · rfl
  · rw [h]
theorem f_eqDS {p : Addr} {z : Str} {kvs : List (Key × V)} (h : H p = some (.dK kvs)) : fEqX K (.ref p) (.str z) H Q = Q (.bl false) H := by
  unfold fEqX
  dsimp only
  rw [h]
theorem f_eqXS {a b : Str} : fEqX K (.str a) (.str b) H Q = Q (.bl (decide (a = b))) H := rfl
theorem f_eqXn {b : Str} : fEqX K .non (.str b) H Q = (scal V.non (.str b) = true ∧ Q (.bl (decide (V.non = .str b))) H) := rfl
theorem f_eqXb {a : Bool} {b : Str} : fEqX K (.bl a) (.str b) H Q = (scal (V.bl a) (.str b) = true ∧ Q (.bl (decide (V.bl a = .str b))) H) := rfl
theorem f_eqXi {a : Int} {b : Str} : fEqX K (.int a) (.str b) H Q = (scal (V.int a) (.str b) = true ∧ Q (.bl (decide (V.int a = .str b))) H) := rfl
theorem f_addT {a b : Addr} {xs ys : List V} (h1 : asT (H a) = some xs) (h2 : asT (H b) = some ys) : fAddT (.ref a) (.ref b) H Q = (xs ≠ [] ∧ ys ≠ [] ∧ xs.length + ys.length ≤ sizeLine ∧ ∀ p, H p = none → Q (.ref p) (upd H p (.tup (xs ++ ys)))) := by
  unfold fAddT
  dsimp only
  rw [h1, h2]
theorem u_tupI {te : TE} {R : It → Hp → Prop} : iTup K te σ H R = te σ H fun x H1 => ∃ a, x = .ref a ∧ (∃ xs, SqT K H1 a xs) ∧ R (Itt K a) H1 := rfl
theorem loop_tup {a : Addr} {xs : List V} {g : TG} {tb : TS} {D : Ends} (Pv : Nat → L2.St → Hp → Prop) (h0 : Pv 0 σ H) (hl : ∀ i σ H, i ≤ xs.length → Pv i σ H → asT (H a) = some xs)
    (hs : ∀ i x σ H, xs[i]? = some x → Pv i σ H → g x σ H fun σ2 H2 => tb { D with nx := Pv (i + 1), ct := Pv (i + 1), bk := D.nx } σ2 H2) (hd : ∀ σ H, Pv xs.length σ H → D.nx σ H) : Loop (Itt K a) g tb D σ H :=
  for_tup (K := K) Pv h0 (fun i σ H h p => asT_seq (hl i σ H h p)) hs hd
/-- a comprehension over a tuple, one value for each item -/
theorem made_mapT {a Dd : Addr} {xs : List V} {te : TE} {vs : List Nat} {Qd : Hp → Prop} (f : V → V) (hl : asT (H a) = some xs) (hD : H Dd = none) (hz : xs.length < sizeLine) (hw : ∀ x, wipe ((wipe σ vs).set n (some x)) vs = wipe σ vs)
    (he : ∀ (i : Nat) (x : V) (H' : Hp) (Q : VK), xs[i]? = some x → Sm H H' → (∀ H2, Sm H' H2 → Q (f x) H2) → te ((wipe σ vs).set n (some x)) H' Q) (hd : ∀ H', Sm H H' → H' Dd = some (.lst (xs.map f)) → Qd H') : Made (Itt K a) (gName n) tYes te vs σ Dd H Qd := by
  refine lc_tup (K := K) (fun i H' => Sm H H' ∧ H' Dd = some (.lst ((xs.take i).map f))) ⟨sm_new (fun _ _ h => h) hD, upd_same⟩ (fun i H' _ p => asT_seq (sm_T p.1 hl)) (fun i x H' hx p => ⟨hw x, ?_⟩) fun H' p => hd H' p.1 (by rw [← List.take_length (l := xs)]; exact p.2)
  refine iteT (B := Sm H H' ∧ H' Dd = some (.lst ((xs.take (i + 1)).map f))) ?_
  refine he i x H' _ hx p.1 fun H2 s2 => ⟨(xs.take i).map f, s2 _ _ p.2, ?_, ?_, ?_⟩
  · rw [List.length_map, List.length_take]; omega
  · exact sm_put (fun b o z => s2 b o (p.1 b o z)) hD
  · rw [upd_same, take_map_succ hx]
/-- .. over a list, by the data that its items stand for -/
theorem made_mapD {a Dd : Addr} {xs : List V} {ds : List PyData} {te : TE} {vs : List Nat} {Qd : Hp → Prop} (f : PyData → V) (hl : asL (H a) = some xs) (hD : H Dd = none) (ll : xs.length = ds.length) (hz : ds.length < sizeLine) (hw : ∀ x, wipe ((wipe σ vs).set n (some x)) vs = wipe σ vs)
    (he : ∀ (i : Nat) (x : V) (d : PyData) (H' : Hp) (Q : VK), xs[i]? = some x → ds[i]? = some d → Sm H H' → (∀ H2, Sm H' H2 → Q (f d) H2) → te ((wipe σ vs).set n (some x)) H' Q) (hd : ∀ H', Sm H H' → H' Dd = some (.lst (ds.map f)) → Qd H') : Made (Itl K a) (gName n) tYes te vs σ Dd H Qd := by
  refine made_list (fun i H' => Sm H H' ∧ H' Dd = some (.lst ((ds.take i).map f))) ⟨sm_new (fun _ _ h => h) hD, upd_same⟩ (fun i H' _ p => sm_L p.1 hl) (fun i x H' hx p => ⟨hw x, ?_⟩) fun H' p => hd H' p.1 (by rw [← List.take_length (l := ds), ← ll]; exact p.2)
  have hi := (List.getElem?_eq_some_iff.mp hx).1
  have hdi : ds[i]? = some (ds[i]'(by omega)) := by simp
  refine iteT (B := Sm H H' ∧ H' Dd = some (.lst ((ds.take (i + 1)).map f))) ?_
  refine he i x _ H' _ hx hdi p.1 fun H2 s2 => ⟨(ds.take i).map f, s2 _ _ p.2, ?_, ?_, ?_⟩
  · rw [List.length_map, List.length_take]; omega
  · exact sm_put (fun b o z => s2 b o (p.1 b o z)) hD
  · rw [upd_same, take_map_succ hdi]
theorem at_last {xs : List V} {v : V} {q : V → Prop} (h : xs[xs.length - 1]? = some v) (hq : q v) : atV xs (-1) q := by
  have hl := (List.getElem?_eq_some_iff.mp h).1
  have e : atI xs (-1) = some v := by
    unfold atI ixN
    rw [if_neg (by omega), if_pos (by omega)]
    have e2 : (-1 + ((xs.length : Nat) : Int)).toNat = xs.length - 1 := by omega
    simp only [e2, Option.bind_some]
    exact h
  unfold atV
  rw [e]
  exact hq
theorem asS_dK {kvs : List (Key × V)} : asS (some (.dK kvs)) = none := rfl
/-- a walk over an empty dict -/
theorem lock_empty {d : Addr} (hσ : σ[n]? = some (some (.ref d))) (hd : H d = some (.dK [])) (q : D.nx σ H) : tLock (tFor (iKeys (tVar n)) g tb) D σ H := by
  refine ⟨d, _, hd, (by trivial), fun od => ⟨_, hσ, d, od, rfl, .inl ⟨[], upd_same, ?_⟩⟩⟩
  refine ⟨fun i m σ' H' => σ' = σ ∧ H' = upd H d (.frz od (.dK [])), ⟨0, rfl, rfl⟩, ?_⟩
  rintro i m σ' H' ⟨rfl, rfl⟩
  refine .inl ⟨⟨upd_same, Nat.zero_le _⟩, upd_same, ?_⟩
  have e : upd (upd H d (.frz od (.dK []))) d (.dK []) = H := by
    rw [upd_upd]
    funext b
    by_cases hb : b = d
    · rw [hb, upd_same, hd]
    · rw [upd_ne hb]
  rw [e]
  exact q
end
end XB

/-! The helpers that draw. -/
namespace XB
open PySem L2
theorem upd_ne' {H : Hp} {a b : Addr} {o : HO} (h : a ≠ b) : upd H a o b = H b := upd_ne (Ne.symm h)
local macro_rules | `(tactic| walk_at "s") => `(tactic| try simp only [u_var, u_c, u_op, u_un, u_nil, u_cons, u_cb, u_call, u_callS, u_tup, u_lst, u_test, u_B, u_and, u_or, u_not, u_andV, u_orV, u_notV, u_ifE, u_chain, u_sl, u_noPart, u_part, u_bm, u_bm0, u_rev, u_lc, u_try, u_sui, u_sui0, u_unb_rt, u_unb_nx, u_xf, u_WE, w_nil, w_cons, u_raise, u_rng1, u_rng2, u_next, u_ret, u_gname, u_gnil, u_gcons, u_gsub, u_gtup,
  f_add, f_addS, f_addR, f_sub, f_mul, f_mulR, f_mod, f_div, f_pow, f_neg, f_cmp, f_eq, f_eqB, f_eqS, f_ne, f_neB, f_neS, f_isN, f_notN, f_isB, f_ix, f_ixS, f_int, f_intB, f_len, f_lenS, f_max, f_min, f_abs, f_list, f_tuple, f_all, f_sum, f_isi, f_isiT, f_append, f_insert, f_pop, f_sl, f_set,
  kitS, tys, List.isEmpty_cons, Option.map_some, kt_NoneType_int, kt_NoneType_bool, kt_NoneType_str, kt_NoneType_list, kt_NoneType_tuple, kt_NoneType_dict, kt_int_int, kt_int_bool, kt_int_str, kt_int_list, kt_int_tuple, kt_int_dict, kt_bool_int, kt_bool_bool, kt_bool_str, kt_bool_list, kt_bool_tuple, kt_bool_dict, kt_str_int, kt_str_bool, kt_str_str, kt_str_list, kt_str_tuple, kt_str_dict, kt_list_int, kt_list_bool, kt_list_str, kt_list_list, kt_list_tuple, kt_list_dict, kt_tuple_int, kt_tuple_bool, kt_tuple_str, kt_tuple_list, kt_tuple_tuple, kt_tuple_dict, kt_dict_int, kt_dict_bool, kt_dict_str, kt_dict_list, kt_dict_tuple, kt_dict_dict, asL_lst, asL_frz, asL_tup, asT_tup, asS_lst, asS_frz, asS_tup, tyN_non, tyN_bl, tyN_int, tyN_str, atV_lit, ixN_lit, upd_same, upd_ne, upd_ne',
  List.getElem?_cons_zero, List.getElem?_cons_succ, List.set_cons_zero, List.set_cons_succ, List.append_nil, List.length_cons, List.length_nil, Option.some.injEq, exists_eq_left', exists_eq_left, exists_and_left, V.bl.injEq, V.int.injEq, V.str.injEq, V.ref.injEq, Bool.not_eq_true, Bool.not_true, Bool.not_false, decide_true, decide_false, decide_eq_true_eq, decide_eq_false_iff_not, Bool.false_eq_true, if_true, if_false, ite_true, ite_false, reduceCtorEq, true_and, and_true, Nat.reduceAdd, Nat.reduceLT, Nat.zero_add, ne_eq, not_false_eq_true, not_true_eq_false, List.cons.injEq, and_assoc])
local macro_rules | `(tactic| walk_at "S") => `(tactic| try simp only [u_var, u_c, u_op, u_un, u_nil, u_cons, u_cb, u_call, u_callS, u_tup, u_lst, u_test, u_B, u_and, u_or, u_not, u_andV, u_orV, u_notV, u_ifE, u_chain, u_sl, u_noPart, u_part, u_bm, u_bm0, u_rev, u_lc, u_try, u_sui, u_sui0, u_unb_rt, u_unb_nx, u_xf, u_WE, w_nil, w_cons, u_raise, u_rng1, u_rng2, u_next, u_ret, u_gname, u_gnil, u_gcons, u_gsub, u_gtup,
  f_add, f_addS, f_addR, f_sub, f_mul, f_mulR, f_mod, f_div, f_pow, f_neg, f_cmp, f_eq, f_eqB, f_eqS, f_ne, f_neB, f_neS, f_isN, f_notN, f_isB, f_ix, f_ixS, f_int, f_intB, f_len, f_lenS, f_max, f_min, f_abs, f_list, f_tuple, f_all, f_sum, f_isi, f_isiT, f_append, f_insert, f_pop, f_sl, f_set,
  kitS, tys, List.isEmpty_cons, Option.map_some, kt_NoneType_int, kt_NoneType_bool, kt_NoneType_str, kt_NoneType_list, kt_NoneType_tuple, kt_NoneType_dict, kt_int_int, kt_int_bool, kt_int_str, kt_int_list, kt_int_tuple, kt_int_dict, kt_bool_int, kt_bool_bool, kt_bool_str, kt_bool_list, kt_bool_tuple, kt_bool_dict, kt_str_int, kt_str_bool, kt_str_str, kt_str_list, kt_str_tuple, kt_str_dict, kt_list_int, kt_list_bool, kt_list_str, kt_list_list, kt_list_tuple, kt_list_dict, kt_tuple_int, kt_tuple_bool, kt_tuple_str, kt_tuple_list, kt_tuple_tuple, kt_tuple_dict, kt_dict_int, kt_dict_bool, kt_dict_str, kt_dict_list, kt_dict_tuple, kt_dict_dict, asL_lst, asL_frz, asL_tup, asT_tup, asS_lst, asS_frz, asS_tup, tyN_non, tyN_bl, tyN_int, tyN_str, atV_lit, ixN_lit, upd_same, upd_ne, upd_ne',
  List.getElem?_cons_zero, List.getElem?_cons_succ, List.set_cons_zero, List.set_cons_succ, List.append_nil, List.length_cons, List.length_nil, Option.some.injEq, exists_eq_left', exists_eq_left, exists_and_left, V.bl.injEq, V.int.injEq, V.str.injEq, V.ref.injEq, Bool.not_eq_true, Bool.not_true, Bool.not_false, decide_true, decide_false, decide_eq_true_eq, decide_eq_false_iff_not, Bool.false_eq_true, if_true, if_false, ite_true, ite_false, reduceCtorEq, true_and, and_true, Nat.reduceAdd, Nat.reduceLT, Nat.zero_add, ne_eq, not_false_eq_true, not_true_eq_false, List.cons.injEq, and_assoc, *])
/-- all that stood stands, but for what stood at st; and st goes on with the numbers that it had -/
def Kp (st : Addr) (H H' : Hp) : Prop := (∀ a o, a ≠ st → H a = some o → H' a = some o) ∧ ∀ c r, H st = some (.lst (c :: r)) → ∃ r', H' st = some (.lst (c :: r'))
theorem Kp.refl (st : Addr) (H : Hp) : Kp st H H := ⟨fun _ _ _ h => h, fun _ r h => ⟨r, h⟩⟩
theorem Kp.trans {st : Addr} {H H1 H2 : Hp} (a : Kp st H H1) (b : Kp st H1 H2) : Kp st H H2 := ⟨fun x o n h => b.1 x o n (a.1 x o n h), fun c r h => by
  obtain ⟨r1, h1⟩ := a.2 c r h
  exact b.2 c r1 h1⟩
theorem Kp.put {st : Addr} {H H1 : Hp} {x : V} {r r' : List V} (a : Kp st H H1) (e : H1 st = some (.lst (x :: r))) : Kp st H (upd H1 st (.lst (x :: r'))) := ⟨fun x u n h => by
  rw [upd_ne n]
  exact a.1 x u n h, fun c z h => by
  obtain ⟨r1, h1⟩ := a.2 c z h
  rw [e] at h1
  cases h1
  exact ⟨r', upd_same⟩⟩
theorem Kp.new {st p : Addr} {H H1 : Hp} {o : HO} (a : Kp st H H1) (h : H1 p = none) : Kp st H (upd H1 p o) := ⟨fun x u n e => by
  rw [upd_ne (ne_of_none (a.1 x u n e) h)]
  exact a.1 x u n e, fun c z e => by
  obtain ⟨r1, h1⟩ := a.2 c z e
  exact ⟨r1, by rw [upd_ne (ne_of_none h1 h)]; exact h1⟩⟩
/-- the store of the draws: the script's numbers, the place, what is left of a great one, the count, the seed -/
def StL (H : Hp) (st c : Addr) (ns : List Int) (a b d e : Int) : Prop :=
  H st = some (.lst [.ref c, .int a, .int b, .int d, .int e]) ∧ H c = some (.lst (ns.map V.int)) ∧ c ≠ st ∧ 0 ≤ a ∧ ns.length ≤ 1000
def StAt (H : Hp) (st : Addr) : Prop := ∃ (c : Addr) (ns : List Int) (a b d e : Int), StL H st c ns a b d e
theorem StAt.new {H : Hp} {st p : Addr} {o : HO} (s : StAt H st) (h : H p = none) : StAt (upd H p o) st := by
  obtain ⟨c, ns, a, b, d, e, h1, h2, h3, h4, h5⟩ := s
  exact ⟨c, ns, a, b, d, e, by rw [upd_ne (ne_of_none h1 h)]; exact h1, by rw [upd_ne (ne_of_none h2 h)]; exact h2, h3, h4, h5⟩
theorem Kp.asS {st p : Addr} {H H' : Hp} {xs : List V} (k : Kp st H H') (n : p ≠ st) (h : XB.asS (H p) = some xs) : XB.asS (H' p) = some xs := by
  cases e : H p with
  | none => rw [e] at h; cases h
  | some o => rw [k.1 p o n e, ← e]; exact h
theorem Kp.asL {st p : Addr} {H H' : Hp} {xs : List V} (k : Kp st H H') (n : p ≠ st) (h : XB.asL (H p) = some xs) : XB.asL (H' p) = some xs := by
  cases e : H p with
  | none => rw [e] at h; cases h
  | some o => rw [k.1 p o n e, ← e]; exact h
theorem StAt.sm {H H' : Hp} {st : Addr} (s : StAt H st) (k : Sm H H') : StAt H' st := by
  obtain ⟨c, ns, a, b, d, e, h1, h2, h3, h4, h5⟩ := s
  exact ⟨c, ns, a, b, d, e, k _ _ h1, k _ _ h2, h3, h4, h5⟩
theorem StAt.ne {H : Hp} {st p : Addr} (s : StAt H st) (h : H p = none) : p ≠ st := by
  obtain ⟨c, ns, a, b, d, e, h1, _⟩ := s
  exact (ne_of_none h1 h).symm
theorem kp_sm {H H' : Hp} {st : Addr} (k : Sm H H') : Kp st H H' := ⟨fun a o _ h => k a o h, fun c r h => ⟨r, k _ _ h⟩⟩
structure CA where
  (CrossError BadShape BadText BadErrand : Addr)
theorem below {base many : Int} (h : 0 < base) (hb : base = many ∨ base = 1) (x : Int) : x % base < many ∨ x % base = 0 := by
  have h1 := Int.emod_lt_of_pos x h
  have h2 := Int.emod_nonneg x (show base ≠ 0 by omega)
  rcases hb with e | e
  · rw [← e]; exact .inl h1
  · rw [e] at h1 h2 ⊢; exact .inr (by omega)
theorem log_small {base : Int} (h : 0 < base) (hb : base < 2 ^ 64) : base.natAbs.log2 < 9000 := by
  have h1 : base.natAbs < 2 ^ 64 := by omega
  have h2 := (Nat.log2_lt (n := base.natAbs) (k := 64) (by omega)).mpr h1
  omega
def sp_l_mixed (K : PySem.W.Frag) (C : CA) : Sp := fun vs H Q _ => ∃ a k : Int, vs = [.int a, .int k] ∧ ∀ r : Int, 0 ≤ r → r < 2147483629 → Q (.int r) H
def rd_l_mixed (K : PySem.W.Frag) (C : CA) (E : XK) : TS :=
  (tSeq (tAsg (tOp fMod (tCB fInt (tCons (tOp fAdd (tOp fAdd (tOp fMul (tCB fInt (tCons (tVar 0) tNil)) (tC (.int 48271))) (tOp fMul (tVar 1) (tC (.int 69621)))) (tC (.int 1))) tNil)) (tC (.int 2147483647))) (gName 2)) (tSeq (tAsg (tOp fMod (tCB fInt (tCons (tOp fAdd (tOp fAdd (tOp fMul (tVar 2) (tVar 2)) (tOp fMul (tVar 1) (tC (.int 40692)))) (tC (.int 7))) tNil)) (tC (.int 2147483399))) (gName 3)) (tRet (tOp fMod (tCB fInt (tCons (tOp fAdd (tOp fMul (tVar 3) (tVar 3)) (tVar 2)) tNil)) (tC (.int 2147483629))))))
theorem pure_l_mixed {K : PySem.W.Frag} {C : CA} (vs : List V) (H : Hp) (Q : VK) (E : XK) (h : sp_l_mixed K C vs H Q E) : rd_l_mixed K C E { nx := fun _ H' => Q .non H', rt := Q } (start [("cell" : Str), ("k" : Str), ("first" : Str), ("second" : Str)] vs) H := by
  obtain ⟨a, k, rfl, q⟩ := h
  show rd_l_mixed K C E _ [some (.int a), some (.int k), none, none] H
  unfold rd_l_mixed
  refine q_asg ?_
  walk_at "s"
  refine ⟨.inr ⟨by decide, by decide⟩, .inr ⟨by decide, by decide⟩, by decide, ?_⟩
  refine q_asg ?_
  have h1 := Int.emod_nonneg (a * 48271 + k * 69621 + 1) (show (2147483647 : Int) ≠ 0 by decide)
  have h2 := Int.emod_lt_of_pos (a * 48271 + k * 69621 + 1) (show (0 : Int) < 2147483647 by decide)
  generalize (a * 48271 + k * 69621 + 1) % 2147483647 = f at h1 h2 ⊢
  walk_at "s"
  refine ⟨.inl ⟨by omega, by omega⟩, .inr ⟨by decide, by decide⟩, by decide, ?_⟩
  have h3 := Int.emod_nonneg (f * f + k * 40692 + 7) (show (2147483399 : Int) ≠ 0 by decide)
  have h4 := Int.emod_lt_of_pos (f * f + k * 40692 + 7) (show (0 : Int) < 2147483399 by decide)
  generalize (f * f + k * 40692 + 7) % 2147483399 = s at h3 h4 ⊢
  refine ⟨.inl ⟨by omega, by omega⟩, by decide, ?_⟩
  exact q _ (Int.emod_nonneg _ (by decide)) (Int.emod_lt_of_pos _ (by decide))
def sp_l_take (K : PySem.W.Frag) (C : CA) : Sp := fun vs H Q _ => ∃ (st : Addr) (many : Int), vs = [.ref st, .int many] ∧ StAt H st ∧ many < 2 ^ 64 ∧
  ∀ (r : Int) (H' : Hp), 0 ≤ r → (r < many ∨ r = 0) → Kp st H H' → StAt H' st → Q (.int r) H'
def rd_l_take (K : PySem.W.Frag) (C : CA) (E : XK) : TS :=
  (tSeq (tAsg (tCB fMax (tCons (tC (.int 1)) (tCons (tVar 1) tNil))) (gName 2)) (tSeq (tAsg (tOp fAdd (tOp fIx (tVar 0) (tC (.int 3))) (tC (.int 1))) (gSub (tVar 0) (tC (.int 3)) fSet)) (Evl.tCut (tIfS (tAnd (tTest (tOp (fEq K) (tOp fIx (tVar 0) (tC (.int 2))) (tC (.int 0)))) (tTest (tOp fLt (tOp fIx (tVar 0) (tC (.int 1))) (tCB fLen (tCons (tOp fIx (tVar 0) (tC (.int 0))) tNil))))) (tSeq (tAsg (tCB fInt (tCons (tOp fIx (tOp fIx (tVar 0) (tC (.int 0))) (tOp fIx (tVar 0) (tC (.int 1)))) tNil)) (gName 3)) (tSeq (tAsg (tOp fAdd (tOp fIx (tVar 0) (tC (.int 1))) (tC (.int 1))) (gSub (tVar 0) (tC (.int 1)) fSet)) (tSeq (tIfS (tTest (tOp fLt (tVar 3) (tOp fPow (tC (.int 10)) (tC (.int 18))))) (tRet (tOp fMod (tCB fInt (tCons (tCallS (sp_l_mixed K C) (fun _ => E0) (tCons (tVar 3) (tCons (tOp fIx (tVar 0) (tC (.int 3))) tNil))) tNil)) (tVar 2))) tNext) (tAsg (tVar 3) (gSub (tVar 0) (tC (.int 2)) fSet))))) tNext) (tSeq (tIfS (tTest (tOp (fEq K) (tOp fIx (tVar 0) (tC (.int 2))) (tC (.int 0)))) (tRet (tOp fMod (tCB fInt (tCons (tCallS (sp_l_mixed K C) (fun _ => E0) (tCons (tOp fIx (tVar 0) (tC (.int 4))) (tCons (tOp fIx (tVar 0) (tC (.int 3))) tNil))) tNil)) (tVar 2))) tNext) (tSeq (tAsg (tOp fMod (tCB fInt (tCons (tOp fIx (tVar 0) (tC (.int 2))) tNil)) (tVar 2)) (gName 4)) (tSeq (tAsg (tOp fDiv (tCB fInt (tCons (tOp fIx (tVar 0) (tC (.int 2))) tNil)) (tVar 2)) (gSub (tVar 0) (tC (.int 2)) fSet)) (tRet (tVar 4))))))))
theorem pure_l_take {K : PySem.W.Frag} {C : CA} (vs : List V) (H : Hp) (Q : VK) (E : XK) (h : sp_l_take K C vs H Q E) : rd_l_take K C E { nx := fun _ H' => Q .non H', rt := Q } (start [("store" : Str), ("many" : Str), ("base" : Str), ("cell" : Str), ("digit" : Str)] vs) H := by
  obtain ⟨st, many, rfl, ⟨c, ns, a, b, d, e, h1, h2, h3, h4, h5⟩, hm, q⟩ := h
  show rd_l_take K C E _ [some (.ref st), some (.int many), none, none, none] H
  unfold rd_l_take
  refine q_asg ?_
  walk_at "s"
  have hb1 : 0 < max 1 many := by omega
  have hb2 : max 1 many = many ∨ max 1 many = 1 := by omega
  have hb3 : max 1 many < 2 ^ 64 := by omega
  generalize max 1 many = base at hb1 hb2 hb3 ⊢
  refine q_asg ?_
  walk_at "S"
  have k1 : Kp st H (upd H st (HO.lst [V.ref c, V.int a, V.int b, V.int (d + 1), V.int e])) := (Kp.refl st H).put h1
  refine ⟨fun σ' H' => ∃ a' b' d' v, σ' = [some (.ref st), some (.int many), some (.int base), v, none] ∧ StL H' st c ns a' b' d' e ∧ Kp st H H', q_if1 ?_, ?_⟩
  · walk_at "S"
    by_cases cb : b = 0
    · by_cases ca : a < (List.map V.int ns).length
      · rw [if_pos cb, if_pos ca]
        subst cb
        rw [List.length_map] at ca
        obtain ⟨n, rfl⟩ : ∃ n : Nat, a = n := ⟨a.toNat, by omega⟩
        have hn : n < ns.length := by omega
        have hx : (List.map V.int ns)[n]? = some (V.int ns[n]) := by simp [hn]
        refine q_asg ?_
        walk_at "S"
        refine at_nat hx ?_
        walk_at "S"
        refine q_asg ?_
        walk_at "S"
        refine q_if ?_
        walk_at "S"
        refine ⟨⟨by decide, by decide, by decide⟩, ?_⟩
        split
        · walk_at "S"
          refine ⟨_, _, rfl, fun r r0 r1 => ?_⟩
          walk_at "s"
          refine ⟨hb1, ?_⟩
          refine q _ _ (Int.emod_nonneg r (show base ≠ 0 by omega)) ?_ (k1.put upd_same) ⟨c, ns, _, _, _, _, upd_same, ?_, h3, ?_, h5⟩
          · exact below hb1 hb2 r
          · rw [upd_ne h3, upd_ne h3]; exact h2
          · omega
        · walk_at "S"
          refine q_asg1 ?_
          walk_at "S"
          refine ⟨_, _, _, ⟨upd_same, ?_, h3, ?_, h5⟩, (k1.put upd_same).put upd_same⟩
          · rw [upd_ne h3, upd_ne h3, upd_ne h3]; exact h2
          · omega
      · rw [if_pos cb, if_neg ca]
        walk_at "s"
        exact ⟨_, _, _, upd_same, by rw [upd_ne h3]; exact h2, h3, h4, h5⟩
    · rw [if_neg cb]
      walk_at "s"
      exact ⟨_, _, _, upd_same, by rw [upd_ne h3]; exact h2, h3, h4, h5⟩
  · rintro σ' H' ⟨a', b', d', v, rfl, ⟨g1, g2, g3, g4, g5⟩, k2⟩
    refine q_if ?_
    walk_at "S"
    split
    · walk_at "S"
      refine ⟨_, _, rfl, fun r r0 r1 => ?_⟩
      walk_at "s"
      refine ⟨hb1, ?_⟩
      refine q _ _ (Int.emod_nonneg r (show base ≠ 0 by omega)) ?_ k2 ⟨c, ns, _, _, _, _, g1, g2, g3, g4, g5⟩
      exact below hb1 hb2 r
    · walk_at "S"
      refine q_asg ?_
      walk_at "S"
      refine q_asg ?_
      walk_at "S"
      refine ⟨⟨hb1, log_small hb1 hb3⟩, q _ _ (Int.emod_nonneg b' (show base ≠ 0 by omega)) (below hb1 hb2 b') (k2.put g1) ⟨c, ns, _, _, _, _, upd_same, ?_, h3, g4, h5⟩⟩
      rw [upd_ne h3]; exact g2
theorem take_ok {K : PySem.W.Frag} {C : CA} {H : Hp} {Q : VK} {E : XK} {st : Addr} {many : Int} (hs : StAt H st) (hm : many < 2 ^ 64)
    (q : ∀ (r : Int) (H' : Hp), 0 ≤ r → (r < many ∨ r = 0) → Kp st H H' → StAt H' st → Q (.int r) H') : sp_l_take K C [.ref st, .int many] H Q E := ⟨_, _, rfl, hs, hm, q⟩
def sp_l_great (K : PySem.W.Frag) (C : CA) : Sp := fun vs H Q _ => ∃ (st : Addr) (many : Int), vs = [.ref st, .int many] ∧ StAt H st ∧
  ∀ (r : Int) (H' : Hp), 0 ≤ r → (r < many ∨ r = 0) → Kp st H H' → StAt H' st → Q (.int r) H'
def rd_l_great (K : PySem.W.Frag) (C : CA) (E : XK) : TS :=
  (tSeq (tAsg (tC (.int 0)) (gName 2)) (tSeq (tFor (iRng1 (tCons (tC (.int 12)) tNil)) (gName 3) (tAsg (tOp fAdd (tOp fMul (tVar 2) (tC (.int 1000))) (tCallS (sp_l_take K C) (fun _ => E0) (tCons (tVar 0) (tCons (tC (.int 1000)) tNil)))) (gName 2))) (tRet (tOp fMod (tCB fInt (tCons (tVar 2) tNil)) (tCB fMax (tCons (tC (.int 1)) (tCons (tVar 1) tNil)))))))
theorem pure_l_great {K : PySem.W.Frag} {C : CA} (vs : List V) (H : Hp) (Q : VK) (E : XK) (h : sp_l_great K C vs H Q E) : rd_l_great K C E { nx := fun _ H' => Q .non H', rt := Q } (start [("store" : Str), ("many" : Str), ("number" : Str), ("k" : Str)] vs) H := by
  obtain ⟨st, many, rfl, hs, q⟩ := h
  show rd_l_great K C E _ [some (.ref st), some (.int many), none, none] H
  unfold rd_l_great
  refine q_asg ?_
  walk_at "S"
  refine q_for ?_
  walk_at "S"
  refine ⟨by decide, by decide, ?_⟩
  refine loop_range (fun i σ H1 => ∃ (n : Int) (v : Option V), σ = [some (.ref st), some (.int many), some (.int n), v] ∧ Kp st H H1 ∧ StAt H1 st) ⟨_, _, rfl, Kp.refl _ _, hs⟩ ?_ ?_
  · rintro i σ H1 hi ⟨n, v, rfl, k1, s1⟩
    walk_at "s"
    refine q_asg1 ?_
    walk_at "s"
    refine ⟨.inr ⟨by decide, by decide⟩, take_ok s1 (by decide) fun r H2 _ _ k2 s2 => ?_⟩
    walk_at "s"
    exact ⟨k1.trans k2, s2⟩
  · rintro σ H1 ⟨n, v, rfl, k1, s1⟩
    walk_at "s"
    have hb1 : 0 < max 1 many := by omega
    have hb2 : max 1 many = many ∨ max 1 many = 1 := by omega
    exact ⟨hb1, q _ _ (Int.emod_nonneg _ (by omega)) (below hb1 hb2 n) k1 s1⟩
theorem great_ok {K : PySem.W.Frag} {C : CA} {H : Hp} {Q : VK} {E : XK} {st : Addr} {many : Int} (hs : StAt H st)
    (q : ∀ (r : Int) (H' : Hp), 0 ≤ r → (r < many ∨ r = 0) → Kp st H H' → StAt H' st → Q (.int r) H') : sp_l_great K C [.ref st, .int many] H Q E := ⟨_, _, rfl, hs, q⟩
def sp_l_edge (K : PySem.W.Frag) (C : CA) : Sp := fun vs H Q _ => ∃ (st : Addr) (lo hi : Int), vs = [.ref st, .int lo, .int hi] ∧ StAt H st ∧
  ∀ (r : Int) (H' : Hp), lo ≤ r → (r ≤ hi ∨ r = lo) → Kp st H H' → StAt H' st → Q (.int r) H'
theorem edge_ok {K : PySem.W.Frag} {C : CA} {H : Hp} {Q : VK} {E : XK} {st : Addr} {lo hi : Int} (hs : StAt H st)
    (q : ∀ (r : Int) (H' : Hp), lo ≤ r → (r ≤ hi ∨ r = lo) → Kp st H H' → StAt H' st → Q (.int r) H') : sp_l_edge K C [.ref st, .int lo, .int hi] H Q E := ⟨_, _, _, rfl, hs, q⟩
def rd_l_edge (K : PySem.W.Frag) (C : CA) (E : XK) : TS :=
  (tSeq (tIfS (tTest (tOp fLe (tVar 2) (tVar 1))) (tRet (tVar 1)) tNext) (tSeq (tAsg (tCallS (sp_l_take K C) (fun _ => E0) (tCons (tVar 0) (tCons (tC (.int 6)) tNil))) (gName 3)) (tSeq (tIfS (tTest (tOp (fEq K) (tVar 3) (tC (.int 0)))) (tRet (tVar 1)) tNext) (tSeq (tIfS (tTest (tOp (fEq K) (tVar 3) (tC (.int 1)))) (tRet (tVar 2)) tNext) (tSeq (tIfS (tTest (tOp fLt (tOp fSub (tVar 2) (tVar 1)) (tC (.int 1000000)))) (tRet (tOp fAdd (tVar 1) (tCallS (sp_l_take K C) (fun _ => E0) (tCons (tVar 0) (tCons (tOp fAdd (tOp fSub (tVar 2) (tVar 1)) (tC (.int 1))) tNil))))) tNext) (tRet (tOp fAdd (tVar 1) (tCallS (sp_l_great K C) (fun _ => E0) (tCons (tVar 0) (tCons (tOp fAdd (tOp fSub (tVar 2) (tVar 1)) (tC (.int 1))) tNil))))))))))
theorem pure_l_edge {K : PySem.W.Frag} {C : CA} (vs : List V) (H : Hp) (Q : VK) (E : XK) (h : sp_l_edge K C vs H Q E) : rd_l_edge K C E { nx := fun _ H' => Q .non H', rt := Q } (start [("store" : Str), ("low" : Str), ("high" : Str), ("form" : Str)] vs) H := by
  obtain ⟨st, lo, hi, rfl, hs, q⟩ := h
  show rd_l_edge K C E _ [some (.ref st), some (.int lo), some (.int hi), none] H
  unfold rd_l_edge
  refine q_if ?_
  walk_at "s"
  refine ite2 (fun c1 => q _ _ (Int.le_refl _) (.inr rfl) (Kp.refl _ _) hs) fun c1 => ?_
  refine q_asg ?_
  walk_at "s"
  refine take_ok hs (by decide) fun r H1 r0 r1 k1 s1 => ?_
  refine q_if ?_
  walk_at "s"
  refine ite2 (fun c2 => q _ _ (Int.le_refl _) (.inr rfl) k1 s1) fun c2 => ?_
  refine q_if ?_
  walk_at "s"
  refine ite2 (fun c3 => q _ _ (by omega) (.inl (Int.le_refl _)) k1 s1) fun c3 => ?_
  refine q_if ?_
  walk_at "s"
  refine ite2 (fun c4 => ?_) fun c4 => ?_
  · refine take_ok s1 (by omega) fun r H2 r0 r1 k2 s2 => ?_
    walk_at "s"
    exact q _ _ (by omega) (by omega) (k1.trans k2) s2
  · refine great_ok s1 fun r H2 r0 r1 k2 s2 => ?_
    walk_at "s"
    exact q _ _ (by omega) (by omega) (k1.trans k2) s2
def sp_l_pick (K : PySem.W.Frag) (C : CA) : Sp := fun vs H Q _ => ∃ (st p : Addr) (xs : List V), vs = [.ref st, .ref p] ∧ StAt H st ∧ asS (H p) = some xs ∧ p ≠ st ∧ xs.length < 2 ^ 60 ∧
  (xs = [] → Q .non H) ∧ ∀ (n : Nat) (v : V) (H' : Hp), xs[n]? = some v → Kp st H H' → StAt H' st → Q v H'
def rd_l_pick (K : PySem.W.Frag) (C : CA) (E : XK) : TS :=
  (tSeq (tIfS (tTest (tOp (fEq K) (tCB fLen (tCons (tVar 1) tNil)) (tC (.int 0)))) (tRet (tC .non)) tNext) (tRet (tOp fIx (tVar 1) (tCallS (sp_l_take K C) (fun _ => E0) (tCons (tVar 0) (tCons (tCB fLen (tCons (tVar 1) tNil)) tNil))))))
theorem pure_l_pick {K : PySem.W.Frag} {C : CA} (vs : List V) (H : Hp) (Q : VK) (E : XK) (h : sp_l_pick K C vs H Q E) : rd_l_pick K C E { nx := fun _ H' => Q .non H', rt := Q } (start [("store" : Str), ("row" : Str)] vs) H := by
  obtain ⟨st, p, xs, rfl, hs, hp, hne, hl, q0, q⟩ := h
  show rd_l_pick K C E _ [some (.ref st), some (.ref p)] H
  unfold rd_l_pick
  refine q_if ?_
  walk_at "s"
  rw [hp]
  walk_at "s"
  refine ite2 (fun c => ?_) fun c => ?_
  · walk_at "s"
    exact q0 (by cases xs with | nil => rfl | cons _ _ => simp at c; omega)
  · walk_at "s"
    refine take_ok hs (by omega) fun r H1 r0 r1 k1 s1 => ?_
    walk_at "s"
    obtain ⟨n, rfl⟩ : ∃ n : Nat, r = n := ⟨r.toNat, by omega⟩
    have hn : n < xs.length := by omega
    rw [k1.asS hne hp]
    exact at_nat (v := xs[n]) (by simp [hn]) (q n _ _ (by simp [hn]) k1 s1)
end XB

/-! The program's numbers. -/
namespace XB
open PySem L2
local macro_rules | `(tactic| walk_at "s") => `(tactic| try simp only [u_var, u_c, u_op, u_un, u_nil, u_cons, u_cb, u_call, u_callS, u_tup, u_lst, u_test, u_B, u_and, u_or, u_not, u_andV, u_orV, u_notV, u_ifE, u_chain, u_sl, u_noPart, u_part, u_bm, u_bm0, u_rev, u_lc, u_try, u_sui, u_sui0, u_unb_rt, u_unb_nx, u_xf, u_WE, w_nil, w_cons, u_raise, u_rng1, u_rng2, u_next, u_ret, u_gname, u_gnil, u_gcons, u_gsub, u_gtup,
  f_add, f_addS, f_addR, f_sub, f_mul, f_mulR, f_mod, f_div, f_pow, f_neg, f_cmp, f_eq, f_eqB, f_eqS, f_ne, f_neB, f_neS, f_isN, f_notN, f_isB, f_ix, f_ixS, f_int, f_intB, f_len, f_lenS, f_max, f_min, f_abs, f_list, f_tuple, f_all, f_sum, f_isi, f_isiT, f_append, f_insert, f_pop, f_sl, f_set,
  kitS, tys, List.isEmpty_cons, Option.map_some, kt_NoneType_int, kt_NoneType_bool, kt_NoneType_str, kt_NoneType_list, kt_NoneType_tuple, kt_NoneType_dict, kt_int_int, kt_int_bool, kt_int_str, kt_int_list, kt_int_tuple, kt_int_dict, kt_bool_int, kt_bool_bool, kt_bool_str, kt_bool_list, kt_bool_tuple, kt_bool_dict, kt_str_int, kt_str_bool, kt_str_str, kt_str_list, kt_str_tuple, kt_str_dict, kt_list_int, kt_list_bool, kt_list_str, kt_list_list, kt_list_tuple, kt_list_dict, kt_tuple_int, kt_tuple_bool, kt_tuple_str, kt_tuple_list, kt_tuple_tuple, kt_tuple_dict, kt_dict_int, kt_dict_bool, kt_dict_str, kt_dict_list, kt_dict_tuple, kt_dict_dict, asL_lst, asL_frz, asL_tup, asT_tup, asS_lst, asS_frz, asS_tup, tyN_non, tyN_bl, tyN_int, tyN_str, atV_lit, ixN_lit, upd_same, upd_ne, upd_ne',
  List.getElem?_cons_zero, List.getElem?_cons_succ, List.set_cons_zero, List.set_cons_succ, List.append_nil, List.length_cons, List.length_nil, Option.some.injEq, exists_eq_left', exists_eq_left, exists_and_left, V.bl.injEq, V.int.injEq, V.str.injEq, V.ref.injEq, Bool.not_eq_true, Bool.not_true, Bool.not_false, decide_true, decide_false, decide_eq_true_eq, decide_eq_false_iff_not, Bool.false_eq_true, if_true, if_false, ite_true, ite_false, reduceCtorEq, true_and, and_true, Nat.reduceAdd, Nat.reduceLT, Nat.zero_add, ne_eq, not_false_eq_true, not_true_eq_false, List.cons.injEq, and_assoc])
local macro_rules | `(tactic| walk_at "S") => `(tactic| try simp only [u_var, u_c, u_op, u_un, u_nil, u_cons, u_cb, u_call, u_callS, u_tup, u_lst, u_test, u_B, u_and, u_or, u_not, u_andV, u_orV, u_notV, u_ifE, u_chain, u_sl, u_noPart, u_part, u_bm, u_bm0, u_rev, u_lc, u_try, u_sui, u_sui0, u_unb_rt, u_unb_nx, u_xf, u_WE, w_nil, w_cons, u_raise, u_rng1, u_rng2, u_next, u_ret, u_gname, u_gnil, u_gcons, u_gsub, u_gtup,
  f_add, f_addS, f_addR, f_sub, f_mul, f_mulR, f_mod, f_div, f_pow, f_neg, f_cmp, f_eq, f_eqB, f_eqS, f_ne, f_neB, f_neS, f_isN, f_notN, f_isB, f_ix, f_ixS, f_int, f_intB, f_len, f_lenS, f_max, f_min, f_abs, f_list, f_tuple, f_all, f_sum, f_isi, f_isiT, f_append, f_insert, f_pop, f_sl, f_set,
  kitS, tys, List.isEmpty_cons, Option.map_some, kt_NoneType_int, kt_NoneType_bool, kt_NoneType_str, kt_NoneType_list, kt_NoneType_tuple, kt_NoneType_dict, kt_int_int, kt_int_bool, kt_int_str, kt_int_list, kt_int_tuple, kt_int_dict, kt_bool_int, kt_bool_bool, kt_bool_str, kt_bool_list, kt_bool_tuple, kt_bool_dict, kt_str_int, kt_str_bool, kt_str_str, kt_str_list, kt_str_tuple, kt_str_dict, kt_list_int, kt_list_bool, kt_list_str, kt_list_list, kt_list_tuple, kt_list_dict, kt_tuple_int, kt_tuple_bool, kt_tuple_str, kt_tuple_list, kt_tuple_tuple, kt_tuple_dict, kt_dict_int, kt_dict_bool, kt_dict_str, kt_dict_list, kt_dict_tuple, kt_dict_dict, asL_lst, asL_frz, asL_tup, asT_tup, asS_lst, asS_frz, asS_tup, tyN_non, tyN_bl, tyN_int, tyN_str, atV_lit, ixN_lit, upd_same, upd_ne, upd_ne',
  List.getElem?_cons_zero, List.getElem?_cons_succ, List.set_cons_zero, List.set_cons_succ, List.append_nil, List.length_cons, List.length_nil, Option.some.injEq, exists_eq_left', exists_eq_left, exists_and_left, V.bl.injEq, V.int.injEq, V.str.injEq, V.ref.injEq, Bool.not_eq_true, Bool.not_true, Bool.not_false, decide_true, decide_false, decide_eq_true_eq, decide_eq_false_iff_not, Bool.false_eq_true, if_true, if_false, ite_true, ite_false, reduceCtorEq, true_and, and_true, Nat.reduceAdd, Nat.reduceLT, Nat.zero_add, ne_eq, not_false_eq_true, not_true_eq_false, List.cons.injEq, and_assoc, *])
/-- a value of a built-in class -/
def Ty (v : V) (H : Hp) : Prop := ∃ t, tyN v H = some t
theorem ty_cases {v : V} {H : Hp} (h : Ty v H) : v = .non ∨ (∃ b, v = .bl b) ∨ (∃ i, v = .int i) ∨ (∃ z, v = .str z) ∨ ∃ p, v = .ref p ∧
    ((tyN (.ref p) H = some "list" ∧ ∃ xs, asL (H p) = some xs) ∨ (tyN (.ref p) H = some "tuple" ∧ ∃ xs, asT (H p) = some xs ∧ asL (H p) = none) ∨ (tyN (.ref p) H = some "dict" ∧ asS (H p) = none)) := by
  obtain ⟨t, h⟩ := h
  cases v with
  | non => exact .inl rfl
  | bl b => exact .inr (.inl ⟨b, rfl⟩)
  | int i => exact .inr (.inr (.inl ⟨i, rfl⟩))
  | str z => exact .inr (.inr (.inr (.inl ⟨z, rfl⟩)))
  | ref p =>
    refine .inr (.inr (.inr (.inr ⟨p, rfl, ?_⟩)))
    dsimp only [tyN] at h ⊢
    split at h
    · rename_i xs e; rw [e]; exact .inl ⟨rfl, xs, rfl⟩
    · rename_i o xs e; rw [e]; exact .inl ⟨rfl, xs, rfl⟩
    · rename_i xs e; rw [e]; exact .inr (.inl ⟨rfl, xs, rfl, rfl⟩)
    · rename_i o xs e; rw [e]; exact .inr (.inl ⟨rfl, xs, rfl, rfl⟩)
    · rename_i kvs e; rw [e]; exact .inr (.inr ⟨rfl, rfl⟩)
    · rename_i kvs e; rw [e]; exact .inr (.inr ⟨rfl, rfl⟩)
    · rename_i o kvs e; rw [e]; exact .inr (.inr ⟨rfl, rfl⟩)
    · cases h
  | byt b => cases h
  | flt b => cases h
  | ty n => cases h
def isI : V → Bool
  | .int _ => true
  | _ => false
def isNum : V → Bool
  | .int i => decide (0 ≤ i)
  | _ => false
def baseOk : V → Bool
  | .int i => decide (1 ≤ i) && decide (i ≤ 1000)
  | _ => false
/-- the list that the value is -/
def lstOf (v : V) (H : Hp) : Option (List V) := match v with
  | .ref p => asL (H p)
  | _ => none
def basesOk (v : V) (H : Hp) : Bool := match lstOf v H with
  | some xs => decide (xs.length ≤ 60) && xs.all baseOk
  | none => false
theorem tyN_mono {v : V} {H H' : Hp} {t : String} (s : ∀ b o, H b = some o → H' b = some o) (h : tyN v H = some t) : tyN v H' = some t := by
  cases v with
  | ref p =>
    dsimp only [tyN] at h ⊢
    cases e : H p with
    | none => rw [e] at h; cases h
    | some o => rw [e] at h; rw [s p o e]; exact h
  | _ => exact h
theorem asS_of_L {o : Option HO} {xs : List V} (h : asL o = some xs) : asS o = some xs := by
  unfold asS
  rw [h]
def sp_is_whole (K : PySem.W.Frag) (C : CA) : Sp := fun vs H Q _ => ∃ v, vs = [v] ∧ Ty v H ∧ Q (.bl (isI v)) H
def rd_is_whole (K : PySem.W.Frag) (C : CA) (E : XK) : TS :=
  (tRet (tAndV (tCB fIsi (tCons (tVar 0) (tCons (tC (.ty "int")) tNil))) (tNotV (tCB fIsi (tCons (tVar 0) (tCons (tC (.ty "bool")) tNil))))))
theorem pure_is_whole {K : PySem.W.Frag} {C : CA} (vs : List V) (H : Hp) (Q : VK) (E : XK) (h : sp_is_whole K C vs H Q E) : rd_is_whole K C E { nx := fun _ H' => Q .non H', rt := Q } (start [("value" : Str)] vs) H := by
  obtain ⟨v, rfl, ht, q⟩ := h
  show rd_is_whole K C E _ [some v] H
  unfold rd_is_whole
  refine q_ret ?_
  walk_at "s"
  rcases ty_cases ht with rfl | ⟨b, rfl⟩ | ⟨i, rfl⟩ | ⟨z, rfl⟩ | ⟨p, rfl, ⟨e, _⟩ | ⟨e, _⟩ | ⟨e, _⟩⟩ <;> (try rw [e]) <;> (walk_at "s") <;> exact q
def sp_check (K : PySem.W.Frag) (C : CA) : Sp := fun vs H Q E => ∃ (b : Bool) (z : Str), vs = [.bl b, .str z] ∧ (b = true → Q .non H) ∧
  (b = false → ∀ (d : Addr) (H' : Hp), H d = none → H' d = some (.xd [(("parameter" : Str), V.str z)]) → (∀ b o, H b = some o → H' b = some o) → E (.ref C.BadShape) (some d) H')
def rd_check (K : PySem.W.Frag) (C : CA) (E : XK) : TS :=
  (tIfS (tNot (tB (tVar 0))) (tRaiseF C.BadShape [("parameter" : Str)] (fun cls d _ H => E cls d H) (tCons (tVar 1) tNil)) tNext)
theorem pure_check {K : PySem.W.Frag} {C : CA} (vs : List V) (H : Hp) (Q : VK) (E : XK) (h : sp_check K C vs H Q E) : rd_check K C E { nx := fun _ H' => Q .non H', rt := Q } (start [("fits" : Str), ("parameter" : Str)] vs) H := by
  obtain ⟨b, z, rfl, q1, q2⟩ := h
  show rd_check K C E _ [some (.bl b), some (.str z)] H
  unfold rd_check
  refine q_if1 ?_
  walk_at "s"
  cases b with
  | true => walk_at "s"; exact q1 rfl
  | false =>
    walk_at "s"
    exact ⟨by decide, fun d H' a b c => q2 rfl d H' a b c⟩
/-- digits for good bases -/
def digitsIn : List V → List Int → Bool
  | [], [] => true
  | .int d :: ds, b :: bs => decide (0 ≤ d) && decide (d < b) && digitsIn ds bs
  | _, _ => false
def digitOk : V → V → Bool
  | .int d, .int b => decide (0 ≤ d) && decide (d < b)
  | _, _ => false
theorem zip_bools : ∀ {xs : List V} {ns : List Int}, xs.length = ns.length → List.zipWith (fun b d => V.bl (digitOk d b)) (ns.map V.int) xs = (List.zipWith (fun d b => digitOk d (.int b)) xs ns).map V.bl
  | [], [], _ => rfl
  | x :: xs, n :: ns, h => by
    have ih := zip_bools (xs := xs) (ns := ns) (by simpa using h)
    simp only [List.map_cons, List.zipWith_cons_cons, ih]
  | [], _ :: _, h => by simp at h
  | _ :: _, [], h => by simp at h
theorem digits_all : ∀ {xs : List V} {ns : List Int}, xs.length = ns.length → digitsIn xs ns = (List.zipWith (fun d b => digitOk d (.int b)) xs ns).all id
  | [], [], _ => rfl
  | x :: xs, n :: ns, h => by
    have ih := digits_all (xs := xs) (ns := ns) (by simpa using h)
    simp only [List.zipWith_cons_cons, List.all_cons, ← ih, id_eq]
    cases x <;> simp [digitsIn, digitOk]
  | [], _ :: _, h => by simp at h
  | _ :: _, [], h => by simp at h
theorem digits_short : ∀ {xs : List V} {ns : List Int}, ¬ xs.length = ns.length → digitsIn xs ns = false
  | [], [], h => absurd rfl h
  | x :: xs, n :: ns, h => by
    have ih := digits_short (xs := xs) (ns := ns) (by simpa using h)
    cases x <;> simp [digitsIn, ih]
  | [], _ :: _, _ => rfl
  | x :: _, [], _ => by cases x <;> rfl
def digitsOk (v : V) (H : Hp) (ns : List Int) : Bool := match lstOf v H with
  | some xs => digitsIn xs ns
  | none => false
/-- .. and so are the parts of a list -/
def TyD (v : V) (H : Hp) : Prop := Ty v H ∧ ∀ xs, lstOf v H = some xs → ∀ x ∈ xs, Ty x H
theorem Ty.mono {v : V} {H H' : Hp} (h : Ty v H) (s : Sm H H') : Ty v H' := by
  obtain ⟨t, e⟩ := h
  exact ⟨t, tyN_mono s e⟩
theorem lst_ty {H : Hp} {p : Addr} {xs : List V} (h : asL (H p) = some xs) : tyN (.ref p) H = some "list" := by
  dsimp only [tyN]
  cases e : H p with
  | none => rw [e] at h; cases h
  | some o =>
    rw [e] at h
    cases o with
    | lst ys => rfl
    | frz ob u => cases u <;> first | rfl | (cases h)
    | _ => cases h
theorem asL_back {H H' : Hp} {p : Addr} {t : String} {ys : List V} (s : Sm H H') (h : tyN (.ref p) H = some t) (e : asL (H' p) = some ys) : asL (H p) = some ys := by
  dsimp only [tyN] at h
  cases eo : H p with
  | none => rw [eo] at h; cases h
  | some o => rw [s p o eo] at e; exact e
theorem lstOf_mono {v : V} {H H' : Hp} (s : Sm H H') (h : Ty v H) : lstOf v H' = lstOf v H := by
  obtain ⟨t, h⟩ := h
  cases v with
  | ref p =>
    dsimp only [lstOf]
    cases e : H p with
    | none => dsimp only [tyN] at h; rw [e] at h; cases h
    | some o => rw [s p o e]
  | _ => rfl
theorem TyD.mono {v : V} {H H' : Hp} (h : TyD v H) (s : Sm H H') : TyD v H' := ⟨h.1.mono s, fun xs e x hx => (h.2 xs (by rw [← lstOf_mono s h.1]; exact e) x hx).mono s⟩
theorem ints_ty {H : Hp} {ns : List Int} : ∀ x ∈ ns.map V.int, Ty x H := fun x hx => by
  obtain ⟨n, _, rfl⟩ := List.mem_map.mp hx
  exact ⟨"int", rfl⟩
theorem TyD.ints {H : Hp} {p : Addr} {ns : List Int} (h : asL (H p) = some (ns.map V.int)) : TyD (.ref p) H := ⟨⟨_, lst_ty h⟩, fun xs e x hx => by
  have e2 : asL (H p) = some xs := e
  rw [h] at e2
  cases e2
  exact ints_ty x hx⟩
theorem bases_ok {H : Hp} {p : Addr} {ns : List Int} (h : asL (H p) = some (ns.map V.int)) (hl : ns.length ≤ 60) (hb : ∀ n ∈ ns, 1 ≤ n ∧ n ≤ 1000) : basesOk (.ref p) H = true := by
  unfold basesOk lstOf
  simp only [h, List.length_map, hl, decide_true, Bool.true_and, List.all_map, List.all_eq_true]
  intro n hn
  simp [baseOk, hb n hn]
/-- the error's own dict -/
def ErrAt (H H' : Hp) (d : Addr) (fs : List (Str × V)) : Prop := Sm H H' ∧ H' d = some (.xd fs)
def mixV : List Int → List Int → Int → Int
  | b :: bs, d :: ds, a => mixV bs ds (a * b + d)
  | _, _, a => a
theorem mixV_take : ∀ {bs ds : List Int} {i : Nat} {b d a : Int}, bs[i]? = some b → ds[i]? = some d → mixV (bs.take (i + 1)) (ds.take (i + 1)) a = mixV (bs.take i) (ds.take i) a * b + d
  | b0 :: bs, d0 :: ds, 0, b, d, a, h1, h2 => by
    cases h1
    cases h2
    simp [mixV]
  | b0 :: bs, d0 :: ds, i + 1, b, d, a, h1, h2 => by
    have ih := mixV_take (bs := bs) (ds := ds) (i := i) (b := b) (d := d) (a := a * b0 + d0) h1 h2
    simp only [List.take_succ_cons, mixV]
    exact ih
  | [], _, _, _, _, _, h1, _ => by simp at h1
  | _ :: _, [], _, _, _, _, _, h2 => by simp at h2
theorem digitsIn_len : ∀ {ds ns : List Int}, digitsIn (ds.map V.int) ns = true → ds.length = ns.length
  | [], [], _ => rfl
  | d :: ds, n :: ns, h => by
    simp only [List.map_cons, digitsIn, Bool.and_eq_true] at h
    have ih := digitsIn_len h.2
    simp [ih]
  | [], _ :: _, h => by simp [digitsIn] at h
  | _ :: _, [], h => by simp [digitsIn] at h
theorem get_int {ns : List Int} {i : Nat} {x : V} (h : (ns.map V.int)[i]? = some x) : ∃ n, ns[i]? = some n ∧ x = V.int n := by
  rw [List.getElem?_map] at h
  cases e : ns[i]? with
  | none => rw [e] at h; cases h
  | some n => rw [e] at h; exact ⟨n, rfl, (Option.some.inj h).symm⟩
def prodL (ns : List Int) : Int := ns.foldl (· * ·) 1
/-- digits, the lowest first -/
def lowD : List Int → Int → List Int
  | b :: bs, x => x % b :: lowD bs (x / b)
  | [], _ => []
def lowQ : List Int → Int → Int
  | b :: bs, x => lowQ bs (x / b)
  | [], x => x
theorem lowD_take : ∀ {bs : List Int} {i : Nat} {b x : Int}, bs[i]? = some b → lowD (bs.take (i + 1)) x = lowD (bs.take i) x ++ [lowQ (bs.take i) x % b]
  | b0 :: bs, 0, b, x, h => by cases h; rfl
  | b0 :: bs, i + 1, b, x, h => by
    have ih := lowD_take (bs := bs) (i := i) (b := b) (x := x / b0) h
    simp only [List.take_succ_cons, lowD, lowQ, ih, List.cons_append]
  | [], _, _, _, h => by simp at h
theorem lowQ_take : ∀ {bs : List Int} {i : Nat} {b x : Int}, bs[i]? = some b → lowQ (bs.take (i + 1)) x = lowQ (bs.take i) x / b
  | b0 :: bs, 0, b, x, h => by cases h; rfl
  | b0 :: bs, i + 1, b, x, h => by
    have ih := lowQ_take (bs := bs) (i := i) (b := b) (x := x / b0) h
    simp only [List.take_succ_cons, lowQ, ih]
  | [], _, _, _, h => by simp at h
theorem prodL_take {bs : List Int} {i : Nat} {b : Int} (h : bs[i]? = some b) : prodL (bs.take (i + 1)) = prodL (bs.take i) * b := by
  unfold prodL
  rw [List.take_add_one, h, List.foldl_append]
  rfl
theorem lowD_len : ∀ {bs : List Int} {x : Int}, (lowD bs x).length = bs.length
  | [], _ => rfl
  | _ :: bs, x => by simp [lowD, lowD_len (bs := bs)]
def digs (ns : List Int) (x : Int) : List Int := (lowD ns.reverse x).reverse
end XB

/-! The law's helpers. -/
namespace XB
open PySem L2
local macro_rules | `(tactic| walk_at "s") => `(tactic| try simp only [u_var, u_c, u_op, u_un, u_nil, u_cons, u_cb, u_call, u_callS, u_tup, u_lst, u_test, u_B, u_and, u_or, u_not, u_andV, u_orV, u_notV, u_ifE, u_chain, u_sl, u_noPart, u_part, u_bm, u_bm0, u_rev, u_lc, u_try, u_sui, u_sui0, u_unb_rt, u_unb_nx, u_xf, u_WE, w_nil, w_cons, u_raise, u_rng1, u_rng2, u_next, u_ret, u_gname, u_gnil, u_gcons, u_gsub, u_gtup,
  f_add, f_addS, f_addR, f_sub, f_mul, f_mulR, f_mod, f_div, f_pow, f_neg, f_cmp, f_eq, f_eqB, f_eqS, f_ne, f_neB, f_neS, f_isN, f_notN, f_isB, f_ix, f_ixS, f_int, f_intB, f_len, f_lenS, f_max, f_min, f_abs, f_list, f_tuple, f_all, f_sum, f_isi, f_isiT, f_append, f_insert, f_pop, f_sl, f_set,
  kitS, tys, List.isEmpty_cons, Option.map_some, kt_NoneType_int, kt_NoneType_bool, kt_NoneType_str, kt_NoneType_list, kt_NoneType_tuple, kt_NoneType_dict, kt_int_int, kt_int_bool, kt_int_str, kt_int_list, kt_int_tuple, kt_int_dict, kt_bool_int, kt_bool_bool, kt_bool_str, kt_bool_list, kt_bool_tuple, kt_bool_dict, kt_str_int, kt_str_bool, kt_str_str, kt_str_list, kt_str_tuple, kt_str_dict, kt_list_int, kt_list_bool, kt_list_str, kt_list_list, kt_list_tuple, kt_list_dict, kt_tuple_int, kt_tuple_bool, kt_tuple_str, kt_tuple_list, kt_tuple_tuple, kt_tuple_dict, kt_dict_int, kt_dict_bool, kt_dict_str, kt_dict_list, kt_dict_tuple, kt_dict_dict, asL_lst, asL_frz, asL_tup, asT_tup, asS_lst, asS_frz, asS_tup, tyN_non, tyN_bl, tyN_int, tyN_str, atV_lit, ixN_lit, upd_same, upd_ne, upd_ne',
  List.getElem?_cons_zero, List.getElem?_cons_succ, List.set_cons_zero, List.set_cons_succ, List.append_nil, List.length_cons, List.length_nil, Option.some.injEq, exists_eq_left', exists_eq_left, exists_and_left, V.bl.injEq, V.int.injEq, V.str.injEq, V.ref.injEq, Bool.not_eq_true, Bool.not_true, Bool.not_false, decide_true, decide_false, decide_eq_true_eq, decide_eq_false_iff_not, Bool.false_eq_true, if_true, if_false, ite_true, ite_false, reduceCtorEq, true_and, and_true, Nat.reduceAdd, Nat.reduceLT, Nat.zero_add, ne_eq, not_false_eq_true, not_true_eq_false, List.cons.injEq, and_assoc])
local macro_rules | `(tactic| walk_at "S") => `(tactic| try simp only [u_var, u_c, u_op, u_un, u_nil, u_cons, u_cb, u_call, u_callS, u_tup, u_lst, u_test, u_B, u_and, u_or, u_not, u_andV, u_orV, u_notV, u_ifE, u_chain, u_sl, u_noPart, u_part, u_bm, u_bm0, u_rev, u_lc, u_try, u_sui, u_sui0, u_unb_rt, u_unb_nx, u_xf, u_WE, w_nil, w_cons, u_raise, u_rng1, u_rng2, u_next, u_ret, u_gname, u_gnil, u_gcons, u_gsub, u_gtup,
  f_add, f_addS, f_addR, f_sub, f_mul, f_mulR, f_mod, f_div, f_pow, f_neg, f_cmp, f_eq, f_eqB, f_eqS, f_ne, f_neB, f_neS, f_isN, f_notN, f_isB, f_ix, f_ixS, f_int, f_intB, f_len, f_lenS, f_max, f_min, f_abs, f_list, f_tuple, f_all, f_sum, f_isi, f_isiT, f_append, f_insert, f_pop, f_sl, f_set,
  kitS, tys, List.isEmpty_cons, Option.map_some, kt_NoneType_int, kt_NoneType_bool, kt_NoneType_str, kt_NoneType_list, kt_NoneType_tuple, kt_NoneType_dict, kt_int_int, kt_int_bool, kt_int_str, kt_int_list, kt_int_tuple, kt_int_dict, kt_bool_int, kt_bool_bool, kt_bool_str, kt_bool_list, kt_bool_tuple, kt_bool_dict, kt_str_int, kt_str_bool, kt_str_str, kt_str_list, kt_str_tuple, kt_str_dict, kt_list_int, kt_list_bool, kt_list_str, kt_list_list, kt_list_tuple, kt_list_dict, kt_tuple_int, kt_tuple_bool, kt_tuple_str, kt_tuple_list, kt_tuple_tuple, kt_tuple_dict, kt_dict_int, kt_dict_bool, kt_dict_str, kt_dict_list, kt_dict_tuple, kt_dict_dict, asL_lst, asL_frz, asL_tup, asT_tup, asS_lst, asS_frz, asS_tup, tyN_non, tyN_bl, tyN_int, tyN_str, atV_lit, ixN_lit, upd_same, upd_ne, upd_ne',
  List.getElem?_cons_zero, List.getElem?_cons_succ, List.set_cons_zero, List.set_cons_succ, List.append_nil, List.length_cons, List.length_nil, Option.some.injEq, exists_eq_left', exists_eq_left, exists_and_left, V.bl.injEq, V.int.injEq, V.str.injEq, V.ref.injEq, Bool.not_eq_true, Bool.not_true, Bool.not_false, decide_true, decide_false, decide_eq_true_eq, decide_eq_false_iff_not, Bool.false_eq_true, if_true, if_false, ite_true, ite_false, reduceCtorEq, true_and, and_true, Nat.reduceAdd, Nat.reduceLT, Nat.zero_add, ne_eq, not_false_eq_true, not_true_eq_false, List.cons.injEq, and_assoc, *])
/-- item by item -/
def All2 (R : V → PyData → Prop) (xs : List V) (ds : List PyData) : Prop := xs.length = ds.length ∧ ∀ (i : Nat) (x : V) (d : PyData), xs[i]? = some x → ds[i]? = some d → R x d
def Flat (m : Nat) (v : V) (d : PyData) : Prop := (v = .non ∧ d = .none) ∨ (∃ b, v = .bl b ∧ d = .bool b) ∨ (∃ i, v = .int i ∧ d = .int i) ∨ ∃ z : Str, (v = .str z ∧ z.length ≤ m) ∧ d = .str z
/-- v stands for the data d, at most n deep, of texts and rows of at most m -/
def RpM (m : Nat) (H : Hp) : Nat → V → PyData → Prop
  | 0, v, d => Flat m v d
  | n + 1, v, d => Flat m v d ∨ (∃ p xs ds, v = .ref p ∧ asL (H p) = some xs ∧ d = .list ds ∧ xs.length ≤ m ∧ All2 (RpM m H n) xs ds) ∨
    (∃ p xs ds, v = .ref p ∧ asT (H p) = some xs ∧ d = .tuple ds ∧ xs.length ≤ m ∧ All2 (RpM m H n) xs ds) ∨ ∃ p, v = .ref p ∧ H p = some (.dK []) ∧ d = .dict []
abbrev Rp := RpM 1000
theorem Flat.wide {m k : Nat} {v : V} {d : PyData} (hk : m ≤ k) (h : Flat m v d) : Flat k v d := by
  rcases h with h | h | h | ⟨z, ⟨e1, e2⟩, e3⟩
  · exact .inl h
  · exact .inr (.inl h)
  · exact .inr (.inr (.inl h))
  · exact .inr (.inr (.inr ⟨z, ⟨e1, Nat.le_trans e2 hk⟩, e3⟩))
theorem RpM.mono {m : Nat} {H H' : Hp} (s : Sm H H') : ∀ {n : Nat} {v : V} {d : PyData}, RpM m H n v d → RpM m H' n v d
  | 0, _, _, h => h
  | n + 1, v, d, h => by
    rcases h with h | ⟨p, xs, ds, e1, e2, e3, e4, e5, e6⟩ | ⟨p, xs, ds, e1, e2, e3, e4, e5, e6⟩ | ⟨p, e1, e2, e3⟩
    · exact .inl h
    · exact .inr (.inl ⟨p, xs, ds, e1, sm_L s e2, e3, e4, e5, fun i x d hx hd => RpM.mono s (e6 i x d hx hd)⟩)
    · exact .inr (.inr (.inl ⟨p, xs, ds, e1, sm_T s e2, e3, e4, e5, fun i x d hx hd => RpM.mono s (e6 i x d hx hd)⟩))
    · exact .inr (.inr (.inr ⟨p, e1, s _ _ e2, e3⟩))
theorem RpM.wide {m k : Nat} (hk : m ≤ k) {H : Hp} : ∀ {n : Nat} {v : V} {d : PyData}, RpM m H n v d → RpM k H n v d
  | 0, _, _, h => Flat.wide hk h
  | n + 1, v, d, h => by
    rcases h with h | ⟨p, xs, ds, e1, e2, e3, e4, e5, e6⟩ | ⟨p, xs, ds, e1, e2, e3, e4, e5, e6⟩ | ⟨p, e1, e2, e3⟩
    · exact .inl (h.wide hk)
    · exact .inr (.inl ⟨p, xs, ds, e1, e2, e3, Nat.le_trans e4 hk, e5, fun i x d hx hd => RpM.wide hk (e6 i x d hx hd)⟩)
    · exact .inr (.inr (.inl ⟨p, xs, ds, e1, e2, e3, Nat.le_trans e4 hk, e5, fun i x d hx hd => RpM.wide hk (e6 i x d hx hd)⟩))
    · exact .inr (.inr (.inr ⟨p, e1, e2, e3⟩))
theorem RpM.up {m : Nat} {H : Hp} : ∀ {n : Nat} {v : V} {d : PyData}, RpM m H n v d → RpM m H (n + 1) v d
  | 0, _, _, h => .inl h
  | n + 1, v, d, h => by
    rcases h with h | ⟨p, xs, ds, e1, e2, e3, e4, e5, e6⟩ | ⟨p, xs, ds, e1, e2, e3, e4, e5, e6⟩ | ⟨p, e1, e2, e3⟩
    · exact .inl h
    · exact .inr (.inl ⟨p, xs, ds, e1, e2, e3, e4, e5, fun i x d hx hd => RpM.up (e6 i x d hx hd)⟩)
    · exact .inr (.inr (.inl ⟨p, xs, ds, e1, e2, e3, e4, e5, fun i x d hx hd => RpM.up (e6 i x d hx hd)⟩))
    · exact .inr (.inr (.inr ⟨p, e1, e2, e3⟩))
theorem tup_ty {H : Hp} {p : Addr} {xs : List V} (h : asT (H p) = some xs) : tyN (.ref p) H = some "tuple" := by
  dsimp only [tyN]
  cases e : H p with
  | none => rw [e] at h; cases h
  | some o =>
    rw [e] at h
    cases o with
    | tup ys => rfl
    | frz ob u => cases u <;> first | rfl | (cases h)
    | _ => cases h
theorem asS_of_T {o : Option HO} {xs : List V} (h : asT o = some xs) : asS o = some xs := by
  cases o with
  | none => cases h
  | some u =>
    cases u with
    | tup ys => exact h
    | frz ob w => cases w <;> first | exact h | (cases h)
    | _ => cases h
/-- both stand for one data: they are the same -/
def sp_sameN (n : Nat) : Sp := fun vs H Q _ => ∃ v1 v2 d, vs = [v1, v2] ∧ Rp H n v1 d ∧ Rp H n v2 d ∧ ∀ H', Sm H H' → Q (.bl true) H'
def sp_same_in : Nat → Sp
  | 0 => fun _ _ _ _ => False
  | n + 1 => sp_sameN n
def sp_l_same (K : PySem.W.Frag) (C : CA) : Sp := sp_sameN 6
def rd_l_same (K : PySem.W.Frag) (C : CA) (spR : Sp) (E : XK) : TS :=
  (tSeq (tIfS (tOr (tTest (tOp fIsN (tVar 0) (tC .non))) (tTest (tOp fIsN (tVar 1) (tC .non)))) (tRet (tAndV (tOp fIsN (tVar 0) (tC .non)) (tOp fIsN (tVar 1) (tC .non)))) tNext) (tSeq (tIfS (tOr (tB (tCB fIsi (tCons (tVar 0) (tCons (tC (.ty "bool")) tNil)))) (tB (tCB fIsi (tCons (tVar 1) (tCons (tC (.ty "bool")) tNil))))) (tRet (tAndV (tCB fIsi (tCons (tVar 0) (tCons (tC (.ty "bool")) tNil))) (tAndV (tCB fIsi (tCons (tVar 1) (tCons (tC (.ty "bool")) tNil))) (tOp (fEq K) (tVar 0) (tVar 1))))) tNext) (tSeq (tIfS (tOr (tB (tCB fIsi (tCons (tVar 0) (tCons (tC (.ty "int")) tNil)))) (tB (tCB fIsi (tCons (tVar 1) (tCons (tC (.ty "int")) tNil))))) (tRet (tAndV (tCB fIsi (tCons (tVar 0) (tCons (tC (.ty "int")) tNil))) (tAndV (tCB fIsi (tCons (tVar 1) (tCons (tC (.ty "int")) tNil))) (tOp (fEq K) (tVar 0) (tVar 1))))) tNext) (tSeq (tIfS (tOr (tB (tCB fIsi (tCons (tVar 0) (tCons (tC (.ty "str")) tNil)))) (tB (tCB fIsi (tCons (tVar 1) (tCons (tC (.ty "str")) tNil))))) (tRet (tAndV (tCB fIsi (tCons (tVar 0) (tCons (tC (.ty "str")) tNil))) (tAndV (tCB fIsi (tCons (tVar 1) (tCons (tC (.ty "str")) tNil))) (tOp (fEq K) (tVar 0) (tVar 1))))) tNext) (tSeq (tIfS (tOr (tB (tCB fIsi (tCons (tVar 0) (tCons (tC (.ty "dict")) tNil)))) (tB (tCB fIsi (tCons (tVar 1) (tCons (tC (.ty "dict")) tNil))))) (tSeq (tIfS (tOr (tNot (tB (tCB fIsi (tCons (tVar 0) (tCons (tC (.ty "dict")) tNil))))) (tOr (tNot (tB (tCB fIsi (tCons (tVar 1) (tCons (tC (.ty "dict")) tNil))))) (tTest (tOp (fNe K) (tCB fLen2 (tCons (tVar 0) tNil)) (tCB fLen2 (tCons (tVar 1) tNil)))))) (tRet (tC (.bl false))) tNext) (tSeq (tLock (tFor (iKeys (tVar 0)) (gName 2) tNever)) (tRet (tC (.bl true))))) tNext) (tSeq (tIfS (tOr (tB (tCB fIsiT (tCons (tVar 0) (tCons (tTup (tCons (tC (.ty "list")) (tCons (tC (.ty "tuple")) tNil))) tNil)))) (tB (tCB fIsiT (tCons (tVar 1) (tCons (tTup (tCons (tC (.ty "list")) (tCons (tC (.ty "tuple")) tNil))) tNil))))) (tSeq (tIfS (tOr (tTest (tOp (fNe K) (tCB fIsi (tCons (tVar 0) (tCons (tC (.ty "list")) tNil))) (tCB fIsi (tCons (tVar 1) (tCons (tC (.ty "list")) tNil))))) (tTest (tOp (fNe K) (tCB fIsi (tCons (tVar 0) (tCons (tC (.ty "tuple")) tNil))) (tCB fIsi (tCons (tVar 1) (tCons (tC (.ty "tuple")) tNil)))))) (tRet (tC (.bl false))) tNext) (tSeq (tIfS (tTest (tOp (fNe K) (tCB fLen2 (tCons (tVar 0) tNil)) (tCB fLen2 (tCons (tVar 1) tNil)))) (tRet (tC (.bl false))) tNext) (tSeq (tFor (iRng1 (tCons (tCB fLen2 (tCons (tVar 0) tNil)) tNil)) (gName 3) (tIfS (tNot (tB (tCallS spR (fun _ => E0) (tCons (tOp fIx (tVar 0) (tVar 3)) (tCons (tOp fIx (tVar 1) (tVar 3)) tNil))))) (tRet (tC (.bl false))) tNext)) (tRet (tC (.bl true)))))) tNext) (tSeq tNever tNever)))))))
theorem pure_l_sameN {K : PySem.W.Frag} {C : CA} (n : Nat) (vs : List V) (H : Hp) (Q : VK) (E : XK) (h : sp_sameN n vs H Q E) : rd_l_same K C (sp_same_in n) E { nx := fun _ H' => Q .non H', rt := Q } (start [("one" : Str), ("other" : Str), ("key" : Str), ("k" : Str), ("alike" : Str), ("found" : Str)] vs) H := by
  obtain ⟨v1, v2, d, rfl, r1, r2, q⟩ := h
  show rd_l_same K C _ E _ [some v1, some v2, none, none, none, none] H
  unfold rd_l_same
  have flat : Flat 1000 v1 d → Flat 1000 v2 d → rd_l_same K C (sp_same_in n) E { nx := fun _ H' => Q .non H', rt := Q } [some v1, some v2, none, none, none, none] H := fun f1 f2 => by
    have q0 := q H fun _ _ z => z
    unfold rd_l_same
    rcases f1 with ⟨rfl, rfl⟩ | ⟨b, rfl, rfl⟩ | ⟨i, rfl, rfl⟩ | ⟨z, ⟨rfl, _⟩, rfl⟩
    · rcases f2 with ⟨rfl, _⟩ | ⟨b, rfl, e⟩ | ⟨i, rfl, e⟩ | ⟨z, ⟨rfl, _⟩, e⟩
      · refine q_if ?_
        walk_at "s"
        exact q0
      all_goals cases e
    · rcases f2 with ⟨rfl, e⟩ | ⟨b2, rfl, e⟩ | ⟨i, rfl, e⟩ | ⟨z, ⟨rfl, _⟩, e⟩
      · cases e
      · cases e
        refine q_if ?_
        walk_at "s"
        refine q_if ?_
        walk_at "s"
        exact q0
      all_goals cases e
    · rcases f2 with ⟨rfl, e⟩ | ⟨b2, rfl, e⟩ | ⟨i2, rfl, e⟩ | ⟨z, ⟨rfl, _⟩, e⟩
      · cases e
      · cases e
      · cases e
        refine q_if ?_
        walk_at "s"
        refine q_if ?_
        walk_at "s"
        refine q_if ?_
        walk_at "s"
        exact q0
      · cases e
    · rcases f2 with ⟨rfl, e⟩ | ⟨b2, rfl, e⟩ | ⟨i2, rfl, e⟩ | ⟨z2, ⟨rfl, _⟩, e⟩
      · cases e
      · cases e
      · cases e
      · cases e
        refine q_if ?_
        walk_at "s"
        refine q_if ?_
        walk_at "s"
        refine q_if ?_
        walk_at "s"
        refine q_if ?_
        walk_at "s"
        exact q0
  cases n with
  | zero => exact flat r1 r2
  | succ n =>
    rcases r1 with f1 | ⟨p1, xs, ds, rfl, e1, rfl, l1, a1⟩ | ⟨p1, xs, ds, rfl, e1, rfl, l1, a1⟩ | ⟨p1, rfl, e1, rfl⟩
    · rcases r2 with f2 | ⟨p2, ys, ds2, rfl, e2, rfl, l2, a2⟩ | ⟨p2, ys, ds2, rfl, e2, rfl, l2, a2⟩ | ⟨p2, rfl, e2, rfl⟩
      · exact flat f1 f2
      · rcases f1 with ⟨_, e⟩ | ⟨_, _, e⟩ | ⟨_, _, e⟩ | ⟨_, _, e⟩ <;> cases e
      · rcases f1 with ⟨_, e⟩ | ⟨_, _, e⟩ | ⟨_, _, e⟩ | ⟨_, _, e⟩ <;> cases e
      · rcases f1 with ⟨_, e⟩ | ⟨_, _, e⟩ | ⟨_, _, e⟩ | ⟨_, _, e⟩ <;> cases e
    · rcases r2 with f2 | ⟨p2, ys, ds2, rfl, e2, e, l2, a2⟩ | ⟨p2, ys, ds2, rfl, e2, e, l2, a2⟩ | ⟨p2, rfl, e2, e⟩
      · rcases f2 with ⟨_, e⟩ | ⟨_, _, e⟩ | ⟨_, _, e⟩ | ⟨_, _, e⟩ <;> cases e
      · cases e
        refine q_if ?_
        walk_at "s"
        refine q_if ?_
        walk_at "s"
        rw [lst_ty e1, lst_ty e2]
        walk_at "s"
        refine q_if ?_
        walk_at "s"
        rw [lst_ty e1, lst_ty e2]
        walk_at "s"
        refine q_if ?_
        walk_at "s"
        rw [lst_ty e1, lst_ty e2]
        walk_at "s"
        refine q_if ?_
        walk_at "s"
        rw [lst_ty e1, lst_ty e2]
        walk_at "s"
        refine q_if ?_
        walk_at "s"
        refine ⟨by decide, fun tp htp => ?_⟩
        have s1 : Sm H (upd H tp (.tup [V.ty "list", V.ty "tuple"])) := sm_new (fun _ _ z => z) htp
        have t1 := upd_same (H := H) (a := tp) (o := .tup [V.ty "list", V.ty "tuple"])
        generalize upd H tp (.tup [V.ty "list", V.ty "tuple"]) = H1 at s1 t1 ⊢
        rw [tyN_mono s1 (lst_ty e1)]
        walk_at "s"
        have e1' := sm_L s1 e1
        have e2' := sm_L s1 e2
        refine q_if ?_
        walk_at "s"
        rw [lst_ty e1', lst_ty e2']
        walk_at "s"
        refine q_if ?_
        walk_at "s"
        simp only [f_lenL (asS_of_L e1'), f_lenL (asS_of_L e2')]
        walk_at "s"
        have ll : xs.length = ys.length := a1.1.trans a2.1.symm
        have l3 : (xs.length : Int) = ys.length := by omega
        simp only [l3, decide_true, Bool.not_true, Bool.false_eq_true, if_false]
        refine q_for ?_
        walk_at "s"
        simp only [f_lenL (asS_of_L e1')]
        walk_at "s"
        refine ⟨by omega, by omega, ?_⟩
        refine loop_range (fun i σ H2 => ∃ v, σ = [some (.ref p1), some (.ref p2), none, v, none, none] ∧ Sm H1 H2) ⟨_, rfl, fun _ _ z => z⟩ ?_ ?_
        · rintro i σ H2 hi ⟨v, rfl, s2⟩
          walk_at "s"
          have hx : i < xs.length := by omega
          have hy : i < ys.length := by omega
          have hd : i < ds.length := by have := a1.1; omega
          refine q_if1 ?_
          walk_at "s"
          rw [asS_of_L (sm_L s2 e1'), asS_of_L (sm_L s2 e2')]
          walk_at "s"
          have ei : (0 : Int) + (i : Nat) = (i : Nat) := Int.zero_add _
          rw [ei]
          refine at_nat (v := xs[i]) (by simp [hx]) (at_nat (v := ys[i]) (by simp [hy]) ?_)
          refine ⟨_, _, ds[i], rfl, (a1.2 i _ _ (by simp [hx]) (by simp [hd])).mono (fun b o z => s2 b o (s1 b o z)), (a2.2 i _ _ (by simp [hy]) (by simp [hd])).mono (fun b o z => s2 b o (s1 b o z)), fun H3 s3 => ?_⟩
          walk_at "s"
          exact fun b o z => s3 b o (s2 b o z)
        · rintro σ H2 ⟨v, rfl, s2⟩
          walk_at "s"
          exact q H2 fun b o z => s2 b o (s1 b o z)
      · cases e
      · cases e
    · rcases r2 with f2 | ⟨p2, ys, ds2, rfl, e2, e, l2, a2⟩ | ⟨p2, ys, ds2, rfl, e2, e, l2, a2⟩ | ⟨p2, rfl, e2, e⟩
      · rcases f2 with ⟨_, e⟩ | ⟨_, _, e⟩ | ⟨_, _, e⟩ | ⟨_, _, e⟩ <;> cases e
      · cases e
      · cases e
        refine q_if ?_
        walk_at "s"
        refine q_if ?_
        walk_at "s"
        rw [tup_ty e1, tup_ty e2]
        walk_at "s"
        refine q_if ?_
        walk_at "s"
        rw [tup_ty e1, tup_ty e2]
        walk_at "s"
        refine q_if ?_
        walk_at "s"
        rw [tup_ty e1, tup_ty e2]
        walk_at "s"
        refine q_if ?_
        walk_at "s"
        rw [tup_ty e1, tup_ty e2]
        walk_at "s"
        refine q_if ?_
        walk_at "s"
        refine ⟨by decide, fun tp htp => ?_⟩
        have s1 : Sm H (upd H tp (.tup [V.ty "list", V.ty "tuple"])) := sm_new (fun _ _ z => z) htp
        have t1 := upd_same (H := H) (a := tp) (o := .tup [V.ty "list", V.ty "tuple"])
        generalize upd H tp (.tup [V.ty "list", V.ty "tuple"]) = H1 at s1 t1 ⊢
        rw [tyN_mono s1 (tup_ty e1)]
        walk_at "s"
        have e1' := sm_T s1 e1
        have e2' := sm_T s1 e2
        refine q_if ?_
        walk_at "s"
        rw [tup_ty e1', tup_ty e2']
        walk_at "s"
        refine q_if ?_
        walk_at "s"
        simp only [f_lenL (asS_of_T e1'), f_lenL (asS_of_T e2')]
        walk_at "s"
        have ll : xs.length = ys.length := a1.1.trans a2.1.symm
        have l3 : (xs.length : Int) = ys.length := by omega
        simp only [l3, decide_true, Bool.not_true, Bool.false_eq_true, if_false]
        refine q_for ?_
        walk_at "s"
        simp only [f_lenL (asS_of_T e1')]
        walk_at "s"
        refine ⟨by omega, by omega, ?_⟩
        refine loop_range (fun i σ H2 => ∃ v, σ = [some (.ref p1), some (.ref p2), none, v, none, none] ∧ Sm H1 H2) ⟨_, rfl, fun _ _ z => z⟩ ?_ ?_
        · rintro i σ H2 hi ⟨v, rfl, s2⟩
          walk_at "s"
          have hx : i < xs.length := by omega
          have hy : i < ys.length := by omega
          have hd : i < ds.length := by have := a1.1; omega
          refine q_if1 ?_
          walk_at "s"
          rw [asS_of_T (sm_T s2 e1'), asS_of_T (sm_T s2 e2')]
          walk_at "s"
          have ei : (0 : Int) + (i : Nat) = (i : Nat) := Int.zero_add _
          rw [ei]
          refine at_nat (v := xs[i]) (by simp [hx]) (at_nat (v := ys[i]) (by simp [hy]) ?_)
          refine ⟨_, _, ds[i], rfl, (a1.2 i _ _ (by simp [hx]) (by simp [hd])).mono (fun b o z => s2 b o (s1 b o z)), (a2.2 i _ _ (by simp [hy]) (by simp [hd])).mono (fun b o z => s2 b o (s1 b o z)), fun H3 s3 => ?_⟩
          walk_at "s"
          exact fun b o z => s3 b o (s2 b o z)
        · rintro σ H2 ⟨v, rfl, s2⟩
          walk_at "s"
          exact q H2 fun b o z => s2 b o (s1 b o z)
      · cases e
    · rcases r2 with f2 | ⟨p2, ys, ds2, rfl, e2, e, l2, a2⟩ | ⟨p2, ys, ds2, rfl, e2, e, l2, a2⟩ | ⟨p2, rfl, e2, e⟩
      · rcases f2 with ⟨_, e⟩ | ⟨_, _, e⟩ | ⟨_, _, e⟩ | ⟨_, _, e⟩ <;> cases e
      · cases e
      · cases e
      · have y1 := tyN_dK e1
        have y2 := tyN_dK e2
        refine q_if ?_
        walk_at "s"
        refine q_if ?_
        walk_at "s"
        rw [y1, y2]
        walk_at "s"
        refine q_if ?_
        walk_at "s"
        rw [y1, y2]
        walk_at "s"
        refine q_if ?_
        walk_at "s"
        rw [y1, y2]
        walk_at "s"
        refine q_if ?_
        walk_at "s"
        rw [y1]
        walk_at "s"
        refine q_if ?_
        walk_at "s"
        rw [y1]
        walk_at "s"
        rw [y2]
        walk_at "s"
        simp only [f_lenD e1, f_lenD e2]
        walk_at "s"
        refine q_seq (lock_empty (n := 0) rfl e1 ?_)
        walk_at "s"
        exact q H fun _ _ z => z
def sp_l_store (K : PySem.W.Frag) (C : CA) : Sp := fun vs H Q _ => ∃ (a : Addr) (ns : List Int), vs = [.ref a] ∧ SqL K H a (ns.map V.int) ∧ ns.length ≤ 63 ∧ ∀ st H', Sm H H' → H st = none → StAt H' st → Q (.ref st) H'
def rd_l_store (K : PySem.W.Frag) (C : CA) (E : XK) : TS :=
  (tSeq (tAsg (tLc (iList K (tVar 0)) (gName 1) tYes (tCB fInt (tCons (tVar 1) tNil)) [1]) (gName 2)) (tSeq (tAsg (tC (.int 0)) (gName 3)) (tSeq (tFor (iList K (tVar 2)) (gName 1) (tAsg (tCallS (sp_l_mixed K C) (fun _ => E0) (tCons (tOp fAdd (tCB fInt (tCons (tVar 1) tNil)) (tVar 3)) (tCons (tCB fLen (tCons (tVar 2) tNil)) tNil))) (gName 3))) (tRet (tLst (tCons (tVar 2) (tCons (tC (.int 0)) (tCons (tC (.int 0)) (tCons (tC (.int 0)) (tCons (tVar 3) tNil))))))))))
theorem pure_l_store {K : PySem.W.Frag} {C : CA} (vs : List V) (H : Hp) (Q : VK) (E : XK) (h : sp_l_store K C vs H Q E) : rd_l_store K C E { nx := fun _ H' => Q .non H', rt := Q } (start [("script" : Str), ("cell" : Str), ("cells" : Str), ("seed" : Str)] vs) H := by
  obtain ⟨a, ns, rfl, hs, hn, q⟩ := h
  show rd_l_store K C E _ [some (.ref a), none, none, none] H
  unfold rd_l_store
  refine q_asg ?_
  walk_at "s"
  rw [u_list]
  walk_at "s"
  refine ⟨⟨_, hs⟩, fun Dd hD => ?_⟩
  refine made_mapS id (fun H' s => L2.Same.seq s hs) hD (by rw [List.length_map]; show _ < 2 ^ 24; omega) (fun _ => rfl) (fun i x H1 Q1 hx s1 q1 => ?_) fun H1 s1 hd => ?_
  · obtain ⟨n, hn, rfl⟩ := get_int hx
    walk_at "s"
    exact q1 H1 fun _ _ z => z
  · rw [List.map_id] at hd
    walk_at "s"
    refine q_asg ?_
    walk_at "s"
    refine q_for ?_
    rw [u_list]
    walk_at "s"
    refine ⟨⟨_, asL_seq (by rw [hd] <;> rfl)⟩, ?_⟩
    refine loop_list (xs := ns.map V.int) (fun i σ H2 => ∃ (v : Option V) (e : Int), σ = [some (.ref a), v, some (.ref Dd), some (.int e)] ∧ H2 = H1) ⟨_, _, rfl, rfl⟩ (fun i σ H2 _ ⟨_, _, _, e⟩ => by rw [e, hd] <;> rfl) ?_ ?_
    · rintro i x σ H2 hx ⟨v, e, rfl, rfl⟩
      obtain ⟨n, hn, rfl⟩ := get_int hx
      walk_at "s"
      refine q_asg1 ?_
      walk_at "s"
      rw [hd]
      walk_at "s"
      refine ⟨_, _, rfl, fun r _ _ => ?_⟩
      walk_at "s"
      exact ⟨r, rfl⟩
    · rintro σ H2 ⟨v, e, rfl, rfl⟩
      walk_at "s"
      refine ⟨by decide, fun st hst => ?_⟩
      have h0 : H st = none := by
        cases eo : H st with
        | none => rfl
        | some o => rw [s1 _ _ eo] at hst; cases hst
      refine q st _ (sm_new s1 hst) h0 ⟨Dd, ns, 0, 0, 0, e, upd_same, ?_, ne_of_none hd hst, by decide, by omega⟩
      rw [upd_ne (ne_of_none hd hst)]
      exact hd
theorem Kp.put' {st p : Addr} {H H1 : Hp} {o : HO} (a : Kp st H H1) (h : H p = none) (n : p ≠ st) : Kp st H (upd H1 p o) := ⟨fun x u m e => by
  rw [upd_ne (ne_of_none e h)]
  exact a.1 x u m e, fun c r e => by
  obtain ⟨r1, h1⟩ := a.2 c r e
  exact ⟨r1, by rw [upd_ne n.symm]; exact h1⟩⟩
theorem StAt.put' {H H1 : Hp} {st p : Addr} {o : HO} (s : StAt H st) (h : H p = none) (k : Kp st H H1) (s1 : StAt H1 st) : StAt (upd H1 p o) st := by
  have n := s.ne h
  obtain ⟨c, ns, a, b, d, e, h1, h2, _⟩ := s
  obtain ⟨c', ns', a', b', d', e', g1, g2, g3, g4, g5⟩ := s1
  obtain ⟨r1, e1⟩ := k.2 _ _ h1
  rw [g1] at e1
  cases e1
  exact ⟨c, ns', a', b', d', e', by rw [upd_ne n.symm]; exact g1, by rw [upd_ne (ne_of_none h2 h)]; exact g2, g3, g4, g5⟩
theorem asS_at {H : Hp} {p : Addr} {xs : List V} (h : H p = some (.lst xs)) : asS (H p) = some xs := by rw [h]; rfl
theorem asL_at {H : Hp} {p : Addr} {xs : List V} (h : H p = some (.lst xs)) : asL (H p) = some xs := by rw [h]; rfl
theorem pick_ok {K : PySem.W.Frag} {C : CA} {H : Hp} {Q : VK} {E : XK} {st p : Addr} {xs : List V} (hs : StAt H st) (hp : asS (H p) = some xs) (n : p ≠ st) (hl : xs.length < 2 ^ 60) (h0 : xs ≠ [])
    (q : ∀ (n : Nat) (v : V) (H' : Hp), xs[n]? = some v → Kp st H H' → StAt H' st → Q v H') : sp_l_pick K C [.ref st, .ref p] H Q E := ⟨_, _, _, rfl, hs, hp, n, hl, fun e => absurd e h0, q⟩
theorem cut_to {xs : List V} {i : Int} (h : 0 ≤ i) : cutV xs none (some i) = xs.take i.toNat := by
  obtain ⟨n, rfl⟩ : ∃ n : Nat, i = n := ⟨i.toNat, by omega⟩
  unfold cutV
  rw [HT.sIx_none, List.drop_zero, HT.sIx_nat, Nat.sub_zero, Int.toNat_natCast, ← List.take_eq_take_min]
theorem cut_from {xs : List V} {i : Int} (h : 0 ≤ i) : cutV xs (some i) none = xs.drop i.toNat := by
  obtain ⟨n, rfl⟩ : ∃ n : Nat, i = n := ⟨i.toNat, by omega⟩
  unfold cutV
  rw [HT.sIx_none, HT.sIx_nat, Int.toNat_natCast]
  by_cases c : n ≤ xs.length
  · rw [Nat.min_eq_left c, List.take_of_length_le (by rw [List.length_drop]; omega)]
  · rw [List.drop_eq_nil_of_le (by omega), List.drop_eq_nil_of_le (by omega), List.take_nil]
end XB

/-! Lists spoilt. -/
namespace XB
open PySem L2
local macro_rules | `(tactic| walk_at "s") => `(tactic| try simp only [u_var, u_c, u_op, u_un, u_nil, u_cons, u_cb, u_call, u_callS, u_tup, u_lst, u_test, u_B, u_and, u_or, u_not, u_andV, u_orV, u_notV, u_ifE, u_chain, u_sl, u_noPart, u_part, u_bm, u_bm0, u_rev, u_lc, u_try, u_sui, u_sui0, u_unb_rt, u_unb_nx, u_xf, u_WE, w_nil, w_cons, u_raise, u_rng1, u_rng2, u_next, u_ret, u_gname, u_gnil, u_gcons, u_gsub, u_gtup,
  f_add, f_addS, f_addR, f_sub, f_mul, f_mulR, f_mod, f_div, f_pow, f_neg, f_cmp, f_eq, f_eqB, f_eqS, f_ne, f_neB, f_neS, f_isN, f_notN, f_isB, f_ix, f_ixS, f_int, f_intB, f_len, f_lenS, f_max, f_min, f_abs, f_list, f_tuple, f_all, f_sum, f_isi, f_isiT, f_append, f_insert, f_pop, f_sl, f_set,
  kitS, tys, List.isEmpty_cons, Option.map_some, kt_NoneType_int, kt_NoneType_bool, kt_NoneType_str, kt_NoneType_list, kt_NoneType_tuple, kt_NoneType_dict, kt_int_int, kt_int_bool, kt_int_str, kt_int_list, kt_int_tuple, kt_int_dict, kt_bool_int, kt_bool_bool, kt_bool_str, kt_bool_list, kt_bool_tuple, kt_bool_dict, kt_str_int, kt_str_bool, kt_str_str, kt_str_list, kt_str_tuple, kt_str_dict, kt_list_int, kt_list_bool, kt_list_str, kt_list_list, kt_list_tuple, kt_list_dict, kt_tuple_int, kt_tuple_bool, kt_tuple_str, kt_tuple_list, kt_tuple_tuple, kt_tuple_dict, kt_dict_int, kt_dict_bool, kt_dict_str, kt_dict_list, kt_dict_tuple, kt_dict_dict, asL_lst, asL_frz, asL_tup, asT_tup, asS_lst, asS_frz, asS_tup, tyN_non, tyN_bl, tyN_int, tyN_str, atV_lit, ixN_lit, upd_same, upd_ne, upd_ne',
  List.getElem?_cons_zero, List.getElem?_cons_succ, List.set_cons_zero, List.set_cons_succ, List.append_nil, List.length_cons, List.length_nil, Option.some.injEq, exists_eq_left', exists_eq_left, exists_and_left, V.bl.injEq, V.int.injEq, V.str.injEq, V.ref.injEq, Bool.not_eq_true, Bool.not_true, Bool.not_false, decide_true, decide_false, decide_eq_true_eq, decide_eq_false_iff_not, Bool.false_eq_true, if_true, if_false, ite_true, ite_false, reduceCtorEq, true_and, and_true, Nat.reduceAdd, Nat.reduceLT, Nat.zero_add, ne_eq, not_false_eq_true, not_true_eq_false, List.cons.injEq, and_assoc])
local macro_rules | `(tactic| walk_at "S") => `(tactic| try simp only [u_var, u_c, u_op, u_un, u_nil, u_cons, u_cb, u_call, u_callS, u_tup, u_lst, u_test, u_B, u_and, u_or, u_not, u_andV, u_orV, u_notV, u_ifE, u_chain, u_sl, u_noPart, u_part, u_bm, u_bm0, u_rev, u_lc, u_try, u_sui, u_sui0, u_unb_rt, u_unb_nx, u_xf, u_WE, w_nil, w_cons, u_raise, u_rng1, u_rng2, u_next, u_ret, u_gname, u_gnil, u_gcons, u_gsub, u_gtup,
  f_add, f_addS, f_addR, f_sub, f_mul, f_mulR, f_mod, f_div, f_pow, f_neg, f_cmp, f_eq, f_eqB, f_eqS, f_ne, f_neB, f_neS, f_isN, f_notN, f_isB, f_ix, f_ixS, f_int, f_intB, f_len, f_lenS, f_max, f_min, f_abs, f_list, f_tuple, f_all, f_sum, f_isi, f_isiT, f_append, f_insert, f_pop, f_sl, f_set,
  kitS, tys, List.isEmpty_cons, Option.map_some, kt_NoneType_int, kt_NoneType_bool, kt_NoneType_str, kt_NoneType_list, kt_NoneType_tuple, kt_NoneType_dict, kt_int_int, kt_int_bool, kt_int_str, kt_int_list, kt_int_tuple, kt_int_dict, kt_bool_int, kt_bool_bool, kt_bool_str, kt_bool_list, kt_bool_tuple, kt_bool_dict, kt_str_int, kt_str_bool, kt_str_str, kt_str_list, kt_str_tuple, kt_str_dict, kt_list_int, kt_list_bool, kt_list_str, kt_list_list, kt_list_tuple, kt_list_dict, kt_tuple_int, kt_tuple_bool, kt_tuple_str, kt_tuple_list, kt_tuple_tuple, kt_tuple_dict, kt_dict_int, kt_dict_bool, kt_dict_str, kt_dict_list, kt_dict_tuple, kt_dict_dict, asL_lst, asL_frz, asL_tup, asT_tup, asS_lst, asS_frz, asS_tup, tyN_non, tyN_bl, tyN_int, tyN_str, atV_lit, ixN_lit, upd_same, upd_ne, upd_ne',
  List.getElem?_cons_zero, List.getElem?_cons_succ, List.set_cons_zero, List.set_cons_succ, List.append_nil, List.length_cons, List.length_nil, Option.some.injEq, exists_eq_left', exists_eq_left, exists_and_left, V.bl.injEq, V.int.injEq, V.str.injEq, V.ref.injEq, Bool.not_eq_true, Bool.not_true, Bool.not_false, decide_true, decide_false, decide_eq_true_eq, decide_eq_false_iff_not, Bool.false_eq_true, if_true, if_false, ite_true, ite_false, reduceCtorEq, true_and, and_true, Nat.reduceAdd, Nat.reduceLT, Nat.zero_add, ne_eq, not_false_eq_true, not_true_eq_false, List.cons.injEq, and_assoc, *])
/-- a plain value, or a tuple of such -/
def TF (H : Hp) (x : V) : Prop := flatV x = true ∨ ∃ q ys, x = .ref q ∧ asT (H q) = some ys ∧ ys.all flatV = true ∧ ys.length ≤ 1000
theorem TF.mono {H H' : Hp} {x : V} (s : Sm H H') (h : TF H x) : TF H' x := by
  rcases h with h | ⟨q, ys, e1, e2, e3⟩
  · exact .inl h
  · exact .inr ⟨q, ys, e1, sm_T s e2, e3⟩
def sp_spoil0 : Sp := fun vs H Q _ => ∃ v, vs = [v] ∧ flatV v = true ∧ ∀ H', Sm H H' → Q .non H'
def sp_spoil1 : Sp := fun vs H Q _ => ∃ v, vs = [v] ∧ TF H v ∧ ∀ H', Sm H H' → Q .non H'
def sp_spoilC : Sp := fun vs H Q _ => ∃ p xs, vs = [.ref p] ∧ H p = some (.lst xs) ∧ xs.length ≤ 1000 ∧ (∀ x ∈ xs, TF H x) ∧ ∀ H', (∀ b o, b ≠ p → H b = some o → H' b = some o) → Q .non H'
def sp_spoil2 : Sp := fun vs H Q E => sp_spoil1 vs H Q E ∨ sp_spoilC vs H Q E
def sp_spoilD : Sp := fun vs H Q _ => ∃ t p ys, vs = [.ref t] ∧ H t = some (.lst [.ref p]) ∧ p ≠ t ∧ H p = some (.lst ys) ∧ ys.length ≤ 1000 ∧ (∀ x ∈ ys, TF H x) ∧ ∀ H', (∀ b o, b ≠ t → b ≠ p → H b = some o → H' b = some o) → Q .non H'
def sp_l_spoil (K : PySem.W.Frag) (C : CA) : Sp := fun vs H Q E => sp_spoilC vs H Q E ∨ sp_spoilD vs H Q E
def rd_l_spoil (K : PySem.W.Frag) (C : CA) (spR : Sp) (E : XK) : TS :=
  (tSeq (tIfS (tB (tCB fIsi (tCons (tVar 0) (tCons (tC (.ty "dict")) tNil)))) tNever tNext) (tSeq (tIfS (tB (tCB fIsiT (tCons (tVar 0) (tCons (tTup (tCons (tC (.ty "list")) (tCons (tC (.ty "tuple")) tNil))) tNil)))) (tFor (iList K (tCB fList (tCons (tVar 0) tNil))) (gName 2) (tDrop (tCallS spR (fun _ => E0) (tCons (tVar 2) tNil)))) tNext) (tIfS (tB (tCB fIsi (tCons (tVar 0) (tCons (tC (.ty "list")) tNil)))) (tIfS (tTest (tOp fGt (tCB fLen (tCons (tVar 0) tNil)) (tC (.int 1)))) (tSeq (tDrop (tBM0F "list" fPop (tVar 0))) (tAsg (tC .non) (gSub (tVar 0) (tC (.int 0)) fSet))) (tDrop (tBMF "list" fAppend (tVar 0) (tCons (tC .non) tNil)))) tNext)))
abbrev spoilN : List Str := [("value" : Str), ("key" : Str), ("part" : Str)]
theorem pure_flat {K : PySem.W.Frag} {C : CA} {spR : Sp} (vs : List V) (H : Hp) (Q : VK) (E : XK) (h : sp_spoil0 vs H Q E) : rd_l_spoil K C spR E { nx := fun _ H' => Q .non H', rt := Q } (start spoilN vs) H := by
  obtain ⟨v, rfl, f, q⟩ := h
  show rd_l_spoil K C _ E _ [some v, none, none] H
  unfold rd_l_spoil
  refine q_if ?_
  cases v with
  | non =>
    walk_at "s"
    refine q_if ?_
    walk_at "s"
    refine ⟨by decide, fun tp ht => al ht fun H1 s1 h1 => ?_⟩
    try simp only [h1]
    walk_at "s"
    refine q_if1 ?_
    walk_at "s"
    exact q H1 s1
  | bl b =>
    walk_at "s"
    refine q_if ?_
    walk_at "s"
    refine ⟨by decide, fun tp ht => al ht fun H1 s1 h1 => ?_⟩
    try simp only [h1]
    walk_at "s"
    refine q_if1 ?_
    walk_at "s"
    exact q H1 s1
  | int i =>
    walk_at "s"
    refine q_if ?_
    walk_at "s"
    refine ⟨by decide, fun tp ht => al ht fun H1 s1 h1 => ?_⟩
    try simp only [h1]
    walk_at "s"
    refine q_if1 ?_
    walk_at "s"
    exact q H1 s1
  | str z =>
    walk_at "s"
    refine q_if ?_
    walk_at "s"
    refine ⟨by decide, fun tp ht => al ht fun H1 s1 h1 => ?_⟩
    try simp only [h1]
    walk_at "s"
    refine q_if1 ?_
    walk_at "s"
    exact q H1 s1
  | _ => cases f
theorem spoil_end {K : PySem.W.Frag} {H : Hp} {a : Addr} {xs : List V} {Q : VK} {σ1 σ2 : Option V} (h : H a = some (.lst xs)) (hl : xs.length ≤ 1000) (q : ∀ ys, (∀ f : V → Bool, f .non = true → xs.all f = true → ys.all f = true) → ys.length ≤ xs.length + 1 → (2 ≤ xs.length → ys.length ≤ xs.length) → (xs.length < 2 → ys.length ≤ 2) → Q .non (upd H a (.lst ys))) :
    tIfS (tB (tCB fIsi (tCons (tVar 0) (tCons (tC (.ty "list")) tNil)))) (tIfS (tTest (tOp fGt (tCB fLen (tCons (tVar 0) tNil)) (tC (.int 1)))) (tSeq (tDrop (tBM0F "list" fPop (tVar 0))) (tAsg (tC .non) (gSub (tVar 0) (tC (.int 0)) fSet)))
      (tDrop (tBMF "list" fAppend (tVar 0) (tCons (tC .non) tNil)))) tNext { nx := fun _ H' => Q .non H', rt := Q } [some (.ref a), σ1, σ2] H := by
  refine q_if1 ?_
  walk_at "s"
  simp only [tyN_lst h]
  walk_at "s"
  refine q_if1 ?_
  walk_at "s"
  simp only [h]
  walk_at "s"
  refine ite2 (fun c => ?_) fun c => ?_
  · have c2 : 1 < xs.length := by omega
    have el : xs[xs.length - 1]? = some (xs[xs.length - 1]'(by omega)) := by simp
    refine q_drop ?_
    walk_at "s"
    refine ⟨tyN_lst h, ?_⟩
    simp only [h, el]
    refine q_asg1 ?_
    walk_at "s"
    have c3 : 0 < xs.dropLast.length := by rw [List.length_dropLast]; omega
    simp only [c3, if_true, upd_upd]
    refine q _ (fun f f0 fa => ?_) ?_ ?_ ?_
    · rw [List.all_eq_true] at fa ⊢
      intro x hx
      rcases List.mem_or_eq_of_mem_set hx with hx | rfl
      · exact fa x (List.dropLast_subset _ hx)
      · exact f0
    · rw [List.length_set, List.length_dropLast]; omega
    · intro _; rw [List.length_set, List.length_dropLast]; omega
    · intro _; omega
  · refine q_drop1 ?_
    walk_at "s"
    refine ⟨tyN_lst h, ?_⟩
    simp only [h]
    refine ⟨by show _ < 2 ^ 24; omega, q _ (fun f f0 fa => ?_) ?_ ?_ ?_⟩
    · simp [fa, f0]
    · simp
    · intro _; omega
    · intro _; simp; omega
theorem pure_tf {K : PySem.W.Frag} {C : CA} {spR : Sp} (hR : ∀ v H Q E, flatV v = true → (∀ H', Sm H H' → Q .non H') → spR [v] H Q E) (vs : List V) (H : Hp) (Q : VK) (E : XK) (h : sp_spoil1 vs H Q E) :
    rd_l_spoil K C spR E { nx := fun _ H' => Q .non H', rt := Q } (start spoilN vs) H := by
  obtain ⟨v, rfl, h | ⟨a, xs, rfl, ha, fa, la⟩, q⟩ := h
  · exact pure_flat _ H Q E ⟨v, rfl, h, q⟩
  show rd_l_spoil K C _ E _ [some (.ref a), none, none] H
  unfold rd_l_spoil
  refine q_if ?_
  walk_at "s"
  simp only [tup_ty ha]
  walk_at "s"
  refine q_if ?_
  walk_at "s"
  refine ⟨by decide, fun tp ht => al ht fun H1 s1 h1 => ?_⟩
  have ha1 := sm_T s1 ha
  simp only [h1, tup_ty ha1]
  walk_at "s"
  refine q_for1 ?_
  rw [u_list]
  walk_at "s"
  simp only [asS_of_T ha1]
  walk_at "s"
  refine fun pl nl => al nl fun H2 s2 h2 => ⟨⟨xs, asL_seq (by rw [h2] <;> rfl)⟩, ?_⟩
  refine loop_list (xs := xs) (fun i σ H3 => ∃ v, σ = [some (.ref a), none, v] ∧ Sm H2 H3) ⟨_, rfl, fun _ _ z => z⟩ (fun i σ H3 _ ⟨_, _, s3⟩ => by rw [s3 _ _ h2] <;> rfl) ?_ ?_
  · rintro i x σ H3 hx ⟨v, rfl, s3⟩
    walk_at "s"
    refine q_drop1 ?_
    walk_at "s"
    refine hR x _ _ _ ?_ fun H4 s4 => ?_
    · rw [List.all_eq_true] at fa
      exact fa x (List.mem_of_getElem? hx)
    · walk_at "s"
      exact sm_trans s3 s4
  · rintro σ H3 ⟨v, rfl, s3⟩
    have s13 : Sm H H3 := sm_trans s1 (sm_trans s2 s3)
    dsimp only
    refine q_if1 ?_
    walk_at "s"
    simp only [tup_ty (sm_T s13 ha)]
    walk_at "s"
    exact q H3 s13
theorem pure_c {K : PySem.W.Frag} {C : CA} {spR : Sp} (hR : ∀ v H Q E, TF H v → (∀ H', Sm H H' → Q .non H') → spR [v] H Q E) (vs : List V) (H : Hp) (Q : VK) (E : XK) (h : sp_spoilC vs H Q E) :
    rd_l_spoil K C spR E { nx := fun _ H' => Q .non H', rt := Q } (start spoilN vs) H := by
  obtain ⟨a, xs, rfl, ha, la, fa, q⟩ := h
  show rd_l_spoil K C _ E _ [some (.ref a), none, none] H
  unfold rd_l_spoil
  refine q_if ?_
  walk_at "s"
  simp only [tyN_lst ha]
  walk_at "s"
  refine q_if ?_
  walk_at "s"
  refine ⟨by decide, fun tp ht => al ht fun H1 s1 h1 => ?_⟩
  have ha1 := s1 _ _ ha
  simp only [h1, tyN_lst ha1]
  walk_at "s"
  refine q_for1 ?_
  rw [u_list]
  walk_at "s"
  simp only [ha1]
  walk_at "s"
  refine fun pl nl => al nl fun H2 s2 h2 => ⟨⟨xs, asL_seq (by rw [h2] <;> rfl)⟩, ?_⟩
  refine loop_list (xs := xs) (fun i σ H3 => ∃ v, σ = [some (.ref a), none, v] ∧ Sm H2 H3) ⟨_, rfl, fun _ _ z => z⟩ (fun i σ H3 _ ⟨_, _, s3⟩ => by rw [s3 _ _ h2] <;> rfl) ?_ ?_
  · rintro i x σ H3 hx ⟨v, rfl, s3⟩
    walk_at "s"
    refine q_drop1 ?_
    walk_at "s"
    refine hR x _ _ _ ((fa x (List.mem_of_getElem? hx)).mono (sm_trans s1 (sm_trans s2 s3))) fun H4 s4 => ?_
    walk_at "s"
    exact sm_trans s3 s4
  · rintro σ H3 ⟨v, rfl, s3⟩
    have s13 : Sm H H3 := sm_trans s1 (sm_trans s2 s3)
    refine spoil_end (K := K) (s13 _ _ ha) la fun ys _ _ _ _ => q _ fun b o nb hb => ?_
    rw [upd_ne nb]
    exact s13 _ _ hb
theorem pure_d {K : PySem.W.Frag} {C : CA} {spR : Sp} (hR : ∀ vs H Q E, sp_spoilC vs H Q E → spR vs H Q E) (vs : List V) (H : Hp) (Q : VK) (E : XK) (h : sp_spoilD vs H Q E) :
    rd_l_spoil K C spR E { nx := fun _ H' => Q .non H', rt := Q } (start spoilN vs) H := by
  obtain ⟨a, p, ys, rfl, ha, np, hp, lp, fp, q⟩ := h
  show rd_l_spoil K C _ E _ [some (.ref a), none, none] H
  unfold rd_l_spoil
  refine q_if ?_
  walk_at "s"
  simp only [tyN_lst ha]
  walk_at "s"
  refine q_if ?_
  walk_at "s"
  refine ⟨by decide, fun tp ht => al ht fun H1 s1 h1 => ?_⟩
  have ha1 := s1 _ _ ha
  simp only [h1, tyN_lst ha1]
  walk_at "s"
  refine q_for1 ?_
  rw [u_list]
  walk_at "s"
  simp only [ha1]
  walk_at "s"
  refine fun pl nl => al nl fun H2 s2 h2 => ⟨⟨_, asL_seq (by rw [h2] <;> rfl)⟩, ?_⟩
  have hp2 := s2 _ _ (s1 _ _ hp)
  have npl : pl ≠ p := (ne_of_none (s1 _ _ hp) nl).symm
  refine loop_list (xs := [.ref p]) (fun i σ H3 => ∃ v, σ = [some (.ref a), none, v] ∧ (i = 0 → H3 = H2) ∧ ∀ b o, b ≠ p → H2 b = some o → H3 b = some o) ⟨_, rfl, fun _ => rfl, fun _ _ _ z => z⟩ (fun i σ H3 _ ⟨_, _, _, s3⟩ => by rw [s3 _ _ npl h2] <;> rfl) ?_ ?_
  · rintro i x σ H3 hx ⟨v, rfl, s0, s3⟩
    obtain rfl : i = 0 := by
      have := (List.getElem?_eq_some_iff.mp hx).1
      simp at this
      exact this
    cases hx
    have := s0 rfl
    subst this
    walk_at "s"
    refine q_drop1 ?_
    walk_at "s"
    refine hR _ _ _ _ ⟨p, ys, rfl, hp2, lp, fun x hx => (fp x hx).mono (sm_trans s1 s2), fun H4 s4 => ?_⟩
    walk_at "s"
    exact ⟨fun z => z.elim, s4⟩
  · rintro σ H3 ⟨v, rfl, _, s3⟩
    refine spoil_end (K := K) (s3 _ _ np.symm (s2 _ _ ha1)) (by show 1 ≤ 1000; decide) fun zs _ _ _ _ => q _ fun b o nb nbp hb => ?_
    rw [upd_ne nb]
    exact s3 _ _ nbp (s2 _ _ (s1 _ _ hb))
end XB

/-! Texts drawn. -/
namespace XB
open PySem L2
local macro_rules | `(tactic| walk_at "s") => `(tactic| try simp only [u_var, u_c, u_op, u_un, u_nil, u_cons, u_cb, u_call, u_callS, u_tup, u_lst, u_test, u_B, u_and, u_or, u_not, u_andV, u_orV, u_notV, u_ifE, u_chain, u_sl, u_noPart, u_part, u_bm, u_bm0, u_rev, u_lc, u_try, u_sui, u_sui0, u_unb_rt, u_unb_nx, u_xf, u_WE, w_nil, w_cons, u_raise, u_rng1, u_rng2, u_next, u_ret, u_gname, u_gnil, u_gcons, u_gsub, u_gtup,
  f_add, f_addS, f_addR, f_sub, f_mul, f_mulR, f_mod, f_div, f_pow, f_neg, f_cmp, f_eq, f_eqB, f_eqS, f_ne, f_neB, f_neS, f_isN, f_notN, f_isB, f_ix, f_ixS, f_int, f_intB, f_len, f_lenS, f_max, f_min, f_abs, f_list, f_tuple, f_all, f_sum, f_isi, f_isiT, f_append, f_insert, f_pop, f_sl, f_set,
  kitS, tys, List.isEmpty_cons, Option.map_some, kt_NoneType_int, kt_NoneType_bool, kt_NoneType_str, kt_NoneType_list, kt_NoneType_tuple, kt_NoneType_dict, kt_int_int, kt_int_bool, kt_int_str, kt_int_list, kt_int_tuple, kt_int_dict, kt_bool_int, kt_bool_bool, kt_bool_str, kt_bool_list, kt_bool_tuple, kt_bool_dict, kt_str_int, kt_str_bool, kt_str_str, kt_str_list, kt_str_tuple, kt_str_dict, kt_list_int, kt_list_bool, kt_list_str, kt_list_list, kt_list_tuple, kt_list_dict, kt_tuple_int, kt_tuple_bool, kt_tuple_str, kt_tuple_list, kt_tuple_tuple, kt_tuple_dict, kt_dict_int, kt_dict_bool, kt_dict_str, kt_dict_list, kt_dict_tuple, kt_dict_dict, asL_lst, asL_frz, asL_tup, asT_tup, asS_lst, asS_frz, asS_tup, tyN_non, tyN_bl, tyN_int, tyN_str, atV_lit, ixN_lit, upd_same, upd_ne, upd_ne',
  List.getElem?_cons_zero, List.getElem?_cons_succ, List.set_cons_zero, List.set_cons_succ, List.append_nil, List.length_cons, List.length_nil, Option.some.injEq, exists_eq_left', exists_eq_left, exists_and_left, V.bl.injEq, V.int.injEq, V.str.injEq, V.ref.injEq, Bool.not_eq_true, Bool.not_true, Bool.not_false, decide_true, decide_false, decide_eq_true_eq, decide_eq_false_iff_not, Bool.false_eq_true, if_true, if_false, ite_true, ite_false, reduceCtorEq, true_and, and_true, Nat.reduceAdd, Nat.reduceLT, Nat.zero_add, ne_eq, not_false_eq_true, not_true_eq_false, List.cons.injEq, and_assoc])
local macro_rules | `(tactic| walk_at "S") => `(tactic| try simp only [u_var, u_c, u_op, u_un, u_nil, u_cons, u_cb, u_call, u_callS, u_tup, u_lst, u_test, u_B, u_and, u_or, u_not, u_andV, u_orV, u_notV, u_ifE, u_chain, u_sl, u_noPart, u_part, u_bm, u_bm0, u_rev, u_lc, u_try, u_sui, u_sui0, u_unb_rt, u_unb_nx, u_xf, u_WE, w_nil, w_cons, u_raise, u_rng1, u_rng2, u_next, u_ret, u_gname, u_gnil, u_gcons, u_gsub, u_gtup,
  f_add, f_addS, f_addR, f_sub, f_mul, f_mulR, f_mod, f_div, f_pow, f_neg, f_cmp, f_eq, f_eqB, f_eqS, f_ne, f_neB, f_neS, f_isN, f_notN, f_isB, f_ix, f_ixS, f_int, f_intB, f_len, f_lenS, f_max, f_min, f_abs, f_list, f_tuple, f_all, f_sum, f_isi, f_isiT, f_append, f_insert, f_pop, f_sl, f_set,
  kitS, tys, List.isEmpty_cons, Option.map_some, kt_NoneType_int, kt_NoneType_bool, kt_NoneType_str, kt_NoneType_list, kt_NoneType_tuple, kt_NoneType_dict, kt_int_int, kt_int_bool, kt_int_str, kt_int_list, kt_int_tuple, kt_int_dict, kt_bool_int, kt_bool_bool, kt_bool_str, kt_bool_list, kt_bool_tuple, kt_bool_dict, kt_str_int, kt_str_bool, kt_str_str, kt_str_list, kt_str_tuple, kt_str_dict, kt_list_int, kt_list_bool, kt_list_str, kt_list_list, kt_list_tuple, kt_list_dict, kt_tuple_int, kt_tuple_bool, kt_tuple_str, kt_tuple_list, kt_tuple_tuple, kt_tuple_dict, kt_dict_int, kt_dict_bool, kt_dict_str, kt_dict_list, kt_dict_tuple, kt_dict_dict, asL_lst, asL_frz, asL_tup, asT_tup, asS_lst, asS_frz, asS_tup, tyN_non, tyN_bl, tyN_int, tyN_str, atV_lit, ixN_lit, upd_same, upd_ne, upd_ne',
  List.getElem?_cons_zero, List.getElem?_cons_succ, List.set_cons_zero, List.set_cons_succ, List.append_nil, List.length_cons, List.length_nil, Option.some.injEq, exists_eq_left', exists_eq_left, exists_and_left, V.bl.injEq, V.int.injEq, V.str.injEq, V.ref.injEq, Bool.not_eq_true, Bool.not_true, Bool.not_false, decide_true, decide_false, decide_eq_true_eq, decide_eq_false_iff_not, Bool.false_eq_true, if_true, if_false, ite_true, ite_false, reduceCtorEq, true_and, and_true, Nat.reduceAdd, Nat.reduceLT, Nat.zero_add, ne_eq, not_false_eq_true, not_true_eq_false, List.cons.injEq, and_assoc, *])
theorem txt_at {z : Str} {r : Int} {q : Nat → Prop} (h0 : 0 ≤ r) (h1 : r < (z.cps.size : Nat)) (k : ∀ c, q c) : ∃ c, atI z.cps.toList r = some c ∧ q c := by
  obtain ⟨n, rfl⟩ : ∃ n : Nat, r = n := ⟨r.toNat, by omega⟩
  have hn : n < z.cps.toList.length := by rw [Array.length_toList]; omega
  refine ⟨z.cps.toList[n], ?_, k _⟩
  exact atI_nat (by rw [List.getElem?_eq_getElem hn])
theorem str_len1 {c : Nat} : (⟨#[c]⟩ : Str).length = 1 := rfl
theorem str_len_add {a b : Str} : (a ++ b).length = a.length + b.length := by
  show (a.cps ++ b.cps).size = a.cps.size + b.cps.size
  exact Array.size_append
def sp_l_word (K : PySem.W.Frag) (C : CA) : Sp := fun vs H Q _ => ∃ (st : Addr) (n : Int), vs = [.ref st, .int n] ∧ StAt H st ∧ -(2 ^ 60) ≤ n ∧ n < 2 ^ 60 ∧ ∀ (z : Str) (H' : Hp), z.length ≤ 8 → Kp st H H' → StAt H' st → Q (.str z) H'
def rd_l_word (K : PySem.W.Frag) (C : CA) (E : XK) : TS :=
  (tSeq (tAsg (tC (.str ("abcdefghijklmnopqrstuvwxyz" : Str))) (gName 2)) (tSeq (tAsg (tOp fAdd (tVar 2) (tC (.str ("0123456789" : Str)))) (gName 3)) (tSeq (tAsg (tOp fIx (tVar 2) (tCallS (sp_l_take K C) (fun _ => E0) (tCons (tVar 0) (tCons (tC (.int 26)) tNil)))) (gName 4)) (tSeq (tFor (iRng1 (tCons (tCB fMin (tCons (tC (.int 7)) (tCons (tOp fSub (tVar 1) (tC (.int 1))) tNil))) tNil)) (gName 5) (tAsg (tOp fAdd (tVar 4) (tOp fIx (tVar 3) (tCallS (sp_l_take K C) (fun _ => E0) (tCons (tVar 0) (tCons (tC (.int 36)) tNil))))) (gName 4))) (tRet (tVar 4))))))
theorem pure_l_word {K : PySem.W.Frag} {C : CA} (vs : List V) (H : Hp) (Q : VK) (E : XK) (h : sp_l_word K C vs H Q E) : rd_l_word K C E { nx := fun _ H' => Q .non H', rt := Q } (start [("store" : Str), ("size" : Str), ("letters" : Str), ("signs" : Str), ("word" : Str), ("k" : Str)] vs) H := by
  obtain ⟨st, n, rfl, hs, hm, hn, q⟩ := h
  show rd_l_word K C E _ [some (.ref st), some (.int n), none, none, none, none] H
  unfold rd_l_word
  refine q_asg ?_
  walk_at "s"
  refine q_asg ?_
  walk_at "s"
  refine ⟨by decide +kernel, ?_⟩
  refine q_asg ?_
  walk_at "s"
  refine take_ok hs (by decide) fun r H1 r0 r1 k1 s1 => ?_
  walk_at "s"
  have e1 : (Str.ofString "abcdefghijklmnopqrstuvwxyz").cps.size = 26 := by decide +kernel
  have e2 : (Str.ofString "abcdefghijklmnopqrstuvwxyz" ++ Str.ofString "0123456789").cps.size = 36 := by decide +kernel
  refine ⟨by decide +kernel, txt_at r0 (by omega) fun c => ?_⟩
  generalize (Str.ofString "abcdefghijklmnopqrstuvwxyz" ++ Str.ofString "0123456789") = sg at e2 ⊢
  generalize (Str.ofString "abcdefghijklmnopqrstuvwxyz") = lt at e1 ⊢
  refine q_for ?_
  walk_at "s"
  refine ⟨by omega, by omega, ?_⟩
  refine loop_range (fun i σ H2 => ∃ (z : Str) (v : Option V), σ = [some (.ref st), some (.int n), some (.str lt), some (.str sg), some (.str z), v] ∧ z.length ≤ i + 1 ∧ Kp st H H2 ∧ StAt H2 st) ⟨_, _, rfl, by rw [str_len1]; omega, k1, s1⟩ ?_ ?_
  · rintro i σ H2 hi ⟨z, v, rfl, lz, k2, s2⟩
    walk_at "s"
    refine q_asg1 ?_
    walk_at "s"
    refine take_ok s2 (by decide) fun r H3 r0 r1 k3 s3 => ?_
    walk_at "s"
    refine ⟨by show sg.cps.size ≤ 2 ^ 24; omega, txt_at r0 (by omega) fun c => ?_⟩
    refine ⟨by rw [str_len1]; show _ ≤ 2 ^ 24; omega, ?_⟩
    exact ⟨by rw [str_len_add, str_len1]; omega, k2.trans k3, s3⟩
  · rintro σ H2 ⟨z, v, rfl, lz, k2, s2⟩
    walk_at "s"
    exact q z H2 (by omega) k2 s2
theorem word_ok {K : PySem.W.Frag} {C : CA} {H : Hp} {Q : VK} {E : XK} {st : Addr} {n : Int} (hs : StAt H st) (h0 : -(2 ^ 60) ≤ n) (h1 : n < 2 ^ 60)
    (q : ∀ (z : Str) (H' : Hp), z.length ≤ 8 → Kp st H H' → StAt H' st → Q (.str z) H') : sp_l_word K C [.ref st, .int n] H Q E := ⟨_, _, rfl, hs, h0, h1, q⟩
/-- drawn out of a list, in any order: a new list of its items -/
def sp_l_some (K : PySem.W.Frag) (C : CA) : Sp := fun vs H Q _ => ∃ (st p : Addr) (n : Int) (xs : List V), vs = [.ref st, .ref p, .int n] ∧ StAt H st ∧ asS (H p) = some xs ∧ p ≠ st ∧ xs.length ≤ 1000 ∧ -(2 ^ 60) ≤ n ∧
  ∀ (o : Addr) (ys : List V) (H' : Hp), H o = none → H' o = some (.lst ys) → ys.length = (min n (xs.length : Nat)).toNat → (∀ y ∈ ys, y ∈ xs) → Kp st H H' → StAt H' st → Q (.ref o) H'
def rd_l_some (K : PySem.W.Frag) (C : CA) (E : XK) : TS :=
  (tSeq (tAsg (tCB fList (tCons (tVar 1) tNil)) (gName 3)) (tSeq (tAsg (tLst tNil) (gName 4)) (tSeq (tFor (iRng1 (tCons (tCB fMin (tCons (tVar 2) (tCons (tCB fLen (tCons (tVar 1) tNil)) tNil))) tNil)) (gName 5) (tSeq (tAsg (tCallS (sp_l_take K C) (fun _ => E0) (tCons (tVar 0) (tCons (tCB fLen (tCons (tVar 3) tNil)) tNil))) (gName 6)) (tSeq (tDrop (tBMF "list" fAppend (tVar 4) (tCons (tOp fIx (tVar 3) (tVar 6)) tNil))) (tAsg (tOp fAdd (tSl fSl2 (tVar 3) tNoPart (tPart (tVar 6))) (tSl fSl2 (tVar 3) (tPart (tOp fAdd (tVar 6) (tC (.int 1)))) tNoPart)) (gName 3))))) (tRet (tVar 4)))))
theorem pure_l_some {K : PySem.W.Frag} {C : CA} (vs : List V) (H : Hp) (Q : VK) (E : XK) (h : sp_l_some K C vs H Q E) : rd_l_some K C E { nx := fun _ H' => Q .non H', rt := Q } (start [("store" : Str), ("row" : Str), ("many" : Str), ("left" : Str), ("found" : Str), ("k" : Str), ("at" : Str)] vs) H := by
  obtain ⟨st, p, n, xs, rfl, hs, hp, np, hl, hm, q⟩ := h
  show rd_l_some K C E _ [some (.ref st), some (.ref p), some (.int n), none, none, none, none] H
  unfold rd_l_some
  refine q_asg ?_
  walk_at "s"
  simp only [hp]
  refine fun o1 n1 => al n1 fun H1 t1 g1 => ?_
  refine q_asg ?_
  walk_at "s"
  refine ⟨by decide, fun o2 n2 => al n2 fun H2 t2 g2 => ?_⟩
  have s2 := hs.sm (sm_trans t1 t2)
  have n2' := sm_none t1 n2
  refine q_for ?_
  walk_at "s"
  simp only [sm_S t2 (sm_S t1 hp)]
  walk_at "s"
  refine ⟨by omega, by omega, ?_⟩
  refine loop_range (fun i σ H3 => ∃ (ol : Addr) (ls ys : List V) (v w : Option V), σ = [some (.ref st), some (.ref p), some (.int n), some (.ref ol), some (.ref o2), v, w] ∧ ol ≠ st ∧ ol ≠ o2 ∧ H3 ol = some (.lst ls) ∧ H3 o2 = some (.lst ys) ∧
    ls.length = xs.length - i ∧ ys.length = i ∧ (∀ y ∈ ls, y ∈ xs) ∧ (∀ y ∈ ys, y ∈ xs) ∧ Kp st H H3 ∧ StAt H3 st)
    ⟨o1, xs, [], _, _, rfl, hs.ne n1, ne_of_none g1 n2, t2 _ _ g1, g2, rfl, rfl, fun _ h => h, by simp, kp_sm (sm_trans t1 t2), s2⟩ ?_ ?_
  · rintro i σ H3 hi ⟨ol, ls, ys, v, w, rfl, nl, nlo, gl, gy, ll, ly, ml, my, k3, s3⟩
    walk_at "s"
    refine q_asg ?_
    walk_at "s"
    simp only [asS_at gl]
    walk_at "s"
    refine take_ok s3 (by omega) fun r H4 r0 r1 k4 s4 => ?_
    have gl4 := k4.1 _ _ nl gl
    have gy4 := k4.1 _ _ (hs.ne n2') gy
    refine q_drop ?_
    walk_at "s"
    refine ⟨tyN_lst gy4, ?_⟩
    simp only [asS_at gl4]
    obtain ⟨m, rfl⟩ : ∃ m : Nat, r = m := ⟨r.toNat, by omega⟩
    have hm : m < ls.length := by omega
    refine at_nat (v := ls[m]) (by simp [hm]) ?_
    walk_at "s"
    simp only [gy4]
    refine ⟨by show _ < 2 ^ 24; omega, ?_⟩
    have k5 : Kp st H (upd H4 o2 (.lst (ys ++ [ls[m]]))) := (k3.trans k4).put' n2' (hs.ne n2')
    have s5 : StAt (upd H4 o2 (.lst (ys ++ [ls[m]]))) st := hs.put' n2' (k3.trans k4) s4
    have g5 : (upd H4 o2 (.lst (ys ++ [ls[m]]))) ol = some (.lst ls) := by rw [upd_ne nlo]; exact gl4
    have f5 : (upd H4 o2 (.lst (ys ++ [ls[m]]))) o2 = some (.lst (ys ++ [ls[m]])) := upd_same
    generalize upd H4 o2 (.lst (ys ++ [ls[m]])) = H5 at k5 s5 g5 f5 ⊢
    refine q_asg1 ?_
    walk_at "s"
    simp only [f_slR, f_sl, asL_at g5]
    refine fun pa na => al na fun H6 t6 g6 => ?_
    simp only [asL_at (t6 _ _ g5)]
    refine fun pb nb => al nb fun H7 t7 g7 => ?_
    rw [cut_to (by omega)] at g6
    rw [cut_from (by omega)] at g7
    have e1 : ((m : Nat) : Int).toNat = m := by omega
    have e2 : (((m : Nat) : Int) + 1).toNat = m + 1 := by omega
    rw [e1] at g6
    rw [e2] at g7
    simp only [f_addR, t7 _ _ g6, g7]
    refine ⟨by rw [List.length_take, List.length_drop]; show _ ≤ 2 ^ 24; omega, fun pc nc => ⟨pc, rfl, (s5.sm (sm_trans t6 t7)).ne nc, ?_, _, upd_same, ys ++ [ls[m]], ?_, ?_, ?_, ?_, ?_, (k5.trans (kp_sm (sm_trans t6 t7))).new nc, (s5.sm (sm_trans t6 t7)).new nc⟩⟩
    · exact (ne_of_none (t7 _ _ (t6 _ _ f5)) nc).symm
    · rw [upd_ne (ne_of_none (t7 _ _ (t6 _ _ f5)) nc)]
      exact t7 _ _ (t6 _ _ f5)
    · rw [List.length_append, List.length_take, List.length_drop]
      omega
    · rw [List.length_append, List.length_singleton, ly]
    · intro y hy
      rcases List.mem_append.1 hy with hy | hy
      · exact ml y (List.mem_of_mem_take hy)
      · exact ml y (List.mem_of_mem_drop hy)
    · intro y hy
      rcases List.mem_append.1 hy with hy | hy
      · exact my y hy
      · rw [List.mem_singleton] at hy
        rw [hy]
        exact ml _ (List.getElem_mem hm)
  · rintro σ H3 ⟨ol, ls, ys, v, w, rfl, nl, nlo, gl, gy, ll, ly, ml, my, k3, s3⟩
    walk_at "s"
    exact q o2 ys H3 n2' gy ly my k3 s3
theorem some_ok {K : PySem.W.Frag} {C : CA} {H : Hp} {Q : VK} {E : XK} {st p : Addr} {n : Int} {xs : List V} (hs : StAt H st) (hp : asS (H p) = some xs) (np : p ≠ st) (hl : xs.length ≤ 1000) (hn : -(2 ^ 60) ≤ n)
    (q : ∀ (o : Addr) (ys : List V) (H' : Hp), H o = none → H' o = some (.lst ys) → ys.length = (min n (xs.length : Nat)).toNat → (∀ y ∈ ys, y ∈ xs) → Kp st H H' → StAt H' st → Q (.ref o) H') : sp_l_some K C [.ref st, .ref p, .int n] H Q E := ⟨_, _, _, _, rfl, hs, hp, np, hl, hn, q⟩
def sp_l_turned (K : PySem.W.Frag) (C : CA) : Sp := fun vs H Q _ => ∃ (st p : Addr) (xs : List V), vs = [.ref st, .ref p] ∧ StAt H st ∧ asS (H p) = some xs ∧ p ≠ st ∧ xs.length ≤ 1000 ∧
  ∀ (o : Addr) (ys : List V) (H' : Hp), H o = none → H' o = some (.lst ys) → ys.length = xs.length → (∀ y ∈ ys, y ∈ xs) → Kp st H H' → StAt H' st → Q (.ref o) H'
def rd_l_turned (K : PySem.W.Frag) (C : CA) (E : XK) : TS :=
  (tRet (tCallS (sp_l_some K C) (fun _ => E0) (tCons (tVar 0) (tCons (tVar 1) (tCons (tCB fLen (tCons (tVar 1) tNil)) tNil)))))
theorem pure_l_turned {K : PySem.W.Frag} {C : CA} (vs : List V) (H : Hp) (Q : VK) (E : XK) (h : sp_l_turned K C vs H Q E) : rd_l_turned K C E { nx := fun _ H' => Q .non H', rt := Q } (start [("store" : Str), ("row" : Str)] vs) H := by
  obtain ⟨st, p, xs, rfl, hs, hp, np, hl, q⟩ := h
  show rd_l_turned K C E _ [some (.ref st), some (.ref p)] H
  unfold rd_l_turned
  refine q_ret ?_
  walk_at "s"
  simp only [hp]
  exact some_ok hs hp np hl (by omega) fun o ys H' no ho l m k s => q o ys H' no ho (by rw [l]; omega) m k s
/-- a list of some texts, none too long -/
def Texts (H : Hp) (o : Addr) (n : Nat) (m : Nat) : Prop := ∃ zs : List Str, H o = some (.lst (zs.map V.str)) ∧ zs.length = n ∧ ∀ z ∈ zs, z.length ≤ m
theorem texts_of {xs : List V} {m : Nat} (h : ∀ x ∈ xs, ∃ z : Str, x = .str z ∧ z.length ≤ m) : ∃ zs : List Str, xs = zs.map V.str ∧ ∀ z ∈ zs, z.length ≤ m := by
  induction xs with
  | nil => exact ⟨[], rfl, by simp⟩
  | cons x xs ih =>
    obtain ⟨z, rfl, hz⟩ := h x List.mem_cons_self
    obtain ⟨zs, rfl, hzs⟩ := ih fun y hy => h y (List.mem_cons_of_mem _ hy)
    refine ⟨z :: zs, rfl, fun y hy => ?_⟩
    rcases List.mem_cons.1 hy with rfl | hy
    · exact hz
    · exact hzs y hy
end XB

/-! Names drawn. -/
namespace XB
open PySem L2
local macro_rules | `(tactic| walk_at "s") => `(tactic| try simp only [u_var, u_c, u_op, u_un, u_nil, u_cons, u_cb, u_call, u_callS, u_tup, u_lst, u_test, u_B, u_and, u_or, u_not, u_andV, u_orV, u_notV, u_ifE, u_chain, u_sl, u_noPart, u_part, u_bm, u_bm0, u_rev, u_lc, u_try, u_sui, u_sui0, u_unb_rt, u_unb_nx, u_xf, u_WE, w_nil, w_cons, u_raise, u_rng1, u_rng2, u_next, u_ret, u_gname, u_gnil, u_gcons, u_gsub, u_gtup,
  f_add, f_addS, f_addR, f_sub, f_mul, f_mulR, f_mod, f_div, f_pow, f_neg, f_cmp, f_eq, f_eqB, f_eqS, f_ne, f_neB, f_neS, f_isN, f_notN, f_isB, f_ix, f_ixS, f_int, f_intB, f_len, f_lenS, f_max, f_min, f_abs, f_list, f_tuple, f_all, f_sum, f_isi, f_isiT, f_append, f_insert, f_pop, f_sl, f_set,
  kitS, tys, List.isEmpty_cons, Option.map_some, kt_NoneType_int, kt_NoneType_bool, kt_NoneType_str, kt_NoneType_list, kt_NoneType_tuple, kt_NoneType_dict, kt_int_int, kt_int_bool, kt_int_str, kt_int_list, kt_int_tuple, kt_int_dict, kt_bool_int, kt_bool_bool, kt_bool_str, kt_bool_list, kt_bool_tuple, kt_bool_dict, kt_str_int, kt_str_bool, kt_str_str, kt_str_list, kt_str_tuple, kt_str_dict, kt_list_int, kt_list_bool, kt_list_str, kt_list_list, kt_list_tuple, kt_list_dict, kt_tuple_int, kt_tuple_bool, kt_tuple_str, kt_tuple_list, kt_tuple_tuple, kt_tuple_dict, kt_dict_int, kt_dict_bool, kt_dict_str, kt_dict_list, kt_dict_tuple, kt_dict_dict, asL_lst, asL_frz, asL_tup, asT_tup, asS_lst, asS_frz, asS_tup, tyN_non, tyN_bl, tyN_int, tyN_str, atV_lit, ixN_lit, upd_same, upd_ne, upd_ne',
  List.getElem?_cons_zero, List.getElem?_cons_succ, List.set_cons_zero, List.set_cons_succ, List.append_nil, List.length_cons, List.length_nil, Option.some.injEq, exists_eq_left', exists_eq_left, exists_and_left, V.bl.injEq, V.int.injEq, V.str.injEq, V.ref.injEq, Bool.not_eq_true, Bool.not_true, Bool.not_false, decide_true, decide_false, decide_eq_true_eq, decide_eq_false_iff_not, Bool.false_eq_true, if_true, if_false, ite_true, ite_false, reduceCtorEq, true_and, and_true, Nat.reduceAdd, Nat.reduceLT, Nat.zero_add, ne_eq, not_false_eq_true, not_true_eq_false, List.cons.injEq, and_assoc])
local macro_rules | `(tactic| walk_at "S") => `(tactic| try simp only [u_var, u_c, u_op, u_un, u_nil, u_cons, u_cb, u_call, u_callS, u_tup, u_lst, u_test, u_B, u_and, u_or, u_not, u_andV, u_orV, u_notV, u_ifE, u_chain, u_sl, u_noPart, u_part, u_bm, u_bm0, u_rev, u_lc, u_try, u_sui, u_sui0, u_unb_rt, u_unb_nx, u_xf, u_WE, w_nil, w_cons, u_raise, u_rng1, u_rng2, u_next, u_ret, u_gname, u_gnil, u_gcons, u_gsub, u_gtup,
  f_add, f_addS, f_addR, f_sub, f_mul, f_mulR, f_mod, f_div, f_pow, f_neg, f_cmp, f_eq, f_eqB, f_eqS, f_ne, f_neB, f_neS, f_isN, f_notN, f_isB, f_ix, f_ixS, f_int, f_intB, f_len, f_lenS, f_max, f_min, f_abs, f_list, f_tuple, f_all, f_sum, f_isi, f_isiT, f_append, f_insert, f_pop, f_sl, f_set,
  kitS, tys, List.isEmpty_cons, Option.map_some, kt_NoneType_int, kt_NoneType_bool, kt_NoneType_str, kt_NoneType_list, kt_NoneType_tuple, kt_NoneType_dict, kt_int_int, kt_int_bool, kt_int_str, kt_int_list, kt_int_tuple, kt_int_dict, kt_bool_int, kt_bool_bool, kt_bool_str, kt_bool_list, kt_bool_tuple, kt_bool_dict, kt_str_int, kt_str_bool, kt_str_str, kt_str_list, kt_str_tuple, kt_str_dict, kt_list_int, kt_list_bool, kt_list_str, kt_list_list, kt_list_tuple, kt_list_dict, kt_tuple_int, kt_tuple_bool, kt_tuple_str, kt_tuple_list, kt_tuple_tuple, kt_tuple_dict, kt_dict_int, kt_dict_bool, kt_dict_str, kt_dict_list, kt_dict_tuple, kt_dict_dict, asL_lst, asL_frz, asL_tup, asT_tup, asS_lst, asS_frz, asS_tup, tyN_non, tyN_bl, tyN_int, tyN_str, atV_lit, ixN_lit, upd_same, upd_ne, upd_ne',
  List.getElem?_cons_zero, List.getElem?_cons_succ, List.set_cons_zero, List.set_cons_succ, List.append_nil, List.length_cons, List.length_nil, Option.some.injEq, exists_eq_left', exists_eq_left, exists_and_left, V.bl.injEq, V.int.injEq, V.str.injEq, V.ref.injEq, Bool.not_eq_true, Bool.not_true, Bool.not_false, decide_true, decide_false, decide_eq_true_eq, decide_eq_false_iff_not, Bool.false_eq_true, if_true, if_false, ite_true, ite_false, reduceCtorEq, true_and, and_true, Nat.reduceAdd, Nat.reduceLT, Nat.zero_add, ne_eq, not_false_eq_true, not_true_eq_false, List.cons.injEq, and_assoc, *])
theorem slice_a {z : Str} {i : Int} (h : 0 ≤ i) : Txt.slice z none (some i) = ⟨(z.cps.toList.take i.toNat).toArray⟩ := SX.slice_to (a := z.cps.toList) h
theorem slice_b {z : Str} {i : Int} (h : 0 ≤ i) : Txt.slice z (some i) none = ⟨(z.cps.toList.drop i.toNat).toArray⟩ := SX.slice_from (a := z.cps.toList) h
theorem slice_a_len {z : Str} {i : Int} (h : 0 ≤ i) : (Txt.slice z none (some i)).length ≤ z.length := by
  rw [slice_a h]
  show (z.cps.toList.take i.toNat).toArray.size ≤ z.cps.size
  rw [List.size_toArray, List.length_take, Array.length_toList]
  omega
theorem kp_none' {st p : Addr} {H H1 : Hp} (hs : StAt H st) (k : Kp st H H1) (h : H1 p = none) (s1 : StAt H1 st) : H p = none := by
  cases e : H p with
  | none => rfl
  | some o =>
    rw [k.1 p o (s1.ne h) e] at h
    cases h
theorem get_str {zs : List Str} {i : Nat} {x : V} (h : (zs.map V.str)[i]? = some x) : ∃ z, zs[i]? = some z ∧ x = V.str z := by
  rw [List.getElem?_map] at h
  cases e : zs[i]? with
  | none => rw [e] at h; cases h
  | some z => rw [e] at h; exact ⟨z, rfl, (Option.some.inj h).symm⟩
def txtOk (m : Nat) : V → Bool
  | .str z => decide (z.length ≤ m)
  | _ => false
theorem txt_all {m : Nat} {xs : List V} {y : V} (h : xs.all (txtOk m) = true) (hy : y ∈ xs) : ∃ z : Str, y = .str z ∧ z.length ≤ m := by
  rw [List.all_eq_true] at h
  have e := h y hy
  cases y with
  | str z => exact ⟨z, rfl, of_decide_eq_true e⟩
  | _ => cases e
/-- some texts, none of more than 24 signs, in a new list -/
def sp_l_names (K : PySem.W.Frag) (C : CA) : Sp := fun vs H Q _ => ∃ (st : Addr) (n : Nat), vs = [.ref st, .int n] ∧ StAt H st ∧ 1 ≤ n ∧ n ≤ 8 ∧
  ∀ (o : Addr) (H' : Hp), H o = none → Texts H' o n 24 → Kp st H H' → StAt H' st → Q (.ref o) H'
def rd_l_names (K : PySem.W.Frag) (C : CA) (E : XK) : TS :=
  (tSeq (tAsg (tC (.str ("abcdefghijklmnopqrstuvwxyz" : Str))) (gName 2)) (tSeq (tAsg (tCallS (sp_l_take K C) (fun _ => E0) (tCons (tVar 0) (tCons (tC (.int 8)) tNil))) (gName 3)) (tSeq (tIfS (tAnd (tTest (tOp (fEq K) (tVar 3) (tC (.int 0)))) (tTest (tOp fLe (tVar 1) (tC (.int 8))))) (tSeq (tAsg (tCallS (sp_l_word K C) (fun _ => E0) (tCons (tVar 0) (tCons (tC (.int 8)) tNil))) (gName 4)) (tRet (tCallS (sp_l_turned K C) (fun _ => E0) (tCons (tVar 0) (tCons (tLc (iRng1 (tCons (tVar 1) tNil)) (gName 5) tYes (tSl fSl2 (tVar 4) tNoPart (tPart (tOp fAdd (tVar 5) (tC (.int 1))))) [5]) tNil))))) tNext) (tSeq (tIfS (tTest (tOp (fEq K) (tVar 3) (tC (.int 1)))) (tSeq (tAsg (tLst (tCons (tC (.str ("and" : Str))) (tCons (tC (.str ("not" : Str))) (tCons (tC (.str ("at" : Str))) (tCons (tC (.str ("with" : Str))) (tCons (tC (.str ("over" : Str))) (tCons (tC (.str ("if" : Str))) (tCons (tC (.str ("end" : Str))) (tCons (tC (.str ("else" : Str))) (tCons (tC (.str ("each" : Str))) (tCons (tC (.str ("while" : Str))) (tCons (tC (.str ("until" : Str))) (tCons (tC (.str ("bring" : Str))) tNil))))))))))))) (gName 6)) (tRet (tCallS (sp_l_some K C) (fun _ => E0) (tCons (tVar 0) (tCons (tOp fAdd (tVar 6) (tLst (tCons (tC (.str ("exchange" : Str))) (tCons (tC (.str ("towns" : Str))) (tCons (tC (.str ("way" : Str))) (tCons (tC (.str ("plan" : Str))) tNil)))))) (tCons (tVar 1) tNil)))))) tNext) (tSeq (tIfS (tTest (tOp (fEq K) (tVar 3) (tC (.int 2)))) (tSeq (tAsg (tLst (tCons (tC (.str ("0" : Str))) (tCons (tC (.str ("1" : Str))) (tCons (tC (.str ("2" : Str))) (tCons (tC (.str ("9" : Str))) (tCons (tC (.str ("10" : Str))) (tCons (tC (.str ("11" : Str))) (tCons (tC (.str ("19" : Str))) (tCons (tC (.str ("20" : Str))) (tCons (tC (.str ("90" : Str))) (tCons (tC (.str ("99" : Str))) (tCons (tC (.str ("100" : Str))) (tCons (tC (.str ("101" : Str))) tNil))))))))))))) (gName 6)) (tSeq (tAsg (tOp fIx (tVar 2) (tCallS (sp_l_take K C) (fun _ => E0) (tCons (tVar 0) (tCons (tC (.int 26)) tNil)))) (gName 7)) (tRet (tLc (iList K (tCallS (sp_l_some K C) (fun _ => E0) (tCons (tVar 0) (tCons (tVar 6) (tCons (tVar 1) tNil))))) (gName 4) tYes (tOp fAdd (tVar 7) (tVar 4)) [4])))) tNext) (tSeq (tAsg (tC (.str ("" : Str))) (gName 8)) (Evl.tCut (tIfS (tTest (tOp fGt (tVar 3) (tC (.int 4)))) (tSeq (tAsg (tCallS (sp_l_word K C) (fun _ => E0) (tCons (tVar 0) (tCons (tOp fAdd (tC (.int 1)) (tCallS (sp_l_take K C) (fun _ => E0) (tCons (tVar 0) (tCons (tC (.int 7)) tNil)))) tNil))) (gName 8)) (tAsg (tOp fAdd (tVar 2) (tC (.str ("0123456789" : Str)))) (gName 2))) tNext) (tSeq (tAsg (tLst tNil) (gName 9)) (tSeq (tFor (iRng1 (tCons (tVar 1) tNil)) (gName 5) (tSeq (tAsg (tCallS (sp_l_take K C) (fun _ => E0) (tCons (tVar 0) (tCons (tCB fLen (tCons (tVar 2) tNil)) tNil))) (gName 10)) (tSeq (tAsg (tC (.str ("" : Str))) (gName 11)) (Evl.tCut (tIfS (tTest (tOp fGt (tVar 3) (tC (.int 5)))) (tAsg (tSl fSl2 (tCallS (sp_l_word K C) (fun _ => E0) (tCons (tVar 0) (tCons (tC (.int 8)) tNil))) tNoPart (tPart (tCallS (sp_l_take K C) (fun _ => E0) (tCons (tVar 0) (tCons (tOp fSub (tC (.int 8)) (tCB fLen (tCons (tVar 8) tNil))) tNil))))) (gName 11)) tNext) (tSeq (tDrop (tBMF "list" fAppend (tVar 9) (tCons (tOp fAdd (tOp fAdd (tVar 8) (tOp fIx (tVar 2) (tVar 10))) (tVar 11)) tNil))) (tAsg (tOp fAdd (tSl fSl2 (tVar 2) tNoPart (tPart (tVar 10))) (tSl fSl2 (tVar 2) (tPart (tOp fAdd (tVar 10) (tC (.int 1)))) tNoPart)) (gName 2))))))) (tRet (tVar 9)))))))))))
theorem pure_l_names {K : PySem.W.Frag} {C : CA} (vs : List V) (H : Hp) (Q : VK) (E : XK) (h : sp_l_names K C vs H Q E) : rd_l_names K C E { nx := fun _ H' => Q .non H', rt := Q } (start [("store" : Str), ("many" : Str), ("letters" : Str), ("form" : Str), ("word" : Str), ("k" : Str), ("row" : Str), ("stem" : Str), ("head" : Str), ("found" : Str), ("at" : Str), ("tail" : Str)] vs) H := by
  obtain ⟨st, n, rfl, hs, n0, n8, q⟩ := h
  show rd_l_names K C E _ [some (.ref st), some (.int n), none, none, none, none, none, none, none, none, none, none] H
  unfold rd_l_names
  refine q_asg ?_
  walk_at "s"
  refine q_asg ?_
  walk_at "s"
  refine take_ok hs (by decide) fun form H1 f0 f1 k1 s1 => ?_
  have e26 : (Str.ofString "abcdefghijklmnopqrstuvwxyz").cps.size = 26 := by decide +kernel
  generalize hlt : (Str.ofString "abcdefghijklmnopqrstuvwxyz") = lt at e26 ⊢
  refine q_if ?_
  walk_at "s"
  have c8 : (n : Int) ≤ 8 := by omega
  refine ite2 (fun c1 => ?_) fun c1 => ?_
  · rw [if_pos c8]
    refine q_asg ?_
    walk_at "s"
    refine word_ok s1 (by decide) (by decide) fun wd H2 lw k2 s2 => ?_
    walk_at "s"
    refine ⟨by omega, by omega, fun Dd hD => ?_⟩
    have en : ((n : Nat) : Int).toNat = n := by omega
    rw [en]
    refine made_mapR (fun k => .str (Txt.slice wd none (some ((k : Nat) + 1)))) hD (by show _ < 2 ^ 24; omega) (fun _ => rfl) (fun i H3 Q1 hi t3 q1 => ?_) fun H3 t3 g3 => ?_
    · have e0 : (0 : Int) + (i : Nat) = (i : Nat) := Int.zero_add _
      walk_at "s"
      simp only [f_slS, e0]
      refine ⟨Nat.le_trans lw (by decide), q1 H3 fun _ _ z => z⟩
    · refine ⟨st, Dd, _, rfl, s2.sm t3, asS_at g3, s2.ne hD, by rw [List.length_map, List.length_range]; omega, fun o ys H4 no ho lo mo k4 s4 => ?_⟩
      have kk := k1.trans (k2.trans ((kp_sm t3).trans k4))
      obtain ⟨zs, rfl, hz⟩ := texts_of (xs := ys) (m := 24) fun y hy => by
        obtain ⟨k, _, rfl⟩ := List.mem_map.1 (mo y hy)
        exact ⟨_, rfl, Nat.le_trans (slice_a_len (by omega)) (by omega)⟩
      rw [List.length_map, List.length_map, List.length_range] at lo
      exact q o H4 (kp_none' hs (k1.trans (k2.trans (kp_sm t3))) no (s2.sm t3)) ⟨zs, ho, lo, hz⟩ kk s4
  refine q_if ?_
  walk_at "s"
  refine ite2 (fun c2 => ?_) fun c2 => ?_
  · refine q_asg ?_
    walk_at "s"
    refine ⟨by show 12 ≤ 2 ^ 24; decide, fun oa na => al na fun H2 t2 g2 => ?_⟩
    refine ⟨by show 4 ≤ 2 ^ 24; decide, fun ob nb => al nb fun H3 t3 g3 => ?_⟩
    simp only [t3 _ _ g2, g3]
    refine ⟨by show 12 + 4 ≤ 2 ^ 24; decide, fun oc nc => al nc fun H4 t4 g4 => ?_⟩
    have t14 := sm_trans t2 (sm_trans t3 t4)
    refine some_ok (s1.sm t14) (asS_at g4) ((s1.sm (sm_trans t2 t3)).ne nc) (by show 16 ≤ 1000; decide) (by omega) fun o ys H5 no ho lo mo k5 s5 => ?_
    have kk := k1.trans ((kp_sm t14).trans k5)
    obtain ⟨zs, rfl, hz⟩ := texts_of (xs := ys) (m := 24) fun y hy => txt_all (by decide +kernel) (mo y hy)
    rw [List.length_map] at lo
    exact q o H5 (kp_none' hs (k1.trans (kp_sm t14)) no (s1.sm t14)) ⟨zs, ho, by rw [lo]; show (min (n : Int) 16).toNat = n; omega, hz⟩ kk s5
  refine q_if ?_
  walk_at "s"
  refine ite2 (fun c3 => ?_) fun c3 => ?_
  · refine q_asg ?_
    walk_at "s"
    refine ⟨by show 12 ≤ 2 ^ 24; decide, fun oa na => al na fun H2 t2 g2 => ?_⟩
    refine q_asg ?_
    walk_at "s"
    refine take_ok (s1.sm t2) (by decide) fun r H3 r0 r1 k3 s3 => ?_
    walk_at "s"
    refine ⟨by show lt.cps.size ≤ 2 ^ 24; omega, txt_at r0 (by omega) fun ch => ?_⟩
    rw [u_list]
    walk_at "s"
    have g23 := k3.1 oa _ (s1.ne na) g2
    refine some_ok s3 (asS_at g23) (s1.ne na) (by show 12 ≤ 1000; decide) (by omega) fun o ys H5 no ho lo mo k5 s5 => ?_
    obtain ⟨zs, rfl, hz⟩ := texts_of (xs := ys) (m := 3) fun y hy => txt_all (by decide +kernel) (mo y hy)
    rw [List.length_map] at lo
    have lz : zs.length = n := by rw [lo]; show (min (n : Int) 12).toNat = n; omega
    refine ⟨_, rfl, ⟨_, asL_seq (asL_at ho)⟩, fun Dd hD => ?_⟩
    refine made_mapS (fun v => match v with | .str z => .str ((⟨#[ch]⟩ : Str) ++ z) | v => v) (fun H' s => asL_seq (asL_at (s _ _ ho))) hD (by rw [List.length_map]; show _ < 2 ^ 24; omega) (fun _ => rfl) (fun i x H6 Q1 hx t6 q1 => ?_) fun H6 t6 g6 => ?_
    · obtain ⟨z, hzz, rfl⟩ := get_str hx
      walk_at "s"
      have := hz z (List.mem_of_getElem? hzz)
      refine ⟨by rw [str_len1]; show _ ≤ 2 ^ 24; omega, q1 H6 fun _ _ z => z⟩
    · have kk : Kp st H H5 := k1.trans ((kp_sm t2).trans (k3.trans k5))
      refine q Dd H6 (kp_none' hs kk hD s5) ⟨zs.map fun z => (⟨#[ch]⟩ : Str) ++ z, ?_, by rw [List.length_map]; exact lz, fun y hy => ?_⟩ (kk.trans (kp_sm t6)) (s5.sm t6)
      · rw [g6, List.map_map, List.map_map]
        rfl
      · obtain ⟨z, hm, rfl⟩ := List.mem_map.1 hy
        have := hz z hm
        rw [str_len_add, str_len1]
        omega
  refine q_asg ?_
  walk_at "s"
  refine ⟨fun σ H' => ∃ lt hd : Str, σ = [some (.ref st), some (.int n), some (.str lt), some (.int form), none, none, none, none, some (.str hd), none, none, none] ∧ 26 ≤ lt.length ∧ lt.length ≤ 36 ∧ hd.length ≤ 8 ∧ Kp st H H' ∧ StAt H' st, q_if1 ?_, ?_⟩
  · walk_at "s"
    refine ite2 (fun c4 => ?_) fun c4 => ?_
    · refine q_asg ?_
      walk_at "s"
      refine take_ok s1 (by decide) fun r H2 r0 r1 k2 s2 => ?_
      walk_at "s"
      refine word_ok s2 (by omega) (by omega) fun hd H3 lh k3 s3 => ?_
      refine q_asg1 ?_
      walk_at "s"
      have l10 : (Str.ofString "0123456789").length = 10 := by decide +kernel
      have l26 : lt.length = 26 := e26
      rw [str_len_add, l10, l26]
      exact ⟨by show _ ≤ 2 ^ 24; decide, by decide, by decide, by omega, k1.trans (k2.trans k3), s3⟩
    · walk_at "s"
      have l26 : lt.length = 26 := e26
      exact ⟨by omega, by omega, by decide +kernel, k1, s1⟩
  · rintro σ H2 ⟨lt, hd, rfl, l1, l2, lh, k2, s2⟩
    refine q_asg ?_
    walk_at "s"
    refine ⟨by decide, fun of nf => al nf fun H3 t3 g3 => ?_⟩
    have nf' := kp_none' hs k2 nf s2
    refine q_for ?_
    walk_at "s"
    refine ⟨by omega, by omega, ?_⟩
    have en : ((n : Nat) : Int).toNat = n := by omega
    rw [en]
    refine loop_range (fun i σ H4 => ∃ (lt : Str) (zs : List Str) (v5 v10 v11 : Option V), σ = [some (.ref st), some (.int n), some (.str lt), some (.int form), none, v5, none, none, some (.str hd), some (.ref of), v10, v11] ∧
      26 ≤ lt.length + i ∧ lt.length ≤ 36 ∧ H4 of = some (.lst (zs.map V.str)) ∧ zs.length = i ∧ (∀ z ∈ zs, z.length ≤ 24) ∧ Kp st H H4 ∧ StAt H4 st)
      ⟨lt, [], none, none, none, rfl, by omega, l2, g3, rfl, by simp, k2.trans (kp_sm t3), s2.sm t3⟩ ?_ ?_
    · rintro i σ H4 hi ⟨lt, zs, v5, v10, v11, rfl, m1, m2, gf, lz, hz, k4, s4⟩
      walk_at "s"
      refine q_asg ?_
      walk_at "s"
      refine ⟨by show _ ≤ 2 ^ 24; omega, ?_⟩
      refine take_ok s4 (by omega) fun at_ H5 a0 a1 k5 s5 => ?_
      have gf5 := k5.1 _ _ (hs.ne nf') gf
      refine q_asg ?_
      walk_at "s"
      refine ⟨fun σ H' => ∃ tl : Str, σ = [some (.ref st), some (.int n), some (.str lt), some (.int form), none, some (.int (0 + (i : Nat))), none, none, some (.str hd), some (.ref of), some (.int at_), some (.str tl)] ∧ tl.length ≤ 8 ∧ Kp st H5 H' ∧ StAt H' st, q_if1 ?_, ?_⟩
      · walk_at "s"
        refine ite2 (fun c5 => ?_) fun c5 => ?_
        · refine q_asg1 ?_
          walk_at "s"
          refine word_ok s5 (by decide) (by decide) fun wd H6 lw k6 s6 => ?_
          walk_at "s"
          try refine And.intro (show hd.length ≤ 2 ^ 24 by omega) ?_
          refine take_ok s6 (by omega) fun r H7 r0 r1 k7 s7 => ?_
          simp only [f_slS]
          exact ⟨r, rfl, by show _ ≤ 2 ^ 24; omega, _, rfl, Nat.le_trans (slice_a_len r0) lw, k6.trans k7, s7⟩
        · walk_at "s"
          exact ⟨by decide +kernel, Kp.refl _ _, s5⟩
      · rintro σ H6 ⟨tl, rfl, ltl, k6, s6⟩
        have gf6 := k6.1 _ _ (hs.ne nf') gf5
        refine q_drop ?_
        walk_at "s"
        refine ⟨tyN_lst gf6, by show _ ≤ 2 ^ 24; omega, txt_at a0 (by show at_ < (lt.length : Nat); omega) fun ch => ?_⟩
        simp only [gf6]
        refine ⟨by rw [str_len1]; show _ ≤ 2 ^ 24; omega, by rw [str_len_add, str_len1]; show _ ≤ 2 ^ 24; omega, by rw [List.length_map]; show _ < 2 ^ 24; omega, ?_⟩
        refine q_asg1 ?_
        walk_at "s"
        simp only [f_slS]
        refine ⟨by show _ ≤ 2 ^ 24; omega, by show _ ≤ 2 ^ 24; omega, ?_⟩
        walk_at "s"
        have lA : (Txt.slice lt none (some at_)).length = at_.toNat := by
          rw [slice_a a0]
          show (lt.cps.toList.take at_.toNat).toArray.size = _
          have : lt.cps.toList.length = lt.length := Array.length_toList
          rw [List.size_toArray, List.length_take]
          omega
        have lB : (Txt.slice lt (some (at_ + 1)) none).length = lt.length - (at_.toNat + 1) := by
          rw [slice_b (by omega)]
          show (lt.cps.toList.drop (at_ + 1).toNat).toArray.size = _
          have : lt.cps.toList.length = lt.length := Array.length_toList
          rw [List.size_toArray, List.length_drop]
          omega
        rw [str_len_add, lA, lB]
        have keep : Kp st H H6 := (k4.trans k5).trans k6
        refine ⟨by show _ ≤ 2 ^ 24; omega, by omega, by omega, zs ++ [hd ++ (⟨#[ch]⟩ : Str) ++ tl], by rw [List.map_append]; rfl, by rw [List.length_append, lz]; rfl, fun z hm => ?_, keep.put' nf' (hs.ne nf'), hs.put' nf' keep s6⟩
        rcases List.mem_append.1 hm with hm | hm
        · exact hz z hm
        · rw [List.mem_singleton] at hm
          rw [hm, str_len_add, str_len_add, str_len1]
          omega
    · rintro σ H4 ⟨lt, zs, v5, v10, v11, rfl, m1, m2, gf, lz, hz, k4, s4⟩
      walk_at "s"
      exact q of H4 nf' ⟨zs, gf, lz, hz⟩ k4 s4
end XB

/-! A text that is none of a list's. -/
namespace XB
open PySem L2
local macro_rules | `(tactic| walk_at "s") => `(tactic| try simp only [u_var, u_c, u_op, u_un, u_nil, u_cons, u_cb, u_call, u_callS, u_tup, u_lst, u_test, u_B, u_and, u_or, u_not, u_andV, u_orV, u_notV, u_ifE, u_chain, u_sl, u_noPart, u_part, u_bm, u_bm0, u_rev, u_lc, u_try, u_sui, u_sui0, u_unb_rt, u_unb_nx, u_xf, u_WE, w_nil, w_cons, u_raise, u_rng1, u_rng2, u_next, u_ret, u_gname, u_gnil, u_gcons, u_gsub, u_gtup,
  f_add, f_addS, f_addR, f_sub, f_mul, f_mulR, f_mod, f_div, f_pow, f_neg, f_cmp, f_eq, f_eqB, f_eqS, f_ne, f_neB, f_neS, f_isN, f_notN, f_isB, f_ix, f_ixS, f_int, f_intB, f_len, f_lenS, f_max, f_min, f_abs, f_list, f_tuple, f_all, f_sum, f_isi, f_isiT, f_append, f_insert, f_pop, f_sl, f_set,
  kitS, tys, List.isEmpty_cons, Option.map_some, kt_NoneType_int, kt_NoneType_bool, kt_NoneType_str, kt_NoneType_list, kt_NoneType_tuple, kt_NoneType_dict, kt_int_int, kt_int_bool, kt_int_str, kt_int_list, kt_int_tuple, kt_int_dict, kt_bool_int, kt_bool_bool, kt_bool_str, kt_bool_list, kt_bool_tuple, kt_bool_dict, kt_str_int, kt_str_bool, kt_str_str, kt_str_list, kt_str_tuple, kt_str_dict, kt_list_int, kt_list_bool, kt_list_str, kt_list_list, kt_list_tuple, kt_list_dict, kt_tuple_int, kt_tuple_bool, kt_tuple_str, kt_tuple_list, kt_tuple_tuple, kt_tuple_dict, kt_dict_int, kt_dict_bool, kt_dict_str, kt_dict_list, kt_dict_tuple, kt_dict_dict, asL_lst, asL_frz, asL_tup, asT_tup, asS_lst, asS_frz, asS_tup, tyN_non, tyN_bl, tyN_int, tyN_str, atV_lit, ixN_lit, upd_same, upd_ne, upd_ne',
  List.getElem?_cons_zero, List.getElem?_cons_succ, List.set_cons_zero, List.set_cons_succ, List.append_nil, List.length_cons, List.length_nil, Option.some.injEq, exists_eq_left', exists_eq_left, exists_and_left, V.bl.injEq, V.int.injEq, V.str.injEq, V.ref.injEq, Bool.not_eq_true, Bool.not_true, Bool.not_false, decide_true, decide_false, decide_eq_true_eq, decide_eq_false_iff_not, Bool.false_eq_true, if_true, if_false, ite_true, ite_false, reduceCtorEq, true_and, and_true, Nat.reduceAdd, Nat.reduceLT, Nat.zero_add, ne_eq, not_false_eq_true, not_true_eq_false, List.cons.injEq, and_assoc])
local macro_rules | `(tactic| walk_at "S") => `(tactic| try simp only [u_var, u_c, u_op, u_un, u_nil, u_cons, u_cb, u_call, u_callS, u_tup, u_lst, u_test, u_B, u_and, u_or, u_not, u_andV, u_orV, u_notV, u_ifE, u_chain, u_sl, u_noPart, u_part, u_bm, u_bm0, u_rev, u_lc, u_try, u_sui, u_sui0, u_unb_rt, u_unb_nx, u_xf, u_WE, w_nil, w_cons, u_raise, u_rng1, u_rng2, u_next, u_ret, u_gname, u_gnil, u_gcons, u_gsub, u_gtup,
  f_add, f_addS, f_addR, f_sub, f_mul, f_mulR, f_mod, f_div, f_pow, f_neg, f_cmp, f_eq, f_eqB, f_eqS, f_ne, f_neB, f_neS, f_isN, f_notN, f_isB, f_ix, f_ixS, f_int, f_intB, f_len, f_lenS, f_max, f_min, f_abs, f_list, f_tuple, f_all, f_sum, f_isi, f_isiT, f_append, f_insert, f_pop, f_sl, f_set,
  kitS, tys, List.isEmpty_cons, Option.map_some, kt_NoneType_int, kt_NoneType_bool, kt_NoneType_str, kt_NoneType_list, kt_NoneType_tuple, kt_NoneType_dict, kt_int_int, kt_int_bool, kt_int_str, kt_int_list, kt_int_tuple, kt_int_dict, kt_bool_int, kt_bool_bool, kt_bool_str, kt_bool_list, kt_bool_tuple, kt_bool_dict, kt_str_int, kt_str_bool, kt_str_str, kt_str_list, kt_str_tuple, kt_str_dict, kt_list_int, kt_list_bool, kt_list_str, kt_list_list, kt_list_tuple, kt_list_dict, kt_tuple_int, kt_tuple_bool, kt_tuple_str, kt_tuple_list, kt_tuple_tuple, kt_tuple_dict, kt_dict_int, kt_dict_bool, kt_dict_str, kt_dict_list, kt_dict_tuple, kt_dict_dict, asL_lst, asL_frz, asL_tup, asT_tup, asS_lst, asS_frz, asS_tup, tyN_non, tyN_bl, tyN_int, tyN_str, atV_lit, ixN_lit, upd_same, upd_ne, upd_ne',
  List.getElem?_cons_zero, List.getElem?_cons_succ, List.set_cons_zero, List.set_cons_succ, List.append_nil, List.length_cons, List.length_nil, Option.some.injEq, exists_eq_left', exists_eq_left, exists_and_left, V.bl.injEq, V.int.injEq, V.str.injEq, V.ref.injEq, Bool.not_eq_true, Bool.not_true, Bool.not_false, decide_true, decide_false, decide_eq_true_eq, decide_eq_false_iff_not, Bool.false_eq_true, if_true, if_false, ite_true, ite_false, reduceCtorEq, true_and, and_true, Nat.reduceAdd, Nat.reduceLT, Nat.zero_add, ne_eq, not_false_eq_true, not_true_eq_false, List.cons.injEq, and_assoc, *])
theorem slice_seven {z : Str} : (Txt.slice z none (some 7)).length ≤ 7 := by
  rw [slice_a (by decide)]
  show (z.cps.toList.take (7 : Int).toNat).toArray.size ≤ 7
  rw [List.size_toArray, List.length_take]
  have : (7 : Int).toNat = 7 := rfl
  omega
theorem flat_texts {zs : List Str} : (zs.map V.str).all flatV = true := by
  rw [List.all_eq_true]
  intro x hx
  obtain ⟨z, _, rfl⟩ := List.mem_map.1 hx
  rfl
theorem f_ninT {K : PySem.W.Frag} {H : Hp} {Q : VK} {z : Str} {p : Addr} {zs : List Str} (h : H p = some (.lst (zs.map V.str))) : fNin K (.str z) (.ref p) H Q = Q (.bl (!inV (.str z) (zs.map V.str))) H := by
  unfold fNin
  split
  · rename_i e1 e2
    cases e2
  · rename_i e
    cases e
    rw [asS_at h]
    show (flatV (.str z) = true ∧ (zs.map V.str).all flatV = true ∧ Q (.bl (!inV (.str z) (zs.map V.str))) H) = _
    rw [flat_texts]
    simp only [flatV, true_and]
  · rename_i n1 n2
    first | exact absurd rfl (n1 p) | exact (n1 p rfl).elim | exact (n2 _ rfl).elim | (simp at n1) | (simp at n2)
def sp_l_fresh (K : PySem.W.Frag) (C : CA) : Sp := fun vs H Q _ => ∃ (st p : Addr) (zs : List Str), vs = [.ref st, .ref p] ∧ StAt H st ∧ H p = some (.lst (zs.map V.str)) ∧ p ≠ st ∧ zs.length ≤ 100 ∧ (∀ z ∈ zs, z.length ≤ 100) ∧
  ∀ (z : Str) (H' : Hp), z.length ≤ 8 → Kp st H H' → StAt H' st → Q (.str z) H'
def rd_l_fresh (K : PySem.W.Frag) (C : CA) (E : XK) : TS :=
  (tSeq (tAsg (tCallS (sp_l_word K C) (fun _ => E0) (tCons (tVar 0) (tCons (tOp fAdd (tC (.int 1)) (tCallS (sp_l_take K C) (fun _ => E0) (tCons (tVar 0) (tCons (tC (.int 8)) tNil)))) tNil))) (gName 2)) (Evl.tCut (tIfS (tAnd (tTest (tOp fGt (tCB fLen (tCons (tVar 1) tNil)) (tC (.int 0)))) (tTest (tOp (fEq K) (tCallS (sp_l_take K C) (fun _ => E0) (tCons (tVar 0) (tCons (tC (.int 2)) tNil))) (tC (.int 0))))) (tAsg (tOp fAdd (tSl fSl2 (tCallS (sp_l_pick K C) (fun _ => E0) (tCons (tVar 0) (tCons (tVar 1) tNil))) tNoPart (tPart (tC (.int 7)))) (tOp fIx (tC (.str ("abz019" : Str))) (tCallS (sp_l_take K C) (fun _ => E0) (tCons (tVar 0) (tCons (tC (.int 6)) tNil))))) (gName 2)) tNext) (tSeq (tIfS (tTest (tOp (fNin K) (tVar 2) (tVar 1))) (tRet (tVar 2)) tNext) (tSeq (tFor (iStr (tC (.str ("abcdefghijklmnopqrstuvwxyz" : Str)))) (gName 3) (tIfS (tTest (tOp (fNin K) (tOp fAdd (tSl fSl2 (tVar 2) tNoPart (tPart (tC (.int 7)))) (tVar 3)) (tVar 1))) (tRet (tOp fAdd (tSl fSl2 (tVar 2) tNoPart (tPart (tC (.int 7)))) (tVar 3))) tNext)) (tRet (tVar 2))))))
theorem pure_l_fresh {K : PySem.W.Frag} {C : CA} (vs : List V) (H : Hp) (Q : VK) (E : XK) (h : sp_l_fresh K C vs H Q E) : rd_l_fresh K C E { nx := fun _ H' => Q .non H', rt := Q } (start [("store" : Str), ("row" : Str), ("word" : Str), ("letter" : Str)] vs) H := by
  obtain ⟨st, p, zs, rfl, hs, hp, np, hl, hz, q⟩ := h
  show rd_l_fresh K C E _ [some (.ref st), some (.ref p), none, none] H
  unfold rd_l_fresh
  refine q_asg ?_
  walk_at "s"
  refine take_ok hs (by decide) fun r H1 r0 r1 k1 s1 => ?_
  walk_at "s"
  refine word_ok s1 (by omega) (by omega) fun wd H2 lw k2 s2 => ?_
  refine ⟨fun σ H' => ∃ w : Str, σ = [some (.ref st), some (.ref p), some (.str w), none] ∧ w.length ≤ 8 ∧ Kp st H H' ∧ StAt H' st, q_if1 ?_, ?_⟩
  · have hp2 := (k1.trans k2).1 _ _ np hp
    walk_at "s"
    simp only [asS_at hp2]
    walk_at "s"
    rw [List.length_map]
    refine ite2 (fun c => ?_) fun c => ?_
    · walk_at "s"
      refine take_ok s2 (by decide) fun r2 H3 r0 r1 k3 s3 => ?_
      have hp3 := k3.1 _ _ np hp2
      walk_at "s"
      refine ite2 (fun c2 => ?_) fun c2 => ?_
      · refine q_asg1 ?_
        walk_at "s"
        refine pick_ok s3 (asS_at hp3) np (by rw [List.length_map]; omega) (by intro e; rw [List.map_eq_nil_iff] at e; rw [e] at c; simp at c) fun j v H4 hj k4 s4 => ?_
        obtain ⟨z, hzj, rfl⟩ := get_str hj
        have lz := hz z (List.mem_of_getElem? hzj)
        simp only [f_slS]
        refine ⟨by show _ ≤ 2 ^ 24; omega, ?_⟩
        refine take_ok s4 (by decide) fun r3 H5 q0 q1 k5 s5 => ?_
        walk_at "s"
        have e6 : (Str.ofString "abz019").cps.size = 6 := by decide +kernel
        have l7 := slice_seven (z := z)
        refine ⟨by decide +kernel, txt_at q0 (by omega) fun ch => ?_⟩
        refine ⟨by rw [str_len1]; show _ ≤ 2 ^ 24; omega, ?_⟩
        exact ⟨by rw [str_len_add, str_len1]; omega, (((k1.trans k2).trans k3).trans k4).trans k5, s5⟩
      · walk_at "s"
        exact ⟨lw, (k1.trans k2).trans k3, s3⟩
    · walk_at "s"
      exact ⟨lw, k1.trans k2, s2⟩
  · rintro σ H3 ⟨w, rfl, lw, k3, s3⟩
    have hp3 := k3.1 _ _ np hp
    refine q_if ?_
    walk_at "s"
    simp only [f_ninT hp3]
    walk_at "s"
    refine ite2 (fun _ => q w H3 lw k3 s3) fun _ => ?_
    refine q_for ?_
    rw [u_strI]
    walk_at "s"
    refine loop_str (fun i σ H4 => ∃ v : Option V, σ = [some (.ref st), some (.ref p), some (.str w), v] ∧ H4 = H3) ⟨_, rfl, rfl⟩ ?_ ?_
    · rintro i ch σ H4 hi ⟨v, rfl, rfl⟩
      have l7 := slice_seven (z := w)
      walk_at "s"
      refine q_if1 ?_
      walk_at "s"
      simp only [f_slS]
      refine ⟨by show _ ≤ 2 ^ 24; omega, ?_⟩
      walk_at "s"
      refine ⟨by rw [str_len1]; show _ ≤ 2 ^ 24; omega, ?_⟩
      simp only [f_ninT hp3]
      walk_at "s"
      refine ite2 (fun _ => ?_) fun _ => ?_
      · refine ⟨by show _ ≤ 2 ^ 24; omega, by rw [str_len1]; show _ ≤ 2 ^ 24; omega, q _ _ (by rw [str_len_add, str_len1]; omega) k3 s3⟩
      · first | trivial | exact ⟨_, rfl⟩
    · rintro σ H4 ⟨v, rfl, rfl⟩
      walk_at "s"
      exact q w _ lw k3 s3
end XB

/-! Names. -/
namespace XB
open PySem L2
local macro_rules | `(tactic| walk_at "s") => `(tactic| try simp only [u_var, u_c, u_op, u_un, u_nil, u_cons, u_cb, u_call, u_callS, u_tup, u_lst, u_test, u_B, u_and, u_or, u_not, u_andV, u_orV, u_notV, u_ifE, u_chain, u_sl, u_noPart, u_part, u_bm, u_bm0, u_rev, u_lc, u_try, u_sui, u_sui0, u_unb_rt, u_unb_nx, u_xf, u_WE, w_nil, w_cons, u_raise, u_rng1, u_rng2, u_next, u_ret, u_gname, u_gnil, u_gcons, u_gsub, u_gtup,
  f_add, f_addS, f_addR, f_sub, f_mul, f_mulR, f_mod, f_div, f_pow, f_neg, f_cmp, f_eq, f_eqB, f_eqS, f_ne, f_neB, f_neS, f_isN, f_notN, f_isB, f_ix, f_ixS, f_int, f_intB, f_len, f_lenS, f_max, f_min, f_abs, f_list, f_tuple, f_all, f_sum, f_isi, f_isiT, f_append, f_insert, f_pop, f_sl, f_set,
  kitS, tys, List.isEmpty_cons, Option.map_some, kt_NoneType_int, kt_NoneType_bool, kt_NoneType_str, kt_NoneType_list, kt_NoneType_tuple, kt_NoneType_dict, kt_int_int, kt_int_bool, kt_int_str, kt_int_list, kt_int_tuple, kt_int_dict, kt_bool_int, kt_bool_bool, kt_bool_str, kt_bool_list, kt_bool_tuple, kt_bool_dict, kt_str_int, kt_str_bool, kt_str_str, kt_str_list, kt_str_tuple, kt_str_dict, kt_list_int, kt_list_bool, kt_list_str, kt_list_list, kt_list_tuple, kt_list_dict, kt_tuple_int, kt_tuple_bool, kt_tuple_str, kt_tuple_list, kt_tuple_tuple, kt_tuple_dict, kt_dict_int, kt_dict_bool, kt_dict_str, kt_dict_list, kt_dict_tuple, kt_dict_dict, asL_lst, asL_frz, asL_tup, asT_tup, asS_lst, asS_frz, asS_tup, tyN_non, tyN_bl, tyN_int, tyN_str, atV_lit, ixN_lit, upd_same, upd_ne, upd_ne',
  List.getElem?_cons_zero, List.getElem?_cons_succ, List.set_cons_zero, List.set_cons_succ, List.append_nil, List.length_cons, List.length_nil, Option.some.injEq, exists_eq_left', exists_eq_left, exists_and_left, V.bl.injEq, V.int.injEq, V.str.injEq, V.ref.injEq, Bool.not_eq_true, Bool.not_true, Bool.not_false, decide_true, decide_false, decide_eq_true_eq, decide_eq_false_iff_not, Bool.false_eq_true, if_true, if_false, ite_true, ite_false, reduceCtorEq, true_and, and_true, Nat.reduceAdd, Nat.reduceLT, Nat.zero_add, ne_eq, not_false_eq_true, not_true_eq_false, List.cons.injEq, and_assoc])
local macro_rules | `(tactic| walk_at "S") => `(tactic| try simp only [u_var, u_c, u_op, u_un, u_nil, u_cons, u_cb, u_call, u_callS, u_tup, u_lst, u_test, u_B, u_and, u_or, u_not, u_andV, u_orV, u_notV, u_ifE, u_chain, u_sl, u_noPart, u_part, u_bm, u_bm0, u_rev, u_lc, u_try, u_sui, u_sui0, u_unb_rt, u_unb_nx, u_xf, u_WE, w_nil, w_cons, u_raise, u_rng1, u_rng2, u_next, u_ret, u_gname, u_gnil, u_gcons, u_gsub, u_gtup,
  f_add, f_addS, f_addR, f_sub, f_mul, f_mulR, f_mod, f_div, f_pow, f_neg, f_cmp, f_eq, f_eqB, f_eqS, f_ne, f_neB, f_neS, f_isN, f_notN, f_isB, f_ix, f_ixS, f_int, f_intB, f_len, f_lenS, f_max, f_min, f_abs, f_list, f_tuple, f_all, f_sum, f_isi, f_isiT, f_append, f_insert, f_pop, f_sl, f_set,
  kitS, tys, List.isEmpty_cons, Option.map_some, kt_NoneType_int, kt_NoneType_bool, kt_NoneType_str, kt_NoneType_list, kt_NoneType_tuple, kt_NoneType_dict, kt_int_int, kt_int_bool, kt_int_str, kt_int_list, kt_int_tuple, kt_int_dict, kt_bool_int, kt_bool_bool, kt_bool_str, kt_bool_list, kt_bool_tuple, kt_bool_dict, kt_str_int, kt_str_bool, kt_str_str, kt_str_list, kt_str_tuple, kt_str_dict, kt_list_int, kt_list_bool, kt_list_str, kt_list_list, kt_list_tuple, kt_list_dict, kt_tuple_int, kt_tuple_bool, kt_tuple_str, kt_tuple_list, kt_tuple_tuple, kt_tuple_dict, kt_dict_int, kt_dict_bool, kt_dict_str, kt_dict_list, kt_dict_tuple, kt_dict_dict, asL_lst, asL_frz, asL_tup, asT_tup, asS_lst, asS_frz, asS_tup, tyN_non, tyN_bl, tyN_int, tyN_str, atV_lit, ixN_lit, upd_same, upd_ne, upd_ne',
  List.getElem?_cons_zero, List.getElem?_cons_succ, List.set_cons_zero, List.set_cons_succ, List.append_nil, List.length_cons, List.length_nil, Option.some.injEq, exists_eq_left', exists_eq_left, exists_and_left, V.bl.injEq, V.int.injEq, V.str.injEq, V.ref.injEq, Bool.not_eq_true, Bool.not_true, Bool.not_false, decide_true, decide_false, decide_eq_true_eq, decide_eq_false_iff_not, Bool.false_eq_true, if_true, if_false, ite_true, ite_false, reduceCtorEq, true_and, and_true, Nat.reduceAdd, Nat.reduceLT, Nat.zero_add, ne_eq, not_false_eq_true, not_true_eq_false, List.cons.injEq, and_assoc, *])
def lettersS : Str := ("abcdefghijklmnopqrstuvwxyz" : Str)
def signsS : Str := ("abcdefghijklmnopqrstuvwxyz0123456789" : Str)
def nameS (z : Str) : Bool := decide (1 ≤ z.length) && decide (z.length ≤ 8) && (match z.cps.toList with
  | c :: _ => decide (c ∈ lettersS.cps.toList)
  | [] => false) && z.cps.toList.all fun c => decide (c ∈ signsS.cps.toList)
def nameV : V → Bool
  | .str z => nameS z
  | _ => false
/-- a value whose kind is known, no text too long -/
def Tz (v : V) (H : Hp) : Prop := Ty v H ∧ ∀ z, v = .str z → z.length ≤ 1000
theorem f_in1' {K : PySem.W.Frag} {H : Hp} {Q : VK} {c : Nat} {z : Str} : fIn K (.str ⟨#[c]⟩) (.str z) H Q = Q (.bl (decide (c ∈ z.cps.toList))) H := rfl
def sp_is_name (K : PySem.W.Frag) (C : CA) : Sp := fun vs H Q _ => ∃ v, vs = [v] ∧ Tz v H ∧ ∀ H', Sm H H' → Q (.bl (nameV v)) H'
def rd_is_name (K : PySem.W.Frag) (C : CA) (E : XK) : TS :=
  (tSeq (tIfS (tOr (tNot (tB (tCB fIsi (tCons (tVar 0) (tCons (tC (.ty "str")) tNil))))) (tNot (tTest (tChain fLe fLe (tC (.int 1)) (tCB fLen (tCons (tVar 0) tNil)) (tC (.int 8)))))) (tRet (tC (.bl false))) tNext) (tRet (tAndV (tOp (fIn K) (tOp fIx (tVar 0) (tC (.int 0))) (tC (.str ("abcdefghijklmnopqrstuvwxyz" : Str)))) (tCB fAll (tCons (tLc (iStr (tVar 0)) (gName 1) tYes (tOp (fIn K) (tVar 1) (tC (.str ("abcdefghijklmnopqrstuvwxyz0123456789" : Str)))) [1]) tNil)))))
theorem pure_is_name {K : PySem.W.Frag} {C : CA} (vs : List V) (H : Hp) (Q : VK) (E : XK) (h : sp_is_name K C vs H Q E) : rd_is_name K C E { nx := fun _ H' => Q .non H', rt := Q } (start [("value" : Str), ("sign" : Str)] vs) H := by
  obtain ⟨v, rfl, ⟨tv, lz⟩, q⟩ := h
  show rd_is_name K C E _ [some v, none] H
  unfold rd_is_name
  refine q_if ?_
  have no : nameV v = false → Q (.bl false) H := fun e => by
    have := q H fun _ _ z => z
    rw [e] at this
    exact this
  rcases ty_cases tv with rfl | ⟨b, rfl⟩ | ⟨i, rfl⟩ | ⟨z, rfl⟩ | ⟨p, rfl, h⟩
  · walk_at "s"
    exact no rfl
  · walk_at "s"
    exact no rfl
  · walk_at "s"
    exact no rfl
  · have l1 := lz z rfl
    walk_at "s"
    have noS : nameS z = false → Q (.bl false) H := no
    have hlen : z.cps.toList.length = z.length := Array.length_toList
    refine ⟨by show _ ≤ 2 ^ 24; omega, ite2 (fun c1 => ?_) fun c1 => noS ?_⟩
    · by_cases c2 : (z.length : Int) ≤ 8
      · simp only [c2, decide_true, Bool.not_true, Bool.false_eq_true, if_false]
        refine ⟨by show _ ≤ 2 ^ 24; omega, ?_⟩
        have a1 : decide (1 ≤ z.length) = true := decide_eq_true (by omega)
        have a2 : decide (z.length ≤ 8) = true := decide_eq_true (by omega)
        cases ez : z.cps.toList with
        | nil => rw [ez] at hlen; simp at hlen; omega
        | cons c0 t =>
          have q2 : ∀ H', Sm H H' → Q (.bl (decide (c0 ∈ lettersS.cps.toList) && (c0 :: t).all fun c => decide (c ∈ signsS.cps.toList))) H' := fun H' s => by
            have e := q H' s
            have e2 : nameV (.str z) = (decide (c0 ∈ lettersS.cps.toList) && (c0 :: t).all fun c => decide (c ∈ signsS.cps.toList)) := by
              show nameS z = _
              unfold nameS
              rw [a1, a2, ez]
              simp only [Bool.true_and]
            rw [← e2]
            exact e
          refine ⟨c0, (by exact atI_nat (xs := c0 :: t) (j := 0) rfl), ?_⟩
          rw [f_in1']
          refine ⟨_, rfl, ?_⟩
          by_cases c3 : c0 ∈ lettersS.cps.toList
          · rw [decide_eq_true c3] at q2
            have c3' : decide (c0 ∈ (Str.ofString "abcdefghijklmnopqrstuvwxyz").cps.toList) = true := decide_eq_true c3
            rw [if_pos c3', u_strI]
            walk_at "s"
            intro Dd hD
            refine made_mapStr (fun c => .bl (decide (c ∈ signsS.cps.toList))) hD (by show z.length < 2 ^ 24; omega) (fun _ => rfl) (fun i c H2 Q1 hc s1 q1 => ?_) fun H2 s2 g2 => ?_
            · walk_at "s"
              rw [f_in1']
              exact q1 H2 fun _ _ z => z
            · rw [g2]
              refine ⟨z.cps.toList.map fun c => decide (c ∈ signsS.cps.toList), by rw [List.map_map]; rfl, ?_⟩
              have e := q2 H2 s2
              rw [Bool.true_and] at e
              rw [ez, List.all_map]
              exact e
          · rw [decide_eq_false c3] at q2
            have c3' : ¬ decide (c0 ∈ (Str.ofString "abcdefghijklmnopqrstuvwxyz").cps.toList) = true := by
              rw [decide_eq_true_eq]
              exact c3
            rw [if_neg c3']
            exact q2 H fun _ _ z => z
      · simp only [c2, decide_false, Bool.not_false, if_true]
        refine noS ?_
        have a2 : decide (z.length ≤ 8) = false := decide_eq_false (by omega)
        unfold nameS
        rw [a2]
        simp
    · have a1 : decide (1 ≤ z.length) = false := decide_eq_false (by omega)
      unfold nameS
      rw [a1]
      simp
  · have e : ∃ t, tyN (.ref p) H = some t ∧ (t = "list" ∨ t = "tuple" ∨ t = "dict") := by
      rcases h with ⟨h, _⟩ | ⟨h, _⟩ | ⟨h, _⟩
      · exact ⟨_, h, .inl rfl⟩
      · exact ⟨_, h, .inr (.inl rfl)⟩
      · exact ⟨_, h, .inr (.inr rfl)⟩
    obtain ⟨t, e, rfl | rfl | rfl⟩ := e
    all_goals
      walk_at "s"
      simp only [e]
      walk_at "s"
      exact no rfl
end XB

/-! Names, as the law asks. -/
namespace XB
open PySem L2
local macro_rules | `(tactic| walk_at "s") => `(tactic| try simp only [u_var, u_c, u_op, u_un, u_nil, u_cons, u_cb, u_call, u_callS, u_tup, u_lst, u_test, u_B, u_and, u_or, u_not, u_andV, u_orV, u_notV, u_ifE, u_chain, u_sl, u_noPart, u_part, u_bm, u_bm0, u_rev, u_lc, u_try, u_sui, u_sui0, u_unb_rt, u_unb_nx, u_xf, u_WE, w_nil, w_cons, u_raise, u_rng1, u_rng2, u_next, u_ret, u_gname, u_gnil, u_gcons, u_gsub, u_gtup,
  f_add, f_addS, f_addR, f_sub, f_mul, f_mulR, f_mod, f_div, f_pow, f_neg, f_cmp, f_eq, f_eqB, f_eqS, f_ne, f_neB, f_neS, f_isN, f_notN, f_isB, f_ix, f_ixS, f_int, f_intB, f_len, f_lenS, f_max, f_min, f_abs, f_list, f_tuple, f_all, f_sum, f_isi, f_isiT, f_append, f_insert, f_pop, f_sl, f_set,
  kitS, tys, List.isEmpty_cons, Option.map_some, kt_NoneType_int, kt_NoneType_bool, kt_NoneType_str, kt_NoneType_list, kt_NoneType_tuple, kt_NoneType_dict, kt_int_int, kt_int_bool, kt_int_str, kt_int_list, kt_int_tuple, kt_int_dict, kt_bool_int, kt_bool_bool, kt_bool_str, kt_bool_list, kt_bool_tuple, kt_bool_dict, kt_str_int, kt_str_bool, kt_str_str, kt_str_list, kt_str_tuple, kt_str_dict, kt_list_int, kt_list_bool, kt_list_str, kt_list_list, kt_list_tuple, kt_list_dict, kt_tuple_int, kt_tuple_bool, kt_tuple_str, kt_tuple_list, kt_tuple_tuple, kt_tuple_dict, kt_dict_int, kt_dict_bool, kt_dict_str, kt_dict_list, kt_dict_tuple, kt_dict_dict, asL_lst, asL_frz, asL_tup, asT_tup, asS_lst, asS_frz, asS_tup, tyN_non, tyN_bl, tyN_int, tyN_str, atV_lit, ixN_lit, upd_same, upd_ne, upd_ne',
  List.getElem?_cons_zero, List.getElem?_cons_succ, List.set_cons_zero, List.set_cons_succ, List.append_nil, List.length_cons, List.length_nil, Option.some.injEq, exists_eq_left', exists_eq_left, exists_and_left, V.bl.injEq, V.int.injEq, V.str.injEq, V.ref.injEq, Bool.not_eq_true, Bool.not_true, Bool.not_false, decide_true, decide_false, decide_eq_true_eq, decide_eq_false_iff_not, Bool.false_eq_true, if_true, if_false, ite_true, ite_false, reduceCtorEq, true_and, and_true, Nat.reduceAdd, Nat.reduceLT, Nat.zero_add, ne_eq, not_false_eq_true, not_true_eq_false, List.cons.injEq, and_assoc])
local macro_rules | `(tactic| walk_at "S") => `(tactic| try simp only [u_var, u_c, u_op, u_un, u_nil, u_cons, u_cb, u_call, u_callS, u_tup, u_lst, u_test, u_B, u_and, u_or, u_not, u_andV, u_orV, u_notV, u_ifE, u_chain, u_sl, u_noPart, u_part, u_bm, u_bm0, u_rev, u_lc, u_try, u_sui, u_sui0, u_unb_rt, u_unb_nx, u_xf, u_WE, w_nil, w_cons, u_raise, u_rng1, u_rng2, u_next, u_ret, u_gname, u_gnil, u_gcons, u_gsub, u_gtup,
  f_add, f_addS, f_addR, f_sub, f_mul, f_mulR, f_mod, f_div, f_pow, f_neg, f_cmp, f_eq, f_eqB, f_eqS, f_ne, f_neB, f_neS, f_isN, f_notN, f_isB, f_ix, f_ixS, f_int, f_intB, f_len, f_lenS, f_max, f_min, f_abs, f_list, f_tuple, f_all, f_sum, f_isi, f_isiT, f_append, f_insert, f_pop, f_sl, f_set,
  kitS, tys, List.isEmpty_cons, Option.map_some, kt_NoneType_int, kt_NoneType_bool, kt_NoneType_str, kt_NoneType_list, kt_NoneType_tuple, kt_NoneType_dict, kt_int_int, kt_int_bool, kt_int_str, kt_int_list, kt_int_tuple, kt_int_dict, kt_bool_int, kt_bool_bool, kt_bool_str, kt_bool_list, kt_bool_tuple, kt_bool_dict, kt_str_int, kt_str_bool, kt_str_str, kt_str_list, kt_str_tuple, kt_str_dict, kt_list_int, kt_list_bool, kt_list_str, kt_list_list, kt_list_tuple, kt_list_dict, kt_tuple_int, kt_tuple_bool, kt_tuple_str, kt_tuple_list, kt_tuple_tuple, kt_tuple_dict, kt_dict_int, kt_dict_bool, kt_dict_str, kt_dict_list, kt_dict_tuple, kt_dict_dict, asL_lst, asL_frz, asL_tup, asT_tup, asS_lst, asS_frz, asS_tup, tyN_non, tyN_bl, tyN_int, tyN_str, atV_lit, ixN_lit, upd_same, upd_ne, upd_ne',
  List.getElem?_cons_zero, List.getElem?_cons_succ, List.set_cons_zero, List.set_cons_succ, List.append_nil, List.length_cons, List.length_nil, Option.some.injEq, exists_eq_left', exists_eq_left, exists_and_left, V.bl.injEq, V.int.injEq, V.str.injEq, V.ref.injEq, Bool.not_eq_true, Bool.not_true, Bool.not_false, decide_true, decide_false, decide_eq_true_eq, decide_eq_false_iff_not, Bool.false_eq_true, if_true, if_false, ite_true, ite_false, reduceCtorEq, true_and, and_true, Nat.reduceAdd, Nat.reduceLT, Nat.zero_add, ne_eq, not_false_eq_true, not_true_eq_false, List.cons.injEq, and_assoc, *])
def digitsS : Str := ("0123456789" : Str)
theorem sign_letter {c : Nat} (h : c ∈ signsS.cps.toList) : (!decide (c ∈ digitsS.cps.toList)) = decide (c ∈ lettersS.cps.toList) := by
  have e : ∀ c ∈ signsS.cps.toList, (!decide (c ∈ digitsS.cps.toList)) = decide (c ∈ lettersS.cps.toList) := by decide +kernel
  exact e c h
theorem nameS_no {z : Str} {i c : Nat} (hc : z.cps[i]? = some c) (h : c ∉ signsS.cps.toList) : nameS z = false := by
  have hm : c ∈ z.cps.toList := by
    rw [← Array.getElem?_toList] at hc
    exact List.mem_of_getElem? hc
  have e : (z.cps.toList.all fun c => decide (c ∈ signsS.cps.toList)) = false := by
    rw [List.all_eq_false]
    exact ⟨c, hm, by simpa using h⟩
  unfold nameS
  rw [e, Bool.and_false]
theorem f_nin1' {K : PySem.W.Frag} {H : Hp} {Q : VK} {c : Nat} {z : Str} : fNin K (.str ⟨#[c]⟩) (.str z) H Q = Q (.bl (!decide (c ∈ z.cps.toList))) H := rfl
def sp_l_is_name (K : PySem.W.Frag) (C : CA) : Sp := fun vs H Q _ => ∃ v, vs = [v] ∧ Tz v H ∧ ∀ H', Sm H H' → Q (.bl (nameV v)) H'
def rd_l_is_name (K : PySem.W.Frag) (C : CA) (E : XK) : TS :=
  (tSeq (tIfS (tOr (tNot (tB (tCB fIsi (tCons (tVar 0) (tCons (tC (.ty "str")) tNil))))) (tOr (tTest (tOp fLt (tCB fLen (tCons (tVar 0) tNil)) (tC (.int 1)))) (tTest (tOp fGt (tCB fLen (tCons (tVar 0) tNil)) (tC (.int 8)))))) (tRet (tC (.bl false))) tNext) (tSeq (tFor (iStr (tVar 0)) (gName 1) (tIfS (tTest (tOp (fNin K) (tVar 1) (tC (.str ("abcdefghijklmnopqrstuvwxyz0123456789" : Str))))) (tRet (tC (.bl false))) tNext)) (tRet (tOp (fNin K) (tOp fIx (tVar 0) (tC (.int 0))) (tC (.str ("0123456789" : Str)))))))
theorem pure_l_is_name {K : PySem.W.Frag} {C : CA} (vs : List V) (H : Hp) (Q : VK) (E : XK) (h : sp_l_is_name K C vs H Q E) : rd_l_is_name K C E { nx := fun _ H' => Q .non H', rt := Q } (start [("value" : Str), ("sign" : Str)] vs) H := by
  obtain ⟨v, rfl, ⟨tv, lz⟩, q⟩ := h
  show rd_l_is_name K C E _ [some v, none] H
  unfold rd_l_is_name
  refine q_if ?_
  have no : nameV v = false → Q (.bl false) H := fun e => by
    have := q H fun _ _ z => z
    rw [e] at this
    exact this
  rcases ty_cases tv with rfl | ⟨b, rfl⟩ | ⟨i, rfl⟩ | ⟨z, rfl⟩ | ⟨p, rfl, h⟩
  · walk_at "s"
    exact no rfl
  · walk_at "s"
    exact no rfl
  · walk_at "s"
    exact no rfl
  · have l1 := lz z rfl
    walk_at "s"
    have noS : nameS z = false → Q (.bl false) H := no
    have hlen : z.cps.toList.length = z.length := Array.length_toList
    refine ⟨by show _ ≤ 2 ^ 24; omega, ite2 (fun c1 => noS ?_) fun c1 => ⟨by show _ ≤ 2 ^ 24; omega, ite2 (fun c2 => noS ?_) fun c2 => ?_⟩⟩
    · have a1 : decide (1 ≤ z.length) = false := decide_eq_false (by omega)
      unfold nameS
      rw [a1]
      simp
    · have a2 : decide (z.length ≤ 8) = false := decide_eq_false (by omega)
      unfold nameS
      rw [a2]
      simp
    · refine q_for ?_
      rw [u_strI]
      walk_at "s"
      refine loop_str (fun i σ H2 => ∃ v : Option V, σ = [some (.str z), v] ∧ H2 = H ∧ ∀ c ∈ z.cps.toList.take i, c ∈ signsS.cps.toList) ⟨_, rfl, rfl, by simp⟩ ?_ ?_
      · rintro i c σ H2 hc ⟨v, rfl, rfl, hm⟩
        walk_at "s"
        refine q_if1 ?_
        walk_at "s"
        rw [f_nin1']
        refine ⟨_, rfl, ?_⟩
        by_cases c3 : c ∈ signsS.cps.toList
        · have c3' : ¬ (!decide (c ∈ (Str.ofString "abcdefghijklmnopqrstuvwxyz0123456789").cps.toList)) = true := by
            rw [decide_eq_true (show c ∈ (Str.ofString "abcdefghijklmnopqrstuvwxyz0123456789").cps.toList from c3)]
            decide
          rw [if_neg c3']
          refine ⟨rfl, fun d hd => ?_⟩
          rw [List.take_succ, List.mem_append] at hd
          rcases hd with hd | hd
          · exact hm d hd
          · rw [Array.getElem?_toList, hc] at hd
            have : d = c := by simpa using hd
            rw [this]
            exact c3
        · have c3' : (!decide (c ∈ (Str.ofString "abcdefghijklmnopqrstuvwxyz0123456789").cps.toList)) = true := by
            rw [decide_eq_false (show ¬ c ∈ (Str.ofString "abcdefghijklmnopqrstuvwxyz0123456789").cps.toList from c3)]
            rfl
          rw [if_pos c3']
          exact noS (nameS_no hc c3)
      · rintro σ H2 ⟨v, rfl, rfl, hm⟩
        walk_at "s"
        refine ⟨by show _ ≤ 2 ^ 24; omega, ?_⟩
        cases ez : z.cps.toList with
        | nil => rw [ez] at hlen; simp at hlen; omega
        | cons c0 t =>
          refine ⟨c0, (by exact atI_nat (xs := c0 :: t) (j := 0) rfl), ?_⟩
          rw [f_nin1']
          have hs : z.cps.size = z.cps.toList.length := Array.length_toList.symm
          rw [hs, List.take_length, ez] at hm
          have m0 := hm c0 List.mem_cons_self
          have e := q _ fun _ _ z => z
          have e2 : nameV (.str z) = (!decide (c0 ∈ digitsS.cps.toList)) := by
            show nameS z = _
            have a1 : decide (1 ≤ z.length) = true := decide_eq_true (by omega)
            have a2 : decide (z.length ≤ 8) = true := decide_eq_true (by omega)
            have a3 : ((c0 :: t).all fun c => decide (c ∈ signsS.cps.toList)) = true := by
              rw [List.all_eq_true]
              exact fun c hc => decide_eq_true (hm c hc)
            unfold nameS
            rw [a1, a2, ez, a3, sign_letter m0]
            simp only [Bool.true_and, Bool.and_true]
          rw [e2] at e
          exact e
  · have e : ∃ t, tyN (.ref p) H = some t ∧ (t = "list" ∨ t = "tuple" ∨ t = "dict") := by
      rcases h with ⟨h, _⟩ | ⟨h, _⟩ | ⟨h, _⟩
      · exact ⟨_, h, .inl rfl⟩
      · exact ⟨_, h, .inr (.inl rfl)⟩
      · exact ⟨_, h, .inr (.inr rfl)⟩
    obtain ⟨t, e, rfl | rfl | rfl⟩ := e
    all_goals
      walk_at "s"
      simp only [e]
      walk_at "s"
      exact no rfl
end XB

/-! Copies, and lists of data made. -/
namespace XB
open PySem L2
local macro_rules | `(tactic| walk_at "s") => `(tactic| try simp only [u_var, u_c, u_op, u_un, u_nil, u_cons, u_cb, u_call, u_callS, u_tup, u_lst, u_test, u_B, u_and, u_or, u_not, u_andV, u_orV, u_notV, u_ifE, u_chain, u_sl, u_noPart, u_part, u_bm, u_bm0, u_rev, u_lc, u_try, u_sui, u_sui0, u_unb_rt, u_unb_nx, u_xf, u_WE, w_nil, w_cons, u_raise, u_rng1, u_rng2, u_next, u_ret, u_gname, u_gnil, u_gcons, u_gsub, u_gtup,
  f_add, f_addS, f_addR, f_sub, f_mul, f_mulR, f_mod, f_div, f_pow, f_neg, f_cmp, f_eq, f_eqB, f_eqS, f_ne, f_neB, f_neS, f_isN, f_notN, f_isB, f_ix, f_ixS, f_int, f_intB, f_len, f_lenS, f_max, f_min, f_abs, f_list, f_tuple, f_all, f_sum, f_isi, f_isiT, f_append, f_insert, f_pop, f_sl, f_set,
  kitS, tys, List.isEmpty_cons, Option.map_some, kt_NoneType_int, kt_NoneType_bool, kt_NoneType_str, kt_NoneType_list, kt_NoneType_tuple, kt_NoneType_dict, kt_int_int, kt_int_bool, kt_int_str, kt_int_list, kt_int_tuple, kt_int_dict, kt_bool_int, kt_bool_bool, kt_bool_str, kt_bool_list, kt_bool_tuple, kt_bool_dict, kt_str_int, kt_str_bool, kt_str_str, kt_str_list, kt_str_tuple, kt_str_dict, kt_list_int, kt_list_bool, kt_list_str, kt_list_list, kt_list_tuple, kt_list_dict, kt_tuple_int, kt_tuple_bool, kt_tuple_str, kt_tuple_list, kt_tuple_tuple, kt_tuple_dict, kt_dict_int, kt_dict_bool, kt_dict_str, kt_dict_list, kt_dict_tuple, kt_dict_dict, asL_lst, asL_frz, asL_tup, asT_tup, asS_lst, asS_frz, asS_tup, tyN_non, tyN_bl, tyN_int, tyN_str, atV_lit, ixN_lit, upd_same, upd_ne, upd_ne',
  List.getElem?_cons_zero, List.getElem?_cons_succ, List.set_cons_zero, List.set_cons_succ, List.append_nil, List.length_cons, List.length_nil, Option.some.injEq, exists_eq_left', exists_eq_left, exists_and_left, V.bl.injEq, V.int.injEq, V.str.injEq, V.ref.injEq, Bool.not_eq_true, Bool.not_true, Bool.not_false, decide_true, decide_false, decide_eq_true_eq, decide_eq_false_iff_not, Bool.false_eq_true, if_true, if_false, ite_true, ite_false, reduceCtorEq, true_and, and_true, Nat.reduceAdd, Nat.reduceLT, Nat.zero_add, ne_eq, not_false_eq_true, not_true_eq_false, List.cons.injEq, and_assoc])
local macro_rules | `(tactic| walk_at "S") => `(tactic| try simp only [u_var, u_c, u_op, u_un, u_nil, u_cons, u_cb, u_call, u_callS, u_tup, u_lst, u_test, u_B, u_and, u_or, u_not, u_andV, u_orV, u_notV, u_ifE, u_chain, u_sl, u_noPart, u_part, u_bm, u_bm0, u_rev, u_lc, u_try, u_sui, u_sui0, u_unb_rt, u_unb_nx, u_xf, u_WE, w_nil, w_cons, u_raise, u_rng1, u_rng2, u_next, u_ret, u_gname, u_gnil, u_gcons, u_gsub, u_gtup,
  f_add, f_addS, f_addR, f_sub, f_mul, f_mulR, f_mod, f_div, f_pow, f_neg, f_cmp, f_eq, f_eqB, f_eqS, f_ne, f_neB, f_neS, f_isN, f_notN, f_isB, f_ix, f_ixS, f_int, f_intB, f_len, f_lenS, f_max, f_min, f_abs, f_list, f_tuple, f_all, f_sum, f_isi, f_isiT, f_append, f_insert, f_pop, f_sl, f_set,
  kitS, tys, List.isEmpty_cons, Option.map_some, kt_NoneType_int, kt_NoneType_bool, kt_NoneType_str, kt_NoneType_list, kt_NoneType_tuple, kt_NoneType_dict, kt_int_int, kt_int_bool, kt_int_str, kt_int_list, kt_int_tuple, kt_int_dict, kt_bool_int, kt_bool_bool, kt_bool_str, kt_bool_list, kt_bool_tuple, kt_bool_dict, kt_str_int, kt_str_bool, kt_str_str, kt_str_list, kt_str_tuple, kt_str_dict, kt_list_int, kt_list_bool, kt_list_str, kt_list_list, kt_list_tuple, kt_list_dict, kt_tuple_int, kt_tuple_bool, kt_tuple_str, kt_tuple_list, kt_tuple_tuple, kt_tuple_dict, kt_dict_int, kt_dict_bool, kt_dict_str, kt_dict_list, kt_dict_tuple, kt_dict_dict, asL_lst, asL_frz, asL_tup, asT_tup, asS_lst, asS_frz, asS_tup, tyN_non, tyN_bl, tyN_int, tyN_str, atV_lit, ixN_lit, upd_same, upd_ne, upd_ne',
  List.getElem?_cons_zero, List.getElem?_cons_succ, List.set_cons_zero, List.set_cons_succ, List.append_nil, List.length_cons, List.length_nil, Option.some.injEq, exists_eq_left', exists_eq_left, exists_and_left, V.bl.injEq, V.int.injEq, V.str.injEq, V.ref.injEq, Bool.not_eq_true, Bool.not_true, Bool.not_false, decide_true, decide_false, decide_eq_true_eq, decide_eq_false_iff_not, Bool.false_eq_true, if_true, if_false, ite_true, ite_false, reduceCtorEq, true_and, and_true, Nat.reduceAdd, Nat.reduceLT, Nat.zero_add, ne_eq, not_false_eq_true, not_true_eq_false, List.cons.injEq, and_assoc, *])
/-- v stands for d by cells that are new since H -/
def NewRp (m : Nat) (H H' : Hp) (n : Nat) (v : V) (d : PyData) : Prop := ∀ H'' : Hp, (∀ b o, H b = none → H' b = some o → H'' b = some o) → RpM m H'' n v d
theorem NewRp.rp {w : Nat} {H H' : Hp} {n : Nat} {v : V} {d : PyData} (h : NewRp w H H' n v d) : RpM w H' n v d := h H' fun _ _ _ z => z
theorem NewRp.back {w : Nat} {H0 H H' : Hp} {n : Nat} {v : V} {d : PyData} (s : ∀ b, H b = none → H0 b = none) (h : NewRp w H H' n v d) : NewRp w H0 H' n v d := fun H'' k => h H'' fun b o z e => k b o (s b z) e
theorem NewRp.from {w : Nat} {H0 H H' : Hp} {n : Nat} {v : V} {d : PyData} (s : Sm H0 H) (h : NewRp w H H' n v d) : NewRp w H0 H' n v d := h.back fun _ z => sm_none s z
theorem NewRp.on {w : Nat} {H H' H2 : Hp} {n : Nat} {v : V} {d : PyData} (s : ∀ b o, H b = none → H' b = some o → H2 b = some o) (h : NewRp w H H' n v d) : NewRp w H H2 n v d := fun H'' k => h H'' fun b o z e => k b o z (s b o z e)
theorem NewRp.sm {w : Nat} {H H' H2 : Hp} {n : Nat} {v : V} {d : PyData} (s : Sm H' H2) (h : NewRp w H H' n v d) : NewRp w H H2 n v d := h.on fun b o _ e => s b o e
theorem NewRp.flat {w : Nat} {H H' : Hp} {n : Nat} {v : V} {d : PyData} (h : Flat w v d) : NewRp w H H' n v d := fun H'' _ => by
  cases n with
  | zero => exact h
  | succ n => exact .inl h
theorem NewRp.up {w : Nat} {H H' : Hp} {n : Nat} {v : V} {d : PyData} (h : NewRp w H H' n v d) : NewRp w H H' (n + 1) v d := fun H'' k => (h H'' k).up
theorem All2.len {R : V → PyData → Prop} {xs : List V} {ds : List PyData} (h : All2 R xs ds) : xs.length = ds.length := h.1
theorem All2.imp {R S : V → PyData → Prop} {xs : List V} {ds : List PyData} (h : All2 R xs ds) (k : ∀ v d, R v d → S v d) : All2 S xs ds := ⟨h.1, fun i x d hx hd => k _ _ (h.2 i x d hx hd)⟩
theorem All2.nil {R : V → PyData → Prop} : All2 R [] [] := ⟨rfl, fun i x d h => by simp at h⟩
theorem All2.cons {R : V → PyData → Prop} {x : V} {d : PyData} {xs : List V} {ds : List PyData} (h : R x d) (t : All2 R xs ds) : All2 R (x :: xs) (d :: ds) := ⟨by rw [List.length_cons, List.length_cons, t.1], fun i y e hy he => by
  cases i with
  | zero => cases hy; cases he; exact h
  | succ i => exact t.2 i y e hy he⟩
theorem All2.append {R : V → PyData → Prop} {xs ys : List V} {ds es : List PyData} (h : All2 R xs ds) (t : All2 R ys es) : All2 R (xs ++ ys) (ds ++ es) := ⟨by rw [List.length_append, List.length_append, h.1, t.1], fun i y e hy he => by
  by_cases c : i < xs.length
  · rw [List.getElem?_append_left c] at hy
    rw [List.getElem?_append_left (by rw [← h.1]; exact c)] at he
    exact h.2 i y e hy he
  · rw [List.getElem?_append_right (by omega)] at hy
    rw [List.getElem?_append_right (by rw [← h.1]; omega), ← h.1] at he
    exact t.2 _ y e hy he⟩
theorem All2.take {R : V → PyData → Prop} {xs : List V} {ds : List PyData} (h : All2 R xs ds) (k : Nat) : All2 R (xs.take k) (ds.take k) := ⟨by rw [List.length_take, List.length_take, h.1], fun i y e hy he => by
  rw [List.getElem?_take] at hy he
  split at hy
  · rename_i c
    rw [if_pos c] at he
    exact h.2 i y e hy he
  · cases hy⟩
theorem All2.drop {R : V → PyData → Prop} {xs : List V} {ds : List PyData} (h : All2 R xs ds) (k : Nat) : All2 R (xs.drop k) (ds.drop k) := ⟨by rw [List.length_drop, List.length_drop, h.1], fun i y e hy he => by
  rw [List.getElem?_drop] at hy he
  exact h.2 _ y e hy he⟩
theorem NewRp.lst {w : Nat} {H H' : Hp} {n : Nat} {p : Addr} {xs : List V} {ds : List PyData} (hp : H p = none) (h : H' p = some (.lst xs)) (l : xs.length ≤ w) (a : All2 (NewRp w H H' n) xs ds) : NewRp w H H' (n + 1) (.ref p) (.list ds) :=
  fun H'' k => .inr (.inl ⟨p, xs, ds, rfl, asL_at (k p _ hp h), rfl, l, a.imp fun v d z => z H'' k⟩)
theorem NewRp.tup {w : Nat} {H H' : Hp} {n : Nat} {p : Addr} {xs : List V} {ds : List PyData} (hp : H p = none) (h : H' p = some (.tup xs)) (l : xs.length ≤ w) (a : All2 (NewRp w H H' n) xs ds) : NewRp w H H' (n + 1) (.ref p) (.tuple ds) :=
  fun H'' k => .inr (.inr (.inl ⟨p, xs, ds, rfl, by rw [k p _ hp h]; rfl, rfl, l, a.imp fun v d z => z H'' k⟩))
theorem NewRp.dct {w : Nat} {H H' : Hp} {n : Nat} {p : Addr} (hp : H p = none) (h : H' p = some (.dK [])) : NewRp w H H' (n + 1) (.ref p) (.dict []) :=
  fun H'' k => .inr (.inr (.inr ⟨p, rfl, k p _ hp h, rfl⟩))
theorem take_snoc {α : Type} {xs : List α} {i : Nat} {x : α} (h : xs[i]? = some x) : xs.take (i + 1) = xs.take i ++ [x] := by
  rw [List.take_add_one, h]
  rfl
section
variable {K : PySem.W.Frag} {σ : L2.St} {H : Hp} {n w : Nat}
/-- what stands while a list of data is made -/
def Mk (w : Nat) (H : Hp) (Dd : Addr) (m : Nat) (ds : List PyData) (i : Nat) (H' : Hp) : Prop := Sm H H' ∧ ∃ acc, H' Dd = some (.lst acc) ∧ All2 (NewRp w (upd H Dd (.lst [])) H' m) acc (ds.take i)
theorem Mk.start {m : Nat} {Dd : Addr} {ds : List PyData} (hD : H Dd = none) : Mk w H Dd m ds 0 (upd H Dd (.lst [])) := ⟨sm_new (fun _ _ h => h) hD, [], upd_same, All2.nil⟩
/-- a step of a list made of data -/
theorem rp_step {m i : Nat} {Dd : Addr} {ds : List PyData} {d : PyData} {H' : Hp} {te : (V → Hp → Prop) → Prop} (hD : H Dd = none) (hd : ds[i]? = some d) (hz : ds.length < 2 ^ 20)
    (p : Mk w H Dd m ds i H') (he : ∀ Q : VK, (∀ y H2, Sm H' H2 → NewRp w H' H2 m y d → Q y H2) → te Q) :
    te fun y H4 => ∃ acc, H4 Dd = some (.lst acc) ∧ acc.length < sizeLine ∧ Mk w H Dd m ds (i + 1) (upd H4 Dd (.lst (acc ++ [y]))) := by
  obtain ⟨s1, acc, ha, aa⟩ := p
  have nb : ∀ b, (upd H Dd (.lst [])) b = none → b ≠ Dd := fun b e z => by
    rw [z, upd_same] at e
    cases e
  refine he _ fun y H2 s2 ny => ⟨acc, s2 _ _ ha, ?_, sm_put (sm_trans s1 s2) hD, acc ++ [y], upd_same, ?_⟩
  · rw [aa.len, List.length_take]
    show _ < 2 ^ 24
    omega
  · rw [take_snoc hd]
    refine All2.append (aa.imp fun v d z => z.on fun b o e1 e2 => ?_) (All2.cons ((ny.back fun b e => ?_).on fun b o e1 e2 => ?_) All2.nil)
    · rw [upd_ne (nb b e1)]
      exact s2 _ _ e2
    · rw [upd_ne (ne_of_none ha e).symm]
      exact sm_none s1 e
    · rw [upd_ne (nb b e1)]
      exact e2
theorem Mk.done {m : Nat} {Dd : Addr} {ds : List PyData} {H' : Hp} (hD : H Dd = none) (p : Mk w H Dd m ds ds.length H') : Sm H H' ∧ ∃ acc, H' Dd = some (.lst acc) ∧ All2 (NewRp w H H' m) acc ds := by
  obtain ⟨s1, acc, ha, aa⟩ := p
  rw [List.take_length] at aa
  refine ⟨s1, acc, ha, aa.imp fun v d z => z.back fun b e => ?_⟩
  by_cases c : b = Dd
  · rw [c]; exact hD
  · rw [upd_ne c] at e
    exact e
variable {a Dd : Addr} {xs : List V} {ds : List PyData} {te : TE} {vs : List Nat} {Qd : Hp → Prop}
theorem made_rpL (m : Nat) (hl : asL (H a) = some xs) (hD : H Dd = none) (ll : xs.length = ds.length) (hz : ds.length < 2 ^ 20) (hw : ∀ x, wipe ((wipe σ vs).set n (some x)) vs = wipe σ vs)
    (he : ∀ (i : Nat) (x : V) (d : PyData) (H' : Hp) (Q : VK), xs[i]? = some x → ds[i]? = some d → Sm H H' → (∀ y H2, Sm H' H2 → NewRp w H' H2 m y d → Q y H2) → te ((wipe σ vs).set n (some x)) H' Q)
    (hd : ∀ H' acc, Sm H H' → H' Dd = some (.lst acc) → All2 (NewRp w H H' m) acc ds → Qd H') : Made (Itl K a) (gName n) tYes te vs σ Dd H Qd := by
  refine made_list (fun i H' => Mk w H Dd m ds i H') (Mk.start hD) (fun i H' _ p => sm_L p.1 hl) (fun i x H' hx p => ⟨hw x, ?_⟩) fun H' p => by
    rw [ll] at p
    obtain ⟨s1, acc, ha, aa⟩ := p.done hD
    exact hd H' acc s1 ha aa
  have hi := (List.getElem?_eq_some_iff.mp hx).1
  have hdi : ds[i]? = some (ds[i]'(by omega)) := by simp
  refine iteT (B := Mk w H Dd m ds (i + 1) H') ?_
  exact rp_step (te := fun Q => te _ H' Q) hD hdi hz p fun Q k => he i x _ H' Q hx hdi p.1 k
theorem made_rpT (m : Nat) (hl : asT (H a) = some xs) (hD : H Dd = none) (ll : xs.length = ds.length) (hz : ds.length < 2 ^ 20) (hw : ∀ x, wipe ((wipe σ vs).set n (some x)) vs = wipe σ vs)
    (he : ∀ (i : Nat) (x : V) (d : PyData) (H' : Hp) (Q : VK), xs[i]? = some x → ds[i]? = some d → Sm H H' → (∀ y H2, Sm H' H2 → NewRp w H' H2 m y d → Q y H2) → te ((wipe σ vs).set n (some x)) H' Q)
    (hd : ∀ H' acc, Sm H H' → H' Dd = some (.lst acc) → All2 (NewRp w H H' m) acc ds → Qd H') : Made (Itt K a) (gName n) tYes te vs σ Dd H Qd := by
  refine lc_tup (K := K) (fun i H' => Mk w H Dd m ds i H') (Mk.start hD) (fun i H' _ p => asT_seq (sm_T p.1 hl)) (fun i x H' hx p => ⟨hw x, ?_⟩) fun H' p => by
    rw [ll] at p
    obtain ⟨s1, acc, ha, aa⟩ := p.done hD
    exact hd H' acc s1 ha aa
  have hi := (List.getElem?_eq_some_iff.mp hx).1
  have hdi : ds[i]? = some (ds[i]'(by omega)) := by simp
  refine iteT (B := Mk w H Dd m ds (i + 1) H') ?_
  exact rp_step (te := fun Q => te _ H' Q) hD hdi hz p fun Q k => he i x _ H' Q hx hdi p.1 k
theorem made_rpR {lo : Int} {k : Nat} (m : Nat) (hD : H Dd = none) (ll : k = ds.length) (hz : ds.length < 2 ^ 20) (hw : ∀ x, wipe ((wipe σ vs).set n (some x)) vs = wipe σ vs)
    (he : ∀ (i : Nat) (d : PyData) (H' : Hp) (Q : VK), i < k → ds[i]? = some d → Sm H H' → (∀ y H2, Sm H' H2 → NewRp w H' H2 m y d → Q y H2) → te ((wipe σ vs).set n (some (.int (lo + (i : Nat))))) H' Q)
    (hd : ∀ H' acc, Sm H H' → H' Dd = some (.lst acc) → All2 (NewRp w H H' m) acc ds → Qd H') : Made (Itr lo k) (gName n) tYes te vs σ Dd H Qd := by
  refine made_range (fun i H' => Mk w H Dd m ds i H') (Mk.start hD) (fun i H' hi p => ⟨hw _, ?_⟩) fun H' p => by
    rw [ll] at p
    obtain ⟨s1, acc, ha, aa⟩ := p.done hD
    exact hd H' acc s1 ha aa
  have hdi : ds[i]? = some (ds[i]'(by omega)) := by simp
  refine iteT (B := Mk w H Dd m ds (i + 1) H') ?_
  exact rp_step (te := fun Q => te _ H' Q) hD hdi hz p fun Q k => he i _ H' Q hi hdi p.1 k
end
/-- a copy, of cells of its own -/
def sp_copyN (n : Nat) : Sp := fun vs H Q _ => ∃ v d, vs = [v] ∧ RpM 1000 H n v d ∧ ∀ v' H', Sm H H' → NewRp 1000 H H' n v' d → Q v' H'
def sp_copy_in : Nat → Sp
  | 0 => fun _ _ _ _ => False
  | n + 1 => sp_copyN n
def sp_l_copy (K : PySem.W.Frag) (C : CA) : Sp := sp_copyN 6
def rd_l_copy (K : PySem.W.Frag) (C : CA) (spR : Sp) (E : XK) : TS :=
  (tSeq (tIfS (tB (tCB fIsi (tCons (tVar 0) (tCons (tC (.ty "list")) tNil)))) (tRet (tLc (iList K (tVar 0)) (gName 3) tYes (tCallS spR (fun _ => E0) (tCons (tVar 3) tNil)) [3])) tNext) (tSeq (tIfS (tB (tCB fIsi (tCons (tVar 0) (tCons (tC (.ty "tuple")) tNil)))) (tRet (tCB fTuple (tCons (tLc (iTup K (tVar 0)) (gName 3) tYes (tCallS spR (fun _ => E0) (tCons (tVar 3) tNil)) [3]) tNil))) tNext) (tSeq (tIfS (tB (tCB fIsi (tCons (tVar 0) (tCons (tC (.ty "dict")) tNil)))) (tSeq (tAsg tDNewK (gName 1)) (tSeq (tLock (tFor (iKeys (tVar 0)) (gName 2) tNever)) (tRet (tVar 1)))) tNext) (tRet (tVar 0)))))
theorem pure_l_copyN {K : PySem.W.Frag} {C : CA} (n : Nat) (vs : List V) (H : Hp) (Q : VK) (E : XK) (h : sp_copyN n vs H Q E) : rd_l_copy K C (sp_copy_in n) E { nx := fun _ H' => Q .non H', rt := Q } (start [("value" : Str), ("found" : Str), ("key" : Str), ("part" : Str)] vs) H := by
  obtain ⟨v, d, rfl, r, q⟩ := h
  show rd_l_copy K C _ E _ [some v, none, none, none] H
  unfold rd_l_copy
  have flat : Flat 1000 v d → rd_l_copy K C (sp_copy_in n) E { nx := fun _ H' => Q .non H', rt := Q } [some v, none, none, none] H := fun f => by
    have q0 := q v H (fun _ _ z => z) (.flat f)
    unfold rd_l_copy
    rcases f with ⟨rfl, rfl⟩ | ⟨b, rfl, rfl⟩ | ⟨i, rfl, rfl⟩ | ⟨z, ⟨rfl, _⟩, rfl⟩
    all_goals
      refine q_if ?_
      walk_at "s"
      refine q_if ?_
      walk_at "s"
      refine q_if ?_
      walk_at "s"
      exact q0
  cases n with
  | zero => exact flat r
  | succ n =>
    rcases r with f | ⟨p, xs, ds, rfl, e, rfl, l, a⟩ | ⟨p, xs, ds, rfl, e, rfl, l, a⟩ | ⟨p, rfl, e, rfl⟩
    · exact flat f
    · refine q_if ?_
      walk_at "s"
      rw [lst_ty e]
      walk_at "s"
      rw [u_list]
      walk_at "s"
      refine ⟨⟨_, asL_seq e⟩, fun Dd hD => ?_⟩
      refine made_rpL (w := 1000) (ds := ds) n e hD a.1 (by rw [← a.1]; omega) (fun _ => rfl) (fun i x d H1 Q1 hx hd s1 q1 => ?_) fun H1 acc s1 h1 aa => ?_
      · walk_at "s"
        exact ⟨x, d, rfl, (a.2 i x d hx hd).mono s1, fun v' H2 s2 nv => q1 v' H2 s2 nv⟩
      · exact q _ _ s1 (.lst hD h1 (by rw [aa.len, ← a.1]; exact l) aa)
    · refine q_if ?_
      walk_at "s"
      rw [tup_ty e]
      walk_at "s"
      refine q_if ?_
      walk_at "s"
      rw [tup_ty e]
      walk_at "s"
      refine ⟨_, rfl, p, rfl, ⟨_, asT_seq e⟩, fun Dd hD => ?_⟩
      refine made_rpT (w := 1000) (ds := ds) n e hD a.1 (by rw [← a.1]; omega) (fun _ => rfl) (fun i x d H1 Q1 hx hd s1 q1 => ?_) fun H1 acc s1 h1 aa => ?_
      · walk_at "s"
        exact ⟨x, d, rfl, (a.2 i x d hx hd).mono s1, fun v' H2 s2 nv => q1 v' H2 s2 nv⟩
      · walk_at "s"
        simp only [asL_at h1]
        refine fun pt nt => al nt fun H2 s2 h2 => ?_
        exact q _ _ (sm_trans s1 s2) (.tup (sm_none s1 nt) h2 (by rw [aa.len, ← a.1]; exact l) (aa.imp fun _ _ z => z.sm s2))
    · refine q_if ?_
      walk_at "s"
      rw [tyN_dK e]
      walk_at "s"
      refine q_if ?_
      walk_at "s"
      rw [tyN_dK e]
      walk_at "s"
      refine q_if ?_
      walk_at "s"
      rw [tyN_dK e]
      walk_at "s"
      refine q_asg ?_
      refine fun pd nd => al nd fun H1 s1 h1 => ?_
      walk_at "s"
      refine q_seq (lock_empty (n := 0) rfl (s1 _ _ e) ?_)
      walk_at "s"
      exact q _ _ s1 (.dct nd h1)
end XB

/-! Shapes: days, places, plans, legs. -/
namespace XB
open PySem L2
local macro_rules | `(tactic| walk_at "s") => `(tactic| try simp only [u_var, u_c, u_op, u_un, u_nil, u_cons, u_cb, u_call, u_callS, u_tup, u_lst, u_test, u_B, u_and, u_or, u_not, u_andV, u_orV, u_notV, u_ifE, u_chain, u_sl, u_noPart, u_part, u_bm, u_bm0, u_rev, u_lc, u_try, u_sui, u_sui0, u_unb_rt, u_unb_nx, u_xf, u_WE, w_nil, w_cons, u_raise, u_rng1, u_rng2, u_next, u_ret, u_gname, u_gnil, u_gcons, u_gsub, u_gtup,
  f_add, f_addS, f_addR, f_sub, f_mul, f_mulR, f_mod, f_div, f_pow, f_neg, f_cmp, f_eq, f_eqB, f_eqS, f_ne, f_neB, f_neS, f_isN, f_notN, f_isB, f_ix, f_ixS, f_int, f_intB, f_len, f_lenS, f_max, f_min, f_abs, f_list, f_tuple, f_all, f_sum, f_isi, f_isiT, f_append, f_insert, f_pop, f_sl, f_set,
  kitS, tys, List.isEmpty_cons, Option.map_some, kt_NoneType_int, kt_NoneType_bool, kt_NoneType_str, kt_NoneType_list, kt_NoneType_tuple, kt_NoneType_dict, kt_int_int, kt_int_bool, kt_int_str, kt_int_list, kt_int_tuple, kt_int_dict, kt_bool_int, kt_bool_bool, kt_bool_str, kt_bool_list, kt_bool_tuple, kt_bool_dict, kt_str_int, kt_str_bool, kt_str_str, kt_str_list, kt_str_tuple, kt_str_dict, kt_list_int, kt_list_bool, kt_list_str, kt_list_list, kt_list_tuple, kt_list_dict, kt_tuple_int, kt_tuple_bool, kt_tuple_str, kt_tuple_list, kt_tuple_tuple, kt_tuple_dict, kt_dict_int, kt_dict_bool, kt_dict_str, kt_dict_list, kt_dict_tuple, kt_dict_dict, asL_lst, asL_frz, asL_tup, asT_tup, asS_lst, asS_frz, asS_tup, tyN_non, tyN_bl, tyN_int, tyN_str, atV_lit, ixN_lit, upd_same, upd_ne, upd_ne',
  List.getElem?_cons_zero, List.getElem?_cons_succ, List.set_cons_zero, List.set_cons_succ, List.append_nil, List.length_cons, List.length_nil, Option.some.injEq, exists_eq_left', exists_eq_left, exists_and_left, V.bl.injEq, V.int.injEq, V.str.injEq, V.ref.injEq, Bool.not_eq_true, Bool.not_true, Bool.not_false, decide_true, decide_false, decide_eq_true_eq, decide_eq_false_iff_not, Bool.false_eq_true, if_true, if_false, ite_true, ite_false, reduceCtorEq, true_and, and_true, Nat.reduceAdd, Nat.reduceLT, Nat.zero_add, ne_eq, not_false_eq_true, not_true_eq_false, List.cons.injEq, and_assoc])
local macro_rules | `(tactic| walk_at "S") => `(tactic| try simp only [u_var, u_c, u_op, u_un, u_nil, u_cons, u_cb, u_call, u_callS, u_tup, u_lst, u_test, u_B, u_and, u_or, u_not, u_andV, u_orV, u_notV, u_ifE, u_chain, u_sl, u_noPart, u_part, u_bm, u_bm0, u_rev, u_lc, u_try, u_sui, u_sui0, u_unb_rt, u_unb_nx, u_xf, u_WE, w_nil, w_cons, u_raise, u_rng1, u_rng2, u_next, u_ret, u_gname, u_gnil, u_gcons, u_gsub, u_gtup,
  f_add, f_addS, f_addR, f_sub, f_mul, f_mulR, f_mod, f_div, f_pow, f_neg, f_cmp, f_eq, f_eqB, f_eqS, f_ne, f_neB, f_neS, f_isN, f_notN, f_isB, f_ix, f_ixS, f_int, f_intB, f_len, f_lenS, f_max, f_min, f_abs, f_list, f_tuple, f_all, f_sum, f_isi, f_isiT, f_append, f_insert, f_pop, f_sl, f_set,
  kitS, tys, List.isEmpty_cons, Option.map_some, kt_NoneType_int, kt_NoneType_bool, kt_NoneType_str, kt_NoneType_list, kt_NoneType_tuple, kt_NoneType_dict, kt_int_int, kt_int_bool, kt_int_str, kt_int_list, kt_int_tuple, kt_int_dict, kt_bool_int, kt_bool_bool, kt_bool_str, kt_bool_list, kt_bool_tuple, kt_bool_dict, kt_str_int, kt_str_bool, kt_str_str, kt_str_list, kt_str_tuple, kt_str_dict, kt_list_int, kt_list_bool, kt_list_str, kt_list_list, kt_list_tuple, kt_list_dict, kt_tuple_int, kt_tuple_bool, kt_tuple_str, kt_tuple_list, kt_tuple_tuple, kt_tuple_dict, kt_dict_int, kt_dict_bool, kt_dict_str, kt_dict_list, kt_dict_tuple, kt_dict_dict, asL_lst, asL_frz, asL_tup, asT_tup, asS_lst, asS_frz, asS_tup, tyN_non, tyN_bl, tyN_int, tyN_str, atV_lit, ixN_lit, upd_same, upd_ne, upd_ne',
  List.getElem?_cons_zero, List.getElem?_cons_succ, List.set_cons_zero, List.set_cons_succ, List.append_nil, List.length_cons, List.length_nil, Option.some.injEq, exists_eq_left', exists_eq_left, exists_and_left, V.bl.injEq, V.int.injEq, V.str.injEq, V.ref.injEq, Bool.not_eq_true, Bool.not_true, Bool.not_false, decide_true, decide_false, decide_eq_true_eq, decide_eq_false_iff_not, Bool.false_eq_true, if_true, if_false, ite_true, ite_false, reduceCtorEq, true_and, and_true, Nat.reduceAdd, Nat.reduceLT, Nat.zero_add, ne_eq, not_false_eq_true, not_true_eq_false, List.cons.injEq, and_assoc, *])
def dashS : Str := ("-" : Str)
def nameD : PyData → Bool
  | .str z => nameS z
  | _ => false
def isDash : PyData → Bool
  | .str z => decide (z = dashS)
  | _ => false
def intIn (lo hi : Int) : PyData → Bool
  | .int i => decide (lo ≤ i) && decide (i ≤ hi)
  | _ => false
def tupOf (k : Int) : PyData → Bool
  | .tuple ds => decide ((ds.length : Int) = k)
  | _ => false
def planD : PyData → Bool
  | .tuple ds => decide (1 ≤ ds.length) && decide (ds.length ≤ 7) && ds.all nameD
  | _ => false
def crossD : PyData → Bool
  | .tuple [a, b] => intIn 0 6 a && nameD b
  | _ => false
def legD : PyData → Bool
  | .tuple [a, b, c] => nameD b && (if nameD c = true then intIn 0 5 a else isDash c && intIn 0 6 a)
  | _ => false
theorem dash_no_name : nameS dashS = false := by decide +kernel
theorem rp_flat_or {m n : Nat} {H : Hp} {v : V} {d : PyData} (h : RpM m H n v d) : Flat m v d ∨ (∃ k p xs ds, n = k + 1 ∧ v = .ref p ∧ asL (H p) = some xs ∧ d = .list ds ∧ xs.length ≤ m ∧ All2 (RpM m H k) xs ds) ∨
    (∃ k p xs ds, n = k + 1 ∧ v = .ref p ∧ asT (H p) = some xs ∧ d = .tuple ds ∧ xs.length ≤ m ∧ All2 (RpM m H k) xs ds) ∨ ∃ k p, n = k + 1 ∧ v = .ref p ∧ H p = some (.dK []) ∧ d = .dict [] := by
  cases n with
  | zero => exact .inl h
  | succ n =>
    rcases h with h | ⟨p, xs, ds, h⟩ | ⟨p, xs, ds, h⟩ | ⟨p, h⟩
    · exact .inl h
    · exact .inr (.inl ⟨n, p, xs, ds, rfl, h⟩)
    · exact .inr (.inr (.inl ⟨n, p, xs, ds, rfl, h⟩))
    · exact .inr (.inr (.inr ⟨n, p, rfl, h⟩))
theorem RpM.tz {n : Nat} {H : Hp} {v : V} {d : PyData} (h : Rp H n v d) : Tz v H := by
  rcases rp_flat_or h with (⟨rfl, _⟩ | ⟨b, rfl, _⟩ | ⟨i, rfl, _⟩ | ⟨z, ⟨rfl, lz⟩, _⟩) | ⟨k, p, xs, ds, _, rfl, e, _⟩ | ⟨k, p, xs, ds, _, rfl, e, _⟩ | ⟨k, p, _, rfl, e, _⟩
  · exact ⟨⟨_, rfl⟩, fun z e => by cases e⟩
  · exact ⟨⟨_, rfl⟩, fun z e => by cases e⟩
  · exact ⟨⟨_, rfl⟩, fun z e => by cases e⟩
  · exact ⟨⟨_, rfl⟩, fun z2 e => by cases e; exact lz⟩
  · exact ⟨⟨_, lst_ty e⟩, fun z e => by cases e⟩
  · exact ⟨⟨_, tup_ty e⟩, fun z e => by cases e⟩
  · exact ⟨⟨_, tyN_dK e⟩, fun z e => by cases e⟩
theorem RpM.name {m n : Nat} {H : Hp} {v : V} {d : PyData} (h : RpM m H n v d) : nameV v = nameD d := by
  rcases rp_flat_or h with (⟨rfl, rfl⟩ | ⟨b, rfl, rfl⟩ | ⟨i, rfl, rfl⟩ | ⟨z, ⟨rfl, lz⟩, rfl⟩) | ⟨k, p, xs, ds, _, rfl, e, rfl, _⟩ | ⟨k, p, xs, ds, _, rfl, e, rfl, _⟩ | ⟨k, p, _, rfl, e, rfl⟩ <;> rfl
theorem sp_name_ok {K : PySem.W.Frag} {C : CA} {H : Hp} {Q : VK} {E : XK} {n : Nat} {v : V} {d : PyData} (h : Rp H n v d) (q : ∀ H', Sm H H' → Q (.bl (nameD d)) H') : sp_is_name K C [v] H Q E := ⟨v, rfl, h.tz, fun H' s => by rw [h.name]; exact q H' s⟩
theorem sp_lname_ok {K : PySem.W.Frag} {C : CA} {H : Hp} {Q : VK} {E : XK} {n : Nat} {v : V} {d : PyData} (h : Rp H n v d) (q : ∀ H', Sm H H' → Q (.bl (nameD d)) H') : sp_l_is_name K C [v] H Q E := ⟨v, rfl, h.tz, fun H' s => by rw [h.name]; exact q H' s⟩
def sp_is_day (K : PySem.W.Frag) (C : CA) : Sp := fun vs H Q _ => ∃ n v d, vs = [v] ∧ Rp H n v d ∧ Q (.bl (intIn 0 6 d)) H
def rd_is_day (K : PySem.W.Frag) (C : CA) (E : XK) : TS :=
  (tRet (tAndV (tCallS (sp_is_whole K C) (fun _ => E0) (tCons (tVar 0) tNil)) (tChain fLe fLe (tC (.int 0)) (tVar 0) (tC (.int 6)))))
theorem pure_is_day {K : PySem.W.Frag} {C : CA} (vs : List V) (H : Hp) (Q : VK) (E : XK) (h : sp_is_day K C vs H Q E) : rd_is_day K C E { nx := fun _ H' => Q .non H', rt := Q } (start [("value" : Str)] vs) H := by
  obtain ⟨n, v, d, rfl, r, q⟩ := h
  show rd_is_day K C E _ [some v] H
  unfold rd_is_day
  refine q_ret ?_
  walk_at "s"
  refine ⟨v, rfl, r.tz.1, ?_⟩
  walk_at "s"
  rcases rp_flat_or r with (⟨rfl, rfl⟩ | ⟨b, rfl, rfl⟩ | ⟨i, rfl, rfl⟩ | ⟨z, ⟨rfl, lz⟩, rfl⟩) | ⟨k, p, xs, ds, _, rfl, e, rfl, _⟩ | ⟨k, p, xs, ds, _, rfl, e, rfl, _⟩ | ⟨k, p, _, rfl, e, rfl⟩
  case inl.inr.inr.inl =>
    simp only [isI, if_true]
    walk_at "s"
    simp only [intIn] at q
    by_cases c : (0 : Int) ≤ i
    · simp only [c, decide_true, if_true, Bool.true_and] at q ⊢
      exact q
    · simp only [c, decide_false, if_false, Bool.false_and] at q ⊢
      exact q
  all_goals exact q
def sp_l_is_within (K : PySem.W.Frag) (C : CA) : Sp := fun vs H Q _ => ∃ n v d lo hi, vs = [v, .int lo, .int hi] ∧ Rp H n v d ∧ Q (.bl (intIn lo hi d)) H
def rd_l_is_within (K : PySem.W.Frag) (C : CA) (E : XK) : TS :=
  (tRet (tAndV (tCB fIsi (tCons (tVar 0) (tCons (tC (.ty "int")) tNil))) (tAndV (tNotV (tCB fIsi (tCons (tVar 0) (tCons (tC (.ty "bool")) tNil)))) (tChain fLe fLe (tVar 1) (tVar 0) (tVar 2)))))
theorem pure_l_is_within {K : PySem.W.Frag} {C : CA} (vs : List V) (H : Hp) (Q : VK) (E : XK) (h : sp_l_is_within K C vs H Q E) : rd_l_is_within K C E { nx := fun _ H' => Q .non H', rt := Q } (start [("value" : Str), ("low" : Str), ("high" : Str)] vs) H := by
  obtain ⟨n, v, d, lo, hi, rfl, r, q⟩ := h
  show rd_l_is_within K C E _ [some v, some (.int lo), some (.int hi)] H
  unfold rd_l_is_within
  refine q_ret ?_
  rcases rp_flat_or r with (⟨rfl, rfl⟩ | ⟨b, rfl, rfl⟩ | ⟨i, rfl, rfl⟩ | ⟨z, ⟨rfl, lz⟩, rfl⟩) | ⟨k, p, xs, ds, _, rfl, e, rfl, _⟩ | ⟨k, p, xs, ds, _, rfl, e, rfl, _⟩ | ⟨k, p, _, rfl, e, rfl⟩
  · walk_at "s"; exact q
  · walk_at "s"; exact q
  · walk_at "s"
    simp only [intIn] at q
    by_cases c : lo ≤ i
    · simp only [c, decide_true, if_true, Bool.true_and] at q ⊢
      exact q
    · simp only [c, decide_false, if_false, Bool.false_and] at q ⊢
      exact q
  · walk_at "s"; exact q
  · walk_at "s"; rw [lst_ty e]; walk_at "s"; exact q
  · walk_at "s"; rw [tup_ty e]; walk_at "s"; exact q
  · walk_at "s"; rw [tyN_dK e]; walk_at "s"; exact q
def sp_is_tuple_of (K : PySem.W.Frag) (C : CA) : Sp := fun vs H Q _ => ∃ n v d k, vs = [v, .int k] ∧ Rp H n v d ∧ Q (.bl (tupOf k d)) H
def rd_is_tuple_of (K : PySem.W.Frag) (C : CA) (E : XK) : TS :=
  (tRet (tAndV (tCB fIsi (tCons (tVar 0) (tCons (tC (.ty "tuple")) tNil))) (tOp (fEq K) (tCB fLen (tCons (tVar 0) tNil)) (tVar 1))))
theorem pure_is_tuple_of {K : PySem.W.Frag} {C : CA} (vs : List V) (H : Hp) (Q : VK) (E : XK) (h : sp_is_tuple_of K C vs H Q E) : rd_is_tuple_of K C E { nx := fun _ H' => Q .non H', rt := Q } (start [("value" : Str), ("parts" : Str)] vs) H := by
  obtain ⟨n, v, d, k, rfl, r, q⟩ := h
  show rd_is_tuple_of K C E _ [some v, some (.int k)] H
  unfold rd_is_tuple_of
  refine q_ret ?_
  rcases rp_flat_or r with (⟨rfl, rfl⟩ | ⟨b, rfl, rfl⟩ | ⟨i, rfl, rfl⟩ | ⟨z, ⟨rfl, lz⟩, rfl⟩) | ⟨k, p, xs, ds, _, rfl, e, rfl, _⟩ | ⟨k, p, xs, ds, _, rfl, e, rfl, _, a⟩ | ⟨k, p, _, rfl, e, rfl⟩
  · walk_at "s"; exact q
  · walk_at "s"; exact q
  · walk_at "s"; exact q
  · walk_at "s"; exact q
  · walk_at "s"; rw [lst_ty e]; walk_at "s"; exact q
  · walk_at "s"; rw [tup_ty e]; walk_at "s"; rw [asS_of_T e]; walk_at "s"
    rw [a.1]
    exact q
  · walk_at "s"; rw [tyN_dK e]; walk_at "s"; exact q
def sp_is_place (K : PySem.W.Frag) (C : CA) : Sp := fun vs H Q _ => ∃ n v d, vs = [v] ∧ Rp H n v d ∧ ∀ H', Sm H H' → Q (.bl (nameD d || isDash d)) H'
def rd_is_place (K : PySem.W.Frag) (C : CA) (E : XK) : TS :=
  (tRet (tOrV (tCallS (sp_is_name K C) (fun _ => E0) (tCons (tVar 0) tNil)) (tOp (fEqX K) (tVar 0) (tC (.str ("-" : Str))))))
theorem pure_is_place {K : PySem.W.Frag} {C : CA} (vs : List V) (H : Hp) (Q : VK) (E : XK) (h : sp_is_place K C vs H Q E) : rd_is_place K C E { nx := fun _ H' => Q .non H', rt := Q } (start [("value" : Str)] vs) H := by
  obtain ⟨n, v, d, rfl, r, q⟩ := h
  show rd_is_place K C E _ [some v] H
  unfold rd_is_place
  refine q_ret ?_
  walk_at "s"
  refine sp_name_ok r fun H1 s1 => ?_
  walk_at "s"
  have q1 := q H1 s1
  by_cases c : nameD d = true
  · rw [c] at q1 ⊢
    exact q1
  · have c : nameD d = false := by simpa using c
    rw [c] at q1 ⊢
    rw [Bool.false_or] at q1
    simp only [Bool.false_eq_true, if_false]
    rcases rp_flat_or (r.mono s1) with (⟨rfl, rfl⟩ | ⟨b, rfl, rfl⟩ | ⟨i, rfl, rfl⟩ | ⟨z, ⟨rfl, lz⟩, rfl⟩) | ⟨k, p, xs, ds, _, rfl, e, rfl, _⟩ | ⟨k, p, xs, ds, _, rfl, e, rfl, _⟩ | ⟨k, p, _, rfl, e, rfl⟩
    · exact ⟨rfl, q1⟩
    · exact ⟨rfl, q1⟩
    · exact ⟨rfl, q1⟩
    · rw [f_eqXS]
      exact q1
    · rw [f_eqRS (asS_of_L e)]
      exact q1
    · rw [f_eqRS (asS_of_T e)]
      exact q1
    · rw [f_eqDS e]
      exact q1
theorem tup_of {k : Int} {n : Nat} {H : Hp} {v : V} {d : PyData} (c : tupOf k d = true) (r : Rp H n v d) : ∃ m p xs ds, v = .ref p ∧ asT (H p) = some xs ∧ d = .tuple ds ∧ (ds.length : Int) = k ∧ All2 (Rp H m) xs ds := by
  rcases rp_flat_or r with (⟨rfl, rfl⟩ | ⟨b, rfl, rfl⟩ | ⟨i, rfl, rfl⟩ | ⟨z, ⟨rfl, lz⟩, rfl⟩) | ⟨k, p, xs, ds, _, rfl, e, rfl, _⟩ | ⟨j, p, xs, ds, _, e1, e2, e3, _, a⟩ | ⟨k, p, _, rfl, e, rfl⟩
  · cases c
  · cases c
  · cases c
  · cases c
  · cases c
  · subst e3
    exact ⟨j, p, xs, ds, e1, e2, rfl, of_decide_eq_true c, a⟩
  · cases c
def sp_is_crossing (K : PySem.W.Frag) (C : CA) : Sp := fun vs H Q _ => ∃ n v d, vs = [v] ∧ Rp H n v d ∧ ∀ H', Sm H H' → Q (.bl (crossD d)) H'
def rd_is_crossing (K : PySem.W.Frag) (C : CA) (E : XK) : TS :=
  (tRet (tAndV (tCallS (sp_is_tuple_of K C) (fun _ => E0) (tCons (tVar 0) (tCons (tC (.int 2)) tNil))) (tAndV (tCallS (sp_is_day K C) (fun _ => E0) (tCons (tOp fIx (tVar 0) (tC (.int 0))) tNil)) (tCallS (sp_is_name K C) (fun _ => E0) (tCons (tOp fIx (tVar 0) (tC (.int 1))) tNil)))))
theorem pure_is_crossing {K : PySem.W.Frag} {C : CA} (vs : List V) (H : Hp) (Q : VK) (E : XK) (h : sp_is_crossing K C vs H Q E) : rd_is_crossing K C E { nx := fun _ H' => Q .non H', rt := Q } (start [("value" : Str)] vs) H := by
  obtain ⟨n, v, d, rfl, r, q⟩ := h
  show rd_is_crossing K C E _ [some v] H
  unfold rd_is_crossing
  refine q_ret ?_
  walk_at "s"
  refine ⟨n, v, d, 2, rfl, r, ?_⟩
  have q0 := q H fun _ _ z => z
  have no : tupOf 2 d = false → Q (.bl false) H := fun e => by
    have e2 : crossD d = false := by
      unfold crossD
      split
      · cases e
      · rfl
    rw [e2] at q0
    exact q0
  by_cases c : tupOf 2 d = true
  · obtain ⟨k, p, xs, ds, rfl, e, rfl, c2, a⟩ := tup_of c r
    have c2 : ds.length = 2 := by omega
    match ds, xs, c2, a with
    | [d0, d1], [x0, x1], _, a =>
      have r0 : Rp H k x0 d0 := a.2 0 _ _ rfl rfl
      have r1 : Rp H k x1 d1 := a.2 1 _ _ rfl rfl
      rw [c]
      walk_at "s"
      rw [asS_of_T e]
      walk_at "s"
      refine ⟨k, x0, d0, rfl, r0, ?_⟩
      walk_at "s"
      simp only [crossD] at q
      by_cases c0 : intIn 0 6 d0 = true
      · rw [c0] at q ⊢
        simp only [if_true]
        rw [asS_of_T e]
        walk_at "s"
        refine sp_name_ok r1 fun H1 s1 => ?_
        have := q H1 s1
        rw [Bool.true_and] at this
        exact this
      · have c0 : intIn 0 6 d0 = false := by simpa using c0
        rw [c0] at q ⊢
        exact q H fun _ _ z => z
  · have c : tupOf 2 d = false := by simpa using c
    rw [c]
    exact ⟨false, rfl, no c⟩
theorem leg_eq {a b c : PyData} : legD (.tuple [a, b, c]) = ((intIn 0 6 a && nameD b) && ((nameD c || isDash c) && (isDash c || intIn 0 5 a))) := by
  simp only [legD]
  by_cases h : nameD c = true
  · have hd : isDash c = false := by
      cases c with
      | str z =>
        simp only [isDash, decide_eq_false_iff_not]
        intro e
        rw [e] at h
        exact absurd h (by rw [show nameD (.str dashS) = nameS dashS from rfl, dash_no_name]; decide)
      | _ => rfl
    rw [if_pos h, h, hd]
    cases a with
    | int i =>
      simp only [intIn]
      by_cases c1 : (0 : Int) ≤ i <;> by_cases c2 : i ≤ 5 <;> by_cases c3 : i ≤ 6 <;> simp [c1, c2, c3] <;> omega
    | _ => simp [intIn]
  · have h : nameD c = false := by simpa using h
    rw [h]
    simp only [Bool.false_eq_true, if_false, Bool.false_or]
    cases isDash c <;> cases nameD b <;> cases intIn 0 6 a <;> rfl
def sp_is_leg (K : PySem.W.Frag) (C : CA) : Sp := fun vs H Q _ => ∃ n v d, vs = [v] ∧ Rp H n v d ∧ ∀ H', Sm H H' → Q (.bl (legD d)) H'
def rd_is_leg (K : PySem.W.Frag) (C : CA) (E : XK) : TS :=
  (tSeq (tIfS (tOr (tNot (tB (tCallS (sp_is_tuple_of K C) (fun _ => E0) (tCons (tVar 0) (tCons (tC (.int 3)) tNil))))) (tOr (tNot (tB (tCallS (sp_is_crossing K C) (fun _ => E0) (tCons (tSl fSl2 (tVar 0) tNoPart (tPart (tC (.int 2)))) tNil)))) (tNot (tB (tCallS (sp_is_place K C) (fun _ => E0) (tCons (tOp fIx (tVar 0) (tC (.int 2))) tNil)))))) (tRet (tC (.bl false))) tNext) (tRet (tOrV (tOp (fEqX K) (tOp fIx (tVar 0) (tC (.int 2))) (tC (.str ("-" : Str)))) (tOp fLt (tOp fIx (tVar 0) (tC (.int 0))) (tC (.int 6))))))
theorem pure_is_leg {K : PySem.W.Frag} {C : CA} (vs : List V) (H : Hp) (Q : VK) (E : XK) (h : sp_is_leg K C vs H Q E) : rd_is_leg K C E { nx := fun _ H' => Q .non H', rt := Q } (start [("value" : Str)] vs) H := by
  obtain ⟨n, v, d, rfl, r, q⟩ := h
  show rd_is_leg K C E _ [some v] H
  unfold rd_is_leg
  refine q_if ?_
  walk_at "s"
  refine ⟨n, v, d, 3, rfl, r, ?_⟩
  have q0 := q H fun _ _ z => z
  have no : tupOf 3 d = false → Q (.bl false) H := fun e => by
    have e2 : legD d = false := by
      unfold legD
      split
      · cases e
      · rfl
    rw [e2] at q0
    exact q0
  by_cases c : tupOf 3 d = true
  · obtain ⟨k, p, xs, ds, rfl, e, rfl, c2, a⟩ := tup_of c r
    have c2 : ds.length = 3 := by omega
    match ds, xs, c2, a with
    | [d0, d1, d2], [x0, x1, x2], _, a =>
      have r0 : Rp H k x0 d0 := a.2 0 _ _ rfl rfl
      have r1 : Rp H k x1 d1 := a.2 1 _ _ rfl rfl
      have r2 : Rp H k x2 d2 := a.2 2 _ _ rfl rfl
      rw [leg_eq] at q
      rw [c]
      walk_at "s"
      have eL : asL (H p) = none := by
        cases eo : H p with
        | none => rw [eo] at e; cases e
        | some o =>
          rw [eo] at e
          cases o with
          | lst ys => cases e
          | frz ob u => cases u <;> first | rfl | (cases e)
          | _ => rfl
      simp only [f_slR, f_sl, eL, e]
      refine ⟨by show ¬ (HT.sIx 3 0 none = 0 ∧ HT.sIx 3 3 (some 2) = 3); decide, fun pc nc => al nc fun H1 s1 h1 => ?_⟩
      have h1' : H1 pc = some (.tup [x0, x1]) := h1
      refine ⟨k + 1, .ref pc, .tuple [d0, d1], rfl, .inr (.inr (.inl ⟨pc, [x0, x1], [d0, d1], rfl, by rw [h1']; rfl, rfl, (by show 2 ≤ 1000; decide), All2.cons (r0.mono s1) (All2.cons (r1.mono s1) All2.nil)⟩)), fun H2 s2 => ?_⟩
      have s12 := sm_trans s1 s2
      simp only [crossD]
      walk_at "s"
      by_cases c0 : (intIn 0 6 d0 && nameD d1) = true
      · rw [c0] at q ⊢
        simp only [Bool.true_and] at q
        simp only [Bool.not_true, Bool.false_eq_true, if_false]
        rw [asS_of_T (sm_T s12 e)]
        walk_at "s"
        refine ⟨k, x2, d2, rfl, r2.mono s12, fun H3 s3 => ?_⟩
        have s13 := sm_trans s12 s3
        walk_at "s"
        by_cases c1 : (nameD d2 || isDash d2) = true
        · rw [c1] at q ⊢
          simp only [Bool.true_and] at q
          simp only [Bool.not_true, Bool.false_eq_true, if_false]
          walk_at "s"
          rw [asS_of_T (sm_T s13 e)]
          walk_at "s"
          have q3 := q H3 s13
          obtain ⟨z, rfl, rfl⟩ : ∃ z, x2 = .str z ∧ d2 = .str z := by
            rcases rp_flat_or r2 with (⟨rfl, rfl⟩ | ⟨b, rfl, rfl⟩ | ⟨i, rfl, rfl⟩ | ⟨z, ⟨rfl, lz⟩, rfl⟩) | ⟨k, p, xs, ds, _, rfl, e, rfl, _⟩ | ⟨k, p, xs, ds, _, rfl, e, rfl, _⟩ | ⟨k, p, _, rfl, e, rfl⟩
            case inl.inr.inr.inr => exact ⟨z, rfl, rfl⟩
            all_goals cases c1
          obtain ⟨i, rfl, rfl⟩ : ∃ i, x0 = .int i ∧ d0 = .int i := by
            rcases rp_flat_or r0 with (⟨rfl, rfl⟩ | ⟨b, rfl, rfl⟩ | ⟨i, rfl, rfl⟩ | ⟨z, ⟨rfl, lz⟩, rfl⟩) | ⟨k, p, xs, ds, _, rfl, e, rfl, _⟩ | ⟨k, p, xs, ds, _, rfl, e, rfl, _⟩ | ⟨k, p, _, rfl, e, rfl⟩
            case inl.inr.inr.inl => exact ⟨i, rfl, rfl⟩
            all_goals cases c0
          rw [f_eqXS]
          have i0 : 0 ≤ i := by
            simp only [intIn, Bool.and_eq_true, decide_eq_true_eq] at c0
            exact c0.1.1
          have e5 : intIn 0 5 (.int i) = decide (i < 6) := by
            simp only [intIn, i0, decide_true, Bool.true_and]
            by_cases c6 : i < 6
            · rw [decide_eq_true c6, decide_eq_true (by omega)]
            · rw [decide_eq_false c6, decide_eq_false (by omega)]
          rw [e5] at q3
          refine ⟨_, rfl, ?_⟩
          by_cases c7 : isDash (.str z) = true
          · rw [c7] at q3
            have c8 : decide (z = Str.ofString "-") = true := c7
            rw [if_pos c8]
            exact q3
          · have c7 : isDash (.str z) = false := by simpa using c7
            rw [c7] at q3
            have c8 : ¬ decide (z = Str.ofString "-") = true := by
              have c9 : decide (z = Str.ofString "-") = false := c7
              rw [c9]
              decide
            rw [if_neg c8]
            rw [asS_of_T (sm_T s13 e)]
            walk_at "s"
            exact q3
        · have c1 : (nameD d2 || isDash d2) = false := by simpa using c1
          rw [c1] at q ⊢
          simp only [Bool.false_and] at q
          simp only [Bool.not_false, if_true]
          walk_at "s"
          exact q H3 s13
      · have c0 : (intIn 0 6 d0 && nameD d1) = false := by simpa using c0
        rw [c0] at q ⊢
        simp only [Bool.false_and] at q
        simp only [Bool.not_false, if_true]
        walk_at "s"
        exact q H2 s12
  · have c : tupOf 3 d = false := by simpa using c
    rw [c]
    walk_at "s"
    exact no c
end XB

/-! Plans and their legs. -/
namespace XB
open PySem L2
local macro_rules | `(tactic| walk_at "s") => `(tactic| try simp only [u_var, u_c, u_op, u_un, u_nil, u_cons, u_cb, u_call, u_callS, u_tup, u_lst, u_test, u_B, u_and, u_or, u_not, u_andV, u_orV, u_notV, u_ifE, u_chain, u_sl, u_noPart, u_part, u_bm, u_bm0, u_rev, u_lc, u_try, u_sui, u_sui0, u_unb_rt, u_unb_nx, u_xf, u_WE, w_nil, w_cons, u_raise, u_rng1, u_rng2, u_next, u_ret, u_gname, u_gnil, u_gcons, u_gsub, u_gtup,
  f_add, f_addS, f_addR, f_sub, f_mul, f_mulR, f_mod, f_div, f_pow, f_neg, f_cmp, f_eq, f_eqB, f_eqS, f_ne, f_neB, f_neS, f_isN, f_notN, f_isB, f_ix, f_ixS, f_int, f_intB, f_len, f_lenS, f_max, f_min, f_abs, f_list, f_tuple, f_all, f_sum, f_isi, f_isiT, f_append, f_insert, f_pop, f_sl, f_set,
  kitS, tys, List.isEmpty_cons, Option.map_some, kt_NoneType_int, kt_NoneType_bool, kt_NoneType_str, kt_NoneType_list, kt_NoneType_tuple, kt_NoneType_dict, kt_int_int, kt_int_bool, kt_int_str, kt_int_list, kt_int_tuple, kt_int_dict, kt_bool_int, kt_bool_bool, kt_bool_str, kt_bool_list, kt_bool_tuple, kt_bool_dict, kt_str_int, kt_str_bool, kt_str_str, kt_str_list, kt_str_tuple, kt_str_dict, kt_list_int, kt_list_bool, kt_list_str, kt_list_list, kt_list_tuple, kt_list_dict, kt_tuple_int, kt_tuple_bool, kt_tuple_str, kt_tuple_list, kt_tuple_tuple, kt_tuple_dict, kt_dict_int, kt_dict_bool, kt_dict_str, kt_dict_list, kt_dict_tuple, kt_dict_dict, asL_lst, asL_frz, asL_tup, asT_tup, asS_lst, asS_frz, asS_tup, tyN_non, tyN_bl, tyN_int, tyN_str, atV_lit, ixN_lit, upd_same, upd_ne, upd_ne',
  List.getElem?_cons_zero, List.getElem?_cons_succ, List.set_cons_zero, List.set_cons_succ, List.append_nil, List.length_cons, List.length_nil, Option.some.injEq, exists_eq_left', exists_eq_left, exists_and_left, V.bl.injEq, V.int.injEq, V.str.injEq, V.ref.injEq, Bool.not_eq_true, Bool.not_true, Bool.not_false, decide_true, decide_false, decide_eq_true_eq, decide_eq_false_iff_not, Bool.false_eq_true, if_true, if_false, ite_true, ite_false, reduceCtorEq, true_and, and_true, Nat.reduceAdd, Nat.reduceLT, Nat.zero_add, ne_eq, not_false_eq_true, not_true_eq_false, List.cons.injEq, and_assoc])
local macro_rules | `(tactic| walk_at "S") => `(tactic| try simp only [u_var, u_c, u_op, u_un, u_nil, u_cons, u_cb, u_call, u_callS, u_tup, u_lst, u_test, u_B, u_and, u_or, u_not, u_andV, u_orV, u_notV, u_ifE, u_chain, u_sl, u_noPart, u_part, u_bm, u_bm0, u_rev, u_lc, u_try, u_sui, u_sui0, u_unb_rt, u_unb_nx, u_xf, u_WE, w_nil, w_cons, u_raise, u_rng1, u_rng2, u_next, u_ret, u_gname, u_gnil, u_gcons, u_gsub, u_gtup,
  f_add, f_addS, f_addR, f_sub, f_mul, f_mulR, f_mod, f_div, f_pow, f_neg, f_cmp, f_eq, f_eqB, f_eqS, f_ne, f_neB, f_neS, f_isN, f_notN, f_isB, f_ix, f_ixS, f_int, f_intB, f_len, f_lenS, f_max, f_min, f_abs, f_list, f_tuple, f_all, f_sum, f_isi, f_isiT, f_append, f_insert, f_pop, f_sl, f_set,
  kitS, tys, List.isEmpty_cons, Option.map_some, kt_NoneType_int, kt_NoneType_bool, kt_NoneType_str, kt_NoneType_list, kt_NoneType_tuple, kt_NoneType_dict, kt_int_int, kt_int_bool, kt_int_str, kt_int_list, kt_int_tuple, kt_int_dict, kt_bool_int, kt_bool_bool, kt_bool_str, kt_bool_list, kt_bool_tuple, kt_bool_dict, kt_str_int, kt_str_bool, kt_str_str, kt_str_list, kt_str_tuple, kt_str_dict, kt_list_int, kt_list_bool, kt_list_str, kt_list_list, kt_list_tuple, kt_list_dict, kt_tuple_int, kt_tuple_bool, kt_tuple_str, kt_tuple_list, kt_tuple_tuple, kt_tuple_dict, kt_dict_int, kt_dict_bool, kt_dict_str, kt_dict_list, kt_dict_tuple, kt_dict_dict, asL_lst, asL_frz, asL_tup, asT_tup, asS_lst, asS_frz, asS_tup, tyN_non, tyN_bl, tyN_int, tyN_str, atV_lit, ixN_lit, upd_same, upd_ne, upd_ne',
  List.getElem?_cons_zero, List.getElem?_cons_succ, List.set_cons_zero, List.set_cons_succ, List.append_nil, List.length_cons, List.length_nil, Option.some.injEq, exists_eq_left', exists_eq_left, exists_and_left, V.bl.injEq, V.int.injEq, V.str.injEq, V.ref.injEq, Bool.not_eq_true, Bool.not_true, Bool.not_false, decide_true, decide_false, decide_eq_true_eq, decide_eq_false_iff_not, Bool.false_eq_true, if_true, if_false, ite_true, ite_false, reduceCtorEq, true_and, and_true, Nat.reduceAdd, Nat.reduceLT, Nat.zero_add, ne_eq, not_false_eq_true, not_true_eq_false, List.cons.injEq, and_assoc, *])
theorem names_all {k : Nat} {H : Hp} : ∀ {xs : List V} {ds : List PyData}, All2 (Rp H k) xs ds → (xs.map nameV).all id = ds.all nameD
  | [], [], _ => rfl
  | x :: xs, d :: ds, h => by
    have h0 : Rp H k x d := h.2 0 _ _ rfl rfl
    have ih := names_all (xs := xs) (ds := ds) ⟨by simpa using h.1, fun i y e hy he => h.2 (i + 1) y e (by simpa using hy) (by simpa using he)⟩
    simp only [List.map_cons, List.all_cons, id]
    rw [h0.name, ih]
  | [], _ :: _, h => by have := h.1; simp at this
  | _ :: _, [], h => by have := h.1; simp at this
def sp_is_plan (K : PySem.W.Frag) (C : CA) : Sp := fun vs H Q _ => ∃ n v d, vs = [v] ∧ Rp H n v d ∧ ∀ H', Sm H H' → Q (.bl (planD d)) H'
def rd_is_plan (K : PySem.W.Frag) (C : CA) (E : XK) : TS :=
  (tSeq (tIfS (tOr (tNot (tB (tCB fIsi (tCons (tVar 0) (tCons (tC (.ty "tuple")) tNil))))) (tNot (tTest (tChain fLe fLe (tC (.int 1)) (tCB fLen (tCons (tVar 0) tNil)) (tOp fAdd (tC (.int 6)) (tC (.int 1))))))) (tRet (tC (.bl false))) tNext) (tRet (tCB fAll (tCons (tLc (iTup K (tVar 0)) (gName 1) tYes (tCallS (sp_is_name K C) (fun _ => E0) (tCons (tVar 1) tNil)) [1]) tNil))))
theorem pure_is_plan {K : PySem.W.Frag} {C : CA} (vs : List V) (H : Hp) (Q : VK) (E : XK) (h : sp_is_plan K C vs H Q E) : rd_is_plan K C E { nx := fun _ H' => Q .non H', rt := Q } (start [("value" : Str), ("town" : Str)] vs) H := by
  obtain ⟨n, v, d, rfl, r, q⟩ := h
  show rd_is_plan K C E _ [some v, none] H
  unfold rd_is_plan
  refine q_if ?_
  have q0 := q H fun _ _ z => z
  rcases rp_flat_or r with (⟨rfl, rfl⟩ | ⟨b, rfl, rfl⟩ | ⟨i, rfl, rfl⟩ | ⟨z, ⟨rfl, lz⟩, rfl⟩) | ⟨k, p, xs, ds, _, rfl, e, rfl, _⟩ | ⟨j, p, xs, ds, _, e1, e2, e3, lx, a⟩ | ⟨k, p, _, rfl, e, rfl⟩
  · walk_at "s"; exact q0
  · walk_at "s"; exact q0
  · walk_at "s"; exact q0
  · walk_at "s"; exact q0
  · walk_at "s"; rw [lst_ty e]; walk_at "s"; exact q0
  · subst e1 e3
    walk_at "s"
    rw [tup_ty e2]
    walk_at "s"
    rw [asS_of_T e2]
    walk_at "s"
    have l1 := a.1
    by_cases c1 : (1 : Int) ≤ (xs.length : Nat)
    · simp only [c1, decide_true, if_true]
      by_cases c2 : ((xs.length : Nat) : Int) ≤ 7
      · have c2' : ((xs.length : Nat) : Int) ≤ 6 + 1 := by omega
        simp only [c2', decide_true, Bool.not_true, Bool.false_eq_true, if_false]
        walk_at "s"
        rw [u_tupI]
        walk_at "s"
        refine ⟨⟨_, asT_seq e2⟩, fun Dd hD => ?_⟩
        refine made_mapT (fun x => .bl (nameV x)) e2 hD (by show _ < 2 ^ 24; omega) (fun _ => rfl) (fun i x H1 Q1 hx s1 q1 => ?_) fun H1 s1 h1 => ?_
        · walk_at "s"
          have hi := (List.getElem?_eq_some_iff.mp hx).1
          exact ⟨x, rfl, ((a.2 i x (ds[i]'(by omega)) hx (by simp)).mono s1).tz, q1⟩
        · rw [h1]
          walk_at "s"
          refine ⟨xs.map nameV, by rw [List.map_map]; rfl, ?_⟩
          have e := q H1 s1
          have e4 : planD (.tuple ds) = (xs.map nameV).all id := by
            rw [names_all a]
            simp only [planD]
            rw [decide_eq_true (by omega : 1 ≤ ds.length), decide_eq_true (by omega : ds.length ≤ 7)]
            rfl
          rw [e4] at e
          exact e
      · have c2' : ¬ ((xs.length : Nat) : Int) ≤ 6 + 1 := by omega
        simp only [c2', decide_false, Bool.not_false, if_true]
        walk_at "s"
        have e4 : planD (.tuple ds) = false := by
          simp only [planD]
          rw [decide_eq_false (by omega : ¬ ds.length ≤ 7), Bool.and_false, Bool.false_and]
        rw [e4] at q0
        exact q0
    · simp only [c1, decide_false, Bool.false_eq_true, if_false]
      walk_at "s"
      have e4 : planD (.tuple ds) = false := by
        simp only [planD]
        rw [decide_eq_false (by omega : ¬ 1 ≤ ds.length), Bool.false_and, Bool.false_and]
      rw [e4] at q0
      exact q0
  · walk_at "s"; rw [tyN_dK e]; walk_at "s"; exact q0
def sp_l_is_plan (K : PySem.W.Frag) (C : CA) : Sp := fun vs H Q _ => ∃ n v d, vs = [v] ∧ Rp H n v d ∧ ∀ H', Sm H H' → Q (.bl (planD d)) H'
def rd_l_is_plan (K : PySem.W.Frag) (C : CA) (E : XK) : TS :=
  (tSeq (tIfS (tOr (tNot (tB (tCB fIsi (tCons (tVar 0) (tCons (tC (.ty "tuple")) tNil))))) (tOr (tTest (tOp fLt (tCB fLen (tCons (tVar 0) tNil)) (tC (.int 1)))) (tTest (tOp fGt (tCB fLen (tCons (tVar 0) tNil)) (tC (.int 7)))))) (tRet (tC (.bl false))) tNext) (tSeq (tFor (iTup K (tVar 0)) (gName 1) (tIfS (tNot (tB (tCallS (sp_l_is_name K C) (fun _ => E0) (tCons (tVar 1) tNil)))) (tRet (tC (.bl false))) tNext)) (tRet (tC (.bl true)))))
theorem pure_l_is_plan {K : PySem.W.Frag} {C : CA} (vs : List V) (H : Hp) (Q : VK) (E : XK) (h : sp_l_is_plan K C vs H Q E) : rd_l_is_plan K C E { nx := fun _ H' => Q .non H', rt := Q } (start [("value" : Str), ("part" : Str)] vs) H := by
  obtain ⟨n, v, d, rfl, r, q⟩ := h
  show rd_l_is_plan K C E _ [some v, none] H
  unfold rd_l_is_plan
  refine q_if ?_
  have q0 := q H fun _ _ z => z
  rcases rp_flat_or r with (⟨rfl, rfl⟩ | ⟨b, rfl, rfl⟩ | ⟨i, rfl, rfl⟩ | ⟨z, ⟨rfl, lz⟩, rfl⟩) | ⟨k, p, xs, ds, _, rfl, e, rfl, _⟩ | ⟨j, p, xs, ds, _, e1, e2, e3, lx, a⟩ | ⟨k, p, _, rfl, e, rfl⟩
  · walk_at "s"; exact q0
  · walk_at "s"; exact q0
  · walk_at "s"; exact q0
  · walk_at "s"; exact q0
  · walk_at "s"; rw [lst_ty e]; walk_at "s"; exact q0
  · subst e1 e3
    walk_at "s"
    rw [tup_ty e2]
    walk_at "s"
    rw [asS_of_T e2]
    walk_at "s"
    have l1 := a.1
    refine ite2 (fun c1 => ?_) fun c1 => ?_
    · have e4 : planD (.tuple ds) = false := by
        simp only [planD]
        rw [decide_eq_false (by omega : ¬ 1 ≤ ds.length), Bool.false_and, Bool.false_and]
      rw [e4] at q0
      exact q0
    · refine ite2 (fun c2 => ?_) fun c2 => ?_
      · have e4 : planD (.tuple ds) = false := by
          simp only [planD]
          rw [decide_eq_false (by omega : ¬ ds.length ≤ 7), Bool.and_false, Bool.false_and]
        rw [e4] at q0
        exact q0
      · refine q_for ?_
        rw [u_tupI]
        walk_at "s"
        refine ⟨⟨_, asT_seq e2⟩, ?_⟩
        refine loop_tup (xs := xs) (fun i σ H2 => ∃ w : Option V, σ = [some (.ref p), w] ∧ Sm H H2 ∧ (ds.take i).all nameD = true) ⟨_, rfl, fun _ _ z => z, rfl⟩ (fun i σ H2 _ ⟨_, _, s2, _⟩ => sm_T s2 e2) ?_ ?_
        · rintro i x σ H2 hx ⟨w, rfl, s2, al⟩
          have hi := (List.getElem?_eq_some_iff.mp hx).1
          have hd : ds[i]? = some (ds[i]'(by omega)) := by simp
          walk_at "s"
          refine q_if1 ?_
          walk_at "s"
          refine sp_lname_ok ((a.2 i x _ hx hd).mono s2) fun H3 s3 => ?_
          walk_at "s"
          by_cases c3 : nameD (ds[i]'(by omega)) = true
          · rw [c3]
            simp only [Bool.not_true, Bool.false_eq_true, if_false]
            walk_at "s"
            refine ⟨sm_trans s2 s3, ?_⟩
            rw [take_snoc hd, List.all_append, al]
            simp [c3]
          · have c3 : nameD (ds[i]'(by omega)) = false := by simpa using c3
            rw [c3]
            simp only [Bool.not_false, if_true]
            walk_at "s"
            have e5 : ds.all nameD = false := by
              rw [List.all_eq_false]
              exact ⟨_, List.getElem_mem _, by rw [c3]; decide⟩
            have e4 : planD (.tuple ds) = false := by
              simp only [planD]
              rw [e5, Bool.and_false]
            rw [e4] at q
            exact q H3 (sm_trans s2 s3)
        · rintro σ H2 ⟨w, rfl, s2, al⟩
          walk_at "s"
          rw [a.1, List.take_length] at al
          have e4 : planD (.tuple ds) = true := by
            simp only [planD]
            rw [decide_eq_true (by omega : 1 ≤ ds.length), decide_eq_true (by omega : ds.length ≤ 7), al]
            rfl
          rw [e4] at q
          exact q H2 s2
  · walk_at "s"; rw [tyN_dK e]; walk_at "s"; exact q0
def sp_l_is_leg (K : PySem.W.Frag) (C : CA) : Sp := fun vs H Q _ => ∃ n v d, vs = [v] ∧ Rp H n v d ∧ ∀ H', Sm H H' → Q (.bl (legD d)) H'
def rd_l_is_leg (K : PySem.W.Frag) (C : CA) (E : XK) : TS :=
  (tSeq (tIfS (tOr (tNot (tB (tCB fIsi (tCons (tVar 0) (tCons (tC (.ty "tuple")) tNil))))) (tOr (tTest (tOp (fNe K) (tCB fLen (tCons (tVar 0) tNil)) (tC (.int 3)))) (tNot (tB (tCallS (sp_l_is_name K C) (fun _ => E0) (tCons (tOp fIx (tVar 0) (tC (.int 1))) tNil)))))) (tRet (tC (.bl false))) tNext) (tSeq (tIfS (tB (tCallS (sp_l_is_name K C) (fun _ => E0) (tCons (tOp fIx (tVar 0) (tC (.int 2))) tNil))) (tRet (tCallS (sp_l_is_within K C) (fun _ => E0) (tCons (tOp fIx (tVar 0) (tC (.int 0))) (tCons (tC (.int 0)) (tCons (tC (.int 5)) tNil))))) tNext) (tRet (tAndV (tCB fIsi (tCons (tOp fIx (tVar 0) (tC (.int 2))) (tCons (tC (.ty "str")) tNil))) (tAndV (tOp (fEq K) (tOp fIx (tVar 0) (tC (.int 2))) (tC (.str ("-" : Str)))) (tCallS (sp_l_is_within K C) (fun _ => E0) (tCons (tOp fIx (tVar 0) (tC (.int 0))) (tCons (tC (.int 0)) (tCons (tC (.int 6)) tNil)))))))))
theorem pure_l_is_leg {K : PySem.W.Frag} {C : CA} (vs : List V) (H : Hp) (Q : VK) (E : XK) (h : sp_l_is_leg K C vs H Q E) : rd_l_is_leg K C E { nx := fun _ H' => Q .non H', rt := Q } (start [("value" : Str)] vs) H := by
  obtain ⟨n, v, d, rfl, r, q⟩ := h
  show rd_l_is_leg K C E _ [some v] H
  unfold rd_l_is_leg
  refine q_if ?_
  have q0 := q H fun _ _ z => z
  have no : tupOf 3 d = false → Q (.bl false) H := fun e => by
    have e2 : legD d = false := by
      unfold legD
      split
      · cases e
      · rfl
    rw [e2] at q0
    exact q0
  by_cases c : tupOf 3 d = true
  · obtain ⟨k, p, xs, ds, rfl, e, rfl, c2, a⟩ := tup_of c r
    have c2 : ds.length = 3 := by omega
    match ds, xs, c2, a with
    | [d0, d1, d2], [x0, x1, x2], _, a =>
      have r0 : Rp H k x0 d0 := a.2 0 _ _ rfl rfl
      have r1 : Rp H k x1 d1 := a.2 1 _ _ rfl rfl
      have r2 : Rp H k x2 d2 := a.2 2 _ _ rfl rfl
      simp only [legD] at q
      walk_at "s"
      rw [tup_ty e]
      walk_at "s"
      rw [asS_of_T e]
      walk_at "s"
      rw [if_neg (by decide)]
      refine sp_lname_ok r1 fun H1 s1 => ?_
      walk_at "s"
      by_cases c0 : nameD d1 = true
      · rw [c0] at q ⊢
        simp only [Bool.true_and] at q
        simp only [Bool.not_true, Bool.false_eq_true, if_false]
        refine q_if ?_
        walk_at "s"
        rw [asS_of_T (sm_T s1 e)]
        walk_at "s"
        refine sp_lname_ok (r2.mono s1) fun H2 s2 => ?_
        have s12 := sm_trans s1 s2
        walk_at "s"
        by_cases c1 : nameD d2 = true
        · rw [c1] at q ⊢
          simp only [if_true] at q ⊢
          walk_at "s"
          rw [asS_of_T (sm_T s12 e)]
          walk_at "s"
          exact ⟨k, x0, d0, 0, 5, rfl, r0.mono s12, q H2 s12⟩
        · have c1 : nameD d2 = false := by simpa using c1
          rw [c1] at q ⊢
          simp only [Bool.false_eq_true, if_false] at q ⊢
          walk_at "s"
          rw [asS_of_T (sm_T s12 e)]
          walk_at "s"
          have q2 := q H2 s12
          rcases rp_flat_or r2 with (⟨rfl, rfl⟩ | ⟨b, rfl, rfl⟩ | ⟨i, rfl, rfl⟩ | ⟨z, ⟨rfl, lz⟩, rfl⟩) | ⟨k, p, xs, ds, _, rfl, e5, rfl, _⟩ | ⟨k, p, xs, ds, _, rfl, e5, rfl, _⟩ | ⟨k, p, _, rfl, e5, rfl⟩
          · walk_at "s"; exact q2
          · walk_at "s"; exact q2
          · walk_at "s"; exact q2
          · walk_at "s"
            refine ite2 (fun c8 => ?_) fun c8 => ?_
            · have c7 : isDash (.str z) = true := decide_eq_true c8
              rw [c7, Bool.true_and] at q2
              rw [asS_of_T (sm_T s12 e)]
              walk_at "s"
              exact ⟨k, x0, d0, 0, 6, rfl, r0.mono s12, q2⟩
            · have c7 : isDash (.str z) = false := decide_eq_false c8
              rw [c7] at q2
              exact q2
          · rw [lst_ty (sm_L s12 e5)]; walk_at "s"; exact q2
          · rw [tup_ty (sm_T s12 e5)]; walk_at "s"; exact q2
          · rw [tyN_dK (s12 _ _ e5)]; walk_at "s"; exact q2
      · have c0 : nameD d1 = false := by simpa using c0
        rw [c0] at q ⊢
        simp only [Bool.not_false, if_true]
        walk_at "s"
        exact q H1 s1
  · have c : tupOf 3 d = false := by simpa using c
    have nq := no c
    rcases rp_flat_or r with (⟨rfl, rfl⟩ | ⟨b, rfl, rfl⟩ | ⟨i, rfl, rfl⟩ | ⟨z, ⟨rfl, lz⟩, rfl⟩) | ⟨k, p, xs, ds, _, rfl, e, rfl, _⟩ | ⟨j, p, xs, ds, _, e1, e2, e3, lx, a⟩ | ⟨k, p, _, rfl, e, rfl⟩
    · walk_at "s"; exact nq
    · walk_at "s"; exact nq
    · walk_at "s"; exact nq
    · walk_at "s"; exact nq
    · walk_at "s"; rw [lst_ty e]; walk_at "s"; exact nq
    · subst e1 e3
      have c2 : ¬ ((ds.length : Int) = 3) := of_decide_eq_false c
      have c3 : ¬ ((xs.length : Nat) : Int) = 3 := by have := a.1; omega
      walk_at "s"
      rw [tup_ty e2]
      walk_at "s"
      rw [asS_of_T e2]
      walk_at "s"
      simp only [c3, decide_false, Bool.not_false, if_true]
      walk_at "s"
      exact nq
    · walk_at "s"; rw [tyN_dK e]; walk_at "s"; exact nq
end XB

/-! Plans there and back: the data. -/
namespace XB
open PySem L2
local macro_rules | `(tactic| walk_at "s") => `(tactic| try simp only [u_var, u_c, u_op, u_un, u_nil, u_cons, u_cb, u_call, u_callS, u_tup, u_lst, u_test, u_B, u_and, u_or, u_not, u_andV, u_orV, u_notV, u_ifE, u_chain, u_sl, u_noPart, u_part, u_bm, u_bm0, u_rev, u_lc, u_try, u_sui, u_sui0, u_unb_rt, u_unb_nx, u_xf, u_WE, w_nil, w_cons, u_raise, u_rng1, u_rng2, u_next, u_ret, u_gname, u_gnil, u_gcons, u_gsub, u_gtup,
  f_add, f_addS, f_addR, f_sub, f_mul, f_mulR, f_mod, f_div, f_pow, f_neg, f_cmp, f_eq, f_eqB, f_eqS, f_ne, f_neB, f_neS, f_isN, f_notN, f_isB, f_ix, f_ixS, f_int, f_intB, f_len, f_lenS, f_max, f_min, f_abs, f_list, f_tuple, f_all, f_sum, f_isi, f_isiT, f_append, f_insert, f_pop, f_sl, f_set,
  kitS, tys, List.isEmpty_cons, Option.map_some, kt_NoneType_int, kt_NoneType_bool, kt_NoneType_str, kt_NoneType_list, kt_NoneType_tuple, kt_NoneType_dict, kt_int_int, kt_int_bool, kt_int_str, kt_int_list, kt_int_tuple, kt_int_dict, kt_bool_int, kt_bool_bool, kt_bool_str, kt_bool_list, kt_bool_tuple, kt_bool_dict, kt_str_int, kt_str_bool, kt_str_str, kt_str_list, kt_str_tuple, kt_str_dict, kt_list_int, kt_list_bool, kt_list_str, kt_list_list, kt_list_tuple, kt_list_dict, kt_tuple_int, kt_tuple_bool, kt_tuple_str, kt_tuple_list, kt_tuple_tuple, kt_tuple_dict, kt_dict_int, kt_dict_bool, kt_dict_str, kt_dict_list, kt_dict_tuple, kt_dict_dict, asL_lst, asL_frz, asL_tup, asT_tup, asS_lst, asS_frz, asS_tup, tyN_non, tyN_bl, tyN_int, tyN_str, atV_lit, ixN_lit, upd_same, upd_ne, upd_ne',
  List.getElem?_cons_zero, List.getElem?_cons_succ, List.set_cons_zero, List.set_cons_succ, List.append_nil, List.length_cons, List.length_nil, Option.some.injEq, exists_eq_left', exists_eq_left, exists_and_left, V.bl.injEq, V.int.injEq, V.str.injEq, V.ref.injEq, Bool.not_eq_true, Bool.not_true, Bool.not_false, decide_true, decide_false, decide_eq_true_eq, decide_eq_false_iff_not, Bool.false_eq_true, if_true, if_false, ite_true, ite_false, reduceCtorEq, true_and, and_true, Nat.reduceAdd, Nat.reduceLT, Nat.zero_add, ne_eq, not_false_eq_true, not_true_eq_false, List.cons.injEq, and_assoc])
local macro_rules | `(tactic| walk_at "S") => `(tactic| try simp only [u_var, u_c, u_op, u_un, u_nil, u_cons, u_cb, u_call, u_callS, u_tup, u_lst, u_test, u_B, u_and, u_or, u_not, u_andV, u_orV, u_notV, u_ifE, u_chain, u_sl, u_noPart, u_part, u_bm, u_bm0, u_rev, u_lc, u_try, u_sui, u_sui0, u_unb_rt, u_unb_nx, u_xf, u_WE, w_nil, w_cons, u_raise, u_rng1, u_rng2, u_next, u_ret, u_gname, u_gnil, u_gcons, u_gsub, u_gtup,
  f_add, f_addS, f_addR, f_sub, f_mul, f_mulR, f_mod, f_div, f_pow, f_neg, f_cmp, f_eq, f_eqB, f_eqS, f_ne, f_neB, f_neS, f_isN, f_notN, f_isB, f_ix, f_ixS, f_int, f_intB, f_len, f_lenS, f_max, f_min, f_abs, f_list, f_tuple, f_all, f_sum, f_isi, f_isiT, f_append, f_insert, f_pop, f_sl, f_set,
  kitS, tys, List.isEmpty_cons, Option.map_some, kt_NoneType_int, kt_NoneType_bool, kt_NoneType_str, kt_NoneType_list, kt_NoneType_tuple, kt_NoneType_dict, kt_int_int, kt_int_bool, kt_int_str, kt_int_list, kt_int_tuple, kt_int_dict, kt_bool_int, kt_bool_bool, kt_bool_str, kt_bool_list, kt_bool_tuple, kt_bool_dict, kt_str_int, kt_str_bool, kt_str_str, kt_str_list, kt_str_tuple, kt_str_dict, kt_list_int, kt_list_bool, kt_list_str, kt_list_list, kt_list_tuple, kt_list_dict, kt_tuple_int, kt_tuple_bool, kt_tuple_str, kt_tuple_list, kt_tuple_tuple, kt_tuple_dict, kt_dict_int, kt_dict_bool, kt_dict_str, kt_dict_list, kt_dict_tuple, kt_dict_dict, asL_lst, asL_frz, asL_tup, asT_tup, asS_lst, asS_frz, asS_tup, tyN_non, tyN_bl, tyN_int, tyN_str, atV_lit, ixN_lit, upd_same, upd_ne, upd_ne',
  List.getElem?_cons_zero, List.getElem?_cons_succ, List.set_cons_zero, List.set_cons_succ, List.append_nil, List.length_cons, List.length_nil, Option.some.injEq, exists_eq_left', exists_eq_left, exists_and_left, V.bl.injEq, V.int.injEq, V.str.injEq, V.ref.injEq, Bool.not_eq_true, Bool.not_true, Bool.not_false, decide_true, decide_false, decide_eq_true_eq, decide_eq_false_iff_not, Bool.false_eq_true, if_true, if_false, ite_true, ite_false, reduceCtorEq, true_and, and_true, Nat.reduceAdd, Nat.reduceLT, Nat.zero_add, ne_eq, not_false_eq_true, not_true_eq_false, List.cons.injEq, and_assoc, *])
abbrev Tri := Int × Str × Str
def legT (t : Tri) : PyData := .tuple [.int t.1, .str t.2.1, .str t.2.2]
def nextS (zs : List Str) (i : Nat) : Str := (zs[i + 1]?).getD dashS
def tri (zs : List Str) : List Tri := (List.range zs.length).map fun (i : Nat) => ((i : Int), (zs[i]?).getD dashS, nextS zs i)
def planZ (zs : List Str) : Prop := 1 ≤ zs.length ∧ zs.length ≤ 7 ∧ ∀ z ∈ zs, nameS z = true
def LegsP (d : PyData) : Prop := ∃ zs, planZ zs ∧ d = .list ((tri zs).map legT)
def okT (t : Tri) : Prop := nameS t.2.1 = true ∧ ((nameS t.2.2 = true ∧ 0 ≤ t.1 ∧ t.1 ≤ 5) ∨ (t.2.2 = dashS ∧ 0 ≤ t.1 ∧ t.1 ≤ 6))
theorem legD_tri {d : PyData} (h : legD d = true) : ∃ t, d = legT t ∧ okT t := by
  unfold legD at h
  split at h
  · rename_i a b c
    rw [Bool.and_eq_true] at h
    obtain ⟨h1, h2⟩ := h
    cases b with
    | str z =>
      cases c with
      | str y =>
        by_cases e : nameD (.str y) = true
        · rw [if_pos e] at h2
          cases a with
          | int i =>
            simp only [intIn, Bool.and_eq_true, decide_eq_true_eq] at h2
            exact ⟨(i, z, y), rfl, h1, .inl ⟨e, h2⟩⟩
          | _ => cases h2
        · rw [if_neg e, Bool.and_eq_true] at h2
          obtain ⟨h2, h3⟩ := h2
          cases a with
          | int i =>
            simp only [intIn, Bool.and_eq_true, decide_eq_true_eq] at h3
            exact ⟨(i, z, y), rfl, h1, .inr ⟨of_decide_eq_true h2, h3⟩⟩
          | _ => cases h3
      | _ => simp [nameD, isDash] at h2
    | _ => cases h1
  · cases h
theorem legD_of {t : Tri} (h : okT t) : legD (legT t) = true := by
  obtain ⟨h1, h2⟩ := h
  have e1 : nameD (.str t.2.1) = true := h1
  simp only [legT, legD]
  rw [e1, Bool.true_and]
  rcases h2 with ⟨h2, h3, h4⟩ | ⟨h2, h3, h4⟩
  · have e2 : nameD (.str t.2.2) = true := h2
    rw [if_pos e2]
    simp [intIn, h3, h4]
  · have e2 : ¬ nameD (.str t.2.2) = true := by
      rw [h2]
      show ¬ nameS dashS = true
      rw [dash_no_name]
      decide
    rw [if_neg e2]
    simp [intIn, isDash, h2, h3, h4]
theorem tri_len {zs : List Str} : (tri zs).length = zs.length := by simp [tri]
theorem tri_at {zs : List Str} {i : Nat} {z : Str} (h : zs[i]? = some z) : (tri zs)[i]? = some ((i : Int), z, nextS zs i) := by
  obtain ⟨hi, rfl⟩ := List.getElem?_eq_some_iff.mp h
  simp [tri, hi]
theorem next_some {zs : List Str} {i : Nat} {z : Str} (h : zs[i + 1]? = some z) : nextS zs i = z := by
  unfold nextS
  rw [h]
  rfl
theorem next_none {zs : List Str} {i : Nat} (h : zs.length ≤ i + 1) : nextS zs i = dashS := by
  unfold nextS
  rw [List.getElem?_eq_none_iff.mpr h]
  rfl
theorem tri_ok {zs : List Str} (h : planZ zs) : ∀ t ∈ tri zs, okT t := by
  obtain ⟨h1, h2, h3⟩ := h
  intro t ht
  simp only [tri, List.mem_map, List.mem_range] at ht
  obtain ⟨i, hi, rfl⟩ := ht
  have ez : zs[i]? = some zs[i] := by simp [hi]
  rw [ez]
  refine ⟨h3 _ (List.getElem_mem hi), ?_⟩
  by_cases c : i + 1 < zs.length
  · refine .inl ⟨?_, by show (0 : Int) ≤ (i : Nat); omega, by show ((i : Nat) : Int) ≤ 5; omega⟩
    show nameS (nextS zs i) = true
    rw [next_some (z := zs[i + 1]) (by simp [c])]
    exact h3 _ (List.getElem_mem c)
  · exact .inr ⟨next_none (by omega), by show (0 : Int) ≤ (i : Nat); omega, by show ((i : Nat) : Int) ≤ 6; omega⟩
theorem all_tri : ∀ {ds : List PyData}, ds.all legD = true → ∃ ts : List Tri, ds = ts.map legT ∧ ∀ t ∈ ts, okT t
  | [], _ => ⟨[], rfl, by simp⟩
  | d :: ds, h => by
    rw [List.all_cons, Bool.and_eq_true] at h
    obtain ⟨t, rfl, ht⟩ := legD_tri h.1
    obtain ⟨ts, rfl, hts⟩ := all_tri h.2
    refine ⟨t :: ts, rfl, fun u hu => ?_⟩
    rcases List.mem_cons.1 hu with rfl | hu
    · exact ht
    · exact hts u hu
theorem legT_inj {t u : Tri} (h : legT t = legT u) : t = u := by
  obtain ⟨a, b, c⟩ := t
  obtain ⟨d, e, f⟩ := u
  simp [legT] at h
  obtain ⟨rfl, rfl, rfl⟩ := h
  rfl
theorem eqv_leg {t u : Tri} : PyData.eqv (legT t) (legT u) = true ↔ t = u := by
  obtain ⟨a, b, c⟩ := t
  obtain ⟨d, e, f⟩ := u
  simp [legT, PyData.eqv, PyData.eqvAll]
theorem eqvAll_tri : ∀ {A B : List Tri}, PyData.eqvAll (A.map legT) (B.map legT) = true ↔ A = B
  | [], [] => by simp [PyData.eqvAll]
  | t :: A, u :: B => by
    simp only [List.map_cons, PyData.eqvAll, Bool.and_eq_true, eqv_leg, eqvAll_tri (A := A) (B := B), List.cons.injEq]
  | [], _ :: _ => by simp [PyData.eqvAll]
  | _ :: _, [] => by simp [PyData.eqvAll]
theorem map_tri_inj : ∀ {A B : List Tri}, A.map legT = B.map legT → A = B
  | [], [], _ => rfl
  | t :: A, u :: B, h => by
    simp only [List.map_cons, List.cons.injEq] at h
    rw [legT_inj h.1, map_tri_inj h.2]
  | [], _ :: _, h => by simp at h
  | _ :: _, [], h => by simp at h
theorem name_ok {z : Str} (h : nameS z = true) : PyData.strOk z = true := by
  have e : ∀ c ∈ signsS.cps.toList, c < 0x110000 := by decide +kernel
  unfold nameS at h
  rw [Bool.and_eq_true] at h
  have h2 := h.2
  rw [List.all_eq_true] at h2
  unfold PyData.strOk
  rw [Array.all_eq_true]
  intro i hi
  have hm : z.cps[i] ∈ z.cps.toList := by simp
  have := h2 _ hm
  exact decide_eq_true (e _ (of_decide_eq_true this))
theorem name_len {z : Str} (h : nameS z = true) : z.length ≤ 8 := by
  unfold nameS at h
  simp only [Bool.and_eq_true, decide_eq_true_eq] at h
  exact h.1.1.2
theorem dash_ok : PyData.strOk dashS = true := by decide +kernel
theorem lay_leg {t : Tri} (h : okT t) : (legT t).canLay0 = true ∧ (legT t).depth = 1 := by
  obtain ⟨h1, h2⟩ := h
  have e2 : PyData.strOk t.2.2 = true := by
    rcases h2 with ⟨h2, _⟩ | ⟨h2, _⟩
    · exact name_ok h2
    · rw [h2]; exact dash_ok
  constructor
  · simp [legT, PyData.canLay0, PyData.canLayAll0, name_ok h1, e2]
  · simp [legT, PyData.depth, PyData.depthAll]
theorem lay_legs : ∀ {ts : List Tri}, (∀ t ∈ ts, okT t) → PyData.canLayAll0 (ts.map legT) = true ∧ PyData.depthAll (ts.map legT) ≤ 1
  | [], _ => ⟨by simp [PyData.canLayAll0], by simp [PyData.depthAll]⟩
  | t :: ts, h => by
    have h1 := lay_leg (h t List.mem_cons_self)
    have h2 := lay_legs (ts := ts) fun u hu => h u (List.mem_cons_of_mem _ hu)
    refine ⟨by simp [PyData.canLayAll0, h1.1, h2.1], ?_⟩
    simp only [List.map_cons, PyData.depthAll, h1.2]
    omega
theorem shaped_tri {ts : List Tri} (h : ∀ t ∈ ts, okT t) : SeqAt.shaped (.list (ts.map legT)) = true := by
  have h1 := lay_legs h
  unfold SeqAt.shaped
  rw [Bool.and_eq_true]
  refine ⟨by simp only [PyData.canLay0]; exact h1.1, decide_eq_true ?_⟩
  simp only [PyData.depth]
  omega
/-- what stands for a leg -/
theorem rp_leg {n : Nat} {H : Hp} {x : V} {t : Tri} (h : Rp H n x (legT t)) : ∃ p, x = .ref p ∧ asT (H p) = some [.int t.1, .str t.2.1, .str t.2.2] := by
  rcases rp_flat_or h with (⟨_, e⟩ | ⟨b, _, e⟩ | ⟨i, _, e⟩ | ⟨z, _, e⟩) | ⟨k, p, xs, ds, _, _, _, e, _⟩ | ⟨j, p, xs, ds, _, e1, e2, e3, lx, a⟩ | ⟨k, p, _, _, _, e⟩
  · cases e
  · cases e
  · cases e
  · cases e
  · cases e
  · unfold legT at e3
    injection e3 with e3
    subst e3
    refine ⟨p, e1, ?_⟩
    match xs, a with
    | [x0, x1, x2], a =>
      have r0 := a.2 0 _ _ rfl rfl
      have r1 := a.2 1 _ _ rfl rfl
      have r2 := a.2 2 _ _ rfl rfl
      have f0 : x0 = .int t.1 := by
        rcases rp_flat_or r0 with (⟨_, e⟩ | ⟨b, _, e⟩ | ⟨i, e1, e⟩ | ⟨z, _, e⟩) | ⟨k, p, xs, ds, _, _, _, e, _⟩ | ⟨k, p, xs, ds, _, _, _, e, _⟩ | ⟨k, p, _, _, _, e⟩ <;> cases e
        exact e1
      have f1 : x1 = .str t.2.1 := by
        rcases rp_flat_or r1 with (⟨_, e⟩ | ⟨b, _, e⟩ | ⟨i, _, e⟩ | ⟨z, e1, e⟩) | ⟨k, p, xs, ds, _, _, _, e, _⟩ | ⟨k, p, xs, ds, _, _, _, e, _⟩ | ⟨k, p, _, _, _, e⟩ <;> cases e
        exact e1.1
      have f2 : x2 = .str t.2.2 := by
        rcases rp_flat_or r2 with (⟨_, e⟩ | ⟨b, _, e⟩ | ⟨i, _, e⟩ | ⟨z, e1, e⟩) | ⟨k, p, xs, ds, _, _, _, e, _⟩ | ⟨k, p, xs, ds, _, _, _, e, _⟩ | ⟨k, p, _, _, _, e⟩ <;> cases e
        exact e1.1
      rw [e2, f0, f1, f2]
    | [], a => have := a.1; simp at this
    | [_], a => have := a.1; simp at this
    | [_, _], a => have := a.1; simp at this
    | _ :: _ :: _ :: _ :: _, a => have := a.1; simp at this
  · cases e
theorem dp_legs {K : PySem.W.Frag} {n : Nat} {H : Hp} : ∀ {xs : List V} {ts : List Tri}, All2 (Rp H n) xs (ts.map legT) → L2.DpAll K H xs (ts.map legT)
  | [], [], _ => .nil
  | x :: xs, t :: ts, h => by
    have h0 : Rp H n x (legT t) := h.2 0 _ _ rfl rfl
    obtain ⟨p, rfl, e⟩ := rp_leg h0
    exact .cons (.tup (asT_seq e) (.cons (.int _) (.cons (.str _) (.cons (.str _) .nil)))) (dp_legs (xs := xs) (ts := ts) ⟨by simpa using h.1, fun i y e hy he => h.2 (i + 1) y e (by simpa using hy) (by simpa using he)⟩)
  | [], _ :: _, h => by have := h.1; simp at this
  | _ :: _, [], h => by have := h.1; simp at this
theorem tri_names {zs : List Str} : (tri zs).map (fun t => t.2.1) = zs := by
  apply List.ext_getElem?
  intro i
  rw [List.getElem?_map]
  cases e : zs[i]? with
  | none =>
    have hl : zs.length ≤ i := List.getElem?_eq_none_iff.mp e
    rw [List.getElem?_eq_none_iff.mpr (by rw [tri_len]; exact hl)]
    rfl
  | some z =>
    rw [tri_at e]
    rfl
theorem legsP_tri {ts : List Tri} : LegsP (.list (ts.map legT)) ↔ planZ (ts.map fun t => t.2.1) ∧ tri (ts.map fun t => t.2.1) = ts := by
  constructor
  · rintro ⟨zs, hz, e⟩
    injection e with e
    have e := map_tri_inj e
    rw [e, tri_names]
    exact ⟨hz, rfl⟩
  · rintro ⟨h1, h2⟩
    exact ⟨_, h1, by rw [h2]⟩
theorem plan_names {zs : List Str} : planD (.tuple (zs.map PyData.str)) = true ↔ planZ zs := by
  simp only [planD, Bool.and_eq_true, decide_eq_true_eq, List.length_map, List.all_map, List.all_eq_true, planZ, and_assoc]
  rfl
/-- a plan's names -/
theorem plan_of_data {d : PyData} (h : planD d = true) : ∃ zs, d = .tuple (zs.map PyData.str) ∧ planZ zs := by
  cases d with
  | tuple ds =>
    have e : ∀ {ds : List PyData}, ds.all nameD = true → ∃ zs : List Str, ds = zs.map PyData.str := by
      intro ds
      induction ds with
      | nil => exact fun _ => ⟨[], rfl⟩
      | cons d ds ih =>
        intro h
        rw [List.all_cons, Bool.and_eq_true] at h
        obtain ⟨zs, rfl⟩ := ih h.2
        cases d with
        | str z => exact ⟨z :: zs, rfl⟩
        | _ => exact absurd h.1 (by simp [nameD])
    have h2 := h
    simp only [planD, Bool.and_eq_true] at h2
    obtain ⟨zs, rfl⟩ := e h2.2
    exact ⟨zs, rfl, plan_names.1 h⟩
  | _ => cases h
theorem rp_strs {n : Nat} {H : Hp} : ∀ {xs : List V} {zs : List Str}, All2 (Rp H n) xs (zs.map PyData.str) → xs = zs.map V.str
  | [], [], _ => rfl
  | x :: xs, z :: zs, h => by
    have h0 : Rp H n x (.str z) := h.2 0 _ _ rfl rfl
    have f : x = .str z := by
      rcases rp_flat_or h0 with (⟨_, e⟩ | ⟨b, _, e⟩ | ⟨i, _, e⟩ | ⟨z, e1, e⟩) | ⟨k, p, xs, ds, _, _, _, e, _⟩ | ⟨k, p, xs, ds, _, _, _, e, _⟩ | ⟨k, p, _, _, _, e⟩ <;> cases e
      exact e1.1
    rw [f, rp_strs (xs := xs) (zs := zs) ⟨by simpa using h.1, fun i y e hy he => h.2 (i + 1) y e (by simpa using hy) (by simpa using he)⟩]
    rfl
  | [], _ :: _, h => by have := h.1; simp at this
  | _ :: _, [], h => by have := h.1; simp at this
theorem rp_plan {n : Nat} {H : Hp} {v : V} {d : PyData} (r : Rp H n v d) (h : planD d = true) : ∃ p zs, v = .ref p ∧ asT (H p) = some (zs.map V.str) ∧ d = .tuple (zs.map PyData.str) ∧ planZ zs := by
  obtain ⟨zs, rfl, hz⟩ := plan_of_data h
  rcases rp_flat_or r with (⟨_, e⟩ | ⟨b, _, e⟩ | ⟨i, _, e⟩ | ⟨z, _, e⟩) | ⟨k, p, xs, ds, _, _, _, e, _⟩ | ⟨j, p, xs, ds, _, e1, e2, e3, lx, a⟩ | ⟨k, p, _, _, _, e⟩
  · cases e
  · cases e
  · cases e
  · cases e
  · cases e
  · injection e3 with e3
    subst e3
    rw [rp_strs a] at e2
    exact ⟨p, zs, e1, e2, rfl, hz⟩
  · cases e
end XB

/-! Plans there and back. -/
namespace XB
open PySem L2
local macro_rules | `(tactic| walk_at "s") => `(tactic| try simp only [u_var, u_c, u_op, u_un, u_nil, u_cons, u_cb, u_call, u_callS, u_tup, u_lst, u_test, u_B, u_and, u_or, u_not, u_andV, u_orV, u_notV, u_ifE, u_chain, u_sl, u_noPart, u_part, u_bm, u_bm0, u_rev, u_lc, u_try, u_sui, u_sui0, u_unb_rt, u_unb_nx, u_xf, u_WE, w_nil, w_cons, u_raise, u_rng1, u_rng2, u_next, u_ret, u_gname, u_gnil, u_gcons, u_gsub, u_gtup,
  f_add, f_addS, f_addR, f_sub, f_mul, f_mulR, f_mod, f_div, f_pow, f_neg, f_cmp, f_eq, f_eqB, f_eqS, f_ne, f_neB, f_neS, f_isN, f_notN, f_isB, f_ix, f_ixS, f_int, f_intB, f_len, f_lenS, f_max, f_min, f_abs, f_list, f_tuple, f_all, f_sum, f_isi, f_isiT, f_append, f_insert, f_pop, f_sl, f_set,
  kitS, tys, List.isEmpty_cons, Option.map_some, kt_NoneType_int, kt_NoneType_bool, kt_NoneType_str, kt_NoneType_list, kt_NoneType_tuple, kt_NoneType_dict, kt_int_int, kt_int_bool, kt_int_str, kt_int_list, kt_int_tuple, kt_int_dict, kt_bool_int, kt_bool_bool, kt_bool_str, kt_bool_list, kt_bool_tuple, kt_bool_dict, kt_str_int, kt_str_bool, kt_str_str, kt_str_list, kt_str_tuple, kt_str_dict, kt_list_int, kt_list_bool, kt_list_str, kt_list_list, kt_list_tuple, kt_list_dict, kt_tuple_int, kt_tuple_bool, kt_tuple_str, kt_tuple_list, kt_tuple_tuple, kt_tuple_dict, kt_dict_int, kt_dict_bool, kt_dict_str, kt_dict_list, kt_dict_tuple, kt_dict_dict, asL_lst, asL_frz, asL_tup, asT_tup, asS_lst, asS_frz, asS_tup, tyN_non, tyN_bl, tyN_int, tyN_str, atV_lit, ixN_lit, upd_same, upd_ne, upd_ne',
  List.getElem?_cons_zero, List.getElem?_cons_succ, List.set_cons_zero, List.set_cons_succ, List.append_nil, List.length_cons, List.length_nil, Option.some.injEq, exists_eq_left', exists_eq_left, exists_and_left, V.bl.injEq, V.int.injEq, V.str.injEq, V.ref.injEq, Bool.not_eq_true, Bool.not_true, Bool.not_false, decide_true, decide_false, decide_eq_true_eq, decide_eq_false_iff_not, Bool.false_eq_true, if_true, if_false, ite_true, ite_false, reduceCtorEq, true_and, and_true, Nat.reduceAdd, Nat.reduceLT, Nat.zero_add, ne_eq, not_false_eq_true, not_true_eq_false, List.cons.injEq, and_assoc])
local macro_rules | `(tactic| walk_at "S") => `(tactic| try simp only [u_var, u_c, u_op, u_un, u_nil, u_cons, u_cb, u_call, u_callS, u_tup, u_lst, u_test, u_B, u_and, u_or, u_not, u_andV, u_orV, u_notV, u_ifE, u_chain, u_sl, u_noPart, u_part, u_bm, u_bm0, u_rev, u_lc, u_try, u_sui, u_sui0, u_unb_rt, u_unb_nx, u_xf, u_WE, w_nil, w_cons, u_raise, u_rng1, u_rng2, u_next, u_ret, u_gname, u_gnil, u_gcons, u_gsub, u_gtup,
  f_add, f_addS, f_addR, f_sub, f_mul, f_mulR, f_mod, f_div, f_pow, f_neg, f_cmp, f_eq, f_eqB, f_eqS, f_ne, f_neB, f_neS, f_isN, f_notN, f_isB, f_ix, f_ixS, f_int, f_intB, f_len, f_lenS, f_max, f_min, f_abs, f_list, f_tuple, f_all, f_sum, f_isi, f_isiT, f_append, f_insert, f_pop, f_sl, f_set,
  kitS, tys, List.isEmpty_cons, Option.map_some, kt_NoneType_int, kt_NoneType_bool, kt_NoneType_str, kt_NoneType_list, kt_NoneType_tuple, kt_NoneType_dict, kt_int_int, kt_int_bool, kt_int_str, kt_int_list, kt_int_tuple, kt_int_dict, kt_bool_int, kt_bool_bool, kt_bool_str, kt_bool_list, kt_bool_tuple, kt_bool_dict, kt_str_int, kt_str_bool, kt_str_str, kt_str_list, kt_str_tuple, kt_str_dict, kt_list_int, kt_list_bool, kt_list_str, kt_list_list, kt_list_tuple, kt_list_dict, kt_tuple_int, kt_tuple_bool, kt_tuple_str, kt_tuple_list, kt_tuple_tuple, kt_tuple_dict, kt_dict_int, kt_dict_bool, kt_dict_str, kt_dict_list, kt_dict_tuple, kt_dict_dict, asL_lst, asL_frz, asL_tup, asT_tup, asS_lst, asS_frz, asS_tup, tyN_non, tyN_bl, tyN_int, tyN_str, atV_lit, ixN_lit, upd_same, upd_ne, upd_ne',
  List.getElem?_cons_zero, List.getElem?_cons_succ, List.set_cons_zero, List.set_cons_succ, List.append_nil, List.length_cons, List.length_nil, Option.some.injEq, exists_eq_left', exists_eq_left, exists_and_left, V.bl.injEq, V.int.injEq, V.str.injEq, V.ref.injEq, Bool.not_eq_true, Bool.not_true, Bool.not_false, decide_true, decide_false, decide_eq_true_eq, decide_eq_false_iff_not, Bool.false_eq_true, if_true, if_false, ite_true, ite_false, reduceCtorEq, true_and, and_true, Nat.reduceAdd, Nat.reduceLT, Nat.zero_add, ne_eq, not_false_eq_true, not_true_eq_false, List.cons.injEq, and_assoc, *])
theorem flat_txt {m : Nat} {z : Str} (h : z.length ≤ m) : Flat m (.str z) (.str z) := .inr (.inr (.inr ⟨z, ⟨rfl, h⟩, rfl⟩))
theorem flat_int {m : Nat} {i : Int} : Flat m (.int i) (.int i) := .inr (.inr (.inl ⟨i, rfl, rfl⟩))
theorem stop_at {zs : List Str} {i : Nat} (h : i < zs.length) : (zs.map V.str ++ [V.str dashS])[i + 1]? = some (.str (nextS zs i)) := by
  by_cases c : i + 1 < zs.length
  · rw [List.getElem?_append_left (by rw [List.length_map]; exact c), List.getElem?_map]
    have e : zs[i + 1]? = some zs[i + 1] := by simp [c]
    rw [next_some e, e]
    rfl
  · have e : i + 1 = zs.length := by omega
    rw [next_none (by omega), List.getElem?_append_right (by rw [List.length_map]; omega), List.length_map, e]
    simp
theorem next_len {zs : List Str} {i m : Nat} (hm : 1 ≤ m) (h : ∀ z ∈ zs, z.length ≤ m) : (nextS zs i).length ≤ m := by
  unfold nextS
  cases e : zs[i + 1]? with
  | none => exact hm
  | some z => exact h z (List.mem_of_getElem? e)
/-- one leg made -/
theorem leg_made {m i : Nat} {H' : Hp} {Q : VK} {zs : List Str} {z : Str} {d : PyData} (hm : 3 ≤ m) (hl : ∀ z ∈ zs, z.length ≤ m) (hz : zs[i]? = some z) (hd : ((tri zs).map legT)[i]? = some d)
    (q : ∀ y H2, Sm H' H2 → NewRp m H' H2 1 y d → Q y H2) (p : Addr) (np : H' p = none) : Q (.ref p) (upd H' p (.tup [.int (i : Nat), .str z, .str (nextS zs i)])) := by
  refine al np fun H2 s2 h2 => q _ _ s2 ?_
  rw [List.getElem?_map, tri_at hz] at hd
  cases hd
  exact .tup np h2 hm (All2.cons (.flat flat_int) (All2.cons (.flat (flat_txt (hl z (List.mem_of_getElem? hz)))) (All2.cons (.flat (flat_txt (next_len (by omega) hl))) All2.nil)))
def sp_l_legs (K : PySem.W.Frag) (C : CA) : Sp := fun vs H Q _ => ∃ (m : Nat) (p : Addr) (zs : List Str), vs = [.ref p] ∧ asT (H p) = some (zs.map V.str) ∧ 1 ≤ zs.length ∧ zs.length ≤ 100 ∧ 3 ≤ m ∧ (∀ z ∈ zs, z.length ≤ m) ∧
  ∀ (o : Addr) (H' : Hp) (xs : List V), Sm H H' → H o = none → H' o = some (.lst xs) → All2 (NewRp m H H' 1) xs ((tri zs).map legT) → Q (.ref o) H'
def rd_l_legs (K : PySem.W.Frag) (C : CA) (E : XK) : TS :=
  (tSeq (tAsg (tOp fAddT (tVar 0) (tTup (tCons (tC (.str ("-" : Str))) tNil))) (gName 1)) (tRet (tLc (iRng1 (tCons (tCB fLen (tCons (tVar 0) tNil)) tNil)) (gName 2) tYes (tTup (tCons (tVar 2) (tCons (tOp fIx (tVar 1) (tVar 2)) (tCons (tOp fIx (tVar 1) (tOp fAdd (tVar 2) (tC (.int 1)))) tNil)))) [2])))
theorem pure_l_legs {K : PySem.W.Frag} {C : CA} (vs : List V) (H : Hp) (Q : VK) (E : XK) (h : sp_l_legs K C vs H Q E) : rd_l_legs K C E { nx := fun _ H' => Q .non H', rt := Q } (start [("plan" : Str), ("row" : Str), ("day" : Str)] vs) H := by
  obtain ⟨m, p, zs, rfl, hp, l1, l2, hm, hl, q⟩ := h
  show rd_l_legs K C E _ [some (.ref p), none, none] H
  unfold rd_l_legs
  refine q_asg ?_
  walk_at "s"
  refine ⟨by decide, fun pa na => al na fun H1 s1 h1 => ?_⟩
  have h1' : asT (H1 pa) = some [.str dashS] := by rw [h1]; rfl
  simp only [f_addT (sm_T s1 hp) h1']
  refine ⟨?_, by simp, by rw [List.length_map]; show zs.length + 1 ≤ 2 ^ 24; omega, fun pb nb => al nb fun H2 s2 h2 => ?_⟩
  · intro e
    rw [List.map_eq_nil_iff] at e
    rw [e] at l1
    simp at l1
  have s02 := sm_trans s1 s2
  have h2T : asT (H2 pb) = some (zs.map V.str ++ [V.str dashS]) := by rw [h2]; rfl
  walk_at "s"
  rw [asS_of_T (sm_T s02 hp)]
  walk_at "s"
  rw [List.length_map]
  refine ⟨by omega, by omega, fun Dd hD => ?_⟩
  refine made_rpR (w := m) (ds := (tri zs).map legT) 1 hD (by rw [List.length_map, tri_len]; omega) (by rw [List.length_map, tri_len]; omega) (fun _ => rfl) (fun i d H3 Q3 hi hd s3 q3 => ?_) fun H3 acc s3 h3 aa => ?_
  · have hi' : i < zs.length := by omega
    have ez : zs[i]? = some zs[i] := by simp [hi']
    walk_at "s"
    rw [Int.zero_add]
    rw [asS_of_T (sm_T s3 h2T)]
    walk_at "s"
    refine at_nat (v := .str zs[i]) ?_ ?_
    · rw [List.getElem?_append_left (by rw [List.length_map]; exact hi'), List.getElem?_map, ez]
      rfl
    have e1 : ((i : Nat) : Int) + 1 = ((i + 1 : Nat) : Int) := by omega
    rw [e1]
    refine at_nat (stop_at hi') ⟨by decide, ?_⟩
    exact leg_made hm hl ez hd q3
  · refine q _ _ _ (sm_trans s02 s3) (sm_none s02 hD) h3 (aa.imp fun v d z => z.from s02)
end XB

/-! Plans there and back: the program. -/
namespace XB
open PySem L2
local macro_rules | `(tactic| walk_at "s") => `(tactic| try simp only [u_var, u_c, u_op, u_un, u_nil, u_cons, u_cb, u_call, u_callS, u_tup, u_lst, u_test, u_B, u_and, u_or, u_not, u_andV, u_orV, u_notV, u_ifE, u_chain, u_sl, u_noPart, u_part, u_bm, u_bm0, u_rev, u_lc, u_try, u_sui, u_sui0, u_unb_rt, u_unb_nx, u_xf, u_WE, w_nil, w_cons, u_raise, u_rng1, u_rng2, u_next, u_ret, u_gname, u_gnil, u_gcons, u_gsub, u_gtup,
  f_add, f_addS, f_addR, f_sub, f_mul, f_mulR, f_mod, f_div, f_pow, f_neg, f_cmp, f_eq, f_eqB, f_eqS, f_ne, f_neB, f_neS, f_isN, f_notN, f_isB, f_ix, f_ixS, f_int, f_intB, f_len, f_lenS, f_max, f_min, f_abs, f_list, f_tuple, f_all, f_sum, f_isi, f_isiT, f_append, f_insert, f_pop, f_sl, f_set,
  kitS, tys, List.isEmpty_cons, Option.map_some, kt_NoneType_int, kt_NoneType_bool, kt_NoneType_str, kt_NoneType_list, kt_NoneType_tuple, kt_NoneType_dict, kt_int_int, kt_int_bool, kt_int_str, kt_int_list, kt_int_tuple, kt_int_dict, kt_bool_int, kt_bool_bool, kt_bool_str, kt_bool_list, kt_bool_tuple, kt_bool_dict, kt_str_int, kt_str_bool, kt_str_str, kt_str_list, kt_str_tuple, kt_str_dict, kt_list_int, kt_list_bool, kt_list_str, kt_list_list, kt_list_tuple, kt_list_dict, kt_tuple_int, kt_tuple_bool, kt_tuple_str, kt_tuple_list, kt_tuple_tuple, kt_tuple_dict, kt_dict_int, kt_dict_bool, kt_dict_str, kt_dict_list, kt_dict_tuple, kt_dict_dict, asL_lst, asL_frz, asL_tup, asT_tup, asS_lst, asS_frz, asS_tup, tyN_non, tyN_bl, tyN_int, tyN_str, atV_lit, ixN_lit, upd_same, upd_ne, upd_ne',
  List.getElem?_cons_zero, List.getElem?_cons_succ, List.set_cons_zero, List.set_cons_succ, List.append_nil, List.length_cons, List.length_nil, Option.some.injEq, exists_eq_left', exists_eq_left, exists_and_left, V.bl.injEq, V.int.injEq, V.str.injEq, V.ref.injEq, Bool.not_eq_true, Bool.not_true, Bool.not_false, decide_true, decide_false, decide_eq_true_eq, decide_eq_false_iff_not, Bool.false_eq_true, if_true, if_false, ite_true, ite_false, reduceCtorEq, true_and, and_true, Nat.reduceAdd, Nat.reduceLT, Nat.zero_add, ne_eq, not_false_eq_true, not_true_eq_false, List.cons.injEq, and_assoc])
local macro_rules | `(tactic| walk_at "S") => `(tactic| try simp only [u_var, u_c, u_op, u_un, u_nil, u_cons, u_cb, u_call, u_callS, u_tup, u_lst, u_test, u_B, u_and, u_or, u_not, u_andV, u_orV, u_notV, u_ifE, u_chain, u_sl, u_noPart, u_part, u_bm, u_bm0, u_rev, u_lc, u_try, u_sui, u_sui0, u_unb_rt, u_unb_nx, u_xf, u_WE, w_nil, w_cons, u_raise, u_rng1, u_rng2, u_next, u_ret, u_gname, u_gnil, u_gcons, u_gsub, u_gtup,
  f_add, f_addS, f_addR, f_sub, f_mul, f_mulR, f_mod, f_div, f_pow, f_neg, f_cmp, f_eq, f_eqB, f_eqS, f_ne, f_neB, f_neS, f_isN, f_notN, f_isB, f_ix, f_ixS, f_int, f_intB, f_len, f_lenS, f_max, f_min, f_abs, f_list, f_tuple, f_all, f_sum, f_isi, f_isiT, f_append, f_insert, f_pop, f_sl, f_set,
  kitS, tys, List.isEmpty_cons, Option.map_some, kt_NoneType_int, kt_NoneType_bool, kt_NoneType_str, kt_NoneType_list, kt_NoneType_tuple, kt_NoneType_dict, kt_int_int, kt_int_bool, kt_int_str, kt_int_list, kt_int_tuple, kt_int_dict, kt_bool_int, kt_bool_bool, kt_bool_str, kt_bool_list, kt_bool_tuple, kt_bool_dict, kt_str_int, kt_str_bool, kt_str_str, kt_str_list, kt_str_tuple, kt_str_dict, kt_list_int, kt_list_bool, kt_list_str, kt_list_list, kt_list_tuple, kt_list_dict, kt_tuple_int, kt_tuple_bool, kt_tuple_str, kt_tuple_list, kt_tuple_tuple, kt_tuple_dict, kt_dict_int, kt_dict_bool, kt_dict_str, kt_dict_list, kt_dict_tuple, kt_dict_dict, asL_lst, asL_frz, asL_tup, asT_tup, asS_lst, asS_frz, asS_tup, tyN_non, tyN_bl, tyN_int, tyN_str, atV_lit, ixN_lit, upd_same, upd_ne, upd_ne',
  List.getElem?_cons_zero, List.getElem?_cons_succ, List.set_cons_zero, List.set_cons_succ, List.append_nil, List.length_cons, List.length_nil, Option.some.injEq, exists_eq_left', exists_eq_left, exists_and_left, V.bl.injEq, V.int.injEq, V.str.injEq, V.ref.injEq, Bool.not_eq_true, Bool.not_true, Bool.not_false, decide_true, decide_false, decide_eq_true_eq, decide_eq_false_iff_not, Bool.false_eq_true, if_true, if_false, ite_true, ite_false, reduceCtorEq, true_and, and_true, Nat.reduceAdd, Nat.reduceLT, Nat.zero_add, ne_eq, not_false_eq_true, not_true_eq_false, List.cons.injEq, and_assoc, *])
def sp_legs_of (K : PySem.W.Frag) (C : CA) : Sp := fun vs H Q E => ∃ n v d, vs = [v] ∧ Rp H n v d ∧ (planD d = false → ∀ e H', ErrAt H H' e [(("parameter" : Str), V.str ("plan" : Str))] → E (.ref C.BadShape) (some e) H') ∧
  ∀ zs, planZ zs → d = .tuple (zs.map PyData.str) → ∀ (o : Addr) (H' : Hp) (xs : List V), Sm H H' → H o = none → H' o = some (.lst xs) → All2 (NewRp 1000 H H' 1) xs ((tri zs).map legT) → Q (.ref o) H'
def rd_legs_of (K : PySem.W.Frag) (C : CA) (E : XK) : TS :=
  (tSeq (tDrop (tCallS (sp_check K C) (fun _ => E) (tCons (tCallS (sp_is_plan K C) (fun _ => E0) (tCons (tVar 0) tNil)) (tCons (tC (.str ("plan" : Str))) tNil)))) (tSeq (tAsg (tOp fAddT (tVar 0) (tTup (tCons (tC (.str ("-" : Str))) tNil))) (gName 1)) (tRet (tLc (iRng1 (tCons (tCB fLen (tCons (tVar 0) tNil)) tNil)) (gName 2) tYes (tTup (tCons (tVar 2) (tCons (tOp fIx (tVar 0) (tVar 2)) (tCons (tOp fIx (tVar 1) (tOp fAdd (tVar 2) (tC (.int 1)))) tNil)))) [2]))))
theorem pure_legs_of {K : PySem.W.Frag} {C : CA} (vs : List V) (H : Hp) (Q : VK) (E : XK) (h : sp_legs_of K C vs H Q E) : rd_legs_of K C E { nx := fun _ H' => Q .non H', rt := Q } (start [("plan" : Str), ("stops" : Str), ("day" : Str)] vs) H := by
  obtain ⟨n, v, d, rfl, r, qe, q⟩ := h
  show rd_legs_of K C E _ [some v, none, none] H
  unfold rd_legs_of
  refine q_drop ?_
  walk_at "s"
  refine ⟨n, v, d, rfl, r, fun H0 s0 => ⟨planD d, _, rfl, fun c => ?_, fun c e H' ne he s => qe c e H' ⟨sm_trans s0 s, he⟩⟩⟩
  obtain ⟨p, zs, rfl, hp, rfl, hz⟩ := rp_plan r c
  obtain ⟨l1, l2, hn⟩ := id hz
  have hl : ∀ z ∈ zs, z.length ≤ 1000 := fun z hm => Nat.le_trans (name_len (hn z hm)) (by decide)
  have hp := sm_T s0 hp
  refine q_asg ?_
  walk_at "s"
  refine ⟨by decide, fun pa na => al na fun H1 s1 h1 => ?_⟩
  have h1' : asT (H1 pa) = some [.str dashS] := by rw [h1]; rfl
  simp only [f_addT (sm_T s1 hp) h1']
  refine ⟨?_, by simp, by rw [List.length_map]; show zs.length + 1 ≤ 2 ^ 24; omega, fun pb nb => al nb fun H2 s2 h2 => ?_⟩
  · intro e
    rw [List.map_eq_nil_iff] at e
    rw [e] at l1
    simp at l1
  have s12 := sm_trans s1 s2
  have s02 := sm_trans s0 s12
  have h2T : asT (H2 pb) = some (zs.map V.str ++ [V.str dashS]) := by rw [h2]; rfl
  walk_at "s"
  rw [asS_of_T (sm_T s12 hp)]
  walk_at "s"
  rw [List.length_map]
  refine ⟨by omega, by omega, fun Dd hD => ?_⟩
  refine made_rpR (w := 1000) (ds := (tri zs).map legT) 1 hD (by rw [List.length_map, tri_len]; omega) (by rw [List.length_map, tri_len]; omega) (fun _ => rfl) (fun i d H3 Q3 hi hd s3 q3 => ?_) fun H3 acc s3 h3 aa => ?_
  · have hi' : i < zs.length := by omega
    have ez : zs[i]? = some zs[i] := by simp [hi']
    walk_at "s"
    rw [Int.zero_add]
    rw [asS_of_T (sm_T s3 (sm_T s12 hp))]
    walk_at "s"
    refine at_nat (v := .str zs[i]) ?_ ?_
    · rw [List.getElem?_map, ez]
      rfl
    rw [asS_of_T (sm_T s3 h2T)]
    walk_at "s"
    have e1 : ((i : Nat) : Int) + 1 = ((i + 1 : Nat) : Int) := by omega
    rw [e1]
    refine at_nat (stop_at hi') ⟨by decide, ?_⟩
    exact leg_made (by decide) hl ez hd q3
  · refine q zs hz rfl _ _ _ (sm_trans s02 s3) (sm_none s02 hD) h3 (aa.imp fun v d z => z.from s02)
def sp_are_plan_legs (K : PySem.W.Frag) (C : CA) : Sp := fun vs H Q _ => ∃ n v d, vs = [v] ∧ Rp H n v d ∧ ∀ (b : Bool) (H' : Hp), Sm H H' → (b = true ↔ LegsP d) → Q (.bl b) H'
def rd_are_plan_legs (K : PySem.W.Frag) (C : CA) (E : XK) : TS :=
  (tSeq (tIfS (tOr (tNot (tB (tCB fIsi (tCons (tVar 0) (tCons (tC (.ty "list")) tNil))))) (tNot (tB (tCB fAll (tCons (tLc (iList K (tVar 0)) (gName 2) tYes (tCallS (sp_is_leg K C) (fun _ => E0) (tCons (tVar 2) tNil)) [2]) tNil))))) (tRet (tC (.bl false))) tNext) (tSeq (tAsg (tCB fTuple (tCons (tLc (iList K (tVar 0)) (gName 2) tYes (tOp fIx (tVar 2) (tC (.int 1))) [2]) tNil)) (gName 1)) (tRet (tAndV (tCallS (sp_is_plan K C) (fun _ => E0) (tCons (tVar 1) tNil)) (tOp (fEq K) (tCallS (sp_legs_of K C) (fun _ => E) (tCons (tVar 1) tNil)) (tVar 0))))))
theorem pure_are_plan_legs {K : PySem.W.Frag} {C : CA} (vs : List V) (H : Hp) (Q : VK) (E : XK) (h : sp_are_plan_legs K C vs H Q E) : rd_are_plan_legs K C E { nx := fun _ H' => Q .non H', rt := Q } (start [("value" : Str), ("plan" : Str), ("leg" : Str)] vs) H := by
  obtain ⟨n, v, d, rfl, r, q⟩ := h
  show rd_are_plan_legs K C E _ [some v, none, none] H
  unfold rd_are_plan_legs
  refine q_if ?_
  have no : (¬ LegsP d) → ∀ H', Sm H H' → Q (.bl false) H' := fun e H' s => q false H' s ⟨fun z => (by cases z), fun z => absurd z e⟩
  have q0 := fun e => no e H fun _ _ z => z
  rcases rp_flat_or r with (⟨rfl, rfl⟩ | ⟨b, rfl, rfl⟩ | ⟨i, rfl, rfl⟩ | ⟨z, ⟨rfl, lz⟩, rfl⟩) | ⟨k, p, xs, ds, _, e1, e2, e3, lx, a⟩ | ⟨k, p, xs, ds, _, rfl, e, rfl, _⟩ | ⟨k, p, _, rfl, e, rfl⟩
  · walk_at "s"; exact q0 fun ⟨_, _, e⟩ => (by cases e)
  · walk_at "s"; exact q0 fun ⟨_, _, e⟩ => (by cases e)
  · walk_at "s"; exact q0 fun ⟨_, _, e⟩ => (by cases e)
  · walk_at "s"; exact q0 fun ⟨_, _, e⟩ => (by cases e)
  · subst e1 e3
    walk_at "s"
    rw [lst_ty e2]
    walk_at "s"
    rw [u_list]
    walk_at "s"
    have l1 := a.1
    refine ⟨⟨_, asL_seq e2⟩, fun Dd hD => ?_⟩
    refine made_mapD (ds := ds) (fun d => .bl (legD d)) e2 hD a.1 (by show _ < 2 ^ 24; omega) (fun _ => rfl) (fun i x d H1 Q1 hx hd s1 q1 => ?_) fun H1 s1 h1 => ?_
    · walk_at "s"
      exact ⟨k, x, d, rfl, (a.2 i x d hx hd).mono s1, q1⟩
    rw [h1]
    walk_at "s"
    refine ⟨ds.map legD, by rw [List.map_map]; rfl, ?_⟩
    by_cases c : ds.all legD = true
    · have c2 : (ds.map legD).all id = true := by rw [List.all_map]; exact c
      obtain ⟨ts, rfl, ot⟩ := all_tri c
      simp only [c2, Bool.not_true, Bool.false_eq_true, if_false]
      refine q_asg ?_
      walk_at "s"
      rw [u_list]
      walk_at "s"
      have e21 := sm_L s1 e2
      refine ⟨⟨_, asL_seq e21⟩, fun D2 hD2 => ?_⟩
      refine made_mapD (ds := ts.map legT) (fun d => match d with
        | .tuple [_, .str b, _] => .str b
        | _ => .non) e21 hD2 a.1 (by show _ < 2 ^ 24; omega) (fun _ => rfl) (fun i x d H2 Q2 hx hd s2 q2 => ?_) fun H2 s2 h2 => ?_
      · walk_at "s"
        rw [List.getElem?_map] at hd
        cases et : ts[i]? with
        | none => rw [et] at hd; cases hd
        | some t =>
          rw [et] at hd
          cases hd
          obtain ⟨pl, rfl, hpl⟩ := rp_leg (t := t) ((a.2 i x _ hx (by rw [List.getElem?_map, et]; rfl)).mono (sm_trans s1 s2))
          walk_at "s"
          rw [asS_of_T hpl]
          walk_at "s"
          exact q2 _ fun _ _ z => z
      have h2' : H2 D2 = some (.lst ((ts.map fun t => t.2.1).map V.str)) := by
        rw [h2, List.map_map, List.map_map]
        rfl
      rw [h2']
      walk_at "s"
      refine fun pt nt => al nt fun H3 s3 h3 => ?_
      walk_at "s"
      have s13 := sm_trans s2 s3
      have s03 := sm_trans s1 s13
      have rt : Rp H3 1 (.ref pt) (.tuple ((ts.map fun t => t.2.1).map PyData.str)) := by
        refine .inr (.inr (.inl ⟨pt, _, _, rfl, by rw [h3]; rfl, rfl, ?_, ⟨by simp, fun i x d hx hd => ?_⟩⟩))
        · rw [List.length_map, List.length_map]
          rw [List.length_map] at l1
          omega
        · rw [List.getElem?_map] at hx hd
          cases ez : (ts.map fun t => t.2.1)[i]? with
          | none => rw [ez] at hx; cases hx
          | some z =>
            rw [ez] at hx hd
            cases hx
            cases hd
            obtain ⟨t, ht, rfl⟩ := List.mem_map.1 (List.mem_of_getElem? ez)
            exact flat_txt (Nat.le_trans (name_len (ot t ht).1) (by decide))
      refine ⟨1, _, _, rfl, rt, fun H4 s4 => ?_⟩
      have s04 := sm_trans s03 s4
      walk_at "s"
      by_cases c3 : planD (.tuple ((ts.map fun t => t.2.1).map PyData.str)) = true
      · rw [c3]
        simp only [if_true]
        refine ⟨1, _, _, rfl, rt.mono s4, fun e => absurd c3 (by rw [e]; decide), fun zs hz e o H5 ys s5 no5 h5 ay => ?_⟩
        injection e with e
        have ez : zs = ts.map fun t => t.2.1 := (List.map_inj_right (by intro x y h; injection h)).1 e.symm
        subst ez
        walk_at "s"
        have s05 := sm_trans s04 s5
        show rEqD K (.ref o) (.ref p) H5 _
        have a5 : All2 (Rp H5 k) xs (ts.map legT) := a.imp fun v d z => z.mono s05
        refine ⟨_, _, .lst (asL_seq (asL_at h5)) (dp_legs (ay.imp fun v d z => z.rp)), .lst (asL_seq (sm_L s05 e2)) (dp_legs a5), shaped_tri (tri_ok hz), shaped_tri ot, ?_⟩
        refine q _ H5 s05 ?_
        show PyData.eqvAll _ _ = true ↔ _
        rw [eqvAll_tri, legsP_tri]
        exact ⟨fun e => ⟨hz, e⟩, fun e => e.2⟩
      · have c4 : planD (.tuple ((ts.map fun t => t.2.1).map PyData.str)) = false := by simpa using c3
        rw [c4]
        simp only [Bool.false_eq_true, if_false]
        refine no ?_ _ s04
        rw [legsP_tri]
        rintro ⟨hz, _⟩
        exact c3 (plan_names.2 hz)
    · have c2 : (ds.map legD).all id = false := by
        rw [List.all_map]
        simpa using c
      simp only [c2, Bool.not_false, if_true]
      walk_at "s"
      refine no ?_ H1 s1
      rintro ⟨zs, hz, e⟩
      injection e with e
      refine c ?_
      rw [e, List.all_eq_true]
      intro d hd
      obtain ⟨t, ht, rfl⟩ := List.mem_map.1 hd
      exact legD_of (tri_ok hz t ht)
  · walk_at "s"; rw [tup_ty e]; walk_at "s"; exact q0 fun ⟨_, _, e⟩ => (by cases e)
  · walk_at "s"; rw [tyN_dK e]; walk_at "s"; exact q0 fun ⟨_, _, e⟩ => (by cases e)
def sp_plan_of (K : PySem.W.Frag) (C : CA) : Sp := fun vs H Q E => ∃ n v d, vs = [v] ∧ Rp H n v d ∧ (¬ LegsP d → ∀ e H', ErrAt H H' e [(("parameter" : Str), V.str ("legs" : Str))] → E (.ref C.BadShape) (some e) H') ∧
  ∀ zs, planZ zs → d = .list ((tri zs).map legT) → ∀ (o : Addr) (H' : Hp), Sm H H' → H o = none → H' o = some (.tup (zs.map V.str)) → Q (.ref o) H'
def rd_plan_of (K : PySem.W.Frag) (C : CA) (E : XK) : TS :=
  (tSeq (tDrop (tCallS (sp_check K C) (fun _ => E) (tCons (tCallS (sp_are_plan_legs K C) (fun _ => E) (tCons (tVar 0) tNil)) (tCons (tC (.str ("legs" : Str))) tNil)))) (tRet (tCB fTuple (tCons (tLc (iList K (tVar 0)) (gName 1) tYes (tOp fIx (tVar 1) (tC (.int 1))) [1]) tNil))))
theorem pure_plan_of {K : PySem.W.Frag} {C : CA} (vs : List V) (H : Hp) (Q : VK) (E : XK) (h : sp_plan_of K C vs H Q E) : rd_plan_of K C E { nx := fun _ H' => Q .non H', rt := Q } (start [("legs" : Str), ("leg" : Str)] vs) H := by
  obtain ⟨n, v, d, rfl, r, qe, q⟩ := h
  show rd_plan_of K C E _ [some v, none] H
  unfold rd_plan_of
  refine q_drop ?_
  walk_at "s"
  refine ⟨n, v, d, rfl, r, fun b H0 s0 hb => ⟨b, _, rfl, fun c => ?_, fun c e H' ne he s => qe (fun z => by rw [hb.2 z] at c; cases c) e H' ⟨sm_trans s0 s, he⟩⟩⟩
  obtain ⟨zs, hz, rfl⟩ := hb.1 c
  rcases rp_flat_or r with (⟨_, e⟩ | ⟨b, _, e⟩ | ⟨i, _, e⟩ | ⟨z, _, e⟩) | ⟨k, p, xs, ds, _, e1, e2, e3, lx, a⟩ | ⟨j, p, xs, ds, _, e1, e2, e3, _⟩ | ⟨k, p, _, _, _, e⟩
  · cases e
  · cases e
  · cases e
  · cases e
  · injection e3 with e3
    subst e1 e3
    walk_at "s"
    rw [u_list]
    walk_at "s"
    have e20 := sm_L s0 e2
    refine ⟨⟨_, asL_seq e20⟩, fun D2 hD2 => ?_⟩
    have l1 := a.1
    refine made_mapD (ds := (tri zs).map legT) (fun d => match d with
      | .tuple [_, .str b, _] => .str b
      | _ => .non) e20 hD2 a.1 (by show _ < 2 ^ 24; omega) (fun _ => rfl) (fun i x d H2 Q2 hx hd s2 q2 => ?_) fun H2 s2 h2 => ?_
    · walk_at "s"
      rw [List.getElem?_map] at hd
      cases et : (tri zs)[i]? with
      | none => rw [et] at hd; cases hd
      | some t =>
        rw [et] at hd
        cases hd
        obtain ⟨pl, rfl, hpl⟩ := rp_leg (t := t) ((a.2 i x _ hx (by rw [List.getElem?_map, et]; rfl)).mono (sm_trans s0 s2))
        walk_at "s"
        rw [asS_of_T hpl]
        walk_at "s"
        exact q2 _ fun _ _ z => z
    have h2' : H2 D2 = some (.lst (zs.map V.str)) := by
      rw [h2, List.map_map]
      show _ = some (HO.lst (zs.map V.str))
      have e : zs.map V.str = ((tri zs).map fun t => t.2.1).map V.str := by rw [tri_names]
      rw [e, List.map_map]
      rfl
    rw [h2']
    walk_at "s"
    exact fun pt nt => al nt fun H3 s3 h3 => q zs hz rfl pt H3 (sm_trans s0 (sm_trans s2 s3)) (sm_none (sm_trans s0 s2) nt) h3
  · cases e3
  · cases e
end XB

/-! Legs of a plan, as the law asks. -/
namespace XB
open PySem L2
local macro_rules | `(tactic| walk_at "s") => `(tactic| try simp only [u_var, u_c, u_op, u_un, u_nil, u_cons, u_cb, u_call, u_callS, u_tup, u_lst, u_test, u_B, u_and, u_or, u_not, u_andV, u_orV, u_notV, u_ifE, u_chain, u_sl, u_noPart, u_part, u_bm, u_bm0, u_rev, u_lc, u_try, u_sui, u_sui0, u_unb_rt, u_unb_nx, u_xf, u_WE, w_nil, w_cons, u_raise, u_rng1, u_rng2, u_next, u_ret, u_gname, u_gnil, u_gcons, u_gsub, u_gtup,
  f_add, f_addS, f_addR, f_sub, f_mul, f_mulR, f_mod, f_div, f_pow, f_neg, f_cmp, f_eq, f_eqB, f_eqS, f_ne, f_neB, f_neS, f_isN, f_notN, f_isB, f_ix, f_ixS, f_int, f_intB, f_len, f_lenS, f_max, f_min, f_abs, f_list, f_tuple, f_all, f_sum, f_isi, f_isiT, f_append, f_insert, f_pop, f_sl, f_set,
  kitS, tys, List.isEmpty_cons, Option.map_some, kt_NoneType_int, kt_NoneType_bool, kt_NoneType_str, kt_NoneType_list, kt_NoneType_tuple, kt_NoneType_dict, kt_int_int, kt_int_bool, kt_int_str, kt_int_list, kt_int_tuple, kt_int_dict, kt_bool_int, kt_bool_bool, kt_bool_str, kt_bool_list, kt_bool_tuple, kt_bool_dict, kt_str_int, kt_str_bool, kt_str_str, kt_str_list, kt_str_tuple, kt_str_dict, kt_list_int, kt_list_bool, kt_list_str, kt_list_list, kt_list_tuple, kt_list_dict, kt_tuple_int, kt_tuple_bool, kt_tuple_str, kt_tuple_list, kt_tuple_tuple, kt_tuple_dict, kt_dict_int, kt_dict_bool, kt_dict_str, kt_dict_list, kt_dict_tuple, kt_dict_dict, asL_lst, asL_frz, asL_tup, asT_tup, asS_lst, asS_frz, asS_tup, tyN_non, tyN_bl, tyN_int, tyN_str, atV_lit, ixN_lit, upd_same, upd_ne, upd_ne',
  List.getElem?_cons_zero, List.getElem?_cons_succ, List.set_cons_zero, List.set_cons_succ, List.append_nil, List.length_cons, List.length_nil, Option.some.injEq, exists_eq_left', exists_eq_left, exists_and_left, V.bl.injEq, V.int.injEq, V.str.injEq, V.ref.injEq, Bool.not_eq_true, Bool.not_true, Bool.not_false, decide_true, decide_false, decide_eq_true_eq, decide_eq_false_iff_not, Bool.false_eq_true, if_true, if_false, ite_true, ite_false, reduceCtorEq, true_and, and_true, Nat.reduceAdd, Nat.reduceLT, Nat.zero_add, ne_eq, not_false_eq_true, not_true_eq_false, List.cons.injEq, and_assoc])
local macro_rules | `(tactic| walk_at "S") => `(tactic| try simp only [u_var, u_c, u_op, u_un, u_nil, u_cons, u_cb, u_call, u_callS, u_tup, u_lst, u_test, u_B, u_and, u_or, u_not, u_andV, u_orV, u_notV, u_ifE, u_chain, u_sl, u_noPart, u_part, u_bm, u_bm0, u_rev, u_lc, u_try, u_sui, u_sui0, u_unb_rt, u_unb_nx, u_xf, u_WE, w_nil, w_cons, u_raise, u_rng1, u_rng2, u_next, u_ret, u_gname, u_gnil, u_gcons, u_gsub, u_gtup,
  f_add, f_addS, f_addR, f_sub, f_mul, f_mulR, f_mod, f_div, f_pow, f_neg, f_cmp, f_eq, f_eqB, f_eqS, f_ne, f_neB, f_neS, f_isN, f_notN, f_isB, f_ix, f_ixS, f_int, f_intB, f_len, f_lenS, f_max, f_min, f_abs, f_list, f_tuple, f_all, f_sum, f_isi, f_isiT, f_append, f_insert, f_pop, f_sl, f_set,
  kitS, tys, List.isEmpty_cons, Option.map_some, kt_NoneType_int, kt_NoneType_bool, kt_NoneType_str, kt_NoneType_list, kt_NoneType_tuple, kt_NoneType_dict, kt_int_int, kt_int_bool, kt_int_str, kt_int_list, kt_int_tuple, kt_int_dict, kt_bool_int, kt_bool_bool, kt_bool_str, kt_bool_list, kt_bool_tuple, kt_bool_dict, kt_str_int, kt_str_bool, kt_str_str, kt_str_list, kt_str_tuple, kt_str_dict, kt_list_int, kt_list_bool, kt_list_str, kt_list_list, kt_list_tuple, kt_list_dict, kt_tuple_int, kt_tuple_bool, kt_tuple_str, kt_tuple_list, kt_tuple_tuple, kt_tuple_dict, kt_dict_int, kt_dict_bool, kt_dict_str, kt_dict_list, kt_dict_tuple, kt_dict_dict, asL_lst, asL_frz, asL_tup, asT_tup, asS_lst, asS_frz, asS_tup, tyN_non, tyN_bl, tyN_int, tyN_str, atV_lit, ixN_lit, upd_same, upd_ne, upd_ne',
  List.getElem?_cons_zero, List.getElem?_cons_succ, List.set_cons_zero, List.set_cons_succ, List.append_nil, List.length_cons, List.length_nil, Option.some.injEq, exists_eq_left', exists_eq_left, exists_and_left, V.bl.injEq, V.int.injEq, V.str.injEq, V.ref.injEq, Bool.not_eq_true, Bool.not_true, Bool.not_false, decide_true, decide_false, decide_eq_true_eq, decide_eq_false_iff_not, Bool.false_eq_true, if_true, if_false, ite_true, ite_false, reduceCtorEq, true_and, and_true, Nat.reduceAdd, Nat.reduceLT, Nat.zero_add, ne_eq, not_false_eq_true, not_true_eq_false, List.cons.injEq, and_assoc, *])
theorem legs_at {zs : List Str} {ds : List PyData} {i : Nat} {d : PyData} (e : ds = (tri zs).map legT) (hd : ds[i]? = some d) : ∃ z, zs[i]? = some z ∧ d = legT ((i : Int), z, nextS zs i) := by
  subst e
  rw [List.getElem?_map] at hd
  cases et : (tri zs)[i]? with
  | none => rw [et] at hd; cases hd
  | some t =>
    rw [et] at hd
    cases hd
    have hi := (List.getElem?_eq_some_iff.mp et).1
    rw [tri_len] at hi
    have ez : zs[i]? = some zs[i] := by simp [hi]
    rw [tri_at ez] at et
    cases et
    exact ⟨_, ez, rfl⟩
theorem legs_last {ts : List Tri} {t : Tri} (hl : ts[ts.length - 1]? = some t) (h1 : ∀ t ∈ ts, okT t) (h2 : ∀ (j : Nat) (t : Tri), ts[j]? = some t → t.1 = (j : Int)) (h3 : ∀ (j : Nat) (t u : Tri), ts[j]? = some t → ts[j + 1]? = some u → u.2.1 = t.2.2) :
    t.2.2 = dashS ↔ LegsP (.list (ts.map legT)) := by
  have hlt := (List.getElem?_eq_some_iff.mp hl).1
  have hb : (ts.map fun t => t.2.1).length = ts.length := List.length_map _
  rw [legsP_tri]
  constructor
  · intro e
    have ht := h1 t (List.mem_of_getElem? hl)
    have hi := h2 _ t hl
    have h6 : t.1 ≤ 6 := by
      rcases ht.2 with ⟨_, _, h⟩ | ⟨_, _, h⟩ <;> omega
    refine ⟨⟨by rw [hb]; omega, by rw [hb]; omega, fun z hz => ?_⟩, ?_⟩
    · obtain ⟨u, hu, rfl⟩ := List.mem_map.1 hz
      exact (h1 u hu).1
    · apply List.ext_getElem?
      intro i
      cases ei : ts[i]? with
      | none =>
        have := List.getElem?_eq_none_iff.mp ei
        exact List.getElem?_eq_none_iff.mpr (by rw [tri_len, hb]; exact this)
      | some u =>
        have eb : (ts.map fun t => t.2.1)[i]? = some u.2.1 := by rw [List.getElem?_map, ei]; rfl
        rw [tri_at eb]
        have hlti := (List.getElem?_eq_some_iff.mp ei).1
        have en : nextS (ts.map fun t => t.2.1) i = u.2.2 := by
          by_cases c : i + 1 < ts.length
          · have e1 : ts[i + 1]? = some ts[i + 1] := by simp [c]
            rw [next_some (z := ts[i + 1].2.1) (by rw [List.getElem?_map, e1]; rfl)]
            exact h3 i u _ ei e1
          · rw [next_none (by rw [hb]; omega)]
            have e1 : i = ts.length - 1 := by omega
            rw [e1, hl] at ei
            cases ei
            exact e.symm
        rw [en, ← h2 i u ei]
  · rintro ⟨_, e⟩
    have hl : (tri (ts.map fun t => t.2.1))[ts.length - 1]? = some t := by rw [e]; exact hl
    have eb : (ts.map fun t => t.2.1)[ts.length - 1]? = some ((ts.map fun t => t.2.1)[ts.length - 1]'(by rw [hb]; omega)) := List.getElem?_eq_getElem _
    rw [tri_at eb] at hl
    cases hl
    exact next_none (by rw [hb]; omega)
theorem neg_one {K : PySem.W.Frag} {H : Hp} {Q : VK} : fNeg (.int 1) H Q = Q (.int (-1)) H := rfl
def sp_l_is_legs (K : PySem.W.Frag) (C : CA) : Sp := fun vs H Q _ => ∃ n v d, vs = [v] ∧ Rp H n v d ∧ ∀ (b : Bool) (H' : Hp), Sm H H' → (b = true ↔ LegsP d) → Q (.bl b) H'
def rd_l_is_legs (K : PySem.W.Frag) (C : CA) (E : XK) : TS :=
  (tSeq (tIfS (tOr (tNot (tB (tCB fIsi (tCons (tVar 0) (tCons (tC (.ty "list")) tNil))))) (tTest (tOp (fEq K) (tCB fLen (tCons (tVar 0) tNil)) (tC (.int 0))))) (tRet (tC (.bl false))) tNext) (tSeq (tFor (iRng1 (tCons (tCB fLen (tCons (tVar 0) tNil)) tNil)) (gName 1) (tSeq (tIfS (tOr (tNot (tB (tCallS (sp_l_is_leg K C) (fun _ => E0) (tCons (tOp fIx (tVar 0) (tVar 1)) tNil)))) (tTest (tOp (fNe K) (tOp fIx (tOp fIx (tVar 0) (tVar 1)) (tC (.int 0))) (tVar 1)))) (tRet (tC (.bl false))) tNext) (tIfS (tAnd (tTest (tOp fGt (tVar 1) (tC (.int 0)))) (tTest (tOp (fNe K) (tOp fIx (tOp fIx (tVar 0) (tVar 1)) (tC (.int 1))) (tOp fIx (tOp fIx (tVar 0) (tOp fSub (tVar 1) (tC (.int 1)))) (tC (.int 2)))))) (tRet (tC (.bl false))) tNext))) (tRet (tOp (fEq K) (tOp fIx (tOp fIx (tVar 0) (tUn fNeg (tC (.int 1)))) (tC (.int 2))) (tC (.str ("-" : Str)))))))
theorem pure_l_is_legs {K : PySem.W.Frag} {C : CA} (vs : List V) (H : Hp) (Q : VK) (E : XK) (h : sp_l_is_legs K C vs H Q E) : rd_l_is_legs K C E { nx := fun _ H' => Q .non H', rt := Q } (start [("value" : Str), ("k" : Str)] vs) H := by
  obtain ⟨n, v, d, rfl, r, q⟩ := h
  show rd_l_is_legs K C E _ [some v, none] H
  unfold rd_l_is_legs
  refine q_if ?_
  have no : (¬ LegsP d) → ∀ H', Sm H H' → Q (.bl false) H' := fun e H' s => q false H' s ⟨fun z => (by cases z), fun z => absurd z e⟩
  have q0 := fun e => no e H fun _ _ z => z
  rcases rp_flat_or r with (⟨rfl, rfl⟩ | ⟨b, rfl, rfl⟩ | ⟨i, rfl, rfl⟩ | ⟨z, ⟨rfl, lz⟩, rfl⟩) | ⟨k, p, xs, ds, _, e1, e2, e3, lx, a⟩ | ⟨k, p, xs, ds, _, rfl, e, rfl, _⟩ | ⟨k, p, _, rfl, e, rfl⟩
  · walk_at "s"; exact q0 fun ⟨_, _, e⟩ => (by cases e)
  · walk_at "s"; exact q0 fun ⟨_, _, e⟩ => (by cases e)
  · walk_at "s"; exact q0 fun ⟨_, _, e⟩ => (by cases e)
  · walk_at "s"; exact q0 fun ⟨_, _, e⟩ => (by cases e)
  · subst e1 e3
    walk_at "s"
    rw [lst_ty e2]
    walk_at "s"
    rw [asS_of_L e2]
    walk_at "s"
    have l1 := a.1
    refine ite2 (fun c1 => ?_) fun c1 => ?_
    · refine q0 ?_
      rintro ⟨zs, hz, e⟩
      injection e with e
      have := hz.1
      rw [e, List.length_map, tri_len] at l1
      omega
    · refine q_for ?_
      walk_at "s"
      rw [asS_of_L e2]
      walk_at "s"
      refine ⟨by omega, by omega, ?_⟩
      refine loop_range (fun i σ H2 => ∃ (w : Option V) (ts : List Tri), σ = [some (.ref p), w] ∧ Sm H H2 ∧ ds.take i = ts.map legT ∧ (∀ t ∈ ts, okT t) ∧ (∀ (j : Nat) (t : Tri), ts[j]? = some t → t.1 = (j : Int)) ∧ (∀ (j : Nat) (t u : Tri), ts[j]? = some t → ts[j + 1]? = some u → u.2.1 = t.2.2))
        ⟨_, [], rfl, fun _ _ z => z, rfl, by simp, by simp, by simp⟩ ?_ ?_
      · rintro i σ H2 hi ⟨w, ts, rfl, s2, et, h1, h2, h3⟩
        have hx : i < xs.length := by omega
        have hdl : i < ds.length := by omega
        have hxi : xs[i]? = some xs[i] := by simp [hx]
        have hdi : ds[i]? = some ds[i] := by simp [hdl]
        have tl : ts.length = i := by
          have e := congrArg List.length et
          rw [List.length_take, List.length_map] at e
          omega
        generalize ds[i] = d at hdi
        generalize xs[i] = x at hxi
        have rx : Rp H k x d := a.2 i x d hxi hdi
        walk_at "s"
        rw [Int.zero_add]
        refine q_if ?_
        walk_at "s"
        rw [asS_of_L (sm_L s2 e2)]
        walk_at "s"
        refine at_nat hxi ⟨k, x, d, rfl, rx.mono s2, fun H3 s3 => ?_⟩
        have s03 := sm_trans s2 s3
        walk_at "s"
        by_cases c : legD d = true
        · obtain ⟨t, rfl, ot⟩ := legD_tri c
          rw [c]
          simp only [Bool.not_true, Bool.false_eq_true, if_false]
          rw [asS_of_L (sm_L s03 e2)]
          walk_at "s"
          refine at_nat hxi ?_
          obtain ⟨pl, rfl, hpl⟩ := rp_leg (rx.mono s03)
          walk_at "s"
          rw [asS_of_T hpl]
          walk_at "s"
          by_cases c2 : t.1 = (i : Int)
          · simp only [c2, decide_true, Bool.not_true, Bool.false_eq_true, if_false]
            refine q_if1 ?_
            walk_at "s"
            have next : (∀ u, ts[i - 1]? = some u → 0 < i → t.2.1 = u.2.2) → ∃ (w : Option V) (ts' : List Tri), w = some (V.int (i : Nat)) ∧ ds.take (i + 1) = ts'.map legT ∧ (∀ t ∈ ts', okT t) ∧ (∀ (j : Nat) (t : Tri), ts'[j]? = some t → t.1 = (j : Int)) ∧ (∀ (j : Nat) (t u : Tri), ts'[j]? = some t → ts'[j + 1]? = some u → u.2.1 = t.2.2) := by
              intro hp
              refine ⟨_, ts ++ [t], rfl, by rw [take_snoc hdi, et, List.map_append]; rfl, ?_, ?_, ?_⟩
              · intro u hu
                rcases List.mem_append.1 hu with hu | hu
                · exact h1 u hu
                · rw [List.mem_singleton] at hu
                  rw [hu]
                  exact ot
              · intro j u hu
                by_cases cj : j < ts.length
                · rw [List.getElem?_append_left cj] at hu
                  exact h2 j u hu
                · rw [List.getElem?_append_right (by omega)] at hu
                  have hj : j - ts.length = 0 := by
                    have := (List.getElem?_eq_some_iff.mp hu).1
                    simp at this
                    omega
                  rw [hj] at hu
                  cases hu
                  rw [c2]
                  omega
              · intro j u v hu hv
                by_cases cj : j + 1 < ts.length
                · rw [List.getElem?_append_left (by omega)] at hu
                  rw [List.getElem?_append_left cj] at hv
                  exact h3 j u v hu hv
                · rw [List.getElem?_append_right (by omega)] at hv
                  have hj : j + 1 - ts.length = 0 := by
                    have := (List.getElem?_eq_some_iff.mp hv).1
                    simp at this
                    omega
                  rw [hj] at hv
                  cases hv
                  rw [List.getElem?_append_left (by omega)] at hu
                  have ej : j = i - 1 := by omega
                  rw [ej] at hu
                  exact hp u hu (by omega)
            by_cases c3 : (0 : Int) < (i : Nat)
            · simp only [c3, decide_true, if_true]
              rw [asS_of_L (sm_L s03 e2)]
              walk_at "s"
              refine at_nat hxi ?_
              walk_at "s"
              rw [asS_of_T hpl]
              walk_at "s"
              have e9 : ((i : Nat) : Int) - 1 = ((i - 1 : Nat) : Int) := by omega
              rw [e9, asS_of_L (sm_L s03 e2)]
              have hx1 : xs[i - 1]? = some (xs[i - 1]'(by omega)) := by
                have : i - 1 < xs.length := by omega
                simp [this]
              refine at_nat hx1 ?_
              have ht1 : ts[i - 1]? = some (ts[i - 1]'(by omega)) := by
                have : i - 1 < ts.length := by omega
                simp [this]
              have hd1 : ds[i - 1]? = some (legT (ts[i - 1]'(by omega))) := by
                have e := congrArg (fun l => l[i - 1]?) et
                simp only [List.getElem?_map, ht1] at e
                rw [List.getElem?_take, if_pos (by omega)] at e
                exact e
              obtain ⟨pk, ek, hpk⟩ := rp_leg ((a.2 (i - 1) _ _ hx1 hd1).mono s03)
              rw [ek]
              walk_at "s"
              rw [asS_of_T hpk]
              walk_at "s"
              by_cases c4 : t.2.1 = (ts[i - 1]'(by omega)).2.2
              · simp only [c4, decide_true, Bool.not_true, Bool.false_eq_true, if_false]
                obtain ⟨w, ts', ew, g1, g2, g3, g4⟩ := next fun u hu _ => by
                  rw [ht1] at hu
                  cases hu
                  exact c4
                walk_at "s"
                exact ⟨s03, ts', g1, g2, g3, g4⟩
              · simp only [c4, decide_false, Bool.not_false, if_true]
                walk_at "s"
                refine no ?_ H3 s03
                rintro ⟨zs, hz, e⟩
                injection e with e
                obtain ⟨z, ez, ed⟩ := legs_at e hdi
                obtain ⟨y, ey, ed1⟩ := legs_at e hd1
                have e5 := legT_inj ed
                have e6 := legT_inj ed1
                have e7 : t.2.1 = z := by rw [e5]
                have e8 : (ts[i - 1]'(by omega)).2.2 = nextS zs (i - 1) := congrArg (fun t : Tri => t.2.2) e6
                refine c4 (e7.trans (Eq.trans ?_ e8.symm))
                rw [next_some (z := z) (by rw [show i - 1 + 1 = i from by omega]; exact ez)]
            · simp only [c3, decide_false, Bool.false_eq_true, if_false]
              obtain ⟨w, ts', ew, g1, g2, g3, g4⟩ := next fun u hu h => absurd h (by omega)
              walk_at "s"
              exact ⟨s03, ts', g1, g2, g3, g4⟩
          · simp only [c2, decide_false, Bool.not_false, if_true]
            walk_at "s"
            refine no ?_ H3 s03
            rintro ⟨zs, hz, e⟩
            injection e with e
            obtain ⟨z, ez, ed⟩ := legs_at e hdi
            have e5 := legT_inj ed
            refine c2 ?_
            rw [e5]
        · have c : legD d = false := by simpa using c
          rw [c]
          simp only [Bool.not_false, if_true]
          walk_at "s"
          refine no ?_ H3 s03
          rintro ⟨zs, hz, e⟩
          injection e with e
          obtain ⟨z, ez, ed⟩ := legs_at e hdi
          have ok := tri_ok hz _ (List.mem_of_getElem? (tri_at ez))
          rw [ed, legD_of ok] at c
          cases c
      · rintro σ H2 ⟨w, ts, rfl, s2, et, h1, h2, h3⟩
        rw [show ((xs.length : Nat) : Int).toNat = ds.length from by omega, List.take_length] at et
        subst et
        rw [List.length_map] at l1
        have hts : ts[ts.length - 1]? = some (ts[ts.length - 1]'(by omega)) := by
          have : ts.length - 1 < ts.length := by omega
          simp [this]
        have hxl : xs[xs.length - 1]? = some (xs[xs.length - 1]'(by omega)) := by
          have : xs.length - 1 < xs.length := by omega
          simp [this]
        have rx := a.2 (xs.length - 1) _ (legT (ts[ts.length - 1]'(by omega))) hxl (by rw [List.getElem?_map, l1, hts]; rfl)
        obtain ⟨pk, ek, hpk⟩ := rp_leg (rx.mono s2)
        walk_at "s"
        rw [asS_of_L (sm_L s2 e2)]
        simp only [fNeg]
        refine at_last hxl ?_
        rw [ek]
        walk_at "s"
        rw [asS_of_T hpk]
        walk_at "s"
        refine q _ H2 s2 ?_
        rw [decide_eq_true_iff]
        exact legs_last hts h1 h2 h3
  · walk_at "s"; rw [tup_ty e]; walk_at "s"; exact q0 fun ⟨_, _, e⟩ => (by cases e)
  · walk_at "s"; rw [tyN_dK e]; walk_at "s"; exact q0 fun ⟨_, _, e⟩ => (by cases e)
end XB

/-! What is told, and asked. -/
namespace XB
open PySem L2
local macro_rules | `(tactic| walk_at "s") => `(tactic| try simp only [u_var, u_c, u_op, u_un, u_nil, u_cons, u_cb, u_call, u_callS, u_tup, u_lst, u_test, u_B, u_and, u_or, u_not, u_andV, u_orV, u_notV, u_ifE, u_chain, u_sl, u_noPart, u_part, u_bm, u_bm0, u_rev, u_lc, u_try, u_sui, u_sui0, u_unb_rt, u_unb_nx, u_xf, u_WE, w_nil, w_cons, u_raise, u_rng1, u_rng2, u_next, u_ret, u_gname, u_gnil, u_gcons, u_gsub, u_gtup,
  f_add, f_addS, f_addR, f_sub, f_mul, f_mulR, f_mod, f_div, f_pow, f_neg, f_cmp, f_eq, f_eqB, f_eqS, f_ne, f_neB, f_neS, f_isN, f_notN, f_isB, f_ix, f_ixS, f_int, f_intB, f_len, f_lenS, f_max, f_min, f_abs, f_list, f_tuple, f_all, f_sum, f_isi, f_isiT, f_append, f_insert, f_pop, f_sl, f_set,
  kitS, tys, List.isEmpty_cons, Option.map_some, kt_NoneType_int, kt_NoneType_bool, kt_NoneType_str, kt_NoneType_list, kt_NoneType_tuple, kt_NoneType_dict, kt_int_int, kt_int_bool, kt_int_str, kt_int_list, kt_int_tuple, kt_int_dict, kt_bool_int, kt_bool_bool, kt_bool_str, kt_bool_list, kt_bool_tuple, kt_bool_dict, kt_str_int, kt_str_bool, kt_str_str, kt_str_list, kt_str_tuple, kt_str_dict, kt_list_int, kt_list_bool, kt_list_str, kt_list_list, kt_list_tuple, kt_list_dict, kt_tuple_int, kt_tuple_bool, kt_tuple_str, kt_tuple_list, kt_tuple_tuple, kt_tuple_dict, kt_dict_int, kt_dict_bool, kt_dict_str, kt_dict_list, kt_dict_tuple, kt_dict_dict, asL_lst, asL_frz, asL_tup, asT_tup, asS_lst, asS_frz, asS_tup, tyN_non, tyN_bl, tyN_int, tyN_str, atV_lit, ixN_lit, upd_same, upd_ne, upd_ne',
  List.getElem?_cons_zero, List.getElem?_cons_succ, List.set_cons_zero, List.set_cons_succ, List.append_nil, List.length_cons, List.length_nil, Option.some.injEq, exists_eq_left', exists_eq_left, exists_and_left, V.bl.injEq, V.int.injEq, V.str.injEq, V.ref.injEq, Bool.not_eq_true, Bool.not_true, Bool.not_false, decide_true, decide_false, decide_eq_true_eq, decide_eq_false_iff_not, Bool.false_eq_true, if_true, if_false, ite_true, ite_false, reduceCtorEq, true_and, and_true, Nat.reduceAdd, Nat.reduceLT, Nat.zero_add, ne_eq, not_false_eq_true, not_true_eq_false, List.cons.injEq, and_assoc])
local macro_rules | `(tactic| walk_at "S") => `(tactic| try simp only [u_var, u_c, u_op, u_un, u_nil, u_cons, u_cb, u_call, u_callS, u_tup, u_lst, u_test, u_B, u_and, u_or, u_not, u_andV, u_orV, u_notV, u_ifE, u_chain, u_sl, u_noPart, u_part, u_bm, u_bm0, u_rev, u_lc, u_try, u_sui, u_sui0, u_unb_rt, u_unb_nx, u_xf, u_WE, w_nil, w_cons, u_raise, u_rng1, u_rng2, u_next, u_ret, u_gname, u_gnil, u_gcons, u_gsub, u_gtup,
  f_add, f_addS, f_addR, f_sub, f_mul, f_mulR, f_mod, f_div, f_pow, f_neg, f_cmp, f_eq, f_eqB, f_eqS, f_ne, f_neB, f_neS, f_isN, f_notN, f_isB, f_ix, f_ixS, f_int, f_intB, f_len, f_lenS, f_max, f_min, f_abs, f_list, f_tuple, f_all, f_sum, f_isi, f_isiT, f_append, f_insert, f_pop, f_sl, f_set,
  kitS, tys, List.isEmpty_cons, Option.map_some, kt_NoneType_int, kt_NoneType_bool, kt_NoneType_str, kt_NoneType_list, kt_NoneType_tuple, kt_NoneType_dict, kt_int_int, kt_int_bool, kt_int_str, kt_int_list, kt_int_tuple, kt_int_dict, kt_bool_int, kt_bool_bool, kt_bool_str, kt_bool_list, kt_bool_tuple, kt_bool_dict, kt_str_int, kt_str_bool, kt_str_str, kt_str_list, kt_str_tuple, kt_str_dict, kt_list_int, kt_list_bool, kt_list_str, kt_list_list, kt_list_tuple, kt_list_dict, kt_tuple_int, kt_tuple_bool, kt_tuple_str, kt_tuple_list, kt_tuple_tuple, kt_tuple_dict, kt_dict_int, kt_dict_bool, kt_dict_str, kt_dict_list, kt_dict_tuple, kt_dict_dict, asL_lst, asL_frz, asL_tup, asT_tup, asS_lst, asS_frz, asS_tup, tyN_non, tyN_bl, tyN_int, tyN_str, atV_lit, ixN_lit, upd_same, upd_ne, upd_ne',
  List.getElem?_cons_zero, List.getElem?_cons_succ, List.set_cons_zero, List.set_cons_succ, List.append_nil, List.length_cons, List.length_nil, Option.some.injEq, exists_eq_left', exists_eq_left, exists_and_left, V.bl.injEq, V.int.injEq, V.str.injEq, V.ref.injEq, Bool.not_eq_true, Bool.not_true, Bool.not_false, decide_true, decide_false, decide_eq_true_eq, decide_eq_false_iff_not, Bool.false_eq_true, if_true, if_false, ite_true, ite_false, reduceCtorEq, true_and, and_true, Nat.reduceAdd, Nat.reduceLT, Nat.zero_add, ne_eq, not_false_eq_true, not_true_eq_false, List.cons.injEq, and_assoc, *])
/-- what the errors' classes are to each other -/
structure EF (K : PySem.W.Frag) (C : CA) : Prop where
  x_bb : PySem.W.exmOne K (.ref C.BadShape) (.ref C.BadShape) = some true
  k_bc : PySem.W.kitOne K (.ref C.BadShape) (.ref C.CrossError) = some true
  a_b : PySem.W.kitAny K (.ref C.BadShape) [.ref C.BadText, .ref C.BadErrand] = some false
theorem lk1 {f : Str} {v : V} {r : List (Str × V)} : ((f, v) :: r).lookup f = some v := by simp [List.lookup]
theorem RpM.ups {m : Nat} {H : Hp} {n k : Nat} {v : V} {d : PyData} (hk : n ≤ k) (h : RpM m H n v d) : RpM m H k v d := by
  induction hk with
  | refl => exact h
  | step _ ih => exact ih.up
theorem NewRp.ups {m : Nat} {H H' : Hp} {n k : Nat} {v : V} {d : PyData} (hk : n ≤ k) (h : NewRp m H H' n v d) : NewRp m H H' k v d := fun H'' z => (h H'' z).ups hk
/-- what the law expects of plan_of -/
def DueP (d e : PyData) : Prop := (∃ zs, planZ zs ∧ d = .list ((tri zs).map legT) ∧ e = .list [.tuple (zs.map PyData.str)]) ∨ (¬ LegsP d ∧ e = .list [.str ("legs" : Str), .bool true])
/-- .. of legs_of -/
def DueL (d e : PyData) : Prop := (∃ zs, planZ zs ∧ d = .tuple (zs.map PyData.str) ∧ e = .list [.list ((tri zs).map legT)]) ∨ (planD d = false ∧ e = .list [.str ("plan" : Str), .bool true])
/-- a new list that may be spoilt -/
def Spoils (H H' : Hp) (t : Addr) : Prop := (∃ xs, H t = none ∧ H' t = some (.lst xs) ∧ xs.length ≤ 1000 ∧ ∀ x ∈ xs, TF H' x) ∨
  ∃ p ys, H t = none ∧ H p = none ∧ p ≠ t ∧ H' t = some (.lst [.ref p]) ∧ H' p = some (.lst ys) ∧ ys.length ≤ 1000 ∧ ∀ x ∈ ys, TF H' x
theorem Spoils.sm {H H' H2 : Hp} {t : Addr} (h : Spoils H H' t) (s : Sm H' H2) : Spoils H H2 t := by
  rcases h with ⟨xs, h1, h2, h3, h4⟩ | ⟨p, ys, h1, h2, h3, h4, h5, h6, h7⟩
  · exact .inl ⟨xs, h1, s _ _ h2, h3, fun x hx => (h4 x hx).mono s⟩
  · exact .inr ⟨p, ys, h1, h2, h3, s _ _ h4, s _ _ h5, h6, fun x hx => (h7 x hx).mono s⟩
theorem spoil_ok {K : PySem.W.Frag} {C : CA} {H H' : Hp} {t : Addr} {Q : VK} {E : XK} (h : Spoils H H' t) (s : Sm H H') (q : ∀ H2, Sm H H2 → Q .non H2) : sp_l_spoil K C [.ref t] H' Q E := by
  rcases h with ⟨xs, h1, h2, h3, h4⟩ | ⟨p, ys, h1, h2, h3, h4, h5, h6, h7⟩
  · exact .inl ⟨t, xs, rfl, h2, h3, h4, fun H2 k => q H2 fun b o z => k b o (ne_of_none z h1) (s b o z)⟩
  · exact .inr ⟨t, p, ys, rfl, h4, h3, h5, h6, h7, fun H2 k => q H2 fun b o z => k b o (ne_of_none z h1) (ne_of_none z h2) (s b o z)⟩
theorem tf_leg {n : Nat} {H : Hp} {x : V} {t : Tri} (h : Rp H n x (legT t)) : TF H x := by
  obtain ⟨p, rfl, e⟩ := rp_leg h
  exact .inr ⟨p, _, rfl, e, rfl, by show 3 ≤ 1000; decide⟩
theorem bad_told {H H' : Hp} {z : Str} {t : Addr} (hz : z.length ≤ 1000) (n : H t = none) (h : H' t = some (.lst [.str z, .bl true])) : NewRp 1000 H H' 4 (.ref t) (.list [.str z, .bool true]) ∧ Spoils H H' t :=
  ⟨.lst n h (by show 2 ≤ 1000; decide) (All2.cons (.flat (flat_txt hz)) (All2.cons (.flat (.inr (.inl ⟨_, rfl, rfl⟩))) All2.nil)), .inl ⟨_, n, h, by show 2 ≤ 1000; decide, fun x hx => by
    simp only [List.mem_cons, List.not_mem_nil, or_false] at hx
    rcases hx with rfl | rfl
    · exact .inl rfl
    · exact .inl rfl⟩⟩
def sp_l_told_of (K : PySem.W.Frag) (C : CA) : Sp := fun vs H Q _ => ∃ (form : Int) (v : V) (d e : PyData), vs = [.int form, v] ∧ Rp H 6 v d ∧ ((form = 0 ∧ DueL d e) ∨ (form = 1 ∧ DueP d e)) ∧
  ∀ t H', Sm H H' → NewRp 1000 H H' 4 (.ref t) e → (form = 0 → Spoils H H' t) → Q (.ref t) H'
def rd_l_told_of (K : PySem.W.Frag) (C : CA) (E : XK) : TS :=
  (tTryX K (fun W => (tSeq (tIfS (tTest (tOp (fEq K) (tVar 0) (tC (.int 0)))) (tRet (tLst (tCons (tCallS (sp_legs_of K C) (WE W) (tCons (tVar 1) tNil)) tNil))) tNext) (tRet (tLst (tCons (tCallS (sp_plan_of K C) (WE W) (tCons (tVar 1) tNil)) tNil))))) (fun _ _ _ _ => False) ((.ref C.BadShape, some 2, fun a cls d => (tRet (tLst (tCons (tXf a cls d C.BadShape ("parameter" : Str) (tVar 2)) (tCons (tAndV (tCB (fIsE K C.BadShape a cls d) (tCons (tVar 2) (tCons (tC (.ref C.CrossError)) tNil))) (tNotV (tCB (fIsET K C.BadShape a cls d) (tCons (tVar 2) (tCons (tTup (tCons (tC (.ref C.BadText)) (tCons (tC (.ref C.BadErrand)) tNil))) tNil))))) tNil))))) :: []))
theorem pure_l_told_of {K : PySem.W.Frag} {C : CA} (F : EF K C) (vs : List V) (H : Hp) (Q : VK) (E : XK) (h : sp_l_told_of K C vs H Q E) : rd_l_told_of K C E { nx := fun _ H' => Q .non H', rt := Q } (start [("form" : Str), ("value" : Str), ("e" : Str)] vs) H := by
  obtain ⟨form, v, d, e, rfl, r, fm, q⟩ := h
  show rd_l_told_of K C E _ [some (.int form), some v, none] H
  unfold rd_l_told_of
  walk_at "s"
  refine q_if ?_
  walk_at "s"
  rcases fm with ⟨rfl, du⟩ | ⟨rfl, du⟩
  · simp only [if_true]
    walk_at "s"
    refine ⟨6, v, d, rfl, r, fun c er H1 ea => ?_, fun zs hz ed o H1 xs s1 no h1 aa => ?_⟩
    · obtain ⟨s1, h1⟩ := ea
      rcases du with ⟨zs, hz, rfl, rfl⟩ | ⟨_, rfl⟩
      · rw [plan_names.2 hz] at c
        cases c
      walk_at "s"
      refine wX_yes F.x_bb fun a na => ?_
      walk_at "s"
      refine ⟨_, h1, _, lk1, ?_⟩
      walk_at "s"
      refine ⟨_, _, true, er, _, rfl, fun u h => h, rfl, rfl, h1, F.k_bc, ?_⟩
      walk_at "s"
      refine ⟨by decide, fun tp ht => al ht fun H2 s2 h2 => ?_⟩
      refine ⟨_, _, _, false, er, _, rfl, h2, .cons (.own _) (.cons (.own _) .nil), rfl, rfl, s2 _ _ h1, F.a_b, ?_⟩
      walk_at "s"
      refine ⟨by decide, fun t nt => al nt fun H3 s3 h3 => ?_⟩
      have s12 := sm_trans s1 s2
      have b := bad_told (by decide) (sm_none s12 nt) h3
      exact q t H3 (sm_trans s12 s3) b.1 fun _ => b.2
    · rcases du with ⟨zs', hz', e1, rfl⟩ | ⟨c, _⟩
      · rw [ed] at e1
        injection e1 with e1
        have ez : zs = zs' := (List.map_inj_right (by intro x y h; injection h)).1 e1
        subst ez
        walk_at "s"
        refine ⟨by decide, fun t nt => al nt fun H2 s2 h2 => ?_⟩
        have no' := no
        have ll := aa.len
        rw [List.length_map, tri_len] at ll
        have hl := hz.2.1
        refine q t H2 (sm_trans s1 s2) ?_ fun _ => .inr ⟨o, xs, sm_none s1 nt, no, ne_of_none h1 nt, h2, s2 _ _ h1, by omega, fun x hx => ?_⟩
        · exact .up (.lst (sm_none s1 nt) h2 (by show 1 ≤ 1000; decide) (All2.cons (.lst no (s2 _ _ h1) (by omega) (aa.imp fun _ _ z => z.sm s2)) All2.nil))
        · obtain ⟨i, hi, rfl⟩ := List.mem_iff_getElem.1 hx
          have hi2 : i < (tri zs).length := by rw [tri_len]; omega
          exact tf_leg (t := (tri zs)[i]) ((aa.2 i _ _ (by simp [hi]) (by rw [List.getElem?_map]; simp [hi2])).sm s2).rp
      · rw [ed] at c
        rw [plan_names.2 hz] at c
        cases c
  · rw [if_neg (by decide)]
    walk_at "s"
    refine ⟨6, v, d, rfl, r, fun c er H1 ea => ?_, fun zs hz ed o H1 s1 no h1 => ?_⟩
    · obtain ⟨s1, h1⟩ := ea
      rcases du with ⟨zs, hz, rfl, rfl⟩ | ⟨_, rfl⟩
      · exact absurd ⟨zs, hz, rfl⟩ c
      walk_at "s"
      refine wX_yes F.x_bb fun a na => ?_
      walk_at "s"
      refine ⟨_, h1, _, lk1, ?_⟩
      walk_at "s"
      refine ⟨_, _, true, er, _, rfl, fun u h => h, rfl, rfl, h1, F.k_bc, ?_⟩
      walk_at "s"
      refine ⟨by decide, fun tp ht => al ht fun H2 s2 h2 => ?_⟩
      refine ⟨_, _, _, false, er, _, rfl, h2, .cons (.own _) (.cons (.own _) .nil), rfl, rfl, s2 _ _ h1, F.a_b, ?_⟩
      walk_at "s"
      refine ⟨by decide, fun t nt => al nt fun H3 s3 h3 => ?_⟩
      have s12 := sm_trans s1 s2
      have b := bad_told (by decide) (sm_none s12 nt) h3
      exact q t H3 (sm_trans s12 s3) b.1 fun z => absurd z (by decide)
    · rcases du with ⟨zs', hz', e1, rfl⟩ | ⟨c, _⟩
      · have ez : zs = zs' := by
          rw [ed] at e1
          injection e1 with e1
          have e2 := congrArg (List.map fun t : Tri => t.2.1) (map_tri_inj e1)
          rw [tri_names, tri_names] at e2
          exact e2
        subst ez
        walk_at "s"
        refine ⟨by decide, fun t nt => al nt fun H2 s2 h2 => ?_⟩
        have hl := hz.2.1
        refine q t H2 (sm_trans s1 s2) ?_ fun z => absurd z (by decide)
        refine .up (.lst (sm_none s1 nt) h2 (by show 1 ≤ 1000; decide) (All2.cons (.up (.tup no (s2 _ _ h1) (by rw [List.length_map]; omega) ⟨by simp, fun i x d hx hd => ?_⟩)) All2.nil))
        rw [List.getElem?_map] at hx hd
        cases ez : zs[i]? with
        | none => rw [ez] at hx; cases hx
        | some z =>
          rw [ez] at hx hd
          cases hx
          cases hd
          exact NewRp.flat (n := 0) (flat_txt (Nat.le_trans (name_len (hz.2.2 z (List.mem_of_getElem? ez))) (by decide)))
      · exact absurd ⟨zs, hz, ed⟩ c
end XB

/-! What the law asks of a value. -/
namespace XB
open PySem L2
local macro_rules | `(tactic| walk_at "s") => `(tactic| try simp only [u_var, u_c, u_op, u_un, u_nil, u_cons, u_cb, u_call, u_callS, u_tup, u_lst, u_test, u_B, u_and, u_or, u_not, u_andV, u_orV, u_notV, u_ifE, u_chain, u_sl, u_noPart, u_part, u_bm, u_bm0, u_rev, u_lc, u_try, u_sui, u_sui0, u_unb_rt, u_unb_nx, u_xf, u_WE, w_nil, w_cons, u_raise, u_rng1, u_rng2, u_next, u_ret, u_gname, u_gnil, u_gcons, u_gsub, u_gtup,
  f_add, f_addS, f_addR, f_sub, f_mul, f_mulR, f_mod, f_div, f_pow, f_neg, f_cmp, f_eq, f_eqB, f_eqS, f_ne, f_neB, f_neS, f_isN, f_notN, f_isB, f_ix, f_ixS, f_int, f_intB, f_len, f_lenS, f_max, f_min, f_abs, f_list, f_tuple, f_all, f_sum, f_isi, f_isiT, f_append, f_insert, f_pop, f_sl, f_set,
  kitS, tys, List.isEmpty_cons, Option.map_some, kt_NoneType_int, kt_NoneType_bool, kt_NoneType_str, kt_NoneType_list, kt_NoneType_tuple, kt_NoneType_dict, kt_int_int, kt_int_bool, kt_int_str, kt_int_list, kt_int_tuple, kt_int_dict, kt_bool_int, kt_bool_bool, kt_bool_str, kt_bool_list, kt_bool_tuple, kt_bool_dict, kt_str_int, kt_str_bool, kt_str_str, kt_str_list, kt_str_tuple, kt_str_dict, kt_list_int, kt_list_bool, kt_list_str, kt_list_list, kt_list_tuple, kt_list_dict, kt_tuple_int, kt_tuple_bool, kt_tuple_str, kt_tuple_list, kt_tuple_tuple, kt_tuple_dict, kt_dict_int, kt_dict_bool, kt_dict_str, kt_dict_list, kt_dict_tuple, kt_dict_dict, asL_lst, asL_frz, asL_tup, asT_tup, asS_lst, asS_frz, asS_tup, tyN_non, tyN_bl, tyN_int, tyN_str, atV_lit, ixN_lit, upd_same, upd_ne, upd_ne',
  List.getElem?_cons_zero, List.getElem?_cons_succ, List.set_cons_zero, List.set_cons_succ, List.append_nil, List.length_cons, List.length_nil, Option.some.injEq, exists_eq_left', exists_eq_left, exists_and_left, V.bl.injEq, V.int.injEq, V.str.injEq, V.ref.injEq, Bool.not_eq_true, Bool.not_true, Bool.not_false, decide_true, decide_false, decide_eq_true_eq, decide_eq_false_iff_not, Bool.false_eq_true, if_true, if_false, ite_true, ite_false, reduceCtorEq, true_and, and_true, Nat.reduceAdd, Nat.reduceLT, Nat.zero_add, ne_eq, not_false_eq_true, not_true_eq_false, List.cons.injEq, and_assoc])
local macro_rules | `(tactic| walk_at "S") => `(tactic| try simp only [u_var, u_c, u_op, u_un, u_nil, u_cons, u_cb, u_call, u_callS, u_tup, u_lst, u_test, u_B, u_and, u_or, u_not, u_andV, u_orV, u_notV, u_ifE, u_chain, u_sl, u_noPart, u_part, u_bm, u_bm0, u_rev, u_lc, u_try, u_sui, u_sui0, u_unb_rt, u_unb_nx, u_xf, u_WE, w_nil, w_cons, u_raise, u_rng1, u_rng2, u_next, u_ret, u_gname, u_gnil, u_gcons, u_gsub, u_gtup,
  f_add, f_addS, f_addR, f_sub, f_mul, f_mulR, f_mod, f_div, f_pow, f_neg, f_cmp, f_eq, f_eqB, f_eqS, f_ne, f_neB, f_neS, f_isN, f_notN, f_isB, f_ix, f_ixS, f_int, f_intB, f_len, f_lenS, f_max, f_min, f_abs, f_list, f_tuple, f_all, f_sum, f_isi, f_isiT, f_append, f_insert, f_pop, f_sl, f_set,
  kitS, tys, List.isEmpty_cons, Option.map_some, kt_NoneType_int, kt_NoneType_bool, kt_NoneType_str, kt_NoneType_list, kt_NoneType_tuple, kt_NoneType_dict, kt_int_int, kt_int_bool, kt_int_str, kt_int_list, kt_int_tuple, kt_int_dict, kt_bool_int, kt_bool_bool, kt_bool_str, kt_bool_list, kt_bool_tuple, kt_bool_dict, kt_str_int, kt_str_bool, kt_str_str, kt_str_list, kt_str_tuple, kt_str_dict, kt_list_int, kt_list_bool, kt_list_str, kt_list_list, kt_list_tuple, kt_list_dict, kt_tuple_int, kt_tuple_bool, kt_tuple_str, kt_tuple_list, kt_tuple_tuple, kt_tuple_dict, kt_dict_int, kt_dict_bool, kt_dict_str, kt_dict_list, kt_dict_tuple, kt_dict_dict, asL_lst, asL_frz, asL_tup, asT_tup, asS_lst, asS_frz, asS_tup, tyN_non, tyN_bl, tyN_int, tyN_str, atV_lit, ixN_lit, upd_same, upd_ne, upd_ne',
  List.getElem?_cons_zero, List.getElem?_cons_succ, List.set_cons_zero, List.set_cons_succ, List.append_nil, List.length_cons, List.length_nil, Option.some.injEq, exists_eq_left', exists_eq_left, exists_and_left, V.bl.injEq, V.int.injEq, V.str.injEq, V.ref.injEq, Bool.not_eq_true, Bool.not_true, Bool.not_false, decide_true, decide_false, decide_eq_true_eq, decide_eq_false_iff_not, Bool.false_eq_true, if_true, if_false, ite_true, ite_false, reduceCtorEq, true_and, and_true, Nat.reduceAdd, Nat.reduceLT, Nat.zero_add, ne_eq, not_false_eq_true, not_true_eq_false, List.cons.injEq, and_assoc, *])
theorem same_ok {K : PySem.W.Frag} {C : CA} {H : Hp} {Q : VK} {E : XK} {v1 v2 : V} (d : PyData) (r1 : Rp H 6 v1 d) (r2 : Rp H 6 v2 d) (q : ∀ H', Sm H H' → Q (.bl true) H') : sp_l_same K C [v1, v2] H Q E := ⟨v1, v2, d, rfl, r1, r2, q⟩
theorem two_flat {H H' : Hp} {z : Str} {p : Addr} (hz : z.length ≤ 1000) (n : H p = none) (h : H' p = some (.lst [.str z, .bl true])) : Rp H' 6 (.ref p) (.list [.str z, .bool true]) :=
  ((bad_told hz n h).1.ups (by decide)).rp
def sp_l_asked (K : PySem.W.Frag) (C : CA) : Sp := fun vs H Q _ => ∃ v d, vs = [v] ∧ Rp H 6 v d ∧ ∀ H', Sm H H' → Q (.bl true) H'
def rd_l_asked (K : PySem.W.Frag) (C : CA) (E : XK) : TS :=
  (tSeq (tAsg (tCallS (sp_l_copy K C) (fun _ => E0) (tCons (tVar 0) tNil)) (gName 1)) (tSeq (tAsg (tLst (tCons (tC (.str ("legs" : Str))) (tCons (tC (.bl true)) tNil))) (gName 2)) (Evl.tCut (tIfS (tB (tCallS (sp_l_is_legs K C) (fun _ => E0) (tCons (tVar 0) tNil))) (tAsg (tLst (tCons (tCB fTuple (tCons (tLc (iList K (tVar 0)) (gName 4) tYes (tOp fIx (tVar 4) (tC (.int 1))) [4]) tNil)) tNil)) (gName 2)) tNext) (tSeq (tFor (iRng1 (tCons (tC (.int 2)) tNil)) (gName 3) (tIfS (tOr (tNot (tB (tCallS (sp_l_same K C) (fun _ => E0) (tCons (tCallS (sp_l_told_of K C) (fun _ => E0) (tCons (tC (.int 1)) (tCons (tVar 1) tNil))) (tCons (tVar 2) tNil))))) (tNot (tB (tCallS (sp_l_same K C) (fun _ => E0) (tCons (tVar 1) (tCons (tVar 0) tNil)))))) (tRet (tC (.bl false))) tNext)) (tRet (tC (.bl true)))))))
theorem pure_l_asked {K : PySem.W.Frag} {C : CA} (vs : List V) (H : Hp) (Q : VK) (E : XK) (h : sp_l_asked K C vs H Q E) : rd_l_asked K C E { nx := fun _ H' => Q .non H', rt := Q } (start [("value" : Str), ("given" : Str), ("due" : Str), ("k" : Str), ("leg" : Str)] vs) H := by
  obtain ⟨v, d, rfl, r, q⟩ := h
  show rd_l_asked K C E _ [some v, none, none, none, none] H
  unfold rd_l_asked
  refine q_asg ?_
  walk_at "s"
  refine ⟨v, d, rfl, r, fun vg H1 s1 ng => ?_⟩
  refine q_asg ?_
  walk_at "s"
  refine ⟨by decide, fun pd nd => al nd fun H2 s2 h2 => ?_⟩
  have s02 := sm_trans s1 s2
  refine ⟨fun σ H' => ∃ (vd : V) (w : Option V) (e : PyData), σ = [some v, some vg, some vd, none, w] ∧ Sm H2 H' ∧ Rp H' 6 vd e ∧ DueP d e, q_if1 ?_, ?_⟩
  · walk_at "s"
    refine ⟨6, v, d, rfl, r.mono s02, fun b H3 s3 hb => ?_⟩
    walk_at "s"
    cases b with
    | true =>
      simp only [if_true]
      obtain ⟨zs, hz, rfl⟩ := hb.1 rfl
      refine q_asg1 ?_
      have s03 := sm_trans s02 s3
      rcases rp_flat_or r with (⟨_, e⟩ | ⟨b, _, e⟩ | ⟨i, _, e⟩ | ⟨z, _, e⟩) | ⟨k, p, xs, ds, _, e1, e2, e3, lx, a⟩ | ⟨j, p, xs, ds, _, e1, e2, e3, _⟩ | ⟨k, p, _, _, _, e⟩
      · cases e
      · cases e
      · cases e
      · cases e
      · injection e3 with e3
        subst e1 e3
        walk_at "s"
        rw [u_list]
        walk_at "s"
        have e23 := sm_L s03 e2
        refine ⟨⟨_, asL_seq e23⟩, fun D2 hD2 => ?_⟩
        have l1 := a.1
        refine made_mapD (ds := (tri zs).map legT) (fun d => match d with
          | .tuple [_, .str b, _] => .str b
          | _ => .non) e23 hD2 a.1 (by show _ < 2 ^ 24; omega) (fun _ => rfl) (fun i x d H4 Q4 hx hd s4 q4 => ?_) fun H4 s4 h4 => ?_
        · walk_at "s"
          rw [List.getElem?_map] at hd
          cases et : (tri zs)[i]? with
          | none => rw [et] at hd; cases hd
          | some t =>
            rw [et] at hd
            cases hd
            obtain ⟨pl, rfl, hpl⟩ := rp_leg (t := t) ((a.2 i x _ hx (by rw [List.getElem?_map, et]; rfl)).mono (sm_trans s03 s4))
            walk_at "s"
            rw [asS_of_T hpl]
            walk_at "s"
            exact q4 _ fun _ _ z => z
        have h4' : H4 D2 = some (.lst (zs.map V.str)) := by
          rw [h4, List.map_map]
          have e : zs.map V.str = ((tri zs).map fun t => t.2.1).map V.str := by rw [tri_names]
          rw [e, List.map_map]
          rfl
        rw [h4']
        walk_at "s"
        refine fun pt nt => al nt fun H5 s5 h5 => ⟨by decide, fun pl nl => al nl fun H6 s6 h6 => ?_⟩
        have s36 := sm_trans s4 (sm_trans s5 s6)
        refine ⟨sm_trans s3 s36, .list [.tuple (zs.map PyData.str)], ?_, .inl ⟨zs, hz, rfl, rfl⟩⟩
        have hl := hz.2.1
        refine RpM.ups (n := 2) (by decide) (.inr (.inl ⟨pl, _, _, rfl, asL_at h6, rfl, by show 1 ≤ 1000; decide, All2.cons (.inr (.inr (.inl ⟨pt, _, _, rfl, by rw [s6 _ _ h5]; rfl, rfl, by rw [List.length_map]; omega, ⟨by simp, fun i x d hx hd => ?_⟩⟩))) All2.nil⟩))
        rw [List.getElem?_map] at hx hd
        cases ez : zs[i]? with
        | none => rw [ez] at hx; cases hx
        | some z =>
          rw [ez] at hx hd
          cases hx
          cases hd
          exact flat_txt (Nat.le_trans (name_len (hz.2.2 z (List.mem_of_getElem? ez))) (by decide))
      · cases e3
      · cases e
    | false =>
      have c : ¬ LegsP d := fun z => by have := hb.2 z; cases this
      simp only [Bool.false_eq_true, if_false]
      walk_at "s"
      exact ⟨s3, .list [.str ("legs" : Str), .bool true], (two_flat (by decide) nd h2).mono s3, .inr ⟨c, rfl⟩⟩
  · rintro σ H3 ⟨vd, w, e, rfl, s3, re, du⟩
    have s13 := sm_trans s2 s3
    have s03 := sm_trans s1 s13
    have rg := ng.rp.mono s13
    refine q_for ?_
    walk_at "s"
    refine ⟨by decide, by decide, ?_⟩
    refine loop_range (fun i σ H4 => ∃ (u : Option V), σ = [some v, some vg, some vd, u, w] ∧ Sm H3 H4) ⟨_, rfl, fun _ _ z => z⟩ ?_ ?_
    · rintro i σ H4 hi ⟨u, rfl, s4⟩
      walk_at "s"
      refine q_if1 ?_
      walk_at "s"
      refine ⟨1, vg, d, e, rfl, rg.mono s4, .inr ⟨rfl, du⟩, fun t H5 s5 nt _ => ?_⟩
      have s35 := sm_trans s4 s5
      walk_at "s"
      refine same_ok e (nt.ups (by decide)).rp (re.mono s35) fun H6 s6 => ?_
      have s36 := sm_trans s35 s6
      walk_at "s"
      refine same_ok d (rg.mono s36) (r.mono (sm_trans s03 s36)) fun H7 s7 => ?_
      walk_at "s"
      exact sm_trans s36 s7
    · rintro σ H4 ⟨u, rfl, s4⟩
      walk_at "s"
      exact q H4 (sm_trans s03 s4)
def sp_l_legs_asked (K : PySem.W.Frag) (C : CA) : Sp := fun vs H Q _ => ∃ v d, vs = [v] ∧ Rp H 6 v d ∧ ∀ H', Sm H H' → Q (.bl true) H'
def rd_l_legs_asked (K : PySem.W.Frag) (C : CA) (E : XK) : TS :=
  (tSeq (tAsg (tLst (tCons (tC (.str ("plan" : Str))) (tCons (tC (.bl true)) tNil))) (gName 1)) (Evl.tCut (tIfS (tB (tCallS (sp_l_is_plan K C) (fun _ => E0) (tCons (tVar 0) tNil))) (tAsg (tLst (tCons (tCallS (sp_l_legs K C) (fun _ => E0) (tCons (tVar 0) tNil)) tNil)) (gName 1)) tNext) (tSeq (tAsg (tCallS (sp_l_copy K C) (fun _ => E0) (tCons (tVar 0) tNil)) (gName 2)) (tSeq (tAsg (tCallS (sp_l_told_of K C) (fun _ => E0) (tCons (tC (.int 0)) (tCons (tVar 2) tNil))) (gName 3)) (tSeq (tIfS (tNot (tB (tCallS (sp_l_same K C) (fun _ => E0) (tCons (tVar 3) (tCons (tVar 1) tNil))))) (tRet (tC (.bl false))) tNext) (tSeq (tDrop (tCallS (sp_l_spoil K C) (fun _ => E0) (tCons (tVar 3) tNil))) (tRet (tAndV (tCallS (sp_l_same K C) (fun _ => E0) (tCons (tCallS (sp_l_told_of K C) (fun _ => E0) (tCons (tC (.int 0)) (tCons (tVar 2) tNil))) (tCons (tVar 1) tNil))) (tCallS (sp_l_same K C) (fun _ => E0) (tCons (tVar 2) (tCons (tVar 0) tNil)))))))))))
theorem pure_l_legs_asked {K : PySem.W.Frag} {C : CA} (vs : List V) (H : Hp) (Q : VK) (E : XK) (h : sp_l_legs_asked K C vs H Q E) : rd_l_legs_asked K C E { nx := fun _ H' => Q .non H', rt := Q } (start [("value" : Str), ("due" : Str), ("given" : Str), ("told" : Str)] vs) H := by
  obtain ⟨v, d, rfl, r, q⟩ := h
  show rd_l_legs_asked K C E _ [some v, none, none, none] H
  unfold rd_l_legs_asked
  refine q_asg ?_
  walk_at "s"
  refine ⟨by decide, fun pd nd => al nd fun H2 s02 h2 => ?_⟩
  refine ⟨fun σ H' => ∃ (vd : V) (e : PyData), σ = [some v, some vd, none, none] ∧ Sm H2 H' ∧ Rp H' 6 vd e ∧ DueL d e, q_if1 ?_, ?_⟩
  · walk_at "s"
    refine ⟨6, v, d, rfl, r.mono s02, fun H3 s3 => ?_⟩
    walk_at "s"
    by_cases c : planD d = true
    · rw [c]
      simp only [if_true]
      obtain ⟨p, zs, rfl, hp, rfl, hz⟩ := rp_plan r c
      obtain ⟨l1, l2, hn⟩ := id hz
      refine q_asg1 ?_
      walk_at "s"
      refine ⟨1000, p, zs, rfl, sm_T (sm_trans s02 s3) hp, l1, by omega, by decide, fun z hm => Nat.le_trans (name_len (hn z hm)) (by decide), fun o H4 xs s4 no h4 aa => ?_⟩
      walk_at "s"
      refine ⟨by decide, fun pl nl => al nl fun H5 s5 h5 => ?_⟩
      have s35 := sm_trans s4 s5
      have ll := aa.len
      rw [List.length_map, tri_len] at ll
      refine ⟨sm_trans s3 s35, .list [.list ((tri zs).map legT)], ?_, .inl ⟨zs, hz, rfl, rfl⟩⟩
      exact ((NewRp.lst (H := H3) (sm_none s4 nl) h5 (by show 1 ≤ 1000; decide) (All2.cons (NewRp.lst no (s5 _ _ h4) (by omega) (aa.imp fun _ _ z => z.sm s5)) All2.nil)).ups (by decide)).rp
    · have c : planD d = false := by simpa using c
      rw [c]
      simp only [Bool.false_eq_true, if_false]
      walk_at "s"
      exact ⟨s3, .list [.str ("plan" : Str), .bool true], (two_flat (by decide) nd h2).mono s3, .inr ⟨c, rfl⟩⟩
  · rintro σ H3 ⟨vd, e, rfl, s3, re, du⟩
    have s03 := sm_trans s02 s3
    refine q_asg ?_
    walk_at "s"
    refine ⟨v, d, rfl, r.mono s03, fun vg H4 s4 ng => ?_⟩
    have s04 := sm_trans s03 s4
    refine q_asg ?_
    walk_at "s"
    refine ⟨0, vg, d, e, rfl, ng.rp, .inl ⟨rfl, du⟩, fun t H5 s5 nt sp => ?_⟩
    have sp := sp rfl
    have s45 := sm_trans s4 s5
    refine q_if ?_
    walk_at "s"
    refine same_ok e (nt.ups (by decide)).rp (re.mono s45) fun H6 s6 => ?_
    walk_at "s"
    refine q_drop ?_
    walk_at "s"
    refine spoil_ok (sp.sm s6) (sm_trans s5 s6) fun H7 s7 => ?_
    walk_at "s"
    refine ⟨0, vg, d, e, rfl, ng.rp.mono s7, .inl ⟨rfl, du⟩, fun t2 H8 s8 nt2 _ => ?_⟩
    have s48 := sm_trans s7 s8
    walk_at "s"
    refine same_ok e (nt2.ups (by decide)).rp (re.mono (sm_trans s4 s48)) fun H9 s9 => ?_
    have s49 := sm_trans s48 s9
    walk_at "s"
    exact same_ok d (ng.rp.mono s49) (r.mono (sm_trans s04 s49)) fun H10 s10 => q H10 (sm_trans s04 (sm_trans s49 s10))
end XB

/-! Data beside the store. -/
namespace XB
open PySem L2
local macro_rules | `(tactic| walk_at "s") => `(tactic| try simp only [u_var, u_c, u_op, u_un, u_nil, u_cons, u_cb, u_call, u_callS, u_tup, u_lst, u_test, u_B, u_and, u_or, u_not, u_andV, u_orV, u_notV, u_ifE, u_chain, u_sl, u_noPart, u_part, u_bm, u_bm0, u_rev, u_lc, u_try, u_sui, u_sui0, u_unb_rt, u_unb_nx, u_xf, u_WE, w_nil, w_cons, u_raise, u_rng1, u_rng2, u_next, u_ret, u_gname, u_gnil, u_gcons, u_gsub, u_gtup,
  f_add, f_addS, f_addR, f_sub, f_mul, f_mulR, f_mod, f_div, f_pow, f_neg, f_cmp, f_eq, f_eqB, f_eqS, f_ne, f_neB, f_neS, f_isN, f_notN, f_isB, f_ix, f_ixS, f_int, f_intB, f_len, f_lenS, f_max, f_min, f_abs, f_list, f_tuple, f_all, f_sum, f_isi, f_isiT, f_append, f_insert, f_pop, f_sl, f_set,
  kitS, tys, List.isEmpty_cons, Option.map_some, kt_NoneType_int, kt_NoneType_bool, kt_NoneType_str, kt_NoneType_list, kt_NoneType_tuple, kt_NoneType_dict, kt_int_int, kt_int_bool, kt_int_str, kt_int_list, kt_int_tuple, kt_int_dict, kt_bool_int, kt_bool_bool, kt_bool_str, kt_bool_list, kt_bool_tuple, kt_bool_dict, kt_str_int, kt_str_bool, kt_str_str, kt_str_list, kt_str_tuple, kt_str_dict, kt_list_int, kt_list_bool, kt_list_str, kt_list_list, kt_list_tuple, kt_list_dict, kt_tuple_int, kt_tuple_bool, kt_tuple_str, kt_tuple_list, kt_tuple_tuple, kt_tuple_dict, kt_dict_int, kt_dict_bool, kt_dict_str, kt_dict_list, kt_dict_tuple, kt_dict_dict, asL_lst, asL_frz, asL_tup, asT_tup, asS_lst, asS_frz, asS_tup, tyN_non, tyN_bl, tyN_int, tyN_str, atV_lit, ixN_lit, upd_same, upd_ne, upd_ne',
  List.getElem?_cons_zero, List.getElem?_cons_succ, List.set_cons_zero, List.set_cons_succ, List.append_nil, List.length_cons, List.length_nil, Option.some.injEq, exists_eq_left', exists_eq_left, exists_and_left, V.bl.injEq, V.int.injEq, V.str.injEq, V.ref.injEq, Bool.not_eq_true, Bool.not_true, Bool.not_false, decide_true, decide_false, decide_eq_true_eq, decide_eq_false_iff_not, Bool.false_eq_true, if_true, if_false, ite_true, ite_false, reduceCtorEq, true_and, and_true, Nat.reduceAdd, Nat.reduceLT, Nat.zero_add, ne_eq, not_false_eq_true, not_true_eq_false, List.cons.injEq, and_assoc])
local macro_rules | `(tactic| walk_at "S") => `(tactic| try simp only [u_var, u_c, u_op, u_un, u_nil, u_cons, u_cb, u_call, u_callS, u_tup, u_lst, u_test, u_B, u_and, u_or, u_not, u_andV, u_orV, u_notV, u_ifE, u_chain, u_sl, u_noPart, u_part, u_bm, u_bm0, u_rev, u_lc, u_try, u_sui, u_sui0, u_unb_rt, u_unb_nx, u_xf, u_WE, w_nil, w_cons, u_raise, u_rng1, u_rng2, u_next, u_ret, u_gname, u_gnil, u_gcons, u_gsub, u_gtup,
  f_add, f_addS, f_addR, f_sub, f_mul, f_mulR, f_mod, f_div, f_pow, f_neg, f_cmp, f_eq, f_eqB, f_eqS, f_ne, f_neB, f_neS, f_isN, f_notN, f_isB, f_ix, f_ixS, f_int, f_intB, f_len, f_lenS, f_max, f_min, f_abs, f_list, f_tuple, f_all, f_sum, f_isi, f_isiT, f_append, f_insert, f_pop, f_sl, f_set,
  kitS, tys, List.isEmpty_cons, Option.map_some, kt_NoneType_int, kt_NoneType_bool, kt_NoneType_str, kt_NoneType_list, kt_NoneType_tuple, kt_NoneType_dict, kt_int_int, kt_int_bool, kt_int_str, kt_int_list, kt_int_tuple, kt_int_dict, kt_bool_int, kt_bool_bool, kt_bool_str, kt_bool_list, kt_bool_tuple, kt_bool_dict, kt_str_int, kt_str_bool, kt_str_str, kt_str_list, kt_str_tuple, kt_str_dict, kt_list_int, kt_list_bool, kt_list_str, kt_list_list, kt_list_tuple, kt_list_dict, kt_tuple_int, kt_tuple_bool, kt_tuple_str, kt_tuple_list, kt_tuple_tuple, kt_tuple_dict, kt_dict_int, kt_dict_bool, kt_dict_str, kt_dict_list, kt_dict_tuple, kt_dict_dict, asL_lst, asL_frz, asL_tup, asT_tup, asS_lst, asS_frz, asS_tup, tyN_non, tyN_bl, tyN_int, tyN_str, atV_lit, ixN_lit, upd_same, upd_ne, upd_ne',
  List.getElem?_cons_zero, List.getElem?_cons_succ, List.set_cons_zero, List.set_cons_succ, List.append_nil, List.length_cons, List.length_nil, Option.some.injEq, exists_eq_left', exists_eq_left, exists_and_left, V.bl.injEq, V.int.injEq, V.str.injEq, V.ref.injEq, Bool.not_eq_true, Bool.not_true, Bool.not_false, decide_true, decide_false, decide_eq_true_eq, decide_eq_false_iff_not, Bool.false_eq_true, if_true, if_false, ite_true, ite_false, reduceCtorEq, true_and, and_true, Nat.reduceAdd, Nat.reduceLT, Nat.zero_add, ne_eq, not_false_eq_true, not_true_eq_false, List.cons.injEq, and_assoc, *])
theorem ts_len {i : Int} (h : i.natAbs < 10 ^ 30) : (Str.ofString (toString i)).length ≤ 31 := by
  cases i with
  | ofNat n =>
    have e : ((n : Nat) : Int) < 10 ^ 30 := by
      have : n < 10 ^ 30 := h
      omega
    exact Nat.le_trans (PyProof.Rows.toString_length_le (v := (n : Int)) (by omega) (k := 30) (by decide) e) (by decide)
  | negSucc m =>
    have e : ((m + 1 : Nat) : Int) < 10 ^ 30 := by
      have : m + 1 < 10 ^ 30 := h
      omega
    have l := PyProof.Rows.toString_length_le (v := ((m + 1 : Nat) : Int)) (by omega) (k := 30) (by decide) e
    have e2 : (toString (Int.negSucc m) : String) = "-" ++ toString ((m + 1 : Nat) : Int) := rfl
    rw [PyProof.Rows.ofString_length] at l
    rw [e2, PyProof.Rows.ofString_length, String.toList_append, List.length_append]
    have : ("-" : String).toList.length = 1 := by decide
    omega
/-- v stands for d by cells that are not the store's -/
def StRp (S : Addr → Prop) (m : Nat) (H : Hp) (n : Nat) (v : V) (d : PyData) : Prop := ∀ H' : Hp, (∀ b o, ¬ S b → H b = some o → H' b = some o) → RpM m H' n v d
section
variable {S : Addr → Prop} {m n : Nat} {H H' : Hp} {v : V} {d : PyData}
theorem StRp.rp (h : StRp S m H n v d) : RpM m H n v d := h H fun _ _ _ z => z
theorem StRp.kp {st : Addr} (h : StRp S m H n v d) (hS : S st) (k : Kp st H H') : StRp S m H' n v d := fun H'' z => h H'' fun b o nb e => z b o nb (k.1 b o (fun y => nb (y ▸ hS)) e)
theorem StRp.sm (h : StRp S m H n v d) (k : Sm H H') : StRp S m H' n v d := fun H'' z => h H'' fun b o nb e => z b o nb (k b o e)
theorem StRp.wide {k : Nat} (hk : m ≤ k) (h : StRp S m H n v d) : StRp S k H n v d := fun H'' z => (h H'' z).wide hk
theorem StRp.ups {k : Nat} (hk : n ≤ k) (h : StRp S m H n v d) : StRp S m H k v d := fun H'' z => (h H'' z).ups hk
theorem StRp.flat (h : Flat m v d) : StRp S m H n v d := fun H'' _ => by
  cases n with
  | zero => exact h
  | succ n => exact .inl h
theorem StRp.lst {p : Addr} {xs : List V} {ds : List PyData} (np : ¬ S p) (h : asL (H p) = some xs) (l : xs.length ≤ m) (a : All2 (StRp S m H n) xs ds) : StRp S m H (n + 1) (.ref p) (.list ds) := fun H'' k => by
  have e : asL (H'' p) = some xs := by
    cases eo : H p with
    | none => rw [eo] at h; cases h
    | some o => rw [k p o np eo, ← eo]; exact h
  exact .inr (.inl ⟨p, xs, ds, rfl, e, rfl, l, a.imp fun v d z => z H'' k⟩)
theorem StRp.tup {p : Addr} {xs : List V} {ds : List PyData} (np : ¬ S p) (h : asT (H p) = some xs) (l : xs.length ≤ m) (a : All2 (StRp S m H n) xs ds) : StRp S m H (n + 1) (.ref p) (.tuple ds) := fun H'' k => by
  have e : asT (H'' p) = some xs := by
    cases eo : H p with
    | none => rw [eo] at h; cases h
    | some o => rw [k p o np eo, ← eo]; exact h
  exact .inr (.inr (.inl ⟨p, xs, ds, rfl, e, rfl, l, a.imp fun v d z => z H'' k⟩))
theorem StRp.dct {p : Addr} (np : ¬ S p) (h : H p = some (.dK [])) : StRp S m H (n + 1) (.ref p) (.dict []) := fun H'' k => .inr (.inr (.inr ⟨p, rfl, k p _ np h, rfl⟩))
theorem StRp.of_new {H0 : Hp} (hs : ∀ b, H0 b = none → ¬ S b) (h : NewRp m H0 H n v d) : StRp S m H n v d := fun H'' k => h H'' fun b o e1 e2 => k b o (hs b e1) e2
/-- the heap without the store -/
noncomputable def cut0 (S : Addr → Prop) (H : Hp) : Hp := fun b => @ite _ (S b) (Classical.propDecidable _) none (H b)
theorem cut0_k : ∀ b o, ¬ S b → H b = some o → cut0 S H b = some o := fun b o nb e => by
  unfold cut0
  rw [if_neg nb]
  exact e
theorem StRp.cases (h : StRp S m H n v d) : Flat m v d ∨ (∃ k p xs ds, n = k + 1 ∧ v = .ref p ∧ ¬ S p ∧ asL (H p) = some xs ∧ d = .list ds ∧ xs.length ≤ m ∧ All2 (StRp S m H k) xs ds) ∨
    (∃ k p xs ds, n = k + 1 ∧ v = .ref p ∧ ¬ S p ∧ asT (H p) = some xs ∧ d = .tuple ds ∧ xs.length ≤ m ∧ All2 (StRp S m H k) xs ds) ∨ ∃ k p, n = k + 1 ∧ v = .ref p ∧ ¬ S p ∧ H p = some (.dK []) ∧ d = .dict [] := by
  have h0 := h _ cut0_k
  have ne : ∀ {p : Addr} {o : HO}, cut0 S H p = some o → ¬ S p ∧ H p = some o := fun {p o} e => by
    unfold cut0 at e
    split at e
    · cases e
    · rename_i np
      exact ⟨np, e⟩
  rcases rp_flat_or h0 with f | ⟨k, p, xs, ds, e1, e2, e3, e4, e5, e6⟩ | ⟨k, p, xs, ds, e1, e2, e3, e4, e5, e6⟩ | ⟨k, p, e1, e2, e3, e4⟩
  · exact .inl f
  · cases eo : cut0 S H p with
    | none => rw [eo] at e3; cases e3
    | some o =>
      obtain ⟨np, ho⟩ := ne eo
      refine .inr (.inl ⟨k, p, xs, ds, e1, e2, np, by rw [ho, ← eo]; exact e3, e4, e5, e6.1, fun i x d hx hd H'' z => ?_⟩)
      subst e1 e2 e4
      rcases rp_flat_or (h H'' z) with (⟨_, f⟩ | ⟨_, _, f⟩ | ⟨_, _, f⟩ | ⟨_, _, f⟩) | ⟨k2, p2, ys, es, f1, f2, f3, f4, f5, f6⟩ | ⟨k2, p2, ys, es, f1, f2, f3, f4, f5, f6⟩ | ⟨k2, p2, f1, f2, f3, f4⟩
      · cases f
      · cases f
      · cases f
      · cases f
      · injection f4 with f4
        injection f2 with f2
        subst f4 f2
        have f1 : k2 = k := by omega
        subst f1
        rw [z p o np ho, ← eo, e3] at f3
        cases f3
        exact f6.2 i x d hx hd
      · cases f4
      · cases f4
  · cases eo : cut0 S H p with
    | none => rw [eo] at e3; cases e3
    | some o =>
      obtain ⟨np, ho⟩ := ne eo
      refine .inr (.inr (.inl ⟨k, p, xs, ds, e1, e2, np, by rw [ho, ← eo]; exact e3, e4, e5, e6.1, fun i x d hx hd H'' z => ?_⟩))
      subst e1 e2 e4
      rcases rp_flat_or (h H'' z) with (⟨_, f⟩ | ⟨_, _, f⟩ | ⟨_, _, f⟩ | ⟨_, _, f⟩) | ⟨k2, p2, ys, es, f1, f2, f3, f4, f5, f6⟩ | ⟨k2, p2, ys, es, f1, f2, f3, f4, f5, f6⟩ | ⟨k2, p2, f1, f2, f3, f4⟩
      · cases f
      · cases f
      · cases f
      · cases f
      · cases f4
      · injection f4 with f4
        injection f2 with f2
        subst f4 f2
        have f1 : k2 = k := by omega
        subst f1
        rw [z p o np ho, ← eo, e3] at f3
        cases f3
        exact f6.2 i x d hx hd
      · cases f4
  · obtain ⟨np, ho⟩ := ne e3
    exact .inr (.inr (.inr ⟨k, p, e1, e2, np, ho, e4⟩))
end
/-- what is set apart has its cells -/
def Al (S : Addr → Prop) (H : Hp) : Prop := ∀ b, S b → H b ≠ none
theorem Al.kp {st : Addr} {S : Addr → Prop} {H H' : Hp} (h : Al S H) (k : Kp st H H') (s : StAt H' st) : Al S H' := fun b hb => by
  by_cases e : b = st
  · rw [e]
    obtain ⟨c, ns, a, b, d, e, h1, _⟩ := s
    rw [h1]
    exact fun z => by cases z
  · cases eo : H b with
    | none => exact absurd eo (h b hb)
    | some o => rw [k.1 b o e eo]; exact fun z => by cases z
theorem fS {st p : Addr} {S : Addr → Prop} {H H' : Hp} (h : Al S H) (k : Kp st H H') (s : StAt H' st) (n : H' p = none) : ¬ S p := fun z => h.kp k s p z n
end XB

/-! A plain value bent. -/
namespace XB
open PySem L2
local macro_rules | `(tactic| walk_at "s") => `(tactic| try simp only [u_var, u_c, u_op, u_un, u_nil, u_cons, u_cb, u_call, u_callS, u_tup, u_lst, u_test, u_B, u_and, u_or, u_not, u_andV, u_orV, u_notV, u_ifE, u_chain, u_sl, u_noPart, u_part, u_bm, u_bm0, u_rev, u_lc, u_try, u_sui, u_sui0, u_unb_rt, u_unb_nx, u_xf, u_WE, w_nil, w_cons, u_raise, u_rng1, u_rng2, u_next, u_ret, u_gname, u_gnil, u_gcons, u_gsub, u_gtup,
  f_add, f_addS, f_addR, f_sub, f_mul, f_mulR, f_mod, f_div, f_pow, f_neg, f_cmp, f_eq, f_eqB, f_eqS, f_ne, f_neB, f_neS, f_isN, f_notN, f_isB, f_ix, f_ixS, f_int, f_intB, f_len, f_lenS, f_max, f_min, f_abs, f_list, f_tuple, f_all, f_sum, f_isi, f_isiT, f_append, f_insert, f_pop, f_sl, f_set,
  kitS, tys, List.isEmpty_cons, Option.map_some, kt_NoneType_int, kt_NoneType_bool, kt_NoneType_str, kt_NoneType_list, kt_NoneType_tuple, kt_NoneType_dict, kt_int_int, kt_int_bool, kt_int_str, kt_int_list, kt_int_tuple, kt_int_dict, kt_bool_int, kt_bool_bool, kt_bool_str, kt_bool_list, kt_bool_tuple, kt_bool_dict, kt_str_int, kt_str_bool, kt_str_str, kt_str_list, kt_str_tuple, kt_str_dict, kt_list_int, kt_list_bool, kt_list_str, kt_list_list, kt_list_tuple, kt_list_dict, kt_tuple_int, kt_tuple_bool, kt_tuple_str, kt_tuple_list, kt_tuple_tuple, kt_tuple_dict, kt_dict_int, kt_dict_bool, kt_dict_str, kt_dict_list, kt_dict_tuple, kt_dict_dict, asL_lst, asL_frz, asL_tup, asT_tup, asS_lst, asS_frz, asS_tup, tyN_non, tyN_bl, tyN_int, tyN_str, atV_lit, ixN_lit, upd_same, upd_ne, upd_ne',
  List.getElem?_cons_zero, List.getElem?_cons_succ, List.set_cons_zero, List.set_cons_succ, List.append_nil, List.length_cons, List.length_nil, Option.some.injEq, exists_eq_left', exists_eq_left, exists_and_left, V.bl.injEq, V.int.injEq, V.str.injEq, V.ref.injEq, Bool.not_eq_true, Bool.not_true, Bool.not_false, decide_true, decide_false, decide_eq_true_eq, decide_eq_false_iff_not, Bool.false_eq_true, if_true, if_false, ite_true, ite_false, reduceCtorEq, true_and, and_true, Nat.reduceAdd, Nat.reduceLT, Nat.zero_add, ne_eq, not_false_eq_true, not_true_eq_false, List.cons.injEq, and_assoc])
local macro_rules | `(tactic| walk_at "S") => `(tactic| try simp only [u_var, u_c, u_op, u_un, u_nil, u_cons, u_cb, u_call, u_callS, u_tup, u_lst, u_test, u_B, u_and, u_or, u_not, u_andV, u_orV, u_notV, u_ifE, u_chain, u_sl, u_noPart, u_part, u_bm, u_bm0, u_rev, u_lc, u_try, u_sui, u_sui0, u_unb_rt, u_unb_nx, u_xf, u_WE, w_nil, w_cons, u_raise, u_rng1, u_rng2, u_next, u_ret, u_gname, u_gnil, u_gcons, u_gsub, u_gtup,
  f_add, f_addS, f_addR, f_sub, f_mul, f_mulR, f_mod, f_div, f_pow, f_neg, f_cmp, f_eq, f_eqB, f_eqS, f_ne, f_neB, f_neS, f_isN, f_notN, f_isB, f_ix, f_ixS, f_int, f_intB, f_len, f_lenS, f_max, f_min, f_abs, f_list, f_tuple, f_all, f_sum, f_isi, f_isiT, f_append, f_insert, f_pop, f_sl, f_set,
  kitS, tys, List.isEmpty_cons, Option.map_some, kt_NoneType_int, kt_NoneType_bool, kt_NoneType_str, kt_NoneType_list, kt_NoneType_tuple, kt_NoneType_dict, kt_int_int, kt_int_bool, kt_int_str, kt_int_list, kt_int_tuple, kt_int_dict, kt_bool_int, kt_bool_bool, kt_bool_str, kt_bool_list, kt_bool_tuple, kt_bool_dict, kt_str_int, kt_str_bool, kt_str_str, kt_str_list, kt_str_tuple, kt_str_dict, kt_list_int, kt_list_bool, kt_list_str, kt_list_list, kt_list_tuple, kt_list_dict, kt_tuple_int, kt_tuple_bool, kt_tuple_str, kt_tuple_list, kt_tuple_tuple, kt_tuple_dict, kt_dict_int, kt_dict_bool, kt_dict_str, kt_dict_list, kt_dict_tuple, kt_dict_dict, asL_lst, asL_frz, asL_tup, asT_tup, asS_lst, asS_frz, asS_tup, tyN_non, tyN_bl, tyN_int, tyN_str, atV_lit, ixN_lit, upd_same, upd_ne, upd_ne',
  List.getElem?_cons_zero, List.getElem?_cons_succ, List.set_cons_zero, List.set_cons_succ, List.append_nil, List.length_cons, List.length_nil, Option.some.injEq, exists_eq_left', exists_eq_left, exists_and_left, V.bl.injEq, V.int.injEq, V.str.injEq, V.ref.injEq, Bool.not_eq_true, Bool.not_true, Bool.not_false, decide_true, decide_false, decide_eq_true_eq, decide_eq_false_iff_not, Bool.false_eq_true, if_true, if_false, ite_true, ite_false, reduceCtorEq, true_and, and_true, Nat.reduceAdd, Nat.reduceLT, Nat.zero_add, ne_eq, not_false_eq_true, not_true_eq_false, List.cons.injEq, and_assoc, *])
/-- what comes of a value at depth n that is bent -/
def Bends (st : Addr) (S : Addr → Prop) (m n : Nat) (H : Hp) (Q : VK) : Prop := ∀ v' d' H', Kp st H H' → StAt H' st → StRp S (m + 1) H' (n + 1) v' d' → Q v' H'
theorem Bends.i {st : Addr} {S : Addr → Prop} {m n : Nat} {H H' : Hp} {Q : VK} {i : Int} (h : Bends st S m n H Q) (k : Kp st H H') (s : StAt H' st) : Q (.int i) H' := h _ _ _ k s (.flat flat_int)
theorem Bends.s {st : Addr} {S : Addr → Prop} {m n : Nat} {H H' : Hp} {Q : VK} {z : Str} (h : Bends st S m n H Q) (k : Kp st H H') (s : StAt H' st) (hz : z.length ≤ m + 1) : Q (.str z) H' := h _ _ _ k s (.flat (flat_txt hz))
theorem Bends.b {st : Addr} {S : Addr → Prop} {m n : Nat} {H H' : Hp} {Q : VK} {b : Bool} (h : Bends st S m n H Q) (k : Kp st H H') (s : StAt H' st) : Q (.bl b) H' := h _ (.bool b) _ k s (.flat (.inr (.inl ⟨b, rfl, rfl⟩)))
theorem Bends.n {st : Addr} {S : Addr → Prop} {m n : Nat} {H H' : Hp} {Q : VK} (h : Bends st S m n H Q) (k : Kp st H H') (s : StAt H' st) : Q .non H' := h _ .none _ k s (.flat (.inl ⟨rfl, rfl⟩))
def sp_l_bent_leaf (K : PySem.W.Frag) (C : CA) : Sp := fun vs H Q _ => ∃ st S m n v d, vs = [.ref st, v] ∧ StAt H st ∧ S st ∧ Al S H ∧ StRp S m H n v d ∧ 31 ≤ m ∧ m ≤ 900 ∧ (∀ p, v = .ref p → H p = some (.dK [])) ∧ Bends st S m n H Q
def rd_l_bent_leaf (K : PySem.W.Frag) (C : CA) (E : XK) : TS :=
  (tSeq (tAsg (tCallS (sp_l_take K C) (fun _ => E0) (tCons (tVar 0) (tCons (tC (.int 9)) tNil))) (gName 2)) (tSeq (tIfS (tTest (tOp fLt (tVar 2) (tC (.int 2)))) (tRet (tOp fIx (tLst (tCons (tLst (tCons (tVar 1) tNil)) (tCons (tTup (tCons (tVar 1) tNil)) tNil))) (tVar 2))) tNext) (tSeq (tIfS (tTest (tOp fIsN (tVar 1) (tC .non))) (tRet (tOp fIx (tLst (tCons (tC (.int 0)) (tCons (tC (.str ("" : Str))) (tCons (tC (.str ("-" : Str))) (tCons (tC (.bl false)) tNil))))) (tCallS (sp_l_take K C) (fun _ => E0) (tCons (tVar 0) (tCons (tC (.int 4)) tNil))))) tNext) (tSeq (tIfS (tOr (tTest (tOp (fEq K) (tVar 2) (tC (.int 2)))) (tNot (tB (tCB fIsiT (tCons (tVar 1) (tCons (tTup (tCons (tC (.ty "int")) (tCons (tC (.ty "str")) tNil))) tNil)))))) (tRet (tC .non)) tNext) (tSeq (tIfS (tB (tCB fIsi (tCons (tVar 1) (tCons (tC (.ty "bool")) tNil)))) (tRet (tCB fInt (tCons (tVar 1) tNil))) tNext) (tSeq (tIfS (tAnd (tB (tCB fIsi (tCons (tVar 1) (tCons (tC (.ty "int")) tNil)))) (tTest (tOp fGt (tCB fAbs (tCons (tVar 1) tNil)) (tOp fPow (tC (.int 10)) (tC (.int 29)))))) (tRet (tOp fIx (tLst (tCons (tC (.int 0)) (tCons (tC (.int 7)) (tCons (tUn fNeg (tC (.int 1))) (tCons (tC (.bl false)) (tCons (tC (.str ("7" : Str))) (tCons (tC (.int 1)) tNil))))))) (tOp fSub (tVar 2) (tC (.int 3))))) tNext) (tSeq (tIfS (tB (tCB fIsi (tCons (tVar 1) (tCons (tC (.ty "int")) tNil)))) (tRet (tOp fIx (tLst (tCons (tOp fAdd (tVar 1) (tC (.int 1))) (tCons (tOp fSub (tVar 1) (tC (.int 1))) (tCons (tOp fSub (tOp fSub (tC (.int 0)) (tCB fAbs (tCons (tVar 1) tNil))) (tC (.int 1))) (tCons (tOp (fEq K) (tVar 1) (tC (.int 1))) (tCons (tCB fStrI (tCons (tVar 1) tNil)) (tCons (tOp fAdd (tVar 1) (tC (.int 7))) tNil))))))) (tOp fSub (tVar 2) (tC (.int 3))))) tNext) (tSeq (tIfS (tAnd (tTest (tOp (fEq K) (tVar 2) (tC (.int 3)))) (tTest (tOp fGt (tCB fLen (tCons (tVar 1) tNil)) (tC (.int 0))))) (tRet (tSl fSl2 (tVar 1) tNoPart (tPart (tUn fNeg (tC (.int 1)))))) tNext) (tRet (tOp fAdd (tVar 1) (tOp fIx (tC (.str ("a0A -\n" : Str))) (tOp fSub (tVar 2) (tC (.int 3))))))))))))))
theorem pure_l_bent_leaf {K : PySem.W.Frag} {C : CA} (vs : List V) (H : Hp) (Q : VK) (E : XK) (h : sp_l_bent_leaf K C vs H Q E) : rd_l_bent_leaf K C E { nx := fun _ H' => Q .non H', rt := Q } (start [("store" : Str), ("value" : Str), ("form" : Str)] vs) H := by
  obtain ⟨st, S, m, n, v, d, rfl, hs, hS, al_, r, m1, m2, nr, q⟩ := h
  show rd_l_bent_leaf K C E _ [some (.ref st), some v, none] H
  unfold rd_l_bent_leaf
  refine q_asg ?_
  walk_at "s"
  refine take_ok hs (by decide) fun f H1 f0 f1 k1 s1 => ?_
  have r1 := r.kp hS k1
  refine q_if ?_
  walk_at "s"
  refine ite2 (fun c => ?_) fun c => ?_
  · refine ⟨by decide, fun pa na => al na fun H2 t2 h2 => ⟨by decide, fun pb nb => al nb fun H3 t3 h3 => ⟨by decide, fun pc nc => al nc fun H4 t4 h4 => ?_⟩⟩⟩
    have t24 := sm_trans t3 t4
    have t14 := sm_trans t2 t24
    have k4 := k1.trans (kp_sm t14)
    have s4 := s1.sm t14
    have r4 : StRp S (m + 1) H4 n v d := (r1.sm t14).wide (by omega)
    obtain rfl | rfl : f = 0 ∨ f = 1 := by omega
    · walk_at "s"
      exact q _ _ H4 k4 s4 (.lst (fS al_ k1 s1 na) (asL_at (t24 _ _ h2)) (by show 1 ≤ m + 1; omega) (All2.cons r4 All2.nil))
    · walk_at "s"
      exact q _ _ H4 k4 s4 (.tup (fS al_ (k1.trans (kp_sm t2)) (s1.sm t2) nb) (by rw [t4 _ _ h3]; rfl) (by show 1 ≤ m + 1; omega) (All2.cons r4 All2.nil))
  · refine q_if ?_
    rcases r.cases with (⟨rfl, rfl⟩ | ⟨b, rfl, rfl⟩ | ⟨i, rfl, rfl⟩ | ⟨z, ⟨rfl, lz⟩, rfl⟩) | ⟨k, p, xs, ds, _, rfl, _, e, rfl, _⟩ | ⟨k, p, xs, ds, _, rfl, _, e, rfl, _⟩ | ⟨k, p, _, rfl, np, e, rfl⟩
    · walk_at "s"
      refine ⟨by decide, fun pa na => al na fun H2 t2 h2 => ?_⟩
      refine take_ok (s1.sm t2) (by decide) fun g H3 g0 g1 k3 s3 => ?_
      have k := k1.trans ((kp_sm t2).trans k3)
      walk_at "s"
      rw [k3.1 _ _ (s1.ne na) h2]
      walk_at "s"
      obtain rfl | rfl | rfl | rfl : g = 0 ∨ g = 1 ∨ g = 2 ∨ g = 3 := by omega
      · walk_at "s"; exact q.i k s3
      · walk_at "s"; exact q.s k s3 (by show 0 ≤ m + 1; omega)
      · walk_at "s"; exact q.s k s3 (by show 1 ≤ m + 1; omega)
      · walk_at "s"; exact q.b k s3
    · walk_at "s"
      refine q_if ?_
      walk_at "s"
      refine ite2 (fun c2 => q.n k1 s1) fun c2 => ?_
      refine ⟨by decide, fun pa na => al na fun H2 t2 h2 => ?_⟩
      try simp only [h2]
      walk_at "s"
      refine q_if ?_
      walk_at "s"
      exact q.i (k1.trans (kp_sm t2)) (s1.sm t2)
    · walk_at "s"
      refine q_if ?_
      walk_at "s"
      refine ite2 (fun c2 => q.n k1 s1) fun c2 => ?_
      refine ⟨by decide, fun pa na => al na fun H2 t2 h2 => ?_⟩
      try simp only [h2]
      walk_at "s"
      have k2 := k1.trans (kp_sm t2)
      have s2 := s1.sm t2
      refine q_if ?_
      walk_at "s"
      refine q_if ?_
      walk_at "s"
      refine ⟨⟨by decide, by decide, by decide⟩, ?_⟩
      refine ite2 (fun c3 => ?_) fun c3 => ?_
      · refine ⟨by decide, fun pb nb => al nb fun H3 t3 h3 => ?_⟩
        have k3 := k2.trans (kp_sm t3)
        have s3 := s2.sm t3
        walk_at "s"
        try rw [h3]
        walk_at "s"
        obtain rfl | rfl | rfl | rfl | rfl | rfl : f = 3 ∨ f = 4 ∨ f = 5 ∨ f = 6 ∨ f = 7 ∨ f = 8 := by omega
        · walk_at "s"; exact q.i k3 s3
        · walk_at "s"; exact q.i k3 s3
        · walk_at "s"; exact q.i k3 s3
        · walk_at "s"; exact q.b k3 s3
        · walk_at "s"; exact q.s k3 s3 (by show 1 ≤ m + 1; omega)
        · walk_at "s"; exact q.i k3 s3
      · refine q_if ?_
        walk_at "s"
        have e29 : (10 : Int) ^ (29 : Int).toNat = 100000000000000000000000000000 := by decide
        rw [e29] at c3
        have la : i.natAbs ≤ 100000000000000000000000000000 := by
          by_cases c5 : i < 0
          · rw [if_pos c5] at c3; omega
          · rw [if_neg c5] at c3; omega
        have lg : i.natAbs.log2 < 1920 := by
          have h1 : i.natAbs < 2 ^ 100 := Nat.lt_of_le_of_lt la (by decide)
          by_cases h0 : i.natAbs = 0
          · rw [h0]; decide
          · have := (Nat.log2_lt (n := i.natAbs) (k := 100) h0).mpr h1
            omega
        have ls := ts_len (i := i) (by omega)
        refine ⟨lg, by decide, fun pb nb => al nb fun H3 t3 h3 => ?_⟩
        have k3 := k2.trans (kp_sm t3)
        have s3 := s2.sm t3
        walk_at "s"
        try rw [h3]
        walk_at "s"
        obtain rfl | rfl | rfl | rfl | rfl | rfl : f = 3 ∨ f = 4 ∨ f = 5 ∨ f = 6 ∨ f = 7 ∨ f = 8 := by omega
        · walk_at "s"; exact q.i k3 s3
        · walk_at "s"; exact q.i k3 s3
        · walk_at "s"; exact q.i k3 s3
        · walk_at "s"; exact q.b k3 s3
        · walk_at "s"; exact q.s k3 s3 (by omega)
        · walk_at "s"; exact q.i k3 s3
    · walk_at "s"
      refine q_if ?_
      walk_at "s"
      refine ite2 (fun c2 => q.n k1 s1) fun c2 => ?_
      refine ⟨by decide, fun pa na => al na fun H2 t2 h2 => ?_⟩
      try simp only [h2]
      walk_at "s"
      have k2 := k1.trans (kp_sm t2)
      have s2 := s1.sm t2
      refine q_if ?_
      walk_at "s"
      refine q_if ?_
      walk_at "s"
      refine q_if ?_
      walk_at "s"
      refine q_if ?_
      walk_at "s"
      have e6 : (Str.ofString "a0A -\n").cps.size = 6 := by decide +kernel
      have plus : ∃ c, atI (Str.ofString "a0A -\n").cps.toList (f - 3) = some c ∧ (z.length + (⟨#[c]⟩ : Str).length ≤ 2 ^ 24 ∧ Q (.str (z ++ ⟨#[c]⟩)) H2) :=
        txt_at (by omega) (by omega) fun ch => ⟨by rw [str_len1]; omega, q.s k2 s2 (by rw [str_len_add, str_len1]; omega)⟩
      refine ite2 (fun c3 => ⟨by show _ ≤ 2 ^ 24; omega, ite2 (fun c4 => ?_) fun c4 => ?_⟩) fun c3 => ?_
      · simp only [f_slS]
        refine ⟨by show _ ≤ 2 ^ 24; omega, q.s k2 s2 ?_⟩
        have := PyProof.Txt.length_slice_le z none (some (-1))
        omega
      · walk_at "s"
        exact ⟨by decide +kernel, plus⟩
      · walk_at "s"
        exact ⟨by decide +kernel, plus⟩
    · cases hn : H p with
      | none => rw [hn] at e; cases e
      | some o => rw [nr p rfl] at hn; cases hn; rw [nr p rfl] at e; cases e
    · cases hn : H p with
      | none => rw [hn] at e; cases e
      | some o => rw [nr p rfl] at hn; cases hn; rw [nr p rfl] at e; cases e
    · walk_at "s"
      refine q_if ?_
      walk_at "s"
      refine ite2 (fun c2 => q.n k1 s1) fun c2 => ?_
      refine ⟨by decide, fun pa na => al na fun H2 t2 h2 => ?_⟩
      try simp only [h2]
      simp only [tyN_dK (t2 _ _ (k1.1 _ _ (fun y : p = st => np (by rw [y]; exact hS)) e))]
      walk_at "s"
      exact q.n (k1.trans (kp_sm t2)) (s1.sm t2)
end XB

/-! Rows bent. -/
namespace XB
open PySem L2
local macro_rules | `(tactic| walk_at "s") => `(tactic| try simp only [u_var, u_c, u_op, u_un, u_nil, u_cons, u_cb, u_call, u_callS, u_tup, u_lst, u_test, u_B, u_and, u_or, u_not, u_andV, u_orV, u_notV, u_ifE, u_chain, u_sl, u_noPart, u_part, u_bm, u_bm0, u_rev, u_lc, u_try, u_sui, u_sui0, u_unb_rt, u_unb_nx, u_xf, u_WE, w_nil, w_cons, u_raise, u_rng1, u_rng2, u_next, u_ret, u_gname, u_gnil, u_gcons, u_gsub, u_gtup,
  f_add, f_addS, f_addR, f_sub, f_mul, f_mulR, f_mod, f_div, f_pow, f_neg, f_cmp, f_eq, f_eqB, f_eqS, f_ne, f_neB, f_neS, f_isN, f_notN, f_isB, f_ix, f_ixS, f_int, f_intB, f_len, f_lenS, f_max, f_min, f_abs, f_list, f_tuple, f_all, f_sum, f_isi, f_isiT, f_append, f_insert, f_pop, f_sl, f_set,
  kitS, tys, List.isEmpty_cons, Option.map_some, kt_NoneType_int, kt_NoneType_bool, kt_NoneType_str, kt_NoneType_list, kt_NoneType_tuple, kt_NoneType_dict, kt_int_int, kt_int_bool, kt_int_str, kt_int_list, kt_int_tuple, kt_int_dict, kt_bool_int, kt_bool_bool, kt_bool_str, kt_bool_list, kt_bool_tuple, kt_bool_dict, kt_str_int, kt_str_bool, kt_str_str, kt_str_list, kt_str_tuple, kt_str_dict, kt_list_int, kt_list_bool, kt_list_str, kt_list_list, kt_list_tuple, kt_list_dict, kt_tuple_int, kt_tuple_bool, kt_tuple_str, kt_tuple_list, kt_tuple_tuple, kt_tuple_dict, kt_dict_int, kt_dict_bool, kt_dict_str, kt_dict_list, kt_dict_tuple, kt_dict_dict, asL_lst, asL_frz, asL_tup, asT_tup, asS_lst, asS_frz, asS_tup, tyN_non, tyN_bl, tyN_int, tyN_str, atV_lit, ixN_lit, upd_same, upd_ne, upd_ne',
  List.getElem?_cons_zero, List.getElem?_cons_succ, List.set_cons_zero, List.set_cons_succ, List.append_nil, List.length_cons, List.length_nil, Option.some.injEq, exists_eq_left', exists_eq_left, exists_and_left, V.bl.injEq, V.int.injEq, V.str.injEq, V.ref.injEq, Bool.not_eq_true, Bool.not_true, Bool.not_false, decide_true, decide_false, decide_eq_true_eq, decide_eq_false_iff_not, Bool.false_eq_true, if_true, if_false, ite_true, ite_false, reduceCtorEq, true_and, and_true, Nat.reduceAdd, Nat.reduceLT, Nat.zero_add, ne_eq, not_false_eq_true, not_true_eq_false, List.cons.injEq, and_assoc])
local macro_rules | `(tactic| walk_at "S") => `(tactic| try simp only [u_var, u_c, u_op, u_un, u_nil, u_cons, u_cb, u_call, u_callS, u_tup, u_lst, u_test, u_B, u_and, u_or, u_not, u_andV, u_orV, u_notV, u_ifE, u_chain, u_sl, u_noPart, u_part, u_bm, u_bm0, u_rev, u_lc, u_try, u_sui, u_sui0, u_unb_rt, u_unb_nx, u_xf, u_WE, w_nil, w_cons, u_raise, u_rng1, u_rng2, u_next, u_ret, u_gname, u_gnil, u_gcons, u_gsub, u_gtup,
  f_add, f_addS, f_addR, f_sub, f_mul, f_mulR, f_mod, f_div, f_pow, f_neg, f_cmp, f_eq, f_eqB, f_eqS, f_ne, f_neB, f_neS, f_isN, f_notN, f_isB, f_ix, f_ixS, f_int, f_intB, f_len, f_lenS, f_max, f_min, f_abs, f_list, f_tuple, f_all, f_sum, f_isi, f_isiT, f_append, f_insert, f_pop, f_sl, f_set,
  kitS, tys, List.isEmpty_cons, Option.map_some, kt_NoneType_int, kt_NoneType_bool, kt_NoneType_str, kt_NoneType_list, kt_NoneType_tuple, kt_NoneType_dict, kt_int_int, kt_int_bool, kt_int_str, kt_int_list, kt_int_tuple, kt_int_dict, kt_bool_int, kt_bool_bool, kt_bool_str, kt_bool_list, kt_bool_tuple, kt_bool_dict, kt_str_int, kt_str_bool, kt_str_str, kt_str_list, kt_str_tuple, kt_str_dict, kt_list_int, kt_list_bool, kt_list_str, kt_list_list, kt_list_tuple, kt_list_dict, kt_tuple_int, kt_tuple_bool, kt_tuple_str, kt_tuple_list, kt_tuple_tuple, kt_tuple_dict, kt_dict_int, kt_dict_bool, kt_dict_str, kt_dict_list, kt_dict_tuple, kt_dict_dict, asL_lst, asL_frz, asL_tup, asT_tup, asS_lst, asS_frz, asS_tup, tyN_non, tyN_bl, tyN_int, tyN_str, atV_lit, ixN_lit, upd_same, upd_ne, upd_ne',
  List.getElem?_cons_zero, List.getElem?_cons_succ, List.set_cons_zero, List.set_cons_succ, List.append_nil, List.length_cons, List.length_nil, Option.some.injEq, exists_eq_left', exists_eq_left, exists_and_left, V.bl.injEq, V.int.injEq, V.str.injEq, V.ref.injEq, Bool.not_eq_true, Bool.not_true, Bool.not_false, decide_true, decide_false, decide_eq_true_eq, decide_eq_false_iff_not, Bool.false_eq_true, if_true, if_false, ite_true, ite_false, reduceCtorEq, true_and, and_true, Nat.reduceAdd, Nat.reduceLT, Nat.zero_add, ne_eq, not_false_eq_true, not_true_eq_false, List.cons.injEq, and_assoc, *])
theorem StRp.more {st : Addr} {S : Addr → Prop} {m n k : Nat} {H H' : Hp} {v : V} {d : PyData} (h : StRp S m H n v d) (hS : S st) (kk : Kp st H H') (hn : n ≤ k) : StRp S (m + 1) H' k v d := ((h.kp hS kk).wide (by omega)).ups hn
theorem All2.more {st : Addr} {S : Addr → Prop} {m n k : Nat} {H H' : Hp} {xs : List V} {ds : List PyData} (h : All2 (StRp S m H n) xs ds) (hS : S st) (kk : Kp st H H') (hn : n ≤ k) : All2 (StRp S (m + 1) H' k) xs ds := h.imp fun _ _ z => z.more hS kk hn
theorem All2.get {R : V → PyData → Prop} {xs : List V} {ds : List PyData} (h : All2 R xs ds) {i : Nat} {x : V} (hx : xs[i]? = some x) : ∃ d, ds[i]? = some d ∧ R x d := by
  have hi := (List.getElem?_eq_some_iff.mp hx).1
  have hd : ds[i]? = some (ds[i]'(by rw [← h.1]; exact hi)) := List.getElem?_eq_getElem _
  exact ⟨_, hd, h.2 i x _ hx hd⟩
theorem seq_ty {H : Hp} {p : Addr} {xs : List V} (h : asL (H p) = some xs ∨ asT (H p) = some xs) : asS (H p) = some xs ∧ (tyN (.ref p) H = some "list" ∨ tyN (.ref p) H = some "tuple") := by
  rcases h with h | h
  · exact ⟨asS_of_L h, .inl (lst_ty h)⟩
  · exact ⟨asS_of_T h, .inr (tup_ty h)⟩
theorem seq_kp {st : Addr} {H H' : Hp} {p : Addr} {xs : List V} (k : Kp st H H') (np : p ≠ st) (h : asL (H p) = some xs ∨ asT (H p) = some xs) : asL (H' p) = some xs ∨ asT (H' p) = some xs := by
  cases e : H p with
  | none => rw [e] at h; rcases h with h | h <;> cases h
  | some o => rw [k.1 p o np e, ← e]; exact h
def sp_l_bent_row (K : PySem.W.Frag) (C : CA) : Sp := fun vs H Q _ => ∃ st S m k p xs ds, vs = [.ref st, .ref p] ∧ StAt H st ∧ S st ∧ Al S H ∧ p ≠ st ∧ (asL (H p) = some xs ∨ asT (H p) = some xs) ∧ All2 (StRp S m H k) xs ds ∧ xs.length ≤ m ∧ 31 ≤ m ∧ m ≤ 900 ∧ Bends st S m (k + 1) H Q
def rd_l_bent_row (K : PySem.W.Frag) (C : CA) (E : XK) : TS :=
  (tSeq (tAsg (tCB fList (tCons (tVar 1) tNil)) (gName 2)) (tSeq (tAsg (tCallS (sp_l_take K C) (fun _ => E0) (tCons (tVar 0) (tCons (tOp fAdd (tCB fLen (tCons (tVar 2) tNil)) (tC (.int 1))) tNil))) (gName 3)) (tSeq (tAsg (tCallS (sp_l_take K C) (fun _ => E0) (tCons (tVar 0) (tCons (tC (.int 6)) tNil))) (gName 4)) (Evl.tCut (tIfS (tAnd (tTest (tOp (fEq K) (tVar 4) (tC (.int 0)))) (tTest (tOp fGt (tCB fLen (tCons (tVar 2) tNil)) (tC (.int 0))))) (tSeq (tAsg (tCB fMin (tCons (tVar 3) (tCons (tOp fSub (tCB fLen (tCons (tVar 2) tNil)) (tC (.int 1))) tNil))) (gName 3)) (tAsg (tOp fAdd (tSl fSl2 (tVar 2) tNoPart (tPart (tVar 3))) (tSl fSl2 (tVar 2) (tPart (tOp fAdd (tVar 3) (tC (.int 1)))) tNoPart)) (gName 2))) (tIfS (tAnd (tTest (tOp (fEq K) (tVar 4) (tC (.int 1)))) (tTest (tOp fGt (tCB fLen (tCons (tVar 2) tNil)) (tC (.int 0))))) (tDrop (tBMF "list" fInsert (tVar 2) (tCons (tVar 3) (tCons (tOp fIx (tVar 2) (tCB fMin (tCons (tVar 3) (tCons (tOp fSub (tCB fLen (tCons (tVar 2) tNil)) (tC (.int 1))) tNil)))) tNil)))) (tIfS (tTest (tOp (fEq K) (tVar 4) (tC (.int 2)))) (tDrop (tBMF "list" fInsert (tVar 2) (tCons (tVar 3) (tCons (tCallS (sp_l_pick K C) (fun _ => E0) (tCons (tVar 0) (tCons (tLst (tCons (tC .non) (tCons (tC (.int 0)) (tCons (tC (.str ("a" : Str))) (tCons (tTup tNil) (tCons (tLst tNil) tNil)))))) tNil))) tNil)))) (tIfS (tTest (tOp (fEq K) (tVar 4) (tC (.int 3)))) (tRet (tCallS (sp_l_pick K C) (fun _ => E0) (tCons (tVar 0) (tCons (tLst (tCons (tC .non) (tCons tDNewK (tCons (tC (.int 0)) (tCons (tC (.str ("a" : Str))) tNil))))) tNil)))) (tSeq (tIfS (tB (tCB fIsi (tCons (tVar 1) (tCons (tC (.ty "tuple")) tNil)))) (tRet (tVar 2)) tNext) (tRet (tCB fTuple (tCons (tVar 2) tNil)))))))) (tSeq (tIfS (tB (tCB fIsi (tCons (tVar 1) (tCons (tC (.ty "tuple")) tNil)))) (tRet (tCB fTuple (tCons (tVar 2) tNil))) tNext) (tRet (tVar 2)))))))
theorem pure_l_bent_row {K : PySem.W.Frag} {C : CA} (vs : List V) (H : Hp) (Q : VK) (E : XK) (h : sp_l_bent_row K C vs H Q E) : rd_l_bent_row K C E { nx := fun _ H' => Q .non H', rt := Q } (start [("store" : Str), ("value" : Str), ("row" : Str), ("at" : Str), ("form" : Str)] vs) H := by
  obtain ⟨st, S, m, k, p, xs, ds, rfl, hs, hS, al_, np, hp, a, lx, m1, m2, q⟩ := h
  show rd_l_bent_row K C E _ [some (.ref st), some (.ref p), none, none, none] H
  unfold rd_l_bent_row
  refine q_asg ?_
  walk_at "s"
  simp only [(seq_ty hp).1]
  refine fun pr nr => al nr fun H1 t1 h1 => ?_
  have s1 := hs.sm t1
  have k1 : Kp st H H1 := kp_sm t1
  refine q_asg ?_
  walk_at "s"
  simp only [h1]
  walk_at "s"
  refine take_ok s1 (by omega) fun at_ H2 a0 a1 k2 s2 => ?_
  have h2 := k2.1 _ _ (hs.ne nr) h1
  refine q_asg ?_
  walk_at "s"
  refine take_ok s2 (by decide) fun f H3 f0 f1 k3 s3 => ?_
  have h3 := k3.1 _ _ (hs.ne nr) h2
  have k13 := (k1.trans k2).trans k3
  have npr := hs.ne nr
  have nSr : ¬ S pr := fS al_ (Kp.refl st H) hs nr
  have at_le : at_.toNat ≤ xs.length := by omega
  refine ⟨fun σ H' => ∃ (pr : Addr) (ys : List V) (es : List PyData) (w1 w2 : Option V), σ = [some (.ref st), some (.ref p), some (.ref pr), w1, w2] ∧ Kp st H H' ∧ StAt H' st ∧ ¬ S pr ∧ H' pr = some (.lst ys) ∧ All2 (StRp S (m + 1) H' (k + 1)) ys es ∧ ys.length ≤ m + 1, ?_, ?_⟩
  · refine q_if1 ?_
    walk_at "s"
    simp only [asS_at h3]
    walk_at "s"
    have tail : (f ≠ 0 ∨ xs = []) → tIfS (tAnd (tTest (tOp (fEq K) (tVar 4) (tC (.int 1)))) (tTest (tOp fGt (tCB fLen (tCons (tVar 2) tNil)) (tC (.int 0))))) (tDrop (tBMF "list" fInsert (tVar 2) (tCons (tVar 3) (tCons (tOp fIx (tVar 2) (tCB fMin (tCons (tVar 3) (tCons (tOp fSub (tCB fLen (tCons (tVar 2) tNil)) (tC (.int 1))) tNil)))) tNil)))) (tIfS (tTest (tOp (fEq K) (tVar 4) (tC (.int 2)))) (tDrop (tBMF "list" fInsert (tVar 2) (tCons (tVar 3) (tCons (tCallS (sp_l_pick K C) (fun _ => E0) (tCons (tVar 0) (tCons (tLst (tCons (tC .non) (tCons (tC (.int 0)) (tCons (tC (.str ("a" : Str))) (tCons (tTup tNil) (tCons (tLst tNil) tNil)))))) tNil))) tNil)))) (tIfS (tTest (tOp (fEq K) (tVar 4) (tC (.int 3)))) (tRet (tCallS (sp_l_pick K C) (fun _ => E0) (tCons (tVar 0) (tCons (tLst (tCons (tC .non) (tCons tDNewK (tCons (tC (.int 0)) (tCons (tC (.str ("a" : Str))) tNil))))) tNil)))) (tSeq (tIfS (tB (tCB fIsi (tCons (tVar 1) (tCons (tC (.ty "tuple")) tNil)))) (tRet (tVar 2)) tNext) (tRet (tCB fTuple (tCons (tVar 2) tNil)))))) { nx := fun σ H' => ∃ (pr : Addr) (ys : List V) (es : List PyData) (w1 w2 : Option V), σ = [some (.ref st), some (.ref p), some (.ref pr), w1, w2] ∧ Kp st H H' ∧ StAt H' st ∧ ¬ S pr ∧ H' pr = some (.lst ys) ∧ All2 (StRp S (m + 1) H' (k + 1)) ys es ∧ ys.length ≤ m + 1, rt := Q } [some (.ref st), some (.ref p), some (.ref pr), some (.int at_), some (.int f)] H3 := fun _ => by
      refine q_if1 ?_
      walk_at "s"
      simp only [asS_at h3]
      walk_at "s"
      have el : ∀ (H' : Hp), Kp st H H' → All2 (StRp S (m + 1) H' (k + 1)) xs ds := fun H' kk => a.more hS kk (by omega)
      have r2 : tIfS (tTest (tOp (fEq K) (tVar 4) (tC (.int 2)))) (tDrop (tBMF "list" fInsert (tVar 2) (tCons (tVar 3) (tCons (tCallS (sp_l_pick K C) (fun _ => E0) (tCons (tVar 0) (tCons (tLst (tCons (tC .non) (tCons (tC (.int 0)) (tCons (tC (.str ("a" : Str))) (tCons (tTup tNil) (tCons (tLst tNil) tNil)))))) tNil))) tNil)))) (tIfS (tTest (tOp (fEq K) (tVar 4) (tC (.int 3)))) (tRet (tCallS (sp_l_pick K C) (fun _ => E0) (tCons (tVar 0) (tCons (tLst (tCons (tC .non) (tCons tDNewK (tCons (tC (.int 0)) (tCons (tC (.str ("a" : Str))) tNil))))) tNil)))) (tSeq (tIfS (tB (tCB fIsi (tCons (tVar 1) (tCons (tC (.ty "tuple")) tNil)))) (tRet (tVar 2)) tNext) (tRet (tCB fTuple (tCons (tVar 2) tNil))))) { nx := fun σ H' => ∃ (pr : Addr) (ys : List V) (es : List PyData) (w1 w2 : Option V), σ = [some (.ref st), some (.ref p), some (.ref pr), w1, w2] ∧ Kp st H H' ∧ StAt H' st ∧ ¬ S pr ∧ H' pr = some (.lst ys) ∧ All2 (StRp S (m + 1) H' (k + 1)) ys es ∧ ys.length ≤ m + 1, rt := Q } [some (.ref st), some (.ref p), some (.ref pr), some (.int at_), some (.int f)] H3 := by
        refine q_if1 ?_
        walk_at "s"
        refine ite2 (fun c2 => ?_) fun c2 => ?_
        · refine q_drop1 ?_
          walk_at "s"
          refine ⟨tyN_lst h3, by decide, fun pa na => al na fun H4 t4 h4 => ⟨by decide, fun pb nb => al nb fun H5 t5 h5 => ⟨by decide, fun pc nc => al nc fun H6 t6 h6 => ?_⟩⟩⟩
          have t36 := sm_trans t4 (sm_trans t5 t6)
          have s6 := s3.sm t36
          refine pick_ok s6 (asS_at h6) (((s3.sm t4).sm t5).ne nc) (by show 5 < 2 ^ 60; decide) (by intro z; cases z) fun j v H7 hj k7 s7 => ?_
          have h7 := k7.1 _ _ npr (t36 _ _ h3)
          have k17 := (k13.trans (kp_sm t36)).trans k7
          simp only [h7]
          refine ⟨by show _ < 2 ^ 24; omega, a0, by omega, ?_⟩
          have ea : pa ≠ pr := (ne_of_none h3 na).symm
          have eb : pb ≠ pr := (ne_of_none (t4 _ _ h3) nb).symm
          have ga := k7.1 _ _ (s3.ne na) (t6 _ _ (t5 _ _ h4))
          have gb := k7.1 _ _ ((s3.sm t4).ne nb) (t6 _ _ h5)
          have k8 : Kp st H (upd H7 pr (.lst (xs.take at_.toNat ++ [v] ++ xs.drop at_.toNat))) := k17.put' nr npr
          have s8 : StAt (upd H7 pr (.lst (xs.take at_.toNat ++ [v] ++ xs.drop at_.toNat))) st := hs.put' nr k17 s7
          have rv : ∃ e, StRp S (m + 1) (upd H7 pr (.lst (xs.take at_.toNat ++ [v] ++ xs.drop at_.toNat))) (k + 1) v e := by
            have hj5 : j < 5 := (List.getElem?_eq_some_iff.mp hj).1
            match j, hj5, hj with
            | 0, _, hj => cases hj; exact ⟨.none, .flat (.inl ⟨rfl, rfl⟩)⟩
            | 1, _, hj => cases hj; exact ⟨_, .flat flat_int⟩
            | 2, _, hj => cases hj; exact ⟨_, .flat (flat_txt (by show 1 ≤ m + 1; omega))⟩
            | 3, _, hj => cases hj; exact ⟨.tuple [], .tup (fS al_ k13 s3 na) (by rw [upd_ne ea, ga]; rfl) (by show 0 ≤ m + 1; omega) All2.nil⟩
            | 4, _, hj => cases hj; exact ⟨.list [], .lst (fS al_ (k13.trans (kp_sm t4)) (s3.sm t4) nb) (by rw [upd_ne eb, gb]; rfl) (by show 0 ≤ m + 1; omega) All2.nil⟩
          obtain ⟨e, rv⟩ := rv
          refine ⟨k8, s8, nSr, _, rfl, ds.take at_.toNat ++ [e] ++ ds.drop at_.toNat, ?_, ?_⟩
          · exact ((el _ k8).take _).append (All2.cons rv All2.nil) |>.append ((el _ k8).drop _)
          · rw [List.length_append, List.length_append, List.length_take, List.length_drop]
            show _ + 1 + _ ≤ _
            omega
        · refine q_if1 ?_
          walk_at "s"
          refine ite2 (fun c3 => ?_) fun c3 => ?_
          · refine fun pa na => al na fun H4 t4 h4 => ⟨by decide, fun pc nc => al nc fun H6 t6 h6 => ?_⟩
            have t36 := sm_trans t4 t6
            have s6 := s3.sm t36
            refine pick_ok s6 (asS_at h6) ((s3.sm t4).ne nc) (by show 4 < 2 ^ 60; decide) (by intro z; cases z) fun j v H7 hj k7 s7 => ?_
            have k17 := (k13.trans (kp_sm t36)).trans k7
            have ga := k7.1 _ _ (s3.ne na) (t6 _ _ h4)
            have hj5 : j < 4 := (List.getElem?_eq_some_iff.mp hj).1
            match j, hj5, hj with
            | 0, _, hj => cases hj; exact q.n k17 s7
            | 1, _, hj => cases hj; exact q _ _ _ k17 s7 (.dct (fS al_ k13 s3 na) ga)
            | 2, _, hj => cases hj; exact q.i k17 s7
            | 3, _, hj => cases hj; exact q.s k17 s7 (by show 1 ≤ m + 1; omega)
          · refine q_if ?_
            walk_at "s"
            rcases (seq_ty (seq_kp k13 np hp)).2 with e | e
            · rw [e]
              walk_at "s"
              simp only [h3]
              walk_at "s"
              refine fun pt nt => al nt fun H4 t4 h4 => ?_
              have k4 := k13.trans (kp_sm t4)
              exact q _ _ H4 k4 (s3.sm t4) (.tup (fS al_ k13 s3 nt) (by rw [h4]; rfl) (by omega) (el _ k4))
            · rw [e]
              walk_at "s"
              exact q _ _ H3 k13 s3 (.lst nSr (asL_at h3) (by omega) (el _ k13))
      by_cases c1 : f = 1
      · subst c1
        simp only [decide_true, if_true]
        refine ite2 (fun c0 => ?_) fun c0 => r2
        refine q_drop1 ?_
        walk_at "s"
        refine ⟨tyN_lst h3, ?_⟩
        simp only [asS_at h3]
        walk_at "s"
        have ej : min at_ (((xs.length : Nat) : Int) - 1) = ((min at_.toNat (xs.length - 1) : Nat) : Int) := by omega
        rw [ej]
        have hj : xs[min at_.toNat (xs.length - 1)]? = some (xs[min at_.toNat (xs.length - 1)]'(by omega)) := List.getElem?_eq_getElem _
        obtain ⟨dv, _, _⟩ := a.get hj
        have rv := a.2 _ _ _ hj ‹_›
        refine at_nat hj ?_
        simp only [h3]
        refine ⟨by show _ < 2 ^ 24; omega, a0, by omega, ?_⟩
        generalize xs[min at_.toNat (xs.length - 1)]'(by omega) = v at hj rv
        have k8 : Kp st H (upd H3 pr (.lst (xs.take at_.toNat ++ [v] ++ xs.drop at_.toNat))) := k13.put' nr npr
        have s8 : StAt (upd H3 pr (.lst (xs.take at_.toNat ++ [v] ++ xs.drop at_.toNat))) st := hs.put' nr k13 s3
        refine ⟨k8, s8, nSr, _, rfl, ds.take at_.toNat ++ [dv] ++ ds.drop at_.toNat, ?_, ?_⟩
        · exact (((el _ k8).take _).append (All2.cons (rv.more hS k8 (by omega)) All2.nil)).append ((el _ k8).drop _)
        · rw [List.length_append, List.length_append, List.length_take, List.length_drop]
          show _ + 1 + _ ≤ _
          omega
      · have c1' : decide (f = 1) = false := decide_eq_false c1
        rw [if_neg c1]
        exact r2
    by_cases c0 : f = 0
    · subst c0
      rw [if_pos rfl]
      refine ite2 (fun c1 => ?_) fun c1 => tail (.inr (by
        cases xs with
        | nil => rfl
        | cons x xs => exact absurd (show (0 : Int) < ((x :: xs).length : Nat) by rw [List.length_cons]; omega) c1))
      refine q_asg ?_
      walk_at "s"
      simp only [asS_at h3]
      walk_at "s"
      refine q_asg1 ?_
      walk_at "s"
      simp only [f_slR, f_sl, asL_at h3]
      refine fun pa na => al na fun H6 t6 g6 => ?_
      simp only [asL_at (t6 _ _ h3)]
      refine fun pb nb => al nb fun H7 t7 g7 => ?_
      rw [cut_to (by omega)] at g6
      rw [cut_from (by omega)] at g7
      simp only [f_addR, t7 _ _ g6, g7]
      refine ⟨by rw [List.length_take, List.length_drop]; show _ ≤ 2 ^ 24; omega, fun pc nc => al nc fun H8 t8 h8 => ?_⟩
      have t38 := sm_trans t6 (sm_trans t7 t8)
      have k8 := k13.trans (kp_sm t38)
      refine ⟨pc, rfl, k8, s3.sm t38, fS al_ (k13.trans (kp_sm (sm_trans t6 t7))) ((s3.sm t6).sm t7) nc, _, h8, _, ((a.more (k := k + 1) hS k8 (by omega)).take _).append ((a.more (k := k + 1) hS k8 (by omega)).drop _), ?_⟩
      rw [List.length_append, List.length_take, List.length_drop]
      omega
    · have c0' : decide (f = 0) = false := decide_eq_false c0
      rw [if_neg c0]
      exact tail (.inl c0)
  · rintro σ H4 ⟨pr2, ys, es, w1, w2, rfl, k4, s4, np2, h4, ay, ly⟩
    refine q_if ?_
    walk_at "s"
    rcases (seq_ty (seq_kp k4 np hp)).2 with e | e
    · rw [e]
      walk_at "s"
      exact q _ _ H4 k4 s4 (.lst np2 (asL_at h4) ly ay)
    · rw [e]
      walk_at "s"
      simp only [h4]
      walk_at "s"
      refine fun pt nt => al nt fun H5 t5 h5 => ?_
      exact q _ _ H5 (k4.trans (kp_sm t5)) (s4.sm t5) (.tup (fS al_ k4 s4 nt) (by rw [h5]; rfl) ly (ay.imp fun _ _ z => z.sm t5))
end XB

/-! Data bent. -/
namespace XB
open PySem L2
local macro_rules | `(tactic| walk_at "s") => `(tactic| try simp only [u_var, u_c, u_op, u_un, u_nil, u_cons, u_cb, u_call, u_callS, u_tup, u_lst, u_test, u_B, u_and, u_or, u_not, u_andV, u_orV, u_notV, u_ifE, u_chain, u_sl, u_noPart, u_part, u_bm, u_bm0, u_rev, u_lc, u_try, u_sui, u_sui0, u_unb_rt, u_unb_nx, u_xf, u_WE, w_nil, w_cons, u_raise, u_rng1, u_rng2, u_next, u_ret, u_gname, u_gnil, u_gcons, u_gsub, u_gtup,
  f_add, f_addS, f_addR, f_sub, f_mul, f_mulR, f_mod, f_div, f_pow, f_neg, f_cmp, f_eq, f_eqB, f_eqS, f_ne, f_neB, f_neS, f_isN, f_notN, f_isB, f_ix, f_ixS, f_int, f_intB, f_len, f_lenS, f_max, f_min, f_abs, f_list, f_tuple, f_all, f_sum, f_isi, f_isiT, f_append, f_insert, f_pop, f_sl, f_set,
  kitS, tys, List.isEmpty_cons, Option.map_some, kt_NoneType_int, kt_NoneType_bool, kt_NoneType_str, kt_NoneType_list, kt_NoneType_tuple, kt_NoneType_dict, kt_int_int, kt_int_bool, kt_int_str, kt_int_list, kt_int_tuple, kt_int_dict, kt_bool_int, kt_bool_bool, kt_bool_str, kt_bool_list, kt_bool_tuple, kt_bool_dict, kt_str_int, kt_str_bool, kt_str_str, kt_str_list, kt_str_tuple, kt_str_dict, kt_list_int, kt_list_bool, kt_list_str, kt_list_list, kt_list_tuple, kt_list_dict, kt_tuple_int, kt_tuple_bool, kt_tuple_str, kt_tuple_list, kt_tuple_tuple, kt_tuple_dict, kt_dict_int, kt_dict_bool, kt_dict_str, kt_dict_list, kt_dict_tuple, kt_dict_dict, asL_lst, asL_frz, asL_tup, asT_tup, asS_lst, asS_frz, asS_tup, tyN_non, tyN_bl, tyN_int, tyN_str, atV_lit, ixN_lit, upd_same, upd_ne, upd_ne',
  List.getElem?_cons_zero, List.getElem?_cons_succ, List.set_cons_zero, List.set_cons_succ, List.append_nil, List.length_cons, List.length_nil, Option.some.injEq, exists_eq_left', exists_eq_left, exists_and_left, V.bl.injEq, V.int.injEq, V.str.injEq, V.ref.injEq, Bool.not_eq_true, Bool.not_true, Bool.not_false, decide_true, decide_false, decide_eq_true_eq, decide_eq_false_iff_not, Bool.false_eq_true, if_true, if_false, ite_true, ite_false, reduceCtorEq, true_and, and_true, Nat.reduceAdd, Nat.reduceLT, Nat.zero_add, ne_eq, not_false_eq_true, not_true_eq_false, List.cons.injEq, and_assoc])
local macro_rules | `(tactic| walk_at "S") => `(tactic| try simp only [u_var, u_c, u_op, u_un, u_nil, u_cons, u_cb, u_call, u_callS, u_tup, u_lst, u_test, u_B, u_and, u_or, u_not, u_andV, u_orV, u_notV, u_ifE, u_chain, u_sl, u_noPart, u_part, u_bm, u_bm0, u_rev, u_lc, u_try, u_sui, u_sui0, u_unb_rt, u_unb_nx, u_xf, u_WE, w_nil, w_cons, u_raise, u_rng1, u_rng2, u_next, u_ret, u_gname, u_gnil, u_gcons, u_gsub, u_gtup,
  f_add, f_addS, f_addR, f_sub, f_mul, f_mulR, f_mod, f_div, f_pow, f_neg, f_cmp, f_eq, f_eqB, f_eqS, f_ne, f_neB, f_neS, f_isN, f_notN, f_isB, f_ix, f_ixS, f_int, f_intB, f_len, f_lenS, f_max, f_min, f_abs, f_list, f_tuple, f_all, f_sum, f_isi, f_isiT, f_append, f_insert, f_pop, f_sl, f_set,
  kitS, tys, List.isEmpty_cons, Option.map_some, kt_NoneType_int, kt_NoneType_bool, kt_NoneType_str, kt_NoneType_list, kt_NoneType_tuple, kt_NoneType_dict, kt_int_int, kt_int_bool, kt_int_str, kt_int_list, kt_int_tuple, kt_int_dict, kt_bool_int, kt_bool_bool, kt_bool_str, kt_bool_list, kt_bool_tuple, kt_bool_dict, kt_str_int, kt_str_bool, kt_str_str, kt_str_list, kt_str_tuple, kt_str_dict, kt_list_int, kt_list_bool, kt_list_str, kt_list_list, kt_list_tuple, kt_list_dict, kt_tuple_int, kt_tuple_bool, kt_tuple_str, kt_tuple_list, kt_tuple_tuple, kt_tuple_dict, kt_dict_int, kt_dict_bool, kt_dict_str, kt_dict_list, kt_dict_tuple, kt_dict_dict, asL_lst, asL_frz, asL_tup, asT_tup, asS_lst, asS_frz, asS_tup, tyN_non, tyN_bl, tyN_int, tyN_str, atV_lit, ixN_lit, upd_same, upd_ne, upd_ne',
  List.getElem?_cons_zero, List.getElem?_cons_succ, List.set_cons_zero, List.set_cons_succ, List.append_nil, List.length_cons, List.length_nil, Option.some.injEq, exists_eq_left', exists_eq_left, exists_and_left, V.bl.injEq, V.int.injEq, V.str.injEq, V.ref.injEq, Bool.not_eq_true, Bool.not_true, Bool.not_false, decide_true, decide_false, decide_eq_true_eq, decide_eq_false_iff_not, Bool.false_eq_true, if_true, if_false, ite_true, ite_false, reduceCtorEq, true_and, and_true, Nat.reduceAdd, Nat.reduceLT, Nat.zero_add, ne_eq, not_false_eq_true, not_true_eq_false, List.cons.injEq, and_assoc, *])
def sp_bentN (k : Nat) : Sp := fun vs H Q _ => ∃ st S m n v d, vs = [.ref st, v] ∧ StAt H st ∧ S st ∧ Al S H ∧ n ≤ k ∧ StRp S m H n v d ∧ 31 ≤ m ∧ m ≤ 900 ∧ Bends st S m n H Q
def sp_bent_in : Nat → Sp
  | 0 => fun _ _ _ _ => False
  | n + 1 => sp_bentN n
def sp_l_bent (K : PySem.W.Frag) (C : CA) : Sp := sp_bentN 5
def rd_l_bent (K : PySem.W.Frag) (C : CA) (spR : Sp) (E : XK) : TS :=
  (tSeq (tIfS (tNot (tB (tCB fIsiT (tCons (tVar 1) (tCons (tTup (tCons (tC (.ty "list")) (tCons (tC (.ty "tuple")) tNil))) tNil))))) (tRet (tCallS (sp_l_bent_leaf K C) (fun _ => E0) (tCons (tVar 0) (tCons (tVar 1) tNil)))) tNext) (tSeq (tIfS (tOr (tTest (tOp (fEq K) (tCB fLen (tCons (tVar 1) tNil)) (tC (.int 0)))) (tTest (tOp (fEq K) (tCallS (sp_l_take K C) (fun _ => E0) (tCons (tVar 0) (tCons (tC (.int 4)) tNil))) (tC (.int 0))))) (tRet (tCallS (sp_l_bent_row K C) (fun _ => E0) (tCons (tVar 0) (tCons (tVar 1) tNil)))) tNext) (tSeq (tAsg (tCallS (sp_l_take K C) (fun _ => E0) (tCons (tVar 0) (tCons (tCB fLen (tCons (tVar 1) tNil)) tNil))) (gName 2)) (tSeq (tAsg (tCB fList (tCons (tVar 1) tNil)) (gName 3)) (tSeq (tAsg (tCallS spR (fun _ => E0) (tCons (tVar 0) (tCons (tOp fIx (tVar 3) (tVar 2)) tNil))) (gSub (tVar 3) (tVar 2) fSet)) (tSeq (tIfS (tB (tCB fIsi (tCons (tVar 1) (tCons (tC (.ty "tuple")) tNil)))) (tRet (tCB fTuple (tCons (tVar 3) tNil))) tNext) (tRet (tVar 3))))))))
theorem pure_l_bentN {K : PySem.W.Frag} {C : CA} (k : Nat) (vs : List V) (H : Hp) (Q : VK) (E : XK) (h : sp_bentN k vs H Q E) : rd_l_bent K C (sp_bent_in k) E { nx := fun _ H' => Q .non H', rt := Q } (start [("store" : Str), ("value" : Str), ("at" : Str), ("row" : Str)] vs) H := by
  obtain ⟨st, S, m, n, v, d, rfl, hs, hS, al_, hn, r, m1, m2, q⟩ := h
  show rd_l_bent K C _ E _ [some (.ref st), some v, none, none] H
  unfold rd_l_bent
  refine q_if ?_
  walk_at "s"
  refine ⟨by decide, fun tp ht => al ht fun H1 t1 h1 => ?_⟩
  try simp only [h1]
  have k1 : Kp st H H1 := kp_sm t1
  have s1 := hs.sm t1
  have q1 : Bends st S m n H1 Q := fun v' d' H' kk ss rr => q v' d' H' (k1.trans kk) ss rr
  have leaf : (∀ p, v = .ref p → H1 p = some (.dK [])) → sp_l_bent_leaf K C [.ref st, v] H1 Q E0 := fun nr => ⟨st, S, m, n, v, d, rfl, s1, hS, al_.kp k1 s1, r.sm t1, m1, m2, nr, q1⟩
  have seq : ∀ (j : Nat) (p : Addr) (xs : List V) (ds : List PyData), n = j + 1 → v = .ref p → ¬ S p → (asL (H1 p) = some xs ∨ asT (H1 p) = some xs) → xs.length ≤ m → All2 (StRp S m H1 j) xs ds →
      tSeq (tIfS (tOr (tTest (tOp (fEq K) (tCB fLen (tCons (tVar 1) tNil)) (tC (.int 0)))) (tTest (tOp (fEq K) (tCallS (sp_l_take K C) (fun _ => E0) (tCons (tVar 0) (tCons (tC (.int 4)) tNil))) (tC (.int 0))))) (tRet (tCallS (sp_l_bent_row K C) (fun _ => E0) (tCons (tVar 0) (tCons (tVar 1) tNil)))) tNext) (tSeq (tAsg (tCallS (sp_l_take K C) (fun _ => E0) (tCons (tVar 0) (tCons (tCB fLen (tCons (tVar 1) tNil)) tNil))) (gName 2)) (tSeq (tAsg (tCB fList (tCons (tVar 1) tNil)) (gName 3)) (tSeq (tAsg (tCallS (sp_bent_in k) (fun _ => E0) (tCons (tVar 0) (tCons (tOp fIx (tVar 3) (tVar 2)) tNil))) (gSub (tVar 3) (tVar 2) fSet)) (tSeq (tIfS (tB (tCB fIsi (tCons (tVar 1) (tCons (tC (.ty "tuple")) tNil)))) (tRet (tCB fTuple (tCons (tVar 3) tNil))) tNext) (tRet (tVar 3)))))) { nx := fun _ H' => Q .non H', rt := Q } [some (.ref st), some v, none, none] H1 := by
    intro j p xs ds en ev nSp hp lx a
    subst en ev
    have np : p ≠ st := fun z => nSp (by rw [z]; exact hS)
    have al1 := al_.kp k1 s1
    refine q_if ?_
    walk_at "s"
    simp only [(seq_ty hp).1]
    walk_at "s"
    refine ite2 (fun c1 => ?_) fun c1 => ?_
    · exact ⟨st, S, m, j, p, xs, ds, rfl, s1, hS, al1, np, hp, a, lx, m1, m2, q1⟩
    · refine take_ok s1 (by decide) fun f H2 f0 f1 k2 s2 => ?_
      have hp2 := seq_kp k2 np hp
      walk_at "s"
      refine ite2 (fun c2 => ?_) fun c2 => ?_
      · exact ⟨st, S, m, j, p, xs, ds, rfl, s2, hS, al1.kp k2 s2, np, hp2, a.imp fun _ _ z => z.kp hS k2, lx, m1, m2, fun v' d' H' kk ss rr => q1 v' d' H' (k2.trans kk) ss rr⟩
      · refine q_asg ?_
        walk_at "s"
        simp only [(seq_ty hp2).1]
        walk_at "s"
        refine take_ok s2 (by omega) fun at_ H3 a0 a1 k3 s3 => ?_
        have k13 := k2.trans k3
        have hp3 := seq_kp k13 np hp
        refine q_asg ?_
        walk_at "s"
        simp only [(seq_ty hp3).1]
        refine fun pr nr => al nr fun H4 t4 h4 => ?_
        have s4 := s3.sm t4
        have k14 := k13.trans (kp_sm t4)
        have nSr : ¬ S pr := fS al1 k13 s3 nr
        have npr := s3.ne nr
        obtain ⟨i, rfl⟩ : ∃ i : Nat, at_ = i := ⟨at_.toNat, by omega⟩
        have hi : i < xs.length := by omega
        have hx : xs[i]? = some xs[i] := by simp [hi]
        obtain ⟨e, he, re⟩ := a.get hx
        refine q_asg ?_
        walk_at "s"
        simp only [h4]
        refine at_nat hx ?_
        match k, hn with
        | 0, hn => omega
        | k + 1, hn =>
        let T : Addr → Prop := fun b => S b ∨ b = pr
        have alT : Al T H4 := fun b hb => by
          rcases hb with hb | rfl
          · exact al1.kp k14 s4 b hb
          · rw [h4]; exact fun z => by cases z
        have reT : StRp T m H4 j xs[i] e := fun H'' z => (re.kp hS k13) H'' fun b o nb eo => z b o (fun y => by
          rcases y with y | rfl
          · exact nb y
          · rw [nr] at eo; cases eo) (t4 _ _ eo)
        refine ⟨st, T, m, j, xs[i], e, rfl, s4, .inl hS, alT, by omega, reT, m1, m2, fun v' d' H5 k5 s5 rv => ?_⟩
        have h5 := k5.1 _ _ npr h4
        walk_at "s"
        have ei : ixN xs.length (i : Int) = some i := by
          unfold ixN
          rw [if_pos (by omega), if_pos (by omega)]
          simp
        simp only [h5, ei]
        have k15 := k14.trans k5
        have nr1 : H1 pr = none := by
          cases z : H1 pr with
          | none => rfl
          | some o => rw [k13.1 _ _ npr z] at nr; cases nr
        have k6 : Kp st H1 (upd H5 pr (.lst (xs.set i v'))) := k15.put' nr1 npr
        have s6 : StAt (upd H5 pr (.lst (xs.set i v'))) st := s1.put' nr1 k15 s5
        have rv6 : StRp S (m + 1) (upd H5 pr (.lst (xs.set i v'))) (j + 1) v' d' := fun H'' z => rv H'' fun b o nb eo => z b o (fun y => nb (.inl y)) (by
          rw [upd_ne (fun y => nb (.inr y))]
          exact eo)
        have a6 : All2 (StRp S (m + 1) (upd H5 pr (.lst (xs.set i v'))) (j + 1)) (xs.set i v') (ds.set i d') := ⟨by rw [List.length_set, List.length_set, a.1], fun x y z hy hz => by
          by_cases c : i = x
          · subst c
            rw [List.getElem?_set_self (by omega)] at hy
            rw [List.getElem?_set_self (by rw [← a.1]; omega)] at hz
            cases hy
            cases hz
            exact rv6
          · rw [List.getElem?_set_ne c] at hy
            rw [List.getElem?_set_ne c] at hz
            exact (a.2 x y z hy hz).more hS k6 (by omega)⟩
        have g6 : (upd H5 pr (.lst (xs.set i v'))) pr = some (.lst (xs.set i v')) := upd_same
        have hp6 := seq_kp k6 np hp
        have lz : (xs.set i v').length ≤ m + 1 := by rw [List.length_set]; omega
        generalize upd H5 pr (.lst (xs.set i v')) = H6 at k6 s6 rv6 a6 g6 hp6 ⊢
        refine q_if ?_
        walk_at "s"
        rcases (seq_ty hp6).2 with e6 | e6
        · rw [e6]
          walk_at "s"
          exact q1 _ _ H6 k6 s6 (.lst nSr (asL_at g6) lz a6)
        · rw [e6]
          walk_at "s"
          simp only [g6]
          walk_at "s"
          refine fun pt nt => al nt fun H7 t7 h7 => ?_
          exact q1 _ _ H7 (k6.trans (kp_sm t7)) (s6.sm t7) (.tup (fS al1 k6 s6 nt) (by rw [h7]; rfl) lz (a6.imp fun _ _ z => z.sm t7))
  rcases r.cases with (⟨rfl, rfl⟩ | ⟨b, rfl, rfl⟩ | ⟨i, rfl, rfl⟩ | ⟨z, ⟨rfl, lz⟩, rfl⟩) | ⟨j, p, xs, ds, en, ev, nS, e, _, lx, a⟩ | ⟨j, p, xs, ds, en, ev, nS, e, _, lx, a⟩ | ⟨j, p, en, rfl, nS, e, rfl⟩
  · walk_at "s"; exact leaf fun p e => by cases e
  · walk_at "s"; exact leaf fun p e => by cases e
  · walk_at "s"; exact leaf fun p e => by cases e
  · walk_at "s"; exact leaf fun p e => by cases e
  · have g := seq j p xs ds en ev nS (.inl (sm_L t1 e)) lx (a.imp fun _ _ z => z.sm t1)
    subst ev
    rw [lst_ty (sm_L t1 e)]
    walk_at "s"
    exact g
  · have g := seq j p xs ds en ev nS (.inr (sm_T t1 e)) lx (a.imp fun _ _ z => z.sm t1)
    subst ev
    rw [tup_ty (sm_T t1 e)]
    walk_at "s"
    exact g
  · rw [tyN_dK (t1 _ _ e)]
    walk_at "s"
    exact leaf fun p2 e2 => by cases e2; exact t1 _ _ e
end XB

/-! Legs that are none. -/
namespace XB
open PySem L2
local macro_rules | `(tactic| walk_at "s") => `(tactic| try simp only [u_var, u_c, u_op, u_un, u_nil, u_cons, u_cb, u_call, u_callS, u_tup, u_lst, u_test, u_B, u_and, u_or, u_not, u_andV, u_orV, u_notV, u_ifE, u_chain, u_sl, u_noPart, u_part, u_bm, u_bm0, u_rev, u_lc, u_try, u_sui, u_sui0, u_unb_rt, u_unb_nx, u_xf, u_WE, w_nil, w_cons, u_raise, u_rng1, u_rng2, u_next, u_ret, u_gname, u_gnil, u_gcons, u_gsub, u_gtup,
  f_add, f_addS, f_addR, f_sub, f_mul, f_mulR, f_mod, f_div, f_pow, f_neg, f_cmp, f_eq, f_eqB, f_eqS, f_ne, f_neB, f_neS, f_isN, f_notN, f_isB, f_ix, f_ixS, f_int, f_intB, f_len, f_lenS, f_max, f_min, f_abs, f_list, f_tuple, f_all, f_sum, f_isi, f_isiT, f_append, f_insert, f_pop, f_sl, f_set,
  kitS, tys, List.isEmpty_cons, Option.map_some, kt_NoneType_int, kt_NoneType_bool, kt_NoneType_str, kt_NoneType_list, kt_NoneType_tuple, kt_NoneType_dict, kt_int_int, kt_int_bool, kt_int_str, kt_int_list, kt_int_tuple, kt_int_dict, kt_bool_int, kt_bool_bool, kt_bool_str, kt_bool_list, kt_bool_tuple, kt_bool_dict, kt_str_int, kt_str_bool, kt_str_str, kt_str_list, kt_str_tuple, kt_str_dict, kt_list_int, kt_list_bool, kt_list_str, kt_list_list, kt_list_tuple, kt_list_dict, kt_tuple_int, kt_tuple_bool, kt_tuple_str, kt_tuple_list, kt_tuple_tuple, kt_tuple_dict, kt_dict_int, kt_dict_bool, kt_dict_str, kt_dict_list, kt_dict_tuple, kt_dict_dict, asL_lst, asL_frz, asL_tup, asT_tup, asS_lst, asS_frz, asS_tup, tyN_non, tyN_bl, tyN_int, tyN_str, atV_lit, ixN_lit, upd_same, upd_ne, upd_ne',
  List.getElem?_cons_zero, List.getElem?_cons_succ, List.set_cons_zero, List.set_cons_succ, List.append_nil, List.length_cons, List.length_nil, Option.some.injEq, exists_eq_left', exists_eq_left, exists_and_left, V.bl.injEq, V.int.injEq, V.str.injEq, V.ref.injEq, Bool.not_eq_true, Bool.not_true, Bool.not_false, decide_true, decide_false, decide_eq_true_eq, decide_eq_false_iff_not, Bool.false_eq_true, if_true, if_false, ite_true, ite_false, reduceCtorEq, true_and, and_true, Nat.reduceAdd, Nat.reduceLT, Nat.zero_add, ne_eq, not_false_eq_true, not_true_eq_false, List.cons.injEq, and_assoc])
local macro_rules | `(tactic| walk_at "S") => `(tactic| try simp only [u_var, u_c, u_op, u_un, u_nil, u_cons, u_cb, u_call, u_callS, u_tup, u_lst, u_test, u_B, u_and, u_or, u_not, u_andV, u_orV, u_notV, u_ifE, u_chain, u_sl, u_noPart, u_part, u_bm, u_bm0, u_rev, u_lc, u_try, u_sui, u_sui0, u_unb_rt, u_unb_nx, u_xf, u_WE, w_nil, w_cons, u_raise, u_rng1, u_rng2, u_next, u_ret, u_gname, u_gnil, u_gcons, u_gsub, u_gtup,
  f_add, f_addS, f_addR, f_sub, f_mul, f_mulR, f_mod, f_div, f_pow, f_neg, f_cmp, f_eq, f_eqB, f_eqS, f_ne, f_neB, f_neS, f_isN, f_notN, f_isB, f_ix, f_ixS, f_int, f_intB, f_len, f_lenS, f_max, f_min, f_abs, f_list, f_tuple, f_all, f_sum, f_isi, f_isiT, f_append, f_insert, f_pop, f_sl, f_set,
  kitS, tys, List.isEmpty_cons, Option.map_some, kt_NoneType_int, kt_NoneType_bool, kt_NoneType_str, kt_NoneType_list, kt_NoneType_tuple, kt_NoneType_dict, kt_int_int, kt_int_bool, kt_int_str, kt_int_list, kt_int_tuple, kt_int_dict, kt_bool_int, kt_bool_bool, kt_bool_str, kt_bool_list, kt_bool_tuple, kt_bool_dict, kt_str_int, kt_str_bool, kt_str_str, kt_str_list, kt_str_tuple, kt_str_dict, kt_list_int, kt_list_bool, kt_list_str, kt_list_list, kt_list_tuple, kt_list_dict, kt_tuple_int, kt_tuple_bool, kt_tuple_str, kt_tuple_list, kt_tuple_tuple, kt_tuple_dict, kt_dict_int, kt_dict_bool, kt_dict_str, kt_dict_list, kt_dict_tuple, kt_dict_dict, asL_lst, asL_frz, asL_tup, asT_tup, asS_lst, asS_frz, asS_tup, tyN_non, tyN_bl, tyN_int, tyN_str, atV_lit, ixN_lit, upd_same, upd_ne, upd_ne',
  List.getElem?_cons_zero, List.getElem?_cons_succ, List.set_cons_zero, List.set_cons_succ, List.append_nil, List.length_cons, List.length_nil, Option.some.injEq, exists_eq_left', exists_eq_left, exists_and_left, V.bl.injEq, V.int.injEq, V.str.injEq, V.ref.injEq, Bool.not_eq_true, Bool.not_true, Bool.not_false, decide_true, decide_false, decide_eq_true_eq, decide_eq_false_iff_not, Bool.false_eq_true, if_true, if_false, ite_true, ite_false, reduceCtorEq, true_and, and_true, Nat.reduceAdd, Nat.reduceLT, Nat.zero_add, ne_eq, not_false_eq_true, not_true_eq_false, List.cons.injEq, and_assoc, *])
/-- each thing of a row stands for some data -/
def Row (S : Addr → Prop) (m : Nat) (H : Hp) (n : Nat) (xs : List V) : Prop := ∀ x ∈ xs, ∃ d, StRp S m H n x d
section
variable {st : Addr} {S : Addr → Prop} {m n : Nat} {H H' : Hp}
theorem Row.all {xs : List V} (h : Row S m H n xs) : ∃ ds, All2 (StRp S m H n) xs ds := by
  induction xs with
  | nil => exact ⟨[], All2.nil⟩
  | cons x xs ih =>
    obtain ⟨ds, a⟩ := ih fun y hy => h y (List.mem_cons_of_mem _ hy)
    obtain ⟨d, r⟩ := h x List.mem_cons_self
    exact ⟨d :: ds, All2.cons r a⟩
theorem All2.row {xs : List V} {ds : List PyData} (h : All2 (StRp S m H n) xs ds) : Row S m H n xs := fun x hx => by
  obtain ⟨i, hi, rfl⟩ := List.mem_iff_getElem.1 hx
  obtain ⟨d, _, r⟩ := h.get (i := i) (x := xs[i]) (by simp [hi])
  exact ⟨d, r⟩
theorem Row.append {xs ys : List V} (h : Row S m H n xs) (k : Row S m H n ys) : Row S m H n (xs ++ ys) := fun x hx => (List.mem_append.1 hx).elim (h x) (k x)
theorem Row.one {x : V} {d : PyData} (h : StRp S m H n x d) : Row S m H n [x] := fun y hy => by
  rw [List.mem_singleton] at hy
  rw [hy]
  exact ⟨d, h⟩
theorem Row.take {xs : List V} (h : Row S m H n xs) (k : Nat) : Row S m H n (xs.take k) := fun x hx => h x (List.mem_of_mem_take hx)
theorem Row.drop {xs : List V} (h : Row S m H n xs) (k : Nat) : Row S m H n (xs.drop k) := fun x hx => h x (List.mem_of_mem_drop hx)
theorem Row.cut {xs : List V} (h : Row S m H n xs) {lo hi : Option Int} : Row S m H n (cutV xs lo hi) := fun x hx => h x (List.mem_of_mem_drop (List.mem_of_mem_take hx))
theorem Row.lst {p : Addr} {xs : List V} (h : Row S m H n xs) (np : ¬ S p) (e : H p = some (.lst xs)) (l : xs.length ≤ m) : ∃ d, StRp S m H (n + 1) (.ref p) d := by
  obtain ⟨ds, a⟩ := h.all
  exact ⟨_, .lst np (asL_at e) l a⟩
theorem Row.tup {p : Addr} {xs : List V} (h : Row S m H n xs) (np : ¬ S p) (e : H p = some (.tup xs)) (l : xs.length ≤ m) : ∃ d, StRp S m H (n + 1) (.ref p) d := by
  obtain ⟨ds, a⟩ := h.all
  exact ⟨_, .tup np (by rw [e]; rfl) l a⟩
theorem up_ex {v : V} {k : Nat} (hn : n ≤ k) (h : ∃ d, StRp S m H n v d) : ∃ d, StRp S m H k v d := by
  obtain ⟨d, h⟩ := h
  exact ⟨d, h.ups hn⟩
theorem cut_len {xs : List V} {lo hi : Option Int} : (cutV xs lo hi).length ≤ xs.length := cutV_length xs lo hi
def Told1 (st : Addr) (S : Addr → Prop) (H : Hp) (Q : VK) : Prop := ∀ t v d H', Kp st H H' → StAt H' st → t ≠ st → H' t = some (.lst [v]) → StRp S 40 H' 3 v d → Q (.ref t) H'
theorem tell {Q : VK} {v : V} {t : Addr} (q : Told1 st S H Q) (k : Kp st H H') (s : StAt H' st) (r : ∃ d, StRp S 40 H' 3 v d) (nt : H' t = none) : Q (.ref t) (upd H' t (.lst [v])) := by
  obtain ⟨d, r⟩ := r
  refine al nt fun H2 t2 h2 => ?_
  exact q t v d H2 (k.trans (kp_sm t2)) (s.sm t2) (s.ne nt) h2 (r.sm t2)
theorem tri_lens {zs : List Str} (h : ∀ z ∈ zs, z.length ≤ 24) : ∀ t ∈ tri zs, t.2.1.length ≤ 24 ∧ t.2.2.length ≤ 24 := by
  intro t ht
  simp only [tri, List.mem_map, List.mem_range] at ht
  obtain ⟨i, hi, rfl⟩ := ht
  have ez : zs[i]? = some zs[i] := by simp [hi]
  rw [ez]
  exact ⟨h _ (List.getElem_mem hi), next_len (by decide) h⟩
end
def sp_l_no_legs (K : PySem.W.Frag) (C : CA) : Sp := fun vs H Q _ => ∃ (st : Addr) (S : Addr → Prop) (p : Addr) (zs : List Str), vs = [.ref st, .ref p] ∧ StAt H st ∧ S st ∧ Al S H ∧ ¬ S p ∧ asT (H p) = some (zs.map V.str) ∧ 1 ≤ zs.length ∧ zs.length ≤ 7 ∧ (∀ z ∈ zs, z.length ≤ 24) ∧ Told1 st S H Q
def rd_l_no_legs (K : PySem.W.Frag) (C : CA) (E : XK) : TS :=
  (tSeq (tAsg (tCallS (sp_l_legs K C) (fun _ => E0) (tCons (tVar 1) tNil)) (gName 2)) (tSeq (tAsg (tCallS (sp_l_take K C) (fun _ => E0) (tCons (tVar 0) (tCons (tCB fLen (tCons (tVar 2) tNil)) tNil))) (gName 3)) (tSeq (tAsg (tCallS (sp_l_take K C) (fun _ => E0) (tCons (tVar 0) (tCons (tC (.int 7)) tNil))) (gName 4)) (Evl.tCut (tIfS (tAnd (tTest (tOp (fEq K) (tVar 4) (tC (.int 0)))) (tTest (tOp fGt (tCB fLen (tCons (tVar 2) tNil)) (tC (.int 1))))) (tRet (tLst (tCons (tSl fSl2 (tVar 2) tNoPart (tPart (tUn fNeg (tC (.int 1))))) tNil))) tNext) (Evl.tCut (tIfS (tAnd (tTest (tOp (fEq K) (tVar 4) (tC (.int 1)))) (tTest (tOp fGt (tCB fLen (tCons (tVar 2) tNil)) (tC (.int 1))))) (tRet (tLst (tCons (tOp fAdd (tSl fSl2 (tVar 2) (tPart (tC (.int 1))) tNoPart) (tSl fSl2 (tVar 2) tNoPart (tPart (tC (.int 1))))) tNil))) tNext) (tSeq (tIfS (tTest (tOp (fEq K) (tVar 4) (tC (.int 2)))) (tRet (tLst (tCons (tOp fAdd (tOp fAdd (tSl fSl2 (tVar 2) tNoPart (tPart (tVar 3))) (tLst (tCons (tOp fIx (tVar 2) (tVar 3)) tNil))) (tSl fSl2 (tVar 2) (tPart (tVar 3)) tNoPart)) tNil))) tNext) (Evl.tCut (tIfS (tAnd (tTest (tOp (fEq K) (tVar 4) (tC (.int 3)))) (tTest (tOp fGt (tVar 3) (tC (.int 0))))) (tRet (tLst (tCons (tOp fAdd (tOp fAdd (tSl fSl2 (tVar 2) tNoPart (tPart (tVar 3))) (tLst (tCons (tTup (tCons (tOp fIx (tOp fIx (tVar 2) (tVar 3)) (tC (.int 0))) (tCons (tCallS (sp_l_fresh K C) (fun _ => E0) (tCons (tVar 0) (tCons (tLst (tCons (tOp fIx (tOp fIx (tVar 2) (tVar 3)) (tC (.int 1))) tNil)) tNil))) (tCons (tOp fIx (tOp fIx (tVar 2) (tVar 3)) (tC (.int 2))) tNil)))) tNil))) (tSl fSl2 (tVar 2) (tPart (tOp fAdd (tVar 3) (tC (.int 1)))) tNoPart)) tNil))) tNext) (tSeq (tIfS (tTest (tOp (fEq K) (tVar 4) (tC (.int 4)))) (tRet (tLst (tCons (tOp fAdd (tVar 2) (tLst (tCons (tTup (tCons (tCB fMin (tCons (tC (.int 6)) (tCons (tCB fLen (tCons (tVar 2) tNil)) tNil))) (tCons (tOp fIx (tVar 1) (tUn fNeg (tC (.int 1)))) (tCons (tC (.str ("-" : Str))) tNil)))) tNil))) tNil))) tNext) (tSeq (tIfS (tTest (tOp (fEq K) (tVar 4) (tC (.int 5)))) (tRet (tLst (tCons (tLc (iList K (tVar 2)) (gName 5) tYes (tTup (tCons (tOp fAdd (tOp fIx (tVar 5) (tC (.int 0))) (tC (.int 1))) (tCons (tOp fIx (tVar 5) (tC (.int 1))) (tCons (tOp fIx (tVar 5) (tC (.int 2))) tNil)))) [5]) tNil))) tNext) (tRet (tLst (tCons (tCallS (sp_l_pick K C) (fun _ => E0) (tCons (tVar 0) (tCons (tLst (tCons (tLst tNil) (tCons (tCB fTuple (tCons (tVar 2) tNil)) (tCons (tC .non) (tCons (tLc (iList K (tVar 2)) (gName 5) tYes (tCB fList (tCons (tVar 5) tNil)) [5]) (tCons (tOp fAdd (tVar 2) (tLst (tCons (tC .non) tNil))) (tCons (tVar 1) (tCons tDNewK (tCons (tC (.str ("-" : Str))) tNil))))))))) tNil))) tNil))))))))))))
theorem pure_l_no_legs {K : PySem.W.Frag} {C : CA} (vs : List V) (H : Hp) (Q : VK) (E : XK) (h : sp_l_no_legs K C vs H Q E) : rd_l_no_legs K C E { nx := fun _ H' => Q .non H', rt := Q } (start [("store" : Str), ("plan" : Str), ("row" : Str), ("at" : Str), ("form" : Str), ("leg" : Str)] vs) H := by
  obtain ⟨st, S, p, zs, rfl, hs, hS, al_, nSp, hp, l1, l2, hz, q⟩ := h
  show rd_l_no_legs K C E _ [some (.ref st), some (.ref p), none, none, none, none] H
  unfold rd_l_no_legs
  have np : p ≠ st := fun z => nSp (by rw [z]; exact hS)
  refine q_asg ?_
  walk_at "s"
  refine ⟨24, p, zs, rfl, hp, l1, by omega, by decide, hz, fun o H1 xs t1 no h1 aa => ?_⟩
  have s1 := hs.sm t1
  have k1 : Kp st H H1 := kp_sm t1
  have nSo : ¬ S o := fS al_ (Kp.refl st H) hs no
  have npo := hs.ne no
  have a1 : All2 (StRp S 40 H1 1) xs ((tri zs).map legT) := aa.imp fun v d z => (StRp.of_new (fun b hb y => al_ b y hb) z).wide (by decide)
  have lx : xs.length = zs.length := by rw [aa.len, List.length_map, tri_len]
  walk_at "s"
  refine q_asg ?_
  walk_at "s"
  simp only [asS_at h1]
  walk_at "s"
  refine take_ok s1 (by omega) fun at_ H2 u0 u1 k2 s2 => ?_
  have h2 := k2.1 _ _ npo h1
  refine q_asg ?_
  walk_at "s"
  refine take_ok s2 (by decide) fun f H3 f0 f1 k3 s3 => ?_
  have h3 := k3.1 _ _ npo h2
  have k13 := k2.trans k3
  have k03 := k1.trans k13
  have rw_ : ∀ H', Kp st H3 H' → All2 (StRp S 40 H' 1) xs ((tri zs).map legT) := fun H' kk => a1.imp fun _ _ z => z.kp hS (k13.trans kk)
  have row : ∀ H', Sm H3 H' → Row S 40 H' 1 xs := fun H' kk => (rw_ H' (kp_sm kk)).row
  have fr : ∀ {H' : Hp} {b : Addr}, Sm H3 H' → H' b = none → ¬ S b := fun kk nb => fS al_ (k03.trans (kp_sm kk)) (s3.sm kk) nb
  obtain ⟨i, rfl⟩ : ∃ i : Nat, at_ = i := ⟨at_.toNat, by omega⟩
  have hi : i < xs.length := by omega
  have hit : i < (tri zs).length := by rw [tri_len]; omega
  have hx : xs[i]? = some xs[i] := by simp [hi]
  have leg : ∀ H', Kp st H3 H' → ∃ pl, xs[i] = .ref pl ∧ asT (H' pl) = some [.int ((tri zs)[i]).1, .str ((tri zs)[i]).2.1, .str ((tri zs)[i]).2.2] := fun H' kk =>
    rp_leg (((rw_ H' kk).2 i _ _ hx (by rw [List.getElem?_map]; simp [hit])).rp.wide (by decide))
  have lens := tri_lens hz _ (List.getElem_mem hit)
  have kk3 : Kp st H3 H3 := Kp.refl st H3
  -- one more off the end
  refine ⟨fun σ H' => σ = [some (.ref st), some (.ref p), some (.ref o), some (.int (i : Nat)), some (.int f), none] ∧ H3 = H', q_if1 ?_, ?_⟩
  · walk_at "s"
    simp only [asS_at h3]
    walk_at "s"
    refine ite2 (fun c1 => ?_) fun c1 => by trivial
    refine ite2 (fun c2 => ?_) fun c2 => by trivial
    simp only [f_neg, f_slR, f_sl, asL_at h3]
    refine fun pa na => al na fun H4 t4 h4 => ⟨by decide, fun t nt => ?_⟩
    refine tell q (k03.trans (kp_sm t4)) (s3.sm t4) (up_ex (by decide) (((row H4 t4).cut).lst (fr (fun _ _ z => z) na) h4 ?_)) nt
    exact Nat.le_trans cut_len (by omega)
  rintro σ H' ⟨rfl, rfl⟩
  -- turned by one
  refine ⟨fun σ H' => σ = [some (.ref st), some (.ref p), some (.ref o), some (.int (i : Nat)), some (.int f), none] ∧ H3 = H', q_if1 ?_, ?_⟩
  · walk_at "s"
    simp only [asS_at h3]
    walk_at "s"
    refine ite2 (fun c1 => ?_) fun c1 => by trivial
    refine ite2 (fun c2 => ?_) fun c2 => by trivial
    simp only [f_slR, f_sl, asL_at h3]
    refine fun pa na => al na fun H4 t4 h4 => ?_
    simp only [asL_at (t4 _ _ h3)]
    refine fun pb nb => al nb fun H5 t5 h5 => ?_
    simp only [f_addR, t5 _ _ h4, h5]
    have l1 := cut_len (xs := xs) (lo := some 1) (hi := none)
    have l2 := cut_len (xs := xs) (lo := none) (hi := some 1)
    refine ⟨by show _ ≤ 2 ^ 24; omega, fun pc nc => al nc fun H6 t6 h6 => ⟨by decide, fun t nt => ?_⟩⟩
    have t35 := sm_trans t4 t5
    have t36 := sm_trans t35 t6
    refine tell q (k03.trans (kp_sm t36)) (s3.sm t36) (up_ex (by decide) (((row H6 t36).cut.append (row H6 t36).cut).lst (fr t35 nc) h6 ?_)) nt
    rw [List.length_append]
    omega
  rintro σ H' ⟨rfl, rfl⟩
  -- one twice
  refine q_if ?_
  walk_at "s"
  refine ite2 (fun c1 => ?_) fun c1 => ?_
  · simp only [f_slR, f_sl, asL_at h3]
    refine fun pa na => al na fun H4 t4 h4 => ?_
    simp only [asS_at (t4 _ _ h3)]
    refine at_nat hx ?_
    refine ⟨by decide, fun pb nb => al nb fun H5 t5 h5 => ?_⟩
    simp only [f_addR, t5 _ _ h4, h5]
    have l1 := cut_len (xs := xs) (lo := none) (hi := some (i : Int))
    have l2 := cut_len (xs := xs) (lo := some (i : Int)) (hi := none)
    refine ⟨by show _ + 1 ≤ 2 ^ 24; omega, fun pc nc => al nc fun H6 t6 h6 => ?_⟩
    have t35 := sm_trans t4 t5
    have t36 := sm_trans t35 t6
    simp only [asL_at (t36 _ _ h3)]
    refine fun pd nd => al nd fun H7 t7 h7 => ?_
    simp only [f_addR, t7 _ _ h6, h7]
    refine ⟨by rw [List.length_append]; show _ + 1 + _ ≤ 2 ^ 24; omega, fun pe ne => al ne fun H8 t8 h8 => ⟨by decide, fun t nt => ?_⟩⟩
    have t37 := sm_trans t36 t7
    have t38 := sm_trans t37 t8
    have rx : ∃ d, StRp S 40 H8 1 xs[i] d := row H8 t38 _ (List.getElem_mem hi)
    obtain ⟨dx, rx⟩ := rx
    refine tell q (k03.trans (kp_sm t38)) (s3.sm t38) (up_ex (by decide) ((((row H8 t38).cut.append (Row.one rx)).append (row H8 t38).cut).lst (fr t37 ne) h8 ?_)) nt
    rw [List.length_append, List.length_append]
    show _ + 1 + _ ≤ _
    omega
  -- another name
  refine ⟨fun σ H' => σ = [some (.ref st), some (.ref p), some (.ref o), some (.int (i : Nat)), some (.int f), none] ∧ H3 = H', q_if1 ?_, ?_⟩
  · walk_at "s"
    refine ite2 (fun c1 => ?_) fun c1 => by trivial
    refine ite2 (fun c2 => ?_) fun c2 => by trivial
    simp only [f_slR, f_sl, asL_at h3]
    refine fun pa na => al na fun H4 t4 h4 => ?_
    have h34 := t4 _ _ h3
    simp only [asS_at h34]
    refine at_nat hx ?_
    obtain ⟨pl, epl, hpl⟩ := leg H4 (kp_sm t4)
    rw [epl] at hx ⊢
    walk_at "s"
    rw [asS_of_T hpl]
    walk_at "s"
    simp only [asS_at h34]
    refine at_nat hx ?_
    walk_at "s"
    rw [asS_of_T hpl]
    walk_at "s"
    refine ⟨by decide, fun pb nb => al nb fun H5 t5 h5 => ?_⟩
    have s5 := (s3.sm t4).sm t5
    refine ⟨st, pb, [((tri zs)[i]).2.1], rfl, s5, h5, (s3.sm t4).ne nb, by show 1 ≤ 100; decide, fun z hm => ?_, fun z H6 lz k6 s6 => ?_⟩
    · rw [List.mem_singleton] at hm
      rw [hm]
      omega
    have k36 := (kp_sm (st := st) (sm_trans t4 t5)).trans k6
    have h36 := k36.1 _ _ npo h3
    have pl_ne : pl ≠ st := by
      intro e
      obtain ⟨c, ns, a, b, d, e', g1, _⟩ := s3.sm t4
      rw [e, g1] at hpl
      cases hpl
    have hpl6 : asT (H6 pl) = some [.int ((tri zs)[i]).1, .str ((tri zs)[i]).2.1, .str ((tri zs)[i]).2.2] := by
      cases eo : H4 pl with
      | none => rw [eo] at hpl; cases hpl
      | some u => rw [k6.1 pl u pl_ne (t5 _ _ eo), ← eo]; exact hpl
    walk_at "s"
    simp only [asS_at h36]
    refine at_nat hx ?_
    walk_at "s"
    rw [asS_of_T hpl6]
    walk_at "s"
    refine ⟨by decide, fun pc nc => al nc fun H7 t7 h7 => ⟨by decide, fun pd nd => al nd fun H8 t8 h8 => ?_⟩⟩
    have t68 := sm_trans t7 t8
    have h48 : H8 pa = some (.lst (cutV xs none (some (i : Int)))) := t68 _ _ (k6.1 _ _ (s3.ne na) (t5 _ _ h4))
    simp only [f_addR, h48, h8]
    have l1 := cut_len (xs := xs) (lo := none) (hi := some (i : Int))
    have l2 := cut_len (xs := xs) (lo := some ((i : Int) + 1)) (hi := none)
    refine ⟨by show _ + 1 ≤ 2 ^ 24; omega, fun pe ne => al ne fun H9 t9 h9 => ?_⟩
    have t69 := sm_trans t68 t9
    simp only [asL_at (t69 _ _ h36)]
    refine fun pf nf => al nf fun H10 t10 h10 => ?_
    simp only [f_addR, t10 _ _ h9, h10]
    refine ⟨by rw [List.length_append]; show _ + 1 + _ ≤ 2 ^ 24; omega, fun pg ng => al ng fun H11 t11 h11 => ⟨by decide, fun t nt => ?_⟩⟩
    have t610 := sm_trans t69 t10
    have t611 := sm_trans t610 t11
    have k310 := k36.trans (kp_sm t610)
    have k311 := k36.trans (kp_sm t611)
    have r11 : Row S 40 H11 1 xs := (rw_ H11 k311).row
    have nSc : ¬ S pc := fS al_ (k03.trans k36) s6 nc
    have rt : StRp S 40 H11 1 (.ref pc) (.tuple [.int ((tri zs)[i]).1, .str z, .str ((tri zs)[i]).2.2]) := by
      have e11 : H11 pc = some (.tup [.int ((tri zs)[i]).1, .str z, .str ((tri zs)[i]).2.2]) := sm_trans t8 (sm_trans t9 (sm_trans t10 t11)) _ _ h7
      exact .tup nSc (by rw [e11]; rfl) (by show 3 ≤ 40; decide) (All2.cons (.flat flat_int) (All2.cons (.flat (flat_txt (by omega))) (All2.cons (.flat (flat_txt (by omega))) All2.nil)))
    refine tell q (k03.trans k311) (s6.sm t611) (up_ex (by decide) (((r11.cut.append (Row.one rt)).append r11.cut).lst (fS al_ (k03.trans k310) (s6.sm t610) ng) h11 ?_)) nt
    rw [List.length_append, List.length_append]
    show _ + 1 + _ ≤ _
    omega
  rintro σ H' ⟨rfl, rfl⟩
  -- one more at the end
  refine q_if ?_
  walk_at "s"
  refine ite2 (fun c1 => ?_) fun c1 => ?_
  · simp only [asS_at h3]
    walk_at "s"
    have hp3 : asS (H3 p) = some (zs.map V.str) := (seq_ty (seq_kp k03 np (.inr hp))).1
    rw [hp3]
    simp only [f_neg]
    have hl : (zs.map V.str)[(zs.map V.str).length - 1]? = some (.str (zs[zs.length - 1]'(by omega))) := by
      have hz : zs.length - 1 < zs.length := by omega
      rw [List.length_map, List.getElem?_map]
      simp [hz]
    refine at_last hl ?_
    walk_at "s"
    refine ⟨by decide, fun pa na => al na fun H4 t4 h4 => ⟨by decide, fun pb nb => al nb fun H5 t5 h5 => ?_⟩⟩
    have t35 := sm_trans t4 t5
    simp only [f_addR, t35 _ _ h3, h5]
    refine ⟨by show _ + 1 ≤ 2 ^ 24; omega, fun pc nc => al nc fun H6 t6 h6 => ⟨by decide, fun t nt => ?_⟩⟩
    have t36 := sm_trans t35 t6
    have lz := hz _ (List.getElem_mem (show zs.length - 1 < zs.length by omega))
    have h46 := sm_trans t5 t6 _ _ h4
    refine tell q (k03.trans (kp_sm t36)) (s3.sm t36) (up_ex (by decide) (((row H6 t36).append (Row.one (.tup (fr (fun _ _ z => z) na) (by rw [h46]; rfl) (by show 3 ≤ 40; decide) (All2.cons (.flat flat_int) (All2.cons (.flat (flat_txt (by omega))) (All2.cons (.flat (flat_txt (by decide))) All2.nil)))))).lst (fr t35 nc) h6 ?_)) nt
    rw [List.length_append]
    show _ + 1 ≤ _
    omega
  -- each a day later
  refine q_if ?_
  walk_at "s"
  refine ite2 (fun c1 => ?_) fun c1 => ?_
  · rw [u_list]
    walk_at "s"
    refine ⟨⟨_, asL_seq (asL_at h3)⟩, fun Dd hD => ?_⟩
    refine made_rpL (w := 40) (ds := (tri zs).map fun t => legT (t.1 + 1, t.2.1, t.2.2)) 1 (asL_at h3) hD (by rw [lx, List.length_map, tri_len]) (by rw [List.length_map, tri_len]; omega) (fun _ => rfl) (fun j x d H4 Q4 hxj hdj t4 q4 => ?_) fun H4 acc t4 h4 aa4 => ?_
    · rw [List.getElem?_map] at hdj
      cases et : (tri zs)[j]? with
      | none => rw [et] at hdj; cases hdj
      | some t =>
        rw [et] at hdj
        cases hdj
        obtain ⟨pl, rfl, hpl⟩ := rp_leg (t := t) (((rw_ H4 (kp_sm t4)).2 j x _ hxj (by rw [List.getElem?_map, et]; rfl)).rp.wide (by decide))
        have ln := tri_lens hz t (List.mem_of_getElem? et)
        walk_at "s"
        rw [asS_of_T hpl]
        walk_at "s"
        rw [asS_of_T hpl]
        walk_at "s"
        refine ⟨by decide, fun pt nt => al nt fun H5 t5 h5 => q4 _ H5 t5 ?_⟩
        exact .tup nt h5 (by show 3 ≤ 40; decide) (All2.cons (.flat flat_int) (All2.cons (.flat (flat_txt (by show t.2.1.length ≤ 40; omega))) (All2.cons (.flat (flat_txt (by show t.2.2.length ≤ 40; omega))) All2.nil)))
    · refine ⟨by decide, fun t nt => ?_⟩
      have l4 := aa4.len
      rw [List.length_map, tri_len] at l4
      have r4 : Row S 40 H4 1 acc := (aa4.imp fun _ _ z => StRp.of_new (fun b hb => fr (fun _ _ z => z) hb) z).row
      exact tell q (k03.trans (kp_sm t4)) (s3.sm t4) (up_ex (by decide) (r4.lst (fr (fun _ _ z => z) hD) h4 (by omega))) nt
  -- no legs at all
  refine ⟨by decide, fun pa na => al na fun H4 t4 h4 => ?_⟩
  have h34 := t4 _ _ h3
  simp only [h34]
  walk_at "s"
  refine fun pb nb => al nb fun H5 t5 h5 => ?_
  have t35 := sm_trans t4 t5
  have h35 := t35 _ _ h3
  rw [u_list]
  walk_at "s"
  refine ⟨⟨_, asL_seq (asL_at h35)⟩, fun Dd hD => ?_⟩
  refine made_rpL (w := 40) (ds := (tri zs).map fun t => .list [.int t.1, .str t.2.1, .str t.2.2]) 1 (asL_at h35) hD (by rw [lx, List.length_map, tri_len]) (by rw [List.length_map, tri_len]; omega) (fun _ => rfl) (fun j x d H6 Q6 hxj hdj t6 q6 => ?_) fun H6 acc t6 h6 aa6 => ?_
  · rw [List.getElem?_map] at hdj
    cases et : (tri zs)[j]? with
    | none => rw [et] at hdj; cases hdj
    | some t =>
      rw [et] at hdj
      cases hdj
      obtain ⟨pl, rfl, hpl⟩ := rp_leg (t := t) (((rw_ H6 (kp_sm (sm_trans t35 t6))).2 j x _ hxj (by rw [List.getElem?_map, et]; rfl)).rp.wide (by decide))
      have ln := tri_lens hz t (List.mem_of_getElem? et)
      walk_at "s"
      rw [asS_of_T hpl]
      walk_at "s"
      refine fun pt nt => al nt fun H7 t7 h7 => q6 _ H7 t7 ?_
      exact .lst nt h7 (by show 3 ≤ 40; decide) (All2.cons (.flat flat_int) (All2.cons (.flat (flat_txt (by show t.2.1.length ≤ 40; omega))) (All2.cons (.flat (flat_txt (by show t.2.2.length ≤ 40; omega))) All2.nil)))
  · have t36 := sm_trans t35 t6
    have h36 := t36 _ _ h3
    refine ⟨by decide, fun pc nc => al nc fun H7 t7 h7 => ?_⟩
    simp only [f_addR, t7 _ _ h36, h7]
    refine ⟨by show _ + 1 ≤ 2 ^ 24; omega, fun pd nd => al nd fun H8 t8 h8 => ?_⟩
    have t38 := sm_trans t36 (sm_trans t7 t8)
    refine fun pe ne => al ne fun H9 t9 h9 => ⟨by decide, fun pl nl => al nl fun H10 t10 h10 => ?_⟩
    have t39 := sm_trans t38 t9
    have t310 := sm_trans t39 t10
    refine pick_ok (s3.sm t310) (asS_at h10) ((s3.sm t39).ne nl) (by show 8 < 2 ^ 60; decide) (by intro z; cases z) fun j v H11 hj k11 s11 => ?_
    have k311 := (kp_sm (st := st) t310).trans k11
    have k411 : Kp st H4 H11 := (kp_sm (sm_trans t5 (sm_trans t6 (sm_trans t7 (sm_trans t8 (sm_trans t9 t10)))))).trans k11
    have k511 : Kp st H5 H11 := (kp_sm (sm_trans t6 (sm_trans t7 (sm_trans t8 (sm_trans t9 t10))))).trans k11
    have k611 : Kp st H6 H11 := (kp_sm (sm_trans t7 (sm_trans t8 (sm_trans t9 t10)))).trans k11
    have k811 : Kp st H8 H11 := (kp_sm (sm_trans t9 t10)).trans k11
    have k911 : Kp st H9 H11 := (kp_sm t10).trans k11
    have r11 : Row S 40 H11 1 xs := (rw_ H11 k311).row
    refine ⟨by decide, fun t nt => tell q (k03.trans k311) s11 ?_ nt⟩
    have hj5 : j < 8 := (List.getElem?_eq_some_iff.mp hj).1
    match j, hj5, hj with
    | 0, _, hj =>
      cases hj
      exact up_ex (n := 1) (by decide) (Row.lst (n := 0) (xs := []) (fun x hx => by cases hx) (fr (fun _ _ z => z) na) (k411.1 _ _ (s3.ne na) h4) (by decide))
    | 1, _, hj =>
      cases hj
      exact up_ex (by decide) (r11.tup (fr t4 nb) (k511.1 _ _ ((s3.sm t4).ne nb) h5) (by omega))
    | 2, _, hj =>
      cases hj
      exact ⟨.none, .flat (.inl ⟨rfl, rfl⟩)⟩
    | 3, _, hj =>
      cases hj
      have l6 := aa6.len
      rw [List.length_map, tri_len] at l6
      have r6 : Row S 40 H11 1 acc := (aa6.imp fun _ _ z => (StRp.of_new (fun b hb => fr t35 hb) z).kp hS k611).row
      exact up_ex (by decide) (r6.lst (fr t35 hD) (k611.1 _ _ ((s3.sm t35).ne hD) h6) (by omega))
    | 4, _, hj =>
      cases hj
      exact up_ex (by decide) ((r11.append (Row.one (d := .none) (.flat (.inl ⟨rfl, rfl⟩)))).lst (fr (sm_trans t36 t7) nd) (k811.1 _ _ ((s3.sm (sm_trans t36 t7)).ne nd) h8) (by rw [List.length_append]; show _ + 1 ≤ _; omega))
    | 5, _, hj =>
      cases hj
      have hp11 := seq_kp (k03.trans k311) np (.inr hp)
      have rz : All2 (StRp S 40 H11 0) (zs.map V.str) (zs.map PyData.str) := ⟨by simp, fun a x d hx hd => by
        rw [List.getElem?_map] at hx hd
        cases ez : zs[a]? with
        | none => rw [ez] at hx; cases hx
        | some z =>
          rw [ez] at hx hd
          cases hx
          cases hd
          exact .flat (flat_txt (Nat.le_trans (hz z (List.mem_of_getElem? ez)) (by decide)))⟩
      refine up_ex (n := 1) (by decide) ?_
      rcases hp11 with e | e
      · exact ⟨_, .lst nSp e (by rw [List.length_map]; omega) rz⟩
      · exact ⟨_, .tup nSp e (by rw [List.length_map]; omega) rz⟩
    | 6, _, hj =>
      cases hj
      exact ⟨_, .dct (fr t38 ne) (k911.1 _ _ ((s3.sm t38).ne ne) h9)⟩
    | 7, _, hj =>
      cases hj
      exact ⟨_, .flat (flat_txt (by decide))⟩
end XB

/-! The law. -/
namespace XB
open PySem L2
local macro_rules | `(tactic| walk_at "s") => `(tactic| try simp only [u_var, u_c, u_op, u_un, u_nil, u_cons, u_cb, u_call, u_callS, u_tup, u_lst, u_test, u_B, u_and, u_or, u_not, u_andV, u_orV, u_notV, u_ifE, u_chain, u_sl, u_noPart, u_part, u_bm, u_bm0, u_rev, u_lc, u_try, u_sui, u_sui0, u_unb_rt, u_unb_nx, u_xf, u_WE, w_nil, w_cons, u_raise, u_rng1, u_rng2, u_next, u_ret, u_gname, u_gnil, u_gcons, u_gsub, u_gtup,
  f_add, f_addS, f_addR, f_sub, f_mul, f_mulR, f_mod, f_div, f_pow, f_neg, f_cmp, f_eq, f_eqB, f_eqS, f_ne, f_neB, f_neS, f_isN, f_notN, f_isB, f_ix, f_ixS, f_int, f_intB, f_len, f_lenS, f_max, f_min, f_abs, f_list, f_tuple, f_all, f_sum, f_isi, f_isiT, f_append, f_insert, f_pop, f_sl, f_set,
  kitS, tys, List.isEmpty_cons, Option.map_some, kt_NoneType_int, kt_NoneType_bool, kt_NoneType_str, kt_NoneType_list, kt_NoneType_tuple, kt_NoneType_dict, kt_int_int, kt_int_bool, kt_int_str, kt_int_list, kt_int_tuple, kt_int_dict, kt_bool_int, kt_bool_bool, kt_bool_str, kt_bool_list, kt_bool_tuple, kt_bool_dict, kt_str_int, kt_str_bool, kt_str_str, kt_str_list, kt_str_tuple, kt_str_dict, kt_list_int, kt_list_bool, kt_list_str, kt_list_list, kt_list_tuple, kt_list_dict, kt_tuple_int, kt_tuple_bool, kt_tuple_str, kt_tuple_list, kt_tuple_tuple, kt_tuple_dict, kt_dict_int, kt_dict_bool, kt_dict_str, kt_dict_list, kt_dict_tuple, kt_dict_dict, asL_lst, asL_frz, asL_tup, asT_tup, asS_lst, asS_frz, asS_tup, tyN_non, tyN_bl, tyN_int, tyN_str, atV_lit, ixN_lit, upd_same, upd_ne, upd_ne',
  List.getElem?_cons_zero, List.getElem?_cons_succ, List.set_cons_zero, List.set_cons_succ, List.append_nil, List.length_cons, List.length_nil, Option.some.injEq, exists_eq_left', exists_eq_left, exists_and_left, V.bl.injEq, V.int.injEq, V.str.injEq, V.ref.injEq, Bool.not_eq_true, Bool.not_true, Bool.not_false, decide_true, decide_false, decide_eq_true_eq, decide_eq_false_iff_not, Bool.false_eq_true, if_true, if_false, ite_true, ite_false, reduceCtorEq, true_and, and_true, Nat.reduceAdd, Nat.reduceLT, Nat.zero_add, ne_eq, not_false_eq_true, not_true_eq_false, List.cons.injEq, and_assoc])
local macro_rules | `(tactic| walk_at "S") => `(tactic| try simp only [u_var, u_c, u_op, u_un, u_nil, u_cons, u_cb, u_call, u_callS, u_tup, u_lst, u_test, u_B, u_and, u_or, u_not, u_andV, u_orV, u_notV, u_ifE, u_chain, u_sl, u_noPart, u_part, u_bm, u_bm0, u_rev, u_lc, u_try, u_sui, u_sui0, u_unb_rt, u_unb_nx, u_xf, u_WE, w_nil, w_cons, u_raise, u_rng1, u_rng2, u_next, u_ret, u_gname, u_gnil, u_gcons, u_gsub, u_gtup,
  f_add, f_addS, f_addR, f_sub, f_mul, f_mulR, f_mod, f_div, f_pow, f_neg, f_cmp, f_eq, f_eqB, f_eqS, f_ne, f_neB, f_neS, f_isN, f_notN, f_isB, f_ix, f_ixS, f_int, f_intB, f_len, f_lenS, f_max, f_min, f_abs, f_list, f_tuple, f_all, f_sum, f_isi, f_isiT, f_append, f_insert, f_pop, f_sl, f_set,
  kitS, tys, List.isEmpty_cons, Option.map_some, kt_NoneType_int, kt_NoneType_bool, kt_NoneType_str, kt_NoneType_list, kt_NoneType_tuple, kt_NoneType_dict, kt_int_int, kt_int_bool, kt_int_str, kt_int_list, kt_int_tuple, kt_int_dict, kt_bool_int, kt_bool_bool, kt_bool_str, kt_bool_list, kt_bool_tuple, kt_bool_dict, kt_str_int, kt_str_bool, kt_str_str, kt_str_list, kt_str_tuple, kt_str_dict, kt_list_int, kt_list_bool, kt_list_str, kt_list_list, kt_list_tuple, kt_list_dict, kt_tuple_int, kt_tuple_bool, kt_tuple_str, kt_tuple_list, kt_tuple_tuple, kt_tuple_dict, kt_dict_int, kt_dict_bool, kt_dict_str, kt_dict_list, kt_dict_tuple, kt_dict_dict, asL_lst, asL_frz, asL_tup, asT_tup, asS_lst, asS_frz, asS_tup, tyN_non, tyN_bl, tyN_int, tyN_str, atV_lit, ixN_lit, upd_same, upd_ne, upd_ne',
  List.getElem?_cons_zero, List.getElem?_cons_succ, List.set_cons_zero, List.set_cons_succ, List.append_nil, List.length_cons, List.length_nil, Option.some.injEq, exists_eq_left', exists_eq_left, exists_and_left, V.bl.injEq, V.int.injEq, V.str.injEq, V.ref.injEq, Bool.not_eq_true, Bool.not_true, Bool.not_false, decide_true, decide_false, decide_eq_true_eq, decide_eq_false_iff_not, Bool.false_eq_true, if_true, if_false, ite_true, ite_false, reduceCtorEq, true_and, and_true, Nat.reduceAdd, Nat.reduceLT, Nat.zero_add, ne_eq, not_false_eq_true, not_true_eq_false, List.cons.injEq, and_assoc, *])
/-- names drawn into a list -/
theorem made_names {K : PySem.W.Frag} {C : CA} {st of Dd : Addr} {zs : List Str} {H : Hp} {j n : Nat} {σ : L2.St} {te : TE} {vs : List Nat} {Qd : Hp → Prop} (hs : StAt H st) (ho : H of = some (.lst (zs.map V.str))) (hl : zs.length ≤ 100) (h0 : zs ≠ []) (hz : ∀ z ∈ zs, z.length ≤ 24) (hof : of ≠ st) (hj : j ≤ 100) (hD : H Dd = none)
    (hw : ∀ x, wipe ((wipe σ vs).set n (some x)) vs = wipe σ vs) (he : ∀ (i : Nat) (H' : Hp) (Q : VK), sp_l_pick K C [.ref st, .ref of] H' Q E0 → te ((wipe σ vs).set n (some (.int (0 + (i : Nat))))) H' Q)
    (hd : ∀ (H' : Hp) (ws : List Str), Kp st H H' → StAt H' st → H' Dd = some (.lst (ws.map V.str)) → ws.length = j → (∀ z ∈ ws, z.length ≤ 24) → Qd H') : Made (Itr 0 j) (gName n) tYes te vs σ Dd H Qd := by
  refine made_range (fun i H' => Kp st H H' ∧ StAt H' st ∧ ∃ ws : List Str, H' Dd = some (.lst (ws.map V.str)) ∧ ws.length = i ∧ ∀ z ∈ ws, z.length ≤ 24) ⟨(Kp.refl st H).new hD, hs.new hD, [], upd_same, rfl, by simp⟩ (fun i H' hi p => ⟨hw _, ?_⟩) fun H' ⟨k, s, ws, h1, h2, h3⟩ => hd H' ws k s h1 h2 h3
  obtain ⟨k1, s1, ws, h1, h2, h3⟩ := p
  have e : (if true = true then te ((wipe σ vs).set n (some (.int (0 + (i : Nat))))) H' fun y H4 => ∃ acc, H4 Dd = some (.lst acc) ∧ acc.length < sizeLine ∧ (Kp st H (upd H4 Dd (.lst (acc ++ [y]))) ∧ StAt (upd H4 Dd (.lst (acc ++ [y]))) st ∧ ∃ ws : List Str, (upd H4 Dd (.lst (acc ++ [y]))) Dd = some (.lst (ws.map V.str)) ∧ ws.length = i + 1 ∧ ∀ z ∈ ws, z.length ≤ 24) else True) := by
    rw [if_pos rfl]
    refine he i H' _ (pick_ok s1 (asS_at (k1.1 _ _ hof ho)) hof (by rw [List.length_map]; omega) (by intro z; rw [List.map_eq_nil_iff] at z; exact h0 z) fun m v H2 hv k2 s2 => ?_)
    obtain ⟨z, hzm, rfl⟩ := get_str hv
    have nD : Dd ≠ st := hs.ne hD
    refine ⟨_, k2.1 _ _ nD h1, by rw [List.length_map]; show _ < 2 ^ 24; omega, (k1.trans k2).put' hD nD, hs.put' hD (k1.trans k2) s2, ws ++ [z], by rw [upd_same, List.map_append]; rfl, by rw [List.length_append, h2]; rfl, fun w hm => ?_⟩
    rcases List.mem_append.1 hm with hm | hm
    · exact h3 w hm
    · rw [List.mem_singleton] at hm
      rw [hm]
      exact hz z (List.mem_of_getElem? hzm)
  rw [if_pos rfl] at e
  exact e
theorem Row.kp {st : Addr} {S : Addr → Prop} {m n : Nat} {H H' : Hp} {xs : List V} (h : Row S m H n xs) (hS : S st) (k : Kp st H H') : Row S m H' n xs := fun x hx => by
  obtain ⟨d, r⟩ := h x hx
  exact ⟨d, r.kp hS k⟩
theorem ex_kp {st : Addr} {S : Addr → Prop} {m n : Nat} {H H' : Hp} {v : V} (h : ∃ d, StRp S m H n v d) (hS : S st) (k : Kp st H H') : ∃ d, StRp S m H' n v d := by
  obtain ⟨d, r⟩ := h
  exact ⟨d, r.kp hS k⟩
theorem ex_up {S : Addr → Prop} {m n k l : Nat} {H : Hp} {v : V} (h : ∃ d, StRp S m H n v d) (hm : m ≤ l) (hn : n ≤ k) : ∃ d, StRp S l H k v d := by
  obtain ⟨d, r⟩ := h
  exact ⟨d, (r.wide hm).ups hn⟩
theorem Row.more' {S : Addr → Prop} {m n k l : Nat} {H : Hp} {xs : List V} (h : Row S m H n xs) (hm : m ≤ l) (hn : n ≤ k) : Row S l H k xs := fun x hx => ex_up (h x hx) hm hn
theorem Row.cons {S : Addr → Prop} {m n : Nat} {H : Hp} {x : V} {xs : List V} (h : ∃ d, StRp S m H n x d) (t : Row S m H n xs) : Row S m H n (x :: xs) := fun y hy => by
  rcases List.mem_cons.1 hy with rfl | hy
  · exact h
  · exact t y hy
theorem Row.nil {S : Addr → Prop} {m n : Nat} {H : Hp} : Row S m H n [] := fun x hx => by cases hx
theorem names_row {S : Addr → Prop} {H : Hp} {ws : List Str} (h : ∀ z ∈ ws, z.length ≤ 24) : Row S 40 H 0 (ws.map V.str) := fun x hx => by
  obtain ⟨z, hz, rfl⟩ := List.mem_map.1 hx
  exact ⟨_, .flat (flat_txt (Nat.le_trans (h z hz) (by decide)))⟩
def sp_law (K : PySem.W.Frag) (C : CA) : Sp := fun vs H Q _ => ∃ (a : Addr) (ns : List Int), vs = [.ref a] ∧ SqL K H a (ns.map V.int) ∧ ns.length ≤ 63 ∧ ∀ H', Q (.bl true) H'
def rd_law (K : PySem.W.Frag) (C : CA) (E : XK) : TS :=
  (tSeq (tAsg (tCallS (sp_l_store K C) (fun _ => E0) (tCons (tVar 0) tNil)) (gName 1)) (tSeq (tAsg (tCallS (sp_l_names K C) (fun _ => E0) (tCons (tVar 1) (tCons (tOp fAdd (tC (.int 1)) (tCallS (sp_l_take K C) (fun _ => E0) (tCons (tVar 1) (tCons (tC (.int 5)) tNil)))) tNil))) (gName 2)) (tSeq (tAsg (tCB fTuple (tCons (tLc (iRng1 (tCons (tCallS (sp_l_edge K C) (fun _ => E0) (tCons (tVar 1) (tCons (tC (.int 1)) (tCons (tC (.int 7)) tNil)))) tNil)) (gName 10) tYes (tCallS (sp_l_pick K C) (fun _ => E0) (tCons (tVar 1) (tCons (tVar 2) tNil))) [10]) tNil)) (gName 3)) (tSeq (tAsg (tCB fTuple (tCons (tLc (iRng1 (tCons (tCallS (sp_l_edge K C) (fun _ => E0) (tCons (tVar 1) (tCons (tC (.int 1)) (tCons (tC (.int 7)) tNil)))) tNil)) (gName 10) tYes (tCallS (sp_l_pick K C) (fun _ => E0) (tCons (tVar 1) (tCons (tVar 2) tNil))) [10]) tNil)) (gName 4)) (tSeq (tAsg (tCallS (sp_l_legs K C) (fun _ => E0) (tCons (tVar 3) tNil)) (gName 5)) (tSeq (tAsg (tCallS (sp_l_take K C) (fun _ => E0) (tCons (tVar 1) (tCons (tOp fAdd (tCB fLen (tCons (tVar 5) tNil)) (tC (.int 1))) tNil))) (gName 6)) (tSeq (tAsg (tCallS (sp_l_bent K C) (fun _ => E0) (tCons (tVar 1) (tCons (tVar 5) tNil))) (gName 7)) (tSeq (tAsg (tLst (tCons (tVar 5) (tCons (tOp fIx (tCallS (sp_l_no_legs K C) (fun _ => E0) (tCons (tVar 1) (tCons (tVar 3) tNil))) (tC (.int 0))) (tCons (tCallS (sp_l_legs K C) (fun _ => E0) (tCons (tVar 4) tNil)) (tCons (tOp fAdd (tSl fSl2 (tVar 5) tNoPart (tPart (tVar 6))) (tSl fSl2 (tCallS (sp_l_legs K C) (fun _ => E0) (tCons (tVar 4) tNil)) (tPart (tVar 6)) tNoPart)) tNil))))) (gName 8)) (tSeq (tAsg (tOp fAdd (tVar 8) (tLst (tCons (tVar 7) (tCons (tCallS (sp_l_bent K C) (fun _ => E0) (tCons (tVar 1) (tCons (tVar 7) tNil))) (tCons (tOp fAdd (tVar 5) (tCallS (sp_l_legs K C) (fun _ => E0) (tCons (tVar 4) tNil))) (tCons (tVar 5) tNil)))))) (gName 8)) (tSeq (tFor (iList K (tVar 8)) (gName 9) (tIfS (tNot (tB (tCallS (sp_l_asked K C) (fun _ => E0) (tCons (tVar 9) tNil)))) (tRet (tC (.bl false))) tNext)) (tSeq (tAsg (tCallS (sp_l_bent K C) (fun _ => E0) (tCons (tVar 1) (tCons (tVar 3) tNil))) (gName 7)) (tSeq (tFor (iList K (tLst (tCons (tVar 3) (tCons (tVar 7) (tCons (tOp fAdd (tVar 3) (tVar 4)) (tCons (tCallS (sp_l_bent K C) (fun _ => E0) (tCons (tVar 1) (tCons (tVar 7) tNil))) (tCons (tVar 4) (tCons (tVar 3) tNil)))))))) (gName 9) (tIfS (tNot (tB (tCallS (sp_l_legs_asked K C) (fun _ => E0) (tCons (tVar 9) tNil)))) (tRet (tC (.bl false))) tNext)) (tRet (tC (.bl true)))))))))))))))
theorem pure_law {K : PySem.W.Frag} {C : CA} (vs : List V) (H : Hp) (Q : VK) (E : XK) (h : sp_law K C vs H Q E) : rd_law K C E { nx := fun _ H' => Q .non H', rt := Q } (start [("script" : Str), ("store" : Str), ("row" : Str), ("plan" : Str), ("other" : Str), ("legs" : Str), ("cut" : Str), ("bent" : Str), ("values" : Str), ("value" : Str), ("k" : Str)] vs) H := by
  obtain ⟨a, ns, rfl, ha, hn, q⟩ := h
  show rd_law K C E _ [some (.ref a), none, none, none, none, none, none, none, none, none, none] H
  unfold rd_law
  refine q_asg ?_
  walk_at "s"
  refine ⟨a, ns, rfl, ha, hn, fun st H1 t1 ne1 s1 => ?_⟩
  let S : Addr → Prop := fun b => b = st
  have hS : S st := rfl
  have al1 : Al S H1 := fun b hb => by
    have e : b = st := hb
    rw [e]
    obtain ⟨c, ns, a, b, d, e, h1, _⟩ := s1
    rw [h1]
    exact fun z => by cases z
  refine q_asg ?_
  walk_at "s"
  refine take_ok s1 (by decide) fun r H2 r0 r1 k2 s2 => ?_
  walk_at "s"
  obtain ⟨r, rfl⟩ : ∃ n : Nat, r = n := ⟨r.toNat, by omega⟩
  have e1 : (1 : Int) + (r : Nat) = ((r + 1 : Nat) : Int) := by omega
  rw [e1]
  refine ⟨st, r + 1, rfl, s2, by omega, by omega, fun of H3 nof tx k3 s3 => ?_⟩
  obtain ⟨zs, hof, lz, hz⟩ := tx
  have k13 := k2.trans k3
  have of_st : of ≠ st := s2.ne nof
  refine q_asg ?_
  walk_at "s"
  refine edge_ok s3 fun j H4 j0 j1 k4 s4 => ?_
  have k14 := k13.trans k4
  walk_at "s"
  refine ⟨by omega, by omega, fun Dd hD => ?_⟩
  refine made_names (zs := zs) s4 (k4.1 _ _ of_st hof) (by omega) (by intro z; rw [z] at lz; simp at lz) hz of_st (by omega) hD (fun _ => rfl) (fun i H' Q' h => by walk_at "s"; exact h) fun H5 ws k5 s5 h5 lw hw => ?_
  have k15 := k14.trans k5
  walk_at "s"
  rw [h5]
  walk_at "s"
  refine fun pp npp => al npp fun H6 t6 h6 => ?_
  have k16 := k15.trans (kp_sm t6)
  have s6 := s5.sm t6
  have nSp : ¬ S pp := fS al1 k15 s5 npp
  have pp_st : pp ≠ st := nSp
  have lw1 : 1 ≤ ws.length := by omega
  have lw7 : ws.length ≤ 7 := by omega
  have of6 : H6 of = some (.lst (zs.map V.str)) := t6 _ _ (k5.1 _ _ of_st (k4.1 _ _ of_st hof))
  clear h5 hD e1
  refine q_asg ?_
  walk_at "s"
  refine edge_ok s6 fun j2 H7 j20 j21 k7 s7 => ?_
  walk_at "s"
  refine ⟨by omega, by omega, fun D2 hD2 => ?_⟩
  refine made_names (zs := zs) s7 (k7.1 _ _ of_st of6) (by omega) (by intro z; rw [z] at lz; simp at lz) hz of_st (by omega) hD2 (fun _ => rfl) (fun i H' Q' h => by walk_at "s"; exact h) fun H8 us k8 s8 h8 lu hu => ?_
  walk_at "s"
  rw [h8]
  walk_at "s"
  refine fun po npo => al npo fun H9 t9 h9 => ?_
  have k68 := k7.trans k8
  have k69 := k68.trans (kp_sm t9)
  have k18 := k16.trans k68
  have k19 := k16.trans k69
  have s9 := s8.sm t9
  have nSo : ¬ S po := fS al1 k18 s8 npo
  have po_st : po ≠ st := nSo
  have lu1 : 1 ≤ us.length := by omega
  have lu7 : us.length ≤ 7 := by omega
  have h69 := k69.1 _ _ pp_st h6
  clear h8 hD2
  refine q_asg ?_
  walk_at "s"
  refine ⟨24, pp, ws, rfl, by rw [h69]; rfl, lw1, by omega, by decide, hw, fun pl H10 xs t10 npl h10 aa => ?_⟩
  have s10 := s9.sm t10
  have k110 := k19.trans (kp_sm t10)
  have nSl : ¬ S pl := fS al1 k19 s9 npl
  have pl_st : pl ≠ st := nSl
  have al10 := al1.kp k110 s10
  have alx : All2 (StRp S 40 H10 1) xs ((tri ws).map legT) := aa.imp fun v d z => (StRp.of_new (fun b hb => fS al1 k19 s9 hb) z).wide (by decide)
  have lx : xs.length = ws.length := by rw [aa.len, List.length_map, tri_len]
  walk_at "s"
  refine q_asg ?_
  walk_at "s"
  simp only [h10]
  walk_at "s"
  refine take_ok s10 (by omega) fun cut H11 c0 c1 k11 s11 => ?_
  refine q_asg ?_
  walk_at "s"
  have k1011 := k11
  have h11 := k11.1 _ _ pl_st h10
  have rl11 : StRp S 40 H11 2 (.ref pl) (.list ((tri ws).map legT)) := .lst nSl (asL_at h11) (by omega) (alx.imp fun _ _ z => z.kp hS k11)
  refine ⟨st, S, 40, 2, _, _, rfl, s11, hS, al10.kp k11 s11, by decide, rl11, by decide, by decide, fun vb db H12 k12 s12 rb => ?_⟩
  have k112 := (k110.trans k11).trans k12
  have k1012 := k11.trans k12
  have h612 : H12 pp = some (.tup (ws.map V.str)) := k1012.1 _ _ pp_st (t10 _ _ h69)
  have h912 : H12 po = some (.tup (us.map V.str)) := k1012.1 _ _ po_st (t10 _ _ h9)
  have h1012 := k1012.1 _ _ pl_st h10
  have lrow : ∀ H', Kp st H10 H' → Row S 40 H' 1 xs := fun H' k => (alx.imp fun _ _ z => z.kp hS k).row
  have legs : ∀ H', Kp st H10 H' → ∃ d, StRp S 42 H' 6 (.ref pl) d := fun H' k => ex_up (n := 2) ⟨_, .lst nSl (asL_at (k.1 _ _ pl_st h10)) (by omega) (alx.imp fun _ _ z => z.kp hS k)⟩ (by decide) (by decide)
  refine q_asg ?_
  walk_at "s"
  refine ⟨st, S, pp, ws, rfl, s12, hS, al1.kp k112 s12, nSp, by rw [h612]; rfl, lw1, lw7, hw, fun pn vn dn H13 k13' s13 npn h13 rn => ?_⟩
  have k1013 := k1012.trans k13'
  walk_at "s"
  simp only [h13]
  walk_at "s"
  have h913 := k13'.1 _ _ po_st h912
  refine ⟨24, po, us, rfl, by rw [h913]; rfl, lu1, by omega, by decide, hu, fun pa H14 ys t14 npa h14 ab => ?_⟩
  have k114 := (k112.trans k13').trans (kp_sm t14)
  have s14 := s13.sm t14
  have k113 := k112.trans k13'
  have nSa : ¬ S pa := fS al1 k113 s13 npa
  have aby : All2 (StRp S 40 H14 1) ys ((tri us).map legT) := ab.imp fun v d z => (StRp.of_new (fun b hb => fS al1 k113 s13 hb) z).wide (by decide)
  have ly : ys.length = us.length := by rw [ab.len, List.length_map, tri_len]
  have k1014 := k1013.trans (kp_sm t14)
  have hl14 := k1014.1 _ _ pl_st h10
  walk_at "s"
  simp only [f_slR, f_sl, asL_at hl14]
  refine fun pc npc => al npc fun H15 t15 h15 => ?_
  have h915 := t15 _ _ (t14 _ _ h913)
  refine ⟨24, po, us, rfl, by rw [h915]; rfl, lu1, by omega, by decide, hu, fun pd H16 ws2 t16 npd h16 ac => ?_⟩
  have t1416 := sm_trans t15 t16
  have s15 := s14.sm t15
  have k115 := k114.trans (kp_sm t15)
  have acy : All2 (StRp S 40 H16 1) ws2 ((tri us).map legT) := ac.imp fun v d z => (StRp.of_new (fun b hb => fS al1 k115 s15 hb) z).wide (by decide)
  have lw2 : ws2.length = us.length := by rw [ac.len, List.length_map, tri_len]
  walk_at "s"
  simp only [f_slR, f_sl, asL_at h16]
  refine fun pe npe => al npe fun H17 t17 h17 => ?_
  have t1417 := sm_trans t1416 t17
  have h1517 := t17 _ _ (t16 _ _ h15)
  simp only [f_addR, h1517, h17]
  have cl1 := cut_len (xs := xs) (lo := none) (hi := some cut)
  have cl2 := cut_len (xs := ws2) (lo := some cut) (hi := none)
  refine ⟨by show _ ≤ 2 ^ 24; omega, fun pf npf => al npf fun H18 t18 h18 => ⟨by decide, fun pv npv => al npv fun H19 t19 h19 => ?_⟩⟩
  have t1418 := sm_trans t1417 t18
  have t1419 := sm_trans t1418 t19
  have t1719 := sm_trans t18 t19
  have k1019 := k1014.trans (kp_sm t1419)
  have k119 := k114.trans (kp_sm t1419)
  have s19 := s14.sm t1419
  have k1219 : Kp st H12 H19 := k13'.trans (kp_sm (sm_trans t14 t1419))
  have k1319 : Kp st H13 H19 := kp_sm (sm_trans t14 t1419)
  have k1619 : Kp st H16 H19 := kp_sm (sm_trans t17 t1719)
  have s16 := s15.sm t16
  have s17 := s16.sm t17
  have k117 := (k115.trans (kp_sm t16)).trans (kp_sm t17)
  have row1 : Row S 42 H19 6 [.ref pl, vn, .ref pa, .ref pf] := by
    refine .cons (legs _ k1019) (.cons (ex_up (ex_kp ⟨_, rn⟩ hS k1319) (by decide) (by decide)) (.cons ?_ (.cons ?_ .nil)))
    · exact ex_up (n := 2) ⟨_, .lst nSa (asL_at (t1419 _ _ h14)) (by omega) (aby.imp fun _ _ z => z.sm t1419)⟩ (by decide) (by decide)
    · refine ex_up (((lrow _ k1019).cut.append (((acy.imp fun _ _ z => z.kp hS k1619).row).cut)).lst (fS al1 k117 s17 npf) (t19 _ _ h18) ?_) (by decide) (by decide)
      rw [List.length_append]
      omega
  refine q_asg ?_
  walk_at "s"
  have rb19 := rb.kp hS k1219
  refine ⟨st, S, 41, 3, _, _, rfl, s19, hS, al1.kp k119 s19, by decide, rb19, by decide, by decide, fun vb2 db2 H20 k20 s20 rb2 => ?_⟩
  have k120 := k119.trans k20
  have h920 := k20.1 _ _ po_st (sm_trans t16 (sm_trans t17 t1719) _ _ h915)
  refine ⟨24, po, us, rfl, by rw [h920]; rfl, lu1, by omega, by decide, hu, fun pg H21 xs3 t21 npg h21 ad => ?_⟩
  have s21 := s20.sm t21
  have ady : All2 (StRp S 40 H21 1) xs3 ((tri us).map legT) := ad.imp fun v d z => (StRp.of_new (fun b hb => fS al1 k120 s20 hb) z).wide (by decide)
  have lx3 : xs3.length = us.length := by rw [ad.len, List.length_map, tri_len]
  have k1921 := k20.trans (kp_sm t21)
  have k1021 := k1019.trans k1921
  have k121 := k119.trans k1921
  have hl21 := k1021.1 _ _ pl_st h10
  simp only [f_addR, hl21, h21]
  refine ⟨by show _ ≤ 2 ^ 24; omega, fun ph nph => al nph fun H22 t22 h22 => ⟨by decide, fun pi npi => al npi fun H23 t23 h23 => ?_⟩⟩
  have t2123 := sm_trans t22 t23
  have pv_st : pv ≠ st := fS (S := S) al1 (k114.trans (kp_sm t1418)) (s14.sm t1418) npv
  have hv23 := t2123 _ _ (k1921.1 _ _ pv_st h19)
  simp only [f_addR, hv23, h23]
  refine ⟨by show 4 + 4 ≤ 2 ^ 24; decide, fun pw npw => al npw fun H24 t24 h24 => ?_⟩
  have t2124 := sm_trans t2123 t24
  have k1924 := k1921.trans (kp_sm t2124)
  have k2024 : Kp st H20 H24 := kp_sm (sm_trans t21 t2124)
  have k1024 := k1019.trans k1924
  have k124 := k119.trans k1924
  have s24 := s21.sm t2124
  have row2 : Row S 42 H24 6 ([.ref pl, vn, .ref pa, .ref pf] ++ [vb, vb2, .ref ph, .ref pl]) := by
    refine (row1.kp hS k1924).append (.cons (ex_up ⟨_, rb19.kp hS k1924⟩ (by decide) (by decide)) (.cons (ex_up ⟨_, rb2.kp hS k2024⟩ (by decide) (by decide)) (.cons ?_ (.cons (legs _ k1024) .nil))))
    refine ex_up (((lrow _ k1024).append ((ady.imp fun _ _ z => z.sm t2124).row)).lst (fS al1 k121 s21 nph) (sm_trans t23 t24 _ _ h22) ?_) (by decide) (by decide)
    rw [List.length_append]
    omega
  have h624 : H24 pp = some (.tup (ws.map V.str)) := k1024.1 _ _ pp_st (t10 _ _ h69)
  have h924 : H24 po = some (.tup (us.map V.str)) := k1024.1 _ _ po_st (t10 _ _ h9)
  clear h23 hv23 h21 hl21 h920 h22 h18 h17 h1517 h16 h915 h15 h14 h13 h913
  -- asked
  refine q_for ?_
  rw [u_list]
  walk_at "s"
  refine ⟨⟨_, asL_seq (asL_at h24)⟩, ?_⟩
  refine loop_list (xs := [.ref pl, vn, .ref pa, .ref pf] ++ [vb, vb2, .ref ph, .ref pl]) (fun i σ H' => ∃ w : Option V, σ = [some (.ref a), some (.ref st), some (.ref of), some (.ref pp), some (.ref po), some (.ref pl), some (.int cut), some vb, some (.ref pw), w, none] ∧ Sm H24 H') ⟨_, rfl, fun _ _ z => z⟩ (fun i σ H' _ ⟨_, _, s⟩ => asL_at (s _ _ h24)) ?_ ?_
  · rintro i x σ H' hx ⟨w, rfl, t25⟩
    walk_at "s"
    refine q_if1 ?_
    walk_at "s"
    obtain ⟨d, rx⟩ := row2 x (List.mem_of_getElem? hx)
    refine ⟨x, d, rfl, ((rx.sm t25).rp).wide (by decide), fun H'' t26 => ?_⟩
    walk_at "s"
    exact sm_trans t25 t26
  rintro σ H25 ⟨w, rfl, t25⟩
  -- and of the plans
  have s25 := s24.sm t25
  have k125 := k124.trans (kp_sm t25)
  have h625 := t25 _ _ h624
  have h925 := t25 _ _ h924
  dsimp only
  refine q_asg ?_
  walk_at "s"
  have plan : ∀ {H' : Hp} {p : Addr} {ws : List Str} {l : Nat}, H' p = some (.tup (ws.map V.str)) → ¬ S p → ws.length ≤ 40 → (∀ z ∈ ws, z.length ≤ 24) → ∃ d, StRp S 40 H' 1 (.ref p) d := fun h1 h2 h3 h4 => (names_row h4).tup h2 h1 (by rw [List.length_map]; exact h3)
  obtain ⟨dp, rp⟩ := plan (l := 0) h625 nSp (by omega) hw
  refine ⟨st, S, 40, 1, _, _, rfl, s25, hS, al1.kp k125 s25, by decide, rp, by decide, by decide, fun vc dc H26 k26 s26 rc => ?_⟩
  have k126 := k125.trans k26
  have h626 := k26.1 _ _ pp_st h625
  have h926 := k26.1 _ _ po_st h925
  walk_at "s"
  refine q_for ?_
  rw [u_list]
  walk_at "s"
  simp only [f_addR, h626, h926]
  refine ⟨?_, ?_, by rw [List.length_map, List.length_map]; show _ ≤ 2 ^ 24; omega, fun pj npj => al npj fun H27 t27 h27 => ?_⟩
  · intro z
    rw [List.map_eq_nil_iff] at z
    rw [z] at lw1
    simp at lw1
  · intro z
    rw [List.map_eq_nil_iff] at z
    rw [z] at lu1
    simp at lu1
  have s27 := s26.sm t27
  have k127 := k126.trans (kp_sm t27)
  have nSj : ¬ S pj := fS al1 k126 s26 npj
  refine ⟨st, S, 41, 2, _, _, rfl, s27, hS, al1.kp k127 s27, by decide, rc.sm t27, by decide, by decide, fun ve de H28 k28 s28 re => ?_⟩
  have k2628 := (kp_sm (st := st) t27).trans k28
  refine ⟨by decide, fun px npx => al npx fun H29 t29 h29 => ⟨⟨_, asL_seq (asL_at h29)⟩, ?_⟩⟩
  have k2629 := k2628.trans (kp_sm t29)
  have h629 := k2629.1 _ _ pp_st h626
  have h929 := k2629.1 _ _ po_st h926
  have h2729 : H29 pj = some (.tup ((ws ++ us).map V.str)) := by
    rw [List.map_append]
    exact t29 _ _ (k28.1 _ _ nSj h27)
  have row3 : Row S 42 H29 6 [.ref pp, vc, .ref pj, ve, .ref po, .ref pp] := by
    refine .cons ?_ (.cons ?_ (.cons ?_ (.cons ?_ (.cons ?_ (.cons ?_ .nil)))))
    · exact ex_up (plan (l := 0) h629 nSp (by omega) hw) (by decide) (by decide)
    · exact ex_up ⟨_, rc.kp hS k2629⟩ (by decide) (by decide)
    · refine ex_up (plan (l := 0) h2729 nSj (by rw [List.length_append]; omega) fun z hm => ?_) (by decide) (by decide)
      rcases List.mem_append.1 hm with hm | hm
      · exact hw z hm
      · exact hu z hm
    · exact ex_up ⟨_, re.sm t29⟩ (by decide) (by decide)
    · exact ex_up (plan (l := 0) h929 nSo (by omega) hu) (by decide) (by decide)
    · exact ex_up (plan (l := 0) h629 nSp (by omega) hw) (by decide) (by decide)
  refine loop_list (xs := [.ref pp, vc, .ref pj, ve, .ref po, .ref pp]) (fun i σ H' => ∃ w : Option V, σ = [some (.ref a), some (.ref st), some (.ref of), some (.ref pp), some (.ref po), some (.ref pl), some (.int cut), some vc, some (.ref pw), w, none] ∧ Sm H29 H') ⟨_, rfl, fun _ _ z => z⟩ (fun i σ H' _ ⟨_, _, s⟩ => asL_at (s _ _ h29)) ?_ ?_
  · rintro i x σ H' hx ⟨w, rfl, t30⟩
    walk_at "s"
    refine q_if1 ?_
    walk_at "s"
    obtain ⟨d, rx⟩ := row3 x (List.mem_of_getElem? hx)
    refine ⟨x, d, rfl, ((rx.sm t30).rp).wide (by decide), fun H'' t31 => ?_⟩
    walk_at "s"
    exact sm_trans t30 t31
  rintro σ H30 ⟨w, rfl, t30⟩
  dsimp only
  walk_at "s"
  exact q H30
end XB

/-! Each def holds what it promises. -/
namespace XB
open PySem PySem.Spec PyProof.Rows L2
def top (i : Nat) : Stmt := PySem.Challenge.pw_crossfarers_k17_legs_of_a_plan_read_back.main.body.getD i (.Pass ⟨0, 0, 0, 0⟩)
/-- a def of the text -/
structure Dfn (K : PySem.W.Frag) (mg : Str → Option Value) (x qual : Str) (st : Stmt) (ps : List Str) where
  f : Addr
  fd : FuncData
  mg : mg x = some (.ref f)
  fn : Fun K x qual st f fd
  bi : Binds K fd ps []
/-- an error's class and its __init__ -/
structure Ini (K : PySem.W.Frag) (C : Addr) (qual : Str) (st : Stmt) (ps names : List Str) where
  f : Addr
  fd : FuncData
  ex : OexC K C
  iC : PySem.W.findIn K (.ref C) "__init__" = some (some (.ref f))
  tI : PySem.W.typeIn K (.ref f) = some (.type "function")
  fn : Fun K "__init__" qual st f fd
  bi : Binds K fd ps []
  ec : ExcC K C
  xf : XfC K C
  no : ∀ n ∈ names, PySem.W.findIn K (.ref C) n = some none
theorem hot_of {X : Cx} {a : Addr} {oe : Obj} {cls : Value} {d : Option Addr} {pn : List (Addr × Obj)} (hz : L2N.Zn cls d oe) (hf : ∃ fv, oe.data = .fields fv) : L2H.HotC (X.suite a ((a, oe) :: pn)) := by
  obtain ⟨vs, e⟩ := hf
  exact ⟨(a, oe), ⟨rfl, vs, e, hz.2.2 vs e⟩, List.mem_cons_self⟩
theorem hu_H {k : Nat} {A : Around} (r : L2H.RoomH k A) : A.units + 64 < cLine := by have := r.un; omega
theorem no_fn {P : Program} {w : World} {K : PySem.W.Frag} {mg : Str → Option Value} {base : Heap} {CX : CXT} {k : Nat} {f : Addr} {fd : FuncData} {ps : List Str} : FnOk P w K mg base CX k f fd ps (fun _ _ _ _ => False) :=
  ⟨fun _ _ _ _ h => h.elim, fun _ _ _ _ _ _ _ _ _ _ _ _ _ h => h.elim⟩
theorem no_fnH {P : Program} {w : World} {K : PySem.W.Frag} {mg : Str → Option Value} {base : Heap} {CX : CXT} {k : Nat} {f : Addr} {fd : FuncData} {ps : List Str} : L2H.FnH P w K mg base CX k f fd ps (fun _ _ _ _ => False) :=
  ⟨fun _ _ _ _ h => h.elim, fun _ _ _ _ _ _ _ _ _ _ _ _ _ _ _ _ h => h.elim⟩
theorem okH {P : Program} {w : World} {K : PySem.W.Frag} {mg : Str → Option Value} {base : Heap} {x qual : Str} {st : Stmt} {f : Addr} {fd : FuncData} {N ps : List Str} {k : Nat} {sp : Sp} (F : Fun K x qual st f fd) (S : FnScope N ps (defScope st))
    (len : ∀ vs H Q E, sp vs H Q E → vs.length = ps.length)
    (hbody : ∀ (cdv : Value) (A : Around) (outer : List Env) (s : Shared) (H : Hp) (vs : List V) (Q : VK) (E : XK) (p : Addr × Obj), L2H.Hot1 A p → L2H.RoomH k (A.deeper (envOfC qual (defScope st) s.heap.objs.size f cdv)) → sp vs H Q E →
      ∃ t, PSs (L2H.cxH CX0 P w K mg base N qual (defScope st) f cdv A outer s H E p) (defBody st) t ∧ t { nx := fun _ H' => Q .non H', rt := Q } (start N vs) H) : L2H.FnH P w K mg base CX0 (k + 1) f fd ps sp := by
  obtain ⟨oc, od, kV, doc, pm, an, cdv, ct, osl, rfl, lk, hcd⟩ := F.ex
  exact L2H.fn_ofH lk hcd S len fun A outer s H vs Q E p hot hr hsp => hbody cdv A outer s H vs Q E p hot hr hsp
abbrev s_BadShape_init : Stmt := inClass (top 2) 0
abbrev sN_BadShape_init : List Str := [("self" : Str), ("parameter" : Str)]
theorem sc_BadShape_init : FnScope sN_BadShape_init [("self" : Str), ("parameter" : Str)] (defScope s_BadShape_init) := ⟨rfl, rfl, rfl, by decide +kernel, rfl, by decide +kernel, by decide +kernel⟩
abbrev s_is_name : Stmt := top 11
abbrev sN_is_name : List Str := [("value" : Str), ("sign" : Str)]
theorem sc_is_name : FnScope sN_is_name [("value" : Str)] (defScope s_is_name) := ⟨rfl, rfl, rfl, by decide +kernel, rfl, by decide +kernel, by decide +kernel⟩
abbrev s_is_place : Stmt := top 12
abbrev sN_is_place : List Str := [("value" : Str)]
theorem sc_is_place : FnScope sN_is_place [("value" : Str)] (defScope s_is_place) := ⟨rfl, rfl, rfl, by decide +kernel, rfl, by decide +kernel, by decide +kernel⟩
abbrev s_is_whole : Stmt := top 13
abbrev sN_is_whole : List Str := [("value" : Str)]
theorem sc_is_whole : FnScope sN_is_whole [("value" : Str)] (defScope s_is_whole) := ⟨rfl, rfl, rfl, by decide +kernel, rfl, by decide +kernel, by decide +kernel⟩
abbrev s_is_day : Stmt := top 14
abbrev sN_is_day : List Str := [("value" : Str)]
theorem sc_is_day : FnScope sN_is_day [("value" : Str)] (defScope s_is_day) := ⟨rfl, rfl, rfl, by decide +kernel, rfl, by decide +kernel, by decide +kernel⟩
abbrev s_is_plan : Stmt := top 15
abbrev sN_is_plan : List Str := [("value" : Str), ("town" : Str)]
theorem sc_is_plan : FnScope sN_is_plan [("value" : Str)] (defScope s_is_plan) := ⟨rfl, rfl, rfl, by decide +kernel, rfl, by decide +kernel, by decide +kernel⟩
abbrev s_is_crossing : Stmt := top 16
abbrev sN_is_crossing : List Str := [("value" : Str)]
theorem sc_is_crossing : FnScope sN_is_crossing [("value" : Str)] (defScope s_is_crossing) := ⟨rfl, rfl, rfl, by decide +kernel, rfl, by decide +kernel, by decide +kernel⟩
abbrev s_is_leg : Stmt := top 17
abbrev sN_is_leg : List Str := [("value" : Str)]
theorem sc_is_leg : FnScope sN_is_leg [("value" : Str)] (defScope s_is_leg) := ⟨rfl, rfl, rfl, by decide +kernel, rfl, by decide +kernel, by decide +kernel⟩
abbrev s_is_tuple_of : Stmt := top 18
abbrev sN_is_tuple_of : List Str := [("value" : Str), ("parts" : Str)]
theorem sc_is_tuple_of : FnScope sN_is_tuple_of [("value" : Str), ("parts" : Str)] (defScope s_is_tuple_of) := ⟨rfl, rfl, rfl, by decide +kernel, rfl, by decide +kernel, by decide +kernel⟩
abbrev s_check : Stmt := top 20
abbrev sN_check : List Str := [("fits" : Str), ("parameter" : Str)]
theorem sc_check : FnScope sN_check [("fits" : Str), ("parameter" : Str)] (defScope s_check) := ⟨rfl, rfl, rfl, by decide +kernel, rfl, by decide +kernel, by decide +kernel⟩
abbrev s_legs_of : Stmt := top 22
abbrev sN_legs_of : List Str := [("plan" : Str), ("stops" : Str), ("day" : Str)]
theorem sc_legs_of : FnScope sN_legs_of [("plan" : Str)] (defScope s_legs_of) := ⟨rfl, rfl, rfl, by decide +kernel, rfl, by decide +kernel, by decide +kernel⟩
abbrev s_plan_of : Stmt := top 23
abbrev sN_plan_of : List Str := [("legs" : Str), ("leg" : Str)]
theorem sc_plan_of : FnScope sN_plan_of [("legs" : Str)] (defScope s_plan_of) := ⟨rfl, rfl, rfl, by decide +kernel, rfl, by decide +kernel, by decide +kernel⟩
abbrev s_are_plan_legs : Stmt := top 24
abbrev sN_are_plan_legs : List Str := [("value" : Str), ("plan" : Str), ("leg" : Str)]
theorem sc_are_plan_legs : FnScope sN_are_plan_legs [("value" : Str)] (defScope s_are_plan_legs) := ⟨rfl, rfl, rfl, by decide +kernel, rfl, by decide +kernel, by decide +kernel⟩
abbrev s_l_mixed : Stmt := top 26
abbrev sN_l_mixed : List Str := [("cell" : Str), ("k" : Str), ("first" : Str), ("second" : Str)]
theorem sc_l_mixed : FnScope sN_l_mixed [("cell" : Str), ("k" : Str)] (defScope s_l_mixed) := ⟨rfl, rfl, rfl, by decide +kernel, rfl, by decide +kernel, by decide +kernel⟩
abbrev s_l_store : Stmt := top 27
abbrev sN_l_store : List Str := [("script" : Str), ("cell" : Str), ("cells" : Str), ("seed" : Str)]
theorem sc_l_store : FnScope sN_l_store [("script" : Str)] (defScope s_l_store) := ⟨rfl, rfl, rfl, by decide +kernel, rfl, by decide +kernel, by decide +kernel⟩
abbrev s_l_take : Stmt := top 28
abbrev sN_l_take : List Str := [("store" : Str), ("many" : Str), ("base" : Str), ("cell" : Str), ("digit" : Str)]
theorem sc_l_take : FnScope sN_l_take [("store" : Str), ("many" : Str)] (defScope s_l_take) := ⟨rfl, rfl, rfl, by decide +kernel, rfl, by decide +kernel, by decide +kernel⟩
abbrev s_l_great : Stmt := top 29
abbrev sN_l_great : List Str := [("store" : Str), ("many" : Str), ("number" : Str), ("k" : Str)]
theorem sc_l_great : FnScope sN_l_great [("store" : Str), ("many" : Str)] (defScope s_l_great) := ⟨rfl, rfl, rfl, by decide +kernel, rfl, by decide +kernel, by decide +kernel⟩
abbrev s_l_edge : Stmt := top 30
abbrev sN_l_edge : List Str := [("store" : Str), ("low" : Str), ("high" : Str), ("form" : Str)]
theorem sc_l_edge : FnScope sN_l_edge [("store" : Str), ("low" : Str), ("high" : Str)] (defScope s_l_edge) := ⟨rfl, rfl, rfl, by decide +kernel, rfl, by decide +kernel, by decide +kernel⟩
abbrev s_l_pick : Stmt := top 31
abbrev sN_l_pick : List Str := [("store" : Str), ("row" : Str)]
theorem sc_l_pick : FnScope sN_l_pick [("store" : Str), ("row" : Str)] (defScope s_l_pick) := ⟨rfl, rfl, rfl, by decide +kernel, rfl, by decide +kernel, by decide +kernel⟩
abbrev s_l_some : Stmt := top 32
abbrev sN_l_some : List Str := [("store" : Str), ("row" : Str), ("many" : Str), ("left" : Str), ("found" : Str), ("k" : Str), ("at" : Str)]
theorem sc_l_some : FnScope sN_l_some [("store" : Str), ("row" : Str), ("many" : Str)] (defScope s_l_some) := ⟨rfl, rfl, rfl, by decide +kernel, rfl, by decide +kernel, by decide +kernel⟩
abbrev s_l_turned : Stmt := top 33
abbrev sN_l_turned : List Str := [("store" : Str), ("row" : Str)]
theorem sc_l_turned : FnScope sN_l_turned [("store" : Str), ("row" : Str)] (defScope s_l_turned) := ⟨rfl, rfl, rfl, by decide +kernel, rfl, by decide +kernel, by decide +kernel⟩
abbrev s_l_word : Stmt := top 34
abbrev sN_l_word : List Str := [("store" : Str), ("size" : Str), ("letters" : Str), ("signs" : Str), ("word" : Str), ("k" : Str)]
theorem sc_l_word : FnScope sN_l_word [("store" : Str), ("size" : Str)] (defScope s_l_word) := ⟨rfl, rfl, rfl, by decide +kernel, rfl, by decide +kernel, by decide +kernel⟩
abbrev s_l_names : Stmt := top 35
abbrev sN_l_names : List Str := [("store" : Str), ("many" : Str), ("letters" : Str), ("form" : Str), ("word" : Str), ("k" : Str), ("row" : Str), ("stem" : Str), ("head" : Str), ("found" : Str), ("at" : Str), ("tail" : Str)]
theorem sc_l_names : FnScope sN_l_names [("store" : Str), ("many" : Str)] (defScope s_l_names) := ⟨rfl, rfl, rfl, by decide +kernel, rfl, by decide +kernel, by decide +kernel⟩
abbrev s_l_fresh : Stmt := top 36
abbrev sN_l_fresh : List Str := [("store" : Str), ("row" : Str), ("word" : Str), ("letter" : Str)]
theorem sc_l_fresh : FnScope sN_l_fresh [("store" : Str), ("row" : Str)] (defScope s_l_fresh) := ⟨rfl, rfl, rfl, by decide +kernel, rfl, by decide +kernel, by decide +kernel⟩
abbrev s_l_same : Stmt := top 37
abbrev sN_l_same : List Str := [("one" : Str), ("other" : Str), ("key" : Str), ("k" : Str), ("alike" : Str), ("found" : Str)]
theorem sc_l_same : FnScope sN_l_same [("one" : Str), ("other" : Str)] (defScope s_l_same) := ⟨rfl, rfl, rfl, by decide +kernel, rfl, by decide +kernel, by decide +kernel⟩
abbrev s_l_copy : Stmt := top 38
abbrev sN_l_copy : List Str := [("value" : Str), ("found" : Str), ("key" : Str), ("part" : Str)]
theorem sc_l_copy : FnScope sN_l_copy [("value" : Str)] (defScope s_l_copy) := ⟨rfl, rfl, rfl, by decide +kernel, rfl, by decide +kernel, by decide +kernel⟩
abbrev s_l_spoil : Stmt := top 39
abbrev sN_l_spoil : List Str := [("value" : Str), ("key" : Str), ("part" : Str)]
theorem sc_l_spoil : FnScope sN_l_spoil [("value" : Str)] (defScope s_l_spoil) := ⟨rfl, rfl, rfl, by decide +kernel, rfl, by decide +kernel, by decide +kernel⟩
abbrev s_l_is_name : Stmt := top 40
abbrev sN_l_is_name : List Str := [("value" : Str), ("sign" : Str)]
theorem sc_l_is_name : FnScope sN_l_is_name [("value" : Str)] (defScope s_l_is_name) := ⟨rfl, rfl, rfl, by decide +kernel, rfl, by decide +kernel, by decide +kernel⟩
abbrev s_l_is_within : Stmt := top 41
abbrev sN_l_is_within : List Str := [("value" : Str), ("low" : Str), ("high" : Str)]
theorem sc_l_is_within : FnScope sN_l_is_within [("value" : Str), ("low" : Str), ("high" : Str)] (defScope s_l_is_within) := ⟨rfl, rfl, rfl, by decide +kernel, rfl, by decide +kernel, by decide +kernel⟩
abbrev s_l_is_leg : Stmt := top 42
abbrev sN_l_is_leg : List Str := [("value" : Str)]
theorem sc_l_is_leg : FnScope sN_l_is_leg [("value" : Str)] (defScope s_l_is_leg) := ⟨rfl, rfl, rfl, by decide +kernel, rfl, by decide +kernel, by decide +kernel⟩
abbrev s_l_is_plan : Stmt := top 43
abbrev sN_l_is_plan : List Str := [("value" : Str), ("part" : Str)]
theorem sc_l_is_plan : FnScope sN_l_is_plan [("value" : Str)] (defScope s_l_is_plan) := ⟨rfl, rfl, rfl, by decide +kernel, rfl, by decide +kernel, by decide +kernel⟩
abbrev s_l_bent_row : Stmt := top 44
abbrev sN_l_bent_row : List Str := [("store" : Str), ("value" : Str), ("row" : Str), ("at" : Str), ("form" : Str)]
theorem sc_l_bent_row : FnScope sN_l_bent_row [("store" : Str), ("value" : Str)] (defScope s_l_bent_row) := ⟨rfl, rfl, rfl, by decide +kernel, rfl, by decide +kernel, by decide +kernel⟩
abbrev s_l_bent_leaf : Stmt := top 45
abbrev sN_l_bent_leaf : List Str := [("store" : Str), ("value" : Str), ("form" : Str)]
theorem sc_l_bent_leaf : FnScope sN_l_bent_leaf [("store" : Str), ("value" : Str)] (defScope s_l_bent_leaf) := ⟨rfl, rfl, rfl, by decide +kernel, rfl, by decide +kernel, by decide +kernel⟩
abbrev s_l_bent : Stmt := top 46
abbrev sN_l_bent : List Str := [("store" : Str), ("value" : Str), ("at" : Str), ("row" : Str)]
theorem sc_l_bent : FnScope sN_l_bent [("store" : Str), ("value" : Str)] (defScope s_l_bent) := ⟨rfl, rfl, rfl, by decide +kernel, rfl, by decide +kernel, by decide +kernel⟩
abbrev s_l_legs : Stmt := top 47
abbrev sN_l_legs : List Str := [("plan" : Str), ("row" : Str), ("day" : Str)]
theorem sc_l_legs : FnScope sN_l_legs [("plan" : Str)] (defScope s_l_legs) := ⟨rfl, rfl, rfl, by decide +kernel, rfl, by decide +kernel, by decide +kernel⟩
abbrev s_l_no_legs : Stmt := top 48
abbrev sN_l_no_legs : List Str := [("store" : Str), ("plan" : Str), ("row" : Str), ("at" : Str), ("form" : Str), ("leg" : Str)]
theorem sc_l_no_legs : FnScope sN_l_no_legs [("store" : Str), ("plan" : Str)] (defScope s_l_no_legs) := ⟨rfl, rfl, rfl, by decide +kernel, rfl, by decide +kernel, by decide +kernel⟩
abbrev s_l_is_legs : Stmt := top 49
abbrev sN_l_is_legs : List Str := [("value" : Str), ("k" : Str)]
theorem sc_l_is_legs : FnScope sN_l_is_legs [("value" : Str)] (defScope s_l_is_legs) := ⟨rfl, rfl, rfl, by decide +kernel, rfl, by decide +kernel, by decide +kernel⟩
abbrev s_l_told_of : Stmt := top 50
abbrev sN_l_told_of : List Str := [("form" : Str), ("value" : Str), ("e" : Str)]
theorem sc_l_told_of : FnScope sN_l_told_of [("form" : Str), ("value" : Str)] (defScope s_l_told_of) := ⟨rfl, rfl, rfl, by decide +kernel, rfl, by decide +kernel, by decide +kernel⟩
abbrev s_l_asked : Stmt := top 51
abbrev sN_l_asked : List Str := [("value" : Str), ("given" : Str), ("due" : Str), ("k" : Str), ("leg" : Str)]
theorem sc_l_asked : FnScope sN_l_asked [("value" : Str)] (defScope s_l_asked) := ⟨rfl, rfl, rfl, by decide +kernel, rfl, by decide +kernel, by decide +kernel⟩
abbrev s_l_legs_asked : Stmt := top 52
abbrev sN_l_legs_asked : List Str := [("value" : Str), ("due" : Str), ("given" : Str), ("told" : Str)]
theorem sc_l_legs_asked : FnScope sN_l_legs_asked [("value" : Str)] (defScope s_l_legs_asked) := ⟨rfl, rfl, rfl, by decide +kernel, rfl, by decide +kernel, by decide +kernel⟩
abbrev s_law : Stmt := top 53
abbrev sN_law : List Str := [("script" : Str), ("store" : Str), ("row" : Str), ("plan" : Str), ("other" : Str), ("legs" : Str), ("cut" : Str), ("bent" : Str), ("values" : Str), ("value" : Str), ("k" : Str)]
theorem sc_law : FnScope sN_law [("script" : Str)] (defScope s_law) := ⟨rfl, rfl, rfl, by decide +kernel, rfl, by decide +kernel, by decide +kernel⟩
structure Txt (K : PySem.W.Frag) (mg : Str → Option Value) (C : CA) where
  e_BadShape : Ini K C.BadShape "BadShape.__init__" s_BadShape_init [("self" : Str), ("parameter" : Str)] [("parameter" : Str)]
  d_is_name : Dfn K mg "is_name" "is_name" s_is_name [("value" : Str)]
  d_is_place : Dfn K mg "is_place" "is_place" s_is_place [("value" : Str)]
  d_is_whole : Dfn K mg "is_whole" "is_whole" s_is_whole [("value" : Str)]
  d_is_day : Dfn K mg "is_day" "is_day" s_is_day [("value" : Str)]
  d_is_plan : Dfn K mg "is_plan" "is_plan" s_is_plan [("value" : Str)]
  d_is_crossing : Dfn K mg "is_crossing" "is_crossing" s_is_crossing [("value" : Str)]
  d_is_leg : Dfn K mg "is_leg" "is_leg" s_is_leg [("value" : Str)]
  d_is_tuple_of : Dfn K mg "is_tuple_of" "is_tuple_of" s_is_tuple_of [("value" : Str), ("parts" : Str)]
  d_check : Dfn K mg "check" "check" s_check [("fits" : Str), ("parameter" : Str)]
  d_legs_of : Dfn K mg "legs_of" "legs_of" s_legs_of [("plan" : Str)]
  d_plan_of : Dfn K mg "plan_of" "plan_of" s_plan_of [("legs" : Str)]
  d_are_plan_legs : Dfn K mg "are_plan_legs" "are_plan_legs" s_are_plan_legs [("value" : Str)]
  d_l_mixed : Dfn K mg "_law_mixed" "_law_mixed" s_l_mixed [("cell" : Str), ("k" : Str)]
  d_l_store : Dfn K mg "_law_store" "_law_store" s_l_store [("script" : Str)]
  d_l_take : Dfn K mg "_law_take" "_law_take" s_l_take [("store" : Str), ("many" : Str)]
  d_l_great : Dfn K mg "_law_great" "_law_great" s_l_great [("store" : Str), ("many" : Str)]
  d_l_edge : Dfn K mg "_law_edge" "_law_edge" s_l_edge [("store" : Str), ("low" : Str), ("high" : Str)]
  d_l_pick : Dfn K mg "_law_pick" "_law_pick" s_l_pick [("store" : Str), ("row" : Str)]
  d_l_some : Dfn K mg "_law_some" "_law_some" s_l_some [("store" : Str), ("row" : Str), ("many" : Str)]
  d_l_turned : Dfn K mg "_law_turned" "_law_turned" s_l_turned [("store" : Str), ("row" : Str)]
  d_l_word : Dfn K mg "_law_word" "_law_word" s_l_word [("store" : Str), ("size" : Str)]
  d_l_names : Dfn K mg "_law_names" "_law_names" s_l_names [("store" : Str), ("many" : Str)]
  d_l_fresh : Dfn K mg "_law_fresh" "_law_fresh" s_l_fresh [("store" : Str), ("row" : Str)]
  d_l_same : Dfn K mg "_law_same" "_law_same" s_l_same [("one" : Str), ("other" : Str)]
  d_l_copy : Dfn K mg "_law_copy" "_law_copy" s_l_copy [("value" : Str)]
  d_l_spoil : Dfn K mg "_law_spoil" "_law_spoil" s_l_spoil [("value" : Str)]
  d_l_is_name : Dfn K mg "_law_is_name" "_law_is_name" s_l_is_name [("value" : Str)]
  d_l_is_within : Dfn K mg "_law_is_within" "_law_is_within" s_l_is_within [("value" : Str), ("low" : Str), ("high" : Str)]
  d_l_is_leg : Dfn K mg "_law_is_leg" "_law_is_leg" s_l_is_leg [("value" : Str)]
  d_l_is_plan : Dfn K mg "_law_is_plan" "_law_is_plan" s_l_is_plan [("value" : Str)]
  d_l_bent_row : Dfn K mg "_law_bent_row" "_law_bent_row" s_l_bent_row [("store" : Str), ("value" : Str)]
  d_l_bent_leaf : Dfn K mg "_law_bent_leaf" "_law_bent_leaf" s_l_bent_leaf [("store" : Str), ("value" : Str)]
  d_l_bent : Dfn K mg "_law_bent" "_law_bent" s_l_bent [("store" : Str), ("value" : Str)]
  d_l_legs : Dfn K mg "_law_legs" "_law_legs" s_l_legs [("plan" : Str)]
  d_l_no_legs : Dfn K mg "_law_no_legs" "_law_no_legs" s_l_no_legs [("store" : Str), ("plan" : Str)]
  d_l_is_legs : Dfn K mg "_law_is_legs" "_law_is_legs" s_l_is_legs [("value" : Str)]
  d_l_told_of : Dfn K mg "_law_told_of" "_law_told_of" s_l_told_of [("form" : Str), ("value" : Str)]
  d_l_asked : Dfn K mg "_law_asked" "_law_asked" s_l_asked [("value" : Str)]
  d_l_legs_asked : Dfn K mg "_law_legs_asked" "_law_legs_asked" s_l_legs_asked [("value" : Str)]
  d_law : Dfn K mg "law" "law" s_law [("script" : Str)]
  g_BadErrand : mg "BadErrand" = some (.ref C.BadErrand)
  g_BadShape : mg "BadShape" = some (.ref C.BadShape)
  g_BadText : mg "BadText" = some (.ref C.BadText)
  g_CrossError : mg "CrossError" = some (.ref C.CrossError)
  t_END : Nat
  c_END : mg "END" = some (.str ("-" : Str) t_END)
  t_LAST_DAY : Nat
  c_LAST_DAY : mg "LAST_DAY" = some (.int 6 t_LAST_DAY)
  t_LETTERS : Nat
  c_LETTERS : mg "LETTERS" = some (.str ("abcdefghijklmnopqrstuvwxyz" : Str) t_LETTERS)
  t_LETTERS_AND_DIGITS : Nat
  c_LETTERS_AND_DIGITS : mg "LETTERS_AND_DIGITS" = some (.str ("abcdefghijklmnopqrstuvwxyz0123456789" : Str) t_LETTERS_AND_DIGITS)
  t_LONGEST_NAME : Nat
  c_LONGEST_NAME : mg "LONGEST_NAME" = some (.int 8 t_LONGEST_NAME)
  b_abs : mg "abs" = none
  b_all : mg "all" = none
  b_bool : mg "bool" = none
  b_dict : mg "dict" = none
  b_int : mg "int" = none
  b_isinstance : mg "isinstance" = none
  b_len : mg "len" = none
  b_list : mg "list" = none
  b_max : mg "max" = none
  b_min : mg "min" = none
  b_range : mg "range" = none
  b_str : mg "str" = none
  b_tuple : mg "tuple" = none
  ef : EF K C
section
variable {P : Program} {w : World} {K : PySem.W.Frag} {mg : Str → Option Value} {base : Heap} {C : CA}
theorem pure_BadShape_init (I : Ini K C.BadShape "BadShape.__init__" s_BadShape_init [("self" : Str), ("parameter" : Str)] [("parameter" : Str)]) (vs : List V) (H : Hp) (Q : VK) (E : XK) (h : sp_einit C.BadShape [("parameter" : Str)] vs H Q E) : ((tOst K ("parameter" : Str) (tVar 0) (tVar 1))) { nx := fun _ H' => Q .non H', rt := Q } (start sN_BadShape_init vs) H := by
  obtain ⟨a, ws, rfl, hl, ha, q⟩ := h
  match ws, hl with
  | [x], _ =>
    refine ⟨_, rfl, _, rfl, a, C.BadShape, rfl, I.ex, I.no _ (by decide +kernel), .inl ⟨ha, fun d nd ne => ?_⟩⟩
    refine q d _ nd ne upd_same ?_ fun b na nb => ?_
    · rw [upd_ne ne]; exact upd_same
    · rw [upd_ne na, upd_ne nb]
theorem ok_BadShape_init (I : Ini K C.BadShape "BadShape.__init__" s_BadShape_init [("self" : Str), ("parameter" : Str)] [("parameter" : Str)]) : FnOk P w K mg base CX0 2 I.f I.fd [("self" : Str), ("parameter" : Str)] (sp_einit C.BadShape [("parameter" : Str)]) := by
  refine I.fn.ok sc_BadShape_init (fun vs H Q E h => ?_) (fun cdv A outer s H vs Q E hr h => ⟨_, ?_, pure_BadShape_init I vs H Q E h⟩)
  · obtain ⟨_, _, rfl, hl, _⟩ := h
    rw [List.length_cons, hl]
    rfl
  · exact (pss_one (ps_ost (pv 0) (pv 1)))
theorem ok_is_name (T : Txt K mg C) : FnOk P w K mg base CX0 2 T.d_is_name.f T.d_is_name.fd [("value" : Str)] (sp_is_name K C) := by
  refine T.d_is_name.fn.ok sc_is_name (fun vs H Q E h => ?_) (fun cdv A outer s H vs Q E hr h => ⟨rd_is_name K C E, ?_, pure_is_name vs H Q E h⟩)
  · first
    | (obtain ⟨_, rfl, _⟩ := h; rfl)
    | (obtain ⟨_, _, rfl, _⟩ := h; rfl)
    | (obtain ⟨_, _, _, rfl, _⟩ := h; rfl)
    | (obtain ⟨_, _, _, _, rfl, _⟩ := h; rfl)
    | (obtain ⟨_, _, _, _, _, rfl, _⟩ := h; rfl)
    | (obtain ⟨_, _, _, _, _, _, rfl, _⟩ := h; rfl)
    | (obtain ⟨_, _, _, _, _, _, _, rfl, _⟩ := h; rfl)
  · unfold rd_is_name
    exact (pss_cons (ps_if (PW.pt (pw_or (pt_not (pt_val (pe_callB c_isi (by rfl) T.b_isinstance (by decide +kernel) (pa_cons (pv 0) (pa_cons (pe_bltn (v := .ty "str") (by rfl) T.b_str (by decide +kernel) rfl) pa_nil))))) (pw_or1 (pt_not (pt_chain op_leF op_leF pe_int (pe_callB c_len (by rfl) T.b_len (by decide +kernel) (pa_cons (pv 0) pa_nil)) (pe_glob (by rfl) T.c_LONGEST_NAME ⟨_, rfl⟩)))))) (pss_one (ps_ret pe_bl)) pss_nil) (pss_one (ps_ret (pe_and (pe_cmpR op_inF (pe_ix ix_F (pv 0) pe_int (fun _ _ => rfl)) (pe_glob (by rfl) T.c_LETTERS ⟨_, rfl⟩) (by rfl)) (pe_one (pe_callB (c_all rfl) (by rfl) T.b_all (by decide +kernel) (pa_cons (pe_lc (own := [(("sign" : Str), 1)]) (g := (gName 1)) rfl sc_is_name.nd (pi_str (pv 0)) (blkOk_by (own := [(("sign" : Str), 1)]) (N := sN_is_name) (sc := defScope s_is_name) (by decide +kernel)) (fun _ _ _ _ _ => (pg_name (i := 1) sc_is_name.nd rfl (by first | exact .inl rfl | exact .inr rfl))) (fun _ _ _ _ _ => pts_nil) (fun _ _ _ _ _ => (pe_cmpR op_inF (pv 1) (pe_glob (by rfl) T.c_LETTERS_AND_DIGITS ⟨_, rfl⟩) (by rfl)))) pa_nil)))))))
theorem ok_is_place (T : Txt K mg C) : FnOk P w K mg base CX0 3 T.d_is_place.f T.d_is_place.fd [("value" : Str)] (sp_is_place K C) := by
  have G_is_name := ok_is_name (P := P) (w := w) (mg := mg) (base := base) T
  refine T.d_is_place.fn.ok sc_is_place (fun vs H Q E h => ?_) (fun cdv A outer s H vs Q E hr h => ⟨rd_is_place K C E, ?_, pure_is_place vs H Q E h⟩)
  · first
    | (obtain ⟨_, rfl, _⟩ := h; rfl)
    | (obtain ⟨_, _, rfl, _⟩ := h; rfl)
    | (obtain ⟨_, _, _, rfl, _⟩ := h; rfl)
    | (obtain ⟨_, _, _, _, rfl, _⟩ := h; rfl)
    | (obtain ⟨_, _, _, _, _, rfl, _⟩ := h; rfl)
    | (obtain ⟨_, _, _, _, _, _, rfl, _⟩ := h; rfl)
    | (obtain ⟨_, _, _, _, _, _, _, rfl, _⟩ := h; rfl)
  · unfold rd_is_place
    exact (pss_one (ps_ret (pe_or (pe_callS G_is_name (hr.mono (by decide)) (by rfl) T.d_is_name.mg T.d_is_name.fn.kp T.d_is_name.bi pass0S (pa_cons (pv 0) pa_nil)) (pe_one (pe_cmpR (op_eqX hr.units) (pv 0) (pe_glob (by rfl) T.c_END ⟨_, rfl⟩) (nomark _))))))
theorem ok_is_whole (T : Txt K mg C) : FnOk P w K mg base CX0 2 T.d_is_whole.f T.d_is_whole.fd [("value" : Str)] (sp_is_whole K C) := by
  refine T.d_is_whole.fn.ok sc_is_whole (fun vs H Q E h => ?_) (fun cdv A outer s H vs Q E hr h => ⟨rd_is_whole K C E, ?_, pure_is_whole vs H Q E h⟩)
  · first
    | (obtain ⟨_, rfl, _⟩ := h; rfl)
    | (obtain ⟨_, _, rfl, _⟩ := h; rfl)
    | (obtain ⟨_, _, _, rfl, _⟩ := h; rfl)
    | (obtain ⟨_, _, _, _, rfl, _⟩ := h; rfl)
    | (obtain ⟨_, _, _, _, _, rfl, _⟩ := h; rfl)
    | (obtain ⟨_, _, _, _, _, _, rfl, _⟩ := h; rfl)
    | (obtain ⟨_, _, _, _, _, _, _, rfl, _⟩ := h; rfl)
  · unfold rd_is_whole
    exact (pss_one (ps_ret (pe_and (pe_callB c_isi (by rfl) T.b_isinstance (by decide +kernel) (pa_cons (pv 0) (pa_cons (pe_bltn (v := .ty "int") (by rfl) T.b_int (by decide +kernel) rfl) pa_nil))) (pe_one (pe_not (pe_callB c_isi (by rfl) T.b_isinstance (by decide +kernel) (pa_cons (pv 0) (pa_cons (pe_bltn (v := .ty "bool") (by rfl) T.b_bool (by decide +kernel) rfl) pa_nil))))))))
theorem ok_is_day (T : Txt K mg C) : FnOk P w K mg base CX0 3 T.d_is_day.f T.d_is_day.fd [("value" : Str)] (sp_is_day K C) := by
  have G_is_whole := ok_is_whole (P := P) (w := w) (mg := mg) (base := base) T
  refine T.d_is_day.fn.ok sc_is_day (fun vs H Q E h => ?_) (fun cdv A outer s H vs Q E hr h => ⟨rd_is_day K C E, ?_, pure_is_day vs H Q E h⟩)
  · first
    | (obtain ⟨_, rfl, _⟩ := h; rfl)
    | (obtain ⟨_, _, rfl, _⟩ := h; rfl)
    | (obtain ⟨_, _, _, rfl, _⟩ := h; rfl)
    | (obtain ⟨_, _, _, _, rfl, _⟩ := h; rfl)
    | (obtain ⟨_, _, _, _, _, rfl, _⟩ := h; rfl)
    | (obtain ⟨_, _, _, _, _, _, rfl, _⟩ := h; rfl)
    | (obtain ⟨_, _, _, _, _, _, _, rfl, _⟩ := h; rfl)
  · unfold rd_is_day
    exact (pss_one (ps_ret (pe_and (pe_callS G_is_whole (hr.mono (by decide)) (by rfl) T.d_is_whole.mg T.d_is_whole.fn.kp T.d_is_whole.bi pass0S (pa_cons (pv 0) pa_nil)) (pe_one (pe_chain op_leF op_leF pe_int (pv 0) (pe_glob (by rfl) T.c_LAST_DAY ⟨_, rfl⟩))))))
theorem ok_is_plan (T : Txt K mg C) : FnOk P w K mg base CX0 3 T.d_is_plan.f T.d_is_plan.fd [("value" : Str)] (sp_is_plan K C) := by
  have G_is_name := ok_is_name (P := P) (w := w) (mg := mg) (base := base) T
  refine T.d_is_plan.fn.ok sc_is_plan (fun vs H Q E h => ?_) (fun cdv A outer s H vs Q E hr h => ⟨rd_is_plan K C E, ?_, pure_is_plan vs H Q E h⟩)
  · first
    | (obtain ⟨_, rfl, _⟩ := h; rfl)
    | (obtain ⟨_, _, rfl, _⟩ := h; rfl)
    | (obtain ⟨_, _, _, rfl, _⟩ := h; rfl)
    | (obtain ⟨_, _, _, _, rfl, _⟩ := h; rfl)
    | (obtain ⟨_, _, _, _, _, rfl, _⟩ := h; rfl)
    | (obtain ⟨_, _, _, _, _, _, rfl, _⟩ := h; rfl)
    | (obtain ⟨_, _, _, _, _, _, _, rfl, _⟩ := h; rfl)
  · unfold rd_is_plan
    exact (pss_cons (ps_if (PW.pt (pw_or (pt_not (pt_val (pe_callB c_isi (by rfl) T.b_isinstance (by decide +kernel) (pa_cons (pv 0) (pa_cons (pe_bltn (v := .ty "tuple") (by rfl) T.b_tuple (by decide +kernel) rfl) pa_nil))))) (pw_or1 (pt_not (pt_chain op_leF op_leF pe_int (pe_callB c_len (by rfl) T.b_len (by decide +kernel) (pa_cons (pv 0) pa_nil)) (pe_op op_addF (pe_glob (by rfl) T.c_LAST_DAY ⟨_, rfl⟩) pe_int)))))) (pss_one (ps_ret pe_bl)) pss_nil) (pss_one (ps_ret (pe_callB (c_all rfl) (by rfl) T.b_all (by decide +kernel) (pa_cons (pe_lc (own := [(("town" : Str), 1)]) (g := (gName 1)) rfl sc_is_plan.nd (pi_tup (pv 0)) (blkOk_by (own := [(("town" : Str), 1)]) (N := sN_is_plan) (sc := defScope s_is_plan) (by decide +kernel)) (fun _ _ _ _ _ => (pg_name (i := 1) sc_is_plan.nd rfl (by first | exact .inl rfl | exact .inr rfl))) (fun _ _ _ _ _ => pts_nil) (fun _ _ _ _ _ => (pe_callS G_is_name (hr.mono (by decide)) (by rfl) T.d_is_name.mg T.d_is_name.fn.kp T.d_is_name.bi pass0S (pa_cons (pv 1) pa_nil)))) pa_nil)))))
theorem ok_is_tuple_of (T : Txt K mg C) : FnOk P w K mg base CX0 2 T.d_is_tuple_of.f T.d_is_tuple_of.fd [("value" : Str), ("parts" : Str)] (sp_is_tuple_of K C) := by
  refine T.d_is_tuple_of.fn.ok sc_is_tuple_of (fun vs H Q E h => ?_) (fun cdv A outer s H vs Q E hr h => ⟨rd_is_tuple_of K C E, ?_, pure_is_tuple_of vs H Q E h⟩)
  · first
    | (obtain ⟨_, rfl, _⟩ := h; rfl)
    | (obtain ⟨_, _, rfl, _⟩ := h; rfl)
    | (obtain ⟨_, _, _, rfl, _⟩ := h; rfl)
    | (obtain ⟨_, _, _, _, rfl, _⟩ := h; rfl)
    | (obtain ⟨_, _, _, _, _, rfl, _⟩ := h; rfl)
    | (obtain ⟨_, _, _, _, _, _, rfl, _⟩ := h; rfl)
    | (obtain ⟨_, _, _, _, _, _, _, rfl, _⟩ := h; rfl)
  · unfold rd_is_tuple_of
    exact (pss_one (ps_ret (pe_and (pe_callB c_isi (by rfl) T.b_isinstance (by decide +kernel) (pa_cons (pv 0) (pa_cons (pe_bltn (v := .ty "tuple") (by rfl) T.b_tuple (by decide +kernel) rfl) pa_nil))) (pe_one (pe_cmpR (op_eqF hr.units) (pe_callB c_len (by rfl) T.b_len (by decide +kernel) (pa_cons (pv 0) pa_nil)) (pv 1) (nomark _))))))
theorem ok_is_crossing (T : Txt K mg C) : FnOk P w K mg base CX0 4 T.d_is_crossing.f T.d_is_crossing.fd [("value" : Str)] (sp_is_crossing K C) := by
  have G_is_day := ok_is_day (P := P) (w := w) (mg := mg) (base := base) T
  have G_is_name := ok_is_name (P := P) (w := w) (mg := mg) (base := base) T
  have G_is_tuple_of := ok_is_tuple_of (P := P) (w := w) (mg := mg) (base := base) T
  refine T.d_is_crossing.fn.ok sc_is_crossing (fun vs H Q E h => ?_) (fun cdv A outer s H vs Q E hr h => ⟨rd_is_crossing K C E, ?_, pure_is_crossing vs H Q E h⟩)
  · first
    | (obtain ⟨_, rfl, _⟩ := h; rfl)
    | (obtain ⟨_, _, rfl, _⟩ := h; rfl)
    | (obtain ⟨_, _, _, rfl, _⟩ := h; rfl)
    | (obtain ⟨_, _, _, _, rfl, _⟩ := h; rfl)
    | (obtain ⟨_, _, _, _, _, rfl, _⟩ := h; rfl)
    | (obtain ⟨_, _, _, _, _, _, rfl, _⟩ := h; rfl)
    | (obtain ⟨_, _, _, _, _, _, _, rfl, _⟩ := h; rfl)
  · unfold rd_is_crossing
    exact (pss_one (ps_ret (pe_and (pe_callS G_is_tuple_of (hr.mono (by decide)) (by rfl) T.d_is_tuple_of.mg T.d_is_tuple_of.fn.kp T.d_is_tuple_of.bi pass0S (pa_cons (pv 0) (pa_cons pe_int pa_nil))) (pe_and (pe_callS G_is_day (hr.mono (by decide)) (by rfl) T.d_is_day.mg T.d_is_day.fn.kp T.d_is_day.bi pass0S (pa_cons (pe_ix ix_F (pv 0) pe_int (fun _ _ => rfl)) pa_nil)) (pe_one (pe_callS G_is_name (hr.mono (by decide)) (by rfl) T.d_is_name.mg T.d_is_name.fn.kp T.d_is_name.bi pass0S (pa_cons (pe_ix ix_F (pv 0) pe_int (fun _ _ => rfl)) pa_nil)))))))
theorem ok_is_leg (T : Txt K mg C) : FnOk P w K mg base CX0 5 T.d_is_leg.f T.d_is_leg.fd [("value" : Str)] (sp_is_leg K C) := by
  have G_is_crossing := ok_is_crossing (P := P) (w := w) (mg := mg) (base := base) T
  have G_is_place := ok_is_place (P := P) (w := w) (mg := mg) (base := base) T
  have G_is_tuple_of := ok_is_tuple_of (P := P) (w := w) (mg := mg) (base := base) T
  refine T.d_is_leg.fn.ok sc_is_leg (fun vs H Q E h => ?_) (fun cdv A outer s H vs Q E hr h => ⟨rd_is_leg K C E, ?_, pure_is_leg vs H Q E h⟩)
  · first
    | (obtain ⟨_, rfl, _⟩ := h; rfl)
    | (obtain ⟨_, _, rfl, _⟩ := h; rfl)
    | (obtain ⟨_, _, _, rfl, _⟩ := h; rfl)
    | (obtain ⟨_, _, _, _, rfl, _⟩ := h; rfl)
    | (obtain ⟨_, _, _, _, _, rfl, _⟩ := h; rfl)
    | (obtain ⟨_, _, _, _, _, _, rfl, _⟩ := h; rfl)
    | (obtain ⟨_, _, _, _, _, _, _, rfl, _⟩ := h; rfl)
  · unfold rd_is_leg
    exact (pss_cons (ps_if (PW.pt (pw_or (pt_not (pt_val (pe_callS G_is_tuple_of (hr.mono (by decide)) (by rfl) T.d_is_tuple_of.mg T.d_is_tuple_of.fn.kp T.d_is_tuple_of.bi pass0S (pa_cons (pv 0) (pa_cons pe_int pa_nil))))) (pw_or (pt_not (pt_val (pe_callS G_is_crossing (hr.mono (by decide)) (by rfl) T.d_is_crossing.mg T.d_is_crossing.fn.kp T.d_is_crossing.bi pass0S (pa_cons (pe_slice sl_F2 (pv 0) po_none (po_some pe_int)) pa_nil)))) (pw_or1 (pt_not (pt_val (pe_callS G_is_place (hr.mono (by decide)) (by rfl) T.d_is_place.mg T.d_is_place.fn.kp T.d_is_place.bi pass0S (pa_cons (pe_ix ix_F (pv 0) pe_int (fun _ _ => rfl)) pa_nil)))))))) (pss_one (ps_ret pe_bl)) pss_nil) (pss_one (ps_ret (pe_or (pe_cmpR (op_eqX hr.units) (pe_ix ix_F (pv 0) pe_int (fun _ _ => rfl)) (pe_glob (by rfl) T.c_END ⟨_, rfl⟩) (nomark _)) (pe_one (pe_cmpR op_ltF (pe_ix ix_F (pv 0) pe_int (fun _ _ => rfl)) (pe_glob (by rfl) T.c_LAST_DAY ⟨_, rfl⟩) (nomark _)))))))
theorem ok_check (T : Txt K mg C) : FnOk P w K mg base (L2N.CX P w) 4 T.d_check.f T.d_check.fd [("fits" : Str), ("parameter" : Str)] (sp_check K C) := by
  have G_BadShape_init := ok_BadShape_init (P := P) (w := w) (mg := mg) (base := base) T.e_BadShape
  refine okN T.d_check.fn sc_check (fun vs H Q E h => ?_) (fun cdv A outer s H vs Q E hr h => ⟨rd_check K C E, ?_, pure_check vs H Q E h⟩)
  · first
    | (obtain ⟨_, rfl, _⟩ := h; rfl)
    | (obtain ⟨_, _, rfl, _⟩ := h; rfl)
    | (obtain ⟨_, _, _, rfl, _⟩ := h; rfl)
    | (obtain ⟨_, _, _, _, rfl, _⟩ := h; rfl)
    | (obtain ⟨_, _, _, _, _, rfl, _⟩ := h; rfl)
    | (obtain ⟨_, _, _, _, _, _, rfl, _⟩ := h; rfl)
    | (obtain ⟨_, _, _, _, _, _, _, rfl, _⟩ := h; rfl)
  · unfold rd_check
    exact (pss_one (ps_if (pt_not (pt_val (pv 0))) (pss_one (ps_raiseF rfl T.e_BadShape.ex T.e_BadShape.iC T.e_BadShape.tI G_BadShape_init (hr.mono (by decide)) T.e_BadShape.bi passE (by rfl) T.g_BadShape (L2N.takes_of rfl rfl rfl rfl) (mon_cons mon_var mon_nil) (pa_cons (pv 1) pa_nil))) pss_nil))
theorem ok_legs_of (T : Txt K mg C) : FnOk P w K mg base (L2N.CX P w) 5 T.d_legs_of.f T.d_legs_of.fd [("plan" : Str)] (sp_legs_of K C) := by
  have G_check := ok_check (P := P) (w := w) (mg := mg) (base := base) T
  have G_is_plan := ok_is_plan (P := P) (w := w) (mg := mg) (base := base) T
  refine okN T.d_legs_of.fn sc_legs_of (fun vs H Q E h => ?_) (fun cdv A outer s H vs Q E hr h => ⟨rd_legs_of K C E, ?_, pure_legs_of vs H Q E h⟩)
  · first
    | (obtain ⟨_, rfl, _⟩ := h; rfl)
    | (obtain ⟨_, _, rfl, _⟩ := h; rfl)
    | (obtain ⟨_, _, _, rfl, _⟩ := h; rfl)
    | (obtain ⟨_, _, _, _, rfl, _⟩ := h; rfl)
    | (obtain ⟨_, _, _, _, _, rfl, _⟩ := h; rfl)
    | (obtain ⟨_, _, _, _, _, _, rfl, _⟩ := h; rfl)
    | (obtain ⟨_, _, _, _, _, _, _, rfl, _⟩ := h; rfl)
  · unfold rd_legs_of
    exact (pss_cons (ps_expr (pe_callS G_check (hr.mono (by decide)) (by rfl) T.d_check.mg T.d_check.fn.kp T.d_check.bi (fun σ => L2N.passAt (W := fun cls d _ H => E cls d H) (L2N.takes_of rfl rfl rfl rfl) σ) (pa_cons (pe_callS G_is_plan (hr.mono (by decide)) (by rfl) T.d_is_plan.mg T.d_is_plan.fn.kp T.d_is_plan.bi pass0S (pa_cons (pv 0) pa_nil)) (pa_cons pe_str pa_nil)))) (pss_cons (ps_set (i := 1) sc_legs_of.nd rfl (Or.inr rfl) (pe_op op_addT (pv 0) (pe_tup (pa_cons (pe_glob (by rfl) T.c_END ⟨_, rfl⟩) pa_nil)))) (pss_one (ps_ret (pe_lc (own := [(("day" : Str), 2)]) (g := (gName 2)) rfl sc_legs_of.nd (pi_range1 (by rfl) T.b_range (pa_cons (pe_callB c_len (by rfl) T.b_len (by decide +kernel) (pa_cons (pv 0) pa_nil)) pa_nil)) (blkOk_by (own := [(("day" : Str), 2)]) (N := sN_legs_of) (sc := defScope s_legs_of) (by decide +kernel)) (fun _ _ _ _ _ => (pg_name (i := 2) sc_legs_of.nd rfl (by first | exact .inl rfl | exact .inr rfl))) (fun _ _ _ _ _ => pts_nil) (fun _ _ _ _ _ => (pe_tup (pa_cons (pv 2) (pa_cons (pe_ix ix_F (pv 0) (pv 2) (fun _ _ => rfl)) (pa_cons (pe_ix ix_F (pv 1) (pe_op op_addF (pv 2) pe_int) (fun _ _ => rfl)) pa_nil))))))))))
theorem ok_are_plan_legs (T : Txt K mg C) : FnOk P w K mg base (L2N.CX P w) 6 T.d_are_plan_legs.f T.d_are_plan_legs.fd [("value" : Str)] (sp_are_plan_legs K C) := by
  have G_is_leg := ok_is_leg (P := P) (w := w) (mg := mg) (base := base) T
  have G_is_plan := ok_is_plan (P := P) (w := w) (mg := mg) (base := base) T
  have G_legs_of := ok_legs_of (P := P) (w := w) (mg := mg) (base := base) T
  refine okN T.d_are_plan_legs.fn sc_are_plan_legs (fun vs H Q E h => ?_) (fun cdv A outer s H vs Q E hr h => ⟨rd_are_plan_legs K C E, ?_, pure_are_plan_legs vs H Q E h⟩)
  · first
    | (obtain ⟨_, rfl, _⟩ := h; rfl)
    | (obtain ⟨_, _, rfl, _⟩ := h; rfl)
    | (obtain ⟨_, _, _, rfl, _⟩ := h; rfl)
    | (obtain ⟨_, _, _, _, rfl, _⟩ := h; rfl)
    | (obtain ⟨_, _, _, _, _, rfl, _⟩ := h; rfl)
    | (obtain ⟨_, _, _, _, _, _, rfl, _⟩ := h; rfl)
    | (obtain ⟨_, _, _, _, _, _, _, rfl, _⟩ := h; rfl)
  · unfold rd_are_plan_legs
    exact (pss_cons (ps_if (PW.pt (pw_or (pt_not (pt_val (pe_callB c_isi (by rfl) T.b_isinstance (by decide +kernel) (pa_cons (pv 0) (pa_cons (pe_bltn (v := .ty "list") (by rfl) T.b_list (by decide +kernel) rfl) pa_nil))))) (pw_or1 (pt_not (pt_val (pe_callB (c_all rfl) (by rfl) T.b_all (by decide +kernel) (pa_cons (pe_lc (own := [(("leg" : Str), 2)]) (g := (gName 2)) rfl sc_are_plan_legs.nd (pi_list (pv 0)) (blkOk_by (own := [(("leg" : Str), 2)]) (N := sN_are_plan_legs) (sc := defScope s_are_plan_legs) (by decide +kernel)) (fun _ _ _ _ _ => (pg_name (i := 2) sc_are_plan_legs.nd rfl (by first | exact .inl rfl | exact .inr rfl))) (fun _ _ _ _ _ => pts_nil) (fun _ _ _ _ _ => (pe_callS G_is_leg (hr.mono (by decide)) (by rfl) T.d_is_leg.mg T.d_is_leg.fn.kp T.d_is_leg.bi pass0S (pa_cons (pv 2) pa_nil)))) pa_nil))))))) (pss_one (ps_ret pe_bl)) pss_nil) (pss_cons (ps_set (i := 1) sc_are_plan_legs.nd rfl (Or.inl rfl) (pe_callTy c_tuple (by rfl) T.b_tuple (by decide +kernel) (pa_cons (pe_lc (own := [(("leg" : Str), 2)]) (g := (gName 2)) rfl sc_are_plan_legs.nd (pi_list (pv 0)) (blkOk_by (own := [(("leg" : Str), 2)]) (N := sN_are_plan_legs) (sc := defScope s_are_plan_legs) (by decide +kernel)) (fun _ _ _ _ _ => (pg_name (i := 2) sc_are_plan_legs.nd rfl (by first | exact .inl rfl | exact .inr rfl))) (fun _ _ _ _ _ => pts_nil) (fun _ _ _ _ _ => (pe_ix ix_F (pv 2) pe_int (fun _ _ => rfl)))) pa_nil))) (pss_one (ps_ret (pe_and (pe_callS G_is_plan (hr.mono (by decide)) (by rfl) T.d_is_plan.mg T.d_is_plan.fn.kp T.d_is_plan.bi pass0S (pa_cons (pv 1) pa_nil)) (pe_one (pe_cmpR (op_eqF hr.units) (pe_callS G_legs_of (hr.mono (by decide)) (by rfl) T.d_legs_of.mg T.d_legs_of.fn.kp T.d_legs_of.bi (fun σ => L2N.passAt (W := fun cls d _ H => E cls d H) (L2N.takes_of rfl rfl rfl rfl) σ) (pa_cons (pv 1) pa_nil)) (pv 0) (nomark _))))))))
theorem ok_plan_of (T : Txt K mg C) : FnOk P w K mg base (L2N.CX P w) 7 T.d_plan_of.f T.d_plan_of.fd [("legs" : Str)] (sp_plan_of K C) := by
  have G_are_plan_legs := ok_are_plan_legs (P := P) (w := w) (mg := mg) (base := base) T
  have G_check := ok_check (P := P) (w := w) (mg := mg) (base := base) T
  refine okN T.d_plan_of.fn sc_plan_of (fun vs H Q E h => ?_) (fun cdv A outer s H vs Q E hr h => ⟨rd_plan_of K C E, ?_, pure_plan_of vs H Q E h⟩)
  · first
    | (obtain ⟨_, rfl, _⟩ := h; rfl)
    | (obtain ⟨_, _, rfl, _⟩ := h; rfl)
    | (obtain ⟨_, _, _, rfl, _⟩ := h; rfl)
    | (obtain ⟨_, _, _, _, rfl, _⟩ := h; rfl)
    | (obtain ⟨_, _, _, _, _, rfl, _⟩ := h; rfl)
    | (obtain ⟨_, _, _, _, _, _, rfl, _⟩ := h; rfl)
    | (obtain ⟨_, _, _, _, _, _, _, rfl, _⟩ := h; rfl)
  · unfold rd_plan_of
    exact (pss_cons (ps_expr (pe_callS G_check (hr.mono (by decide)) (by rfl) T.d_check.mg T.d_check.fn.kp T.d_check.bi (fun σ => L2N.passAt (W := fun cls d _ H => E cls d H) (L2N.takes_of rfl rfl rfl rfl) σ) (pa_cons (pe_callS G_are_plan_legs (hr.mono (by decide)) (by rfl) T.d_are_plan_legs.mg T.d_are_plan_legs.fn.kp T.d_are_plan_legs.bi (fun σ => L2N.passAt (W := fun cls d _ H => E cls d H) (L2N.takes_of rfl rfl rfl rfl) σ) (pa_cons (pv 0) pa_nil)) (pa_cons pe_str pa_nil)))) (pss_one (ps_ret (pe_callTy c_tuple (by rfl) T.b_tuple (by decide +kernel) (pa_cons (pe_lc (own := [(("leg" : Str), 1)]) (g := (gName 1)) rfl sc_plan_of.nd (pi_list (pv 0)) (blkOk_by (own := [(("leg" : Str), 1)]) (N := sN_plan_of) (sc := defScope s_plan_of) (by decide +kernel)) (fun _ _ _ _ _ => (pg_name (i := 1) sc_plan_of.nd rfl (by first | exact .inl rfl | exact .inr rfl))) (fun _ _ _ _ _ => pts_nil) (fun _ _ _ _ _ => (pe_ix ix_F (pv 1) pe_int (fun _ _ => rfl)))) pa_nil)))))
theorem ok_l_mixed (T : Txt K mg C) : FnOk P w K mg base CX0 2 T.d_l_mixed.f T.d_l_mixed.fd [("cell" : Str), ("k" : Str)] (sp_l_mixed K C) := by
  refine T.d_l_mixed.fn.ok sc_l_mixed (fun vs H Q E h => ?_) (fun cdv A outer s H vs Q E hr h => ⟨rd_l_mixed K C E, ?_, pure_l_mixed vs H Q E h⟩)
  · first
    | (obtain ⟨_, rfl, _⟩ := h; rfl)
    | (obtain ⟨_, _, rfl, _⟩ := h; rfl)
    | (obtain ⟨_, _, _, rfl, _⟩ := h; rfl)
    | (obtain ⟨_, _, _, _, rfl, _⟩ := h; rfl)
    | (obtain ⟨_, _, _, _, _, rfl, _⟩ := h; rfl)
    | (obtain ⟨_, _, _, _, _, _, rfl, _⟩ := h; rfl)
    | (obtain ⟨_, _, _, _, _, _, _, rfl, _⟩ := h; rfl)
  · unfold rd_l_mixed
    exact (pss_cons (ps_set (i := 2) sc_l_mixed.nd rfl (Or.inl rfl) (pe_op op_modF (pe_callTy c_int (by rfl) T.b_int (by decide +kernel) (pa_cons (pe_op op_addF (pe_op op_addF (pe_op op_mulF (pe_callTy c_int (by rfl) T.b_int (by decide +kernel) (pa_cons (pv 0) pa_nil)) pe_int) (pe_op op_mulF (pv 1) pe_int)) pe_int) pa_nil)) pe_int)) (pss_cons (ps_set (i := 3) sc_l_mixed.nd rfl (Or.inl rfl) (pe_op op_modF (pe_callTy c_int (by rfl) T.b_int (by decide +kernel) (pa_cons (pe_op op_addF (pe_op op_addF (pe_op op_mulF (pv 2) (pv 2)) (pe_op op_mulF (pv 1) pe_int)) pe_int) pa_nil)) pe_int)) (pss_one (ps_ret (pe_op op_modF (pe_callTy c_int (by rfl) T.b_int (by decide +kernel) (pa_cons (pe_op op_addF (pe_op op_mulF (pv 3) (pv 3)) (pv 2)) pa_nil)) pe_int)))))
theorem ok_l_store (T : Txt K mg C) : FnOk P w K mg base CX0 3 T.d_l_store.f T.d_l_store.fd [("script" : Str)] (sp_l_store K C) := by
  have G_l_mixed := ok_l_mixed (P := P) (w := w) (mg := mg) (base := base) T
  refine T.d_l_store.fn.ok sc_l_store (fun vs H Q E h => ?_) (fun cdv A outer s H vs Q E hr h => ⟨rd_l_store K C E, ?_, pure_l_store vs H Q E h⟩)
  · first
    | (obtain ⟨_, rfl, _⟩ := h; rfl)
    | (obtain ⟨_, _, rfl, _⟩ := h; rfl)
    | (obtain ⟨_, _, _, rfl, _⟩ := h; rfl)
    | (obtain ⟨_, _, _, _, rfl, _⟩ := h; rfl)
    | (obtain ⟨_, _, _, _, _, rfl, _⟩ := h; rfl)
    | (obtain ⟨_, _, _, _, _, _, rfl, _⟩ := h; rfl)
    | (obtain ⟨_, _, _, _, _, _, _, rfl, _⟩ := h; rfl)
  · unfold rd_l_store
    exact (pss_cons (ps_setLc (i := 2) (own := [(("cell" : Str), 1)]) (g := (gName 1)) rfl sc_l_store.nd rfl rfl (sw_true rfl rfl rfl (by decide +kernel)) (pi_list (pv 0)) (blkOk_by (own := [(("cell" : Str), 1)]) (N := sN_l_store) (sc := defScope s_l_store) (by decide +kernel)) (fun _ _ _ _ _ => (pg_name (i := 1) sc_l_store.nd rfl (by first | exact .inl rfl | exact .inr rfl))) (fun _ _ _ _ _ => pts_nil) (fun _ _ _ _ _ => (pe_callTy c_int (by rfl) T.b_int (by decide +kernel) (pa_cons (pv 1) pa_nil)))) (pss_cons (ps_set (i := 3) sc_l_store.nd rfl (Or.inl rfl) pe_int) (pss_cons (ps_for PassesOwn.never rfl (pi_list (pv 2)) (pg_name (i := 1) sc_l_store.nd rfl (by first | exact .inl rfl | exact .inr rfl)) (pss_one (ps_set (i := 3) sc_l_store.nd rfl (Or.inl rfl) (pe_callS G_l_mixed (hr.mono (by decide)) (by rfl) T.d_l_mixed.mg T.d_l_mixed.fn.kp T.d_l_mixed.bi pass0S (pa_cons (pe_op op_addF (pe_callTy c_int (by rfl) T.b_int (by decide +kernel) (pa_cons (pv 1) pa_nil)) (pv 3)) (pa_cons (pe_callB c_len (by rfl) T.b_len (by decide +kernel) (pa_cons (pv 2) pa_nil)) pa_nil)))))) (pss_one (ps_ret (pe_lst (pa_cons (pv 2) (pa_cons pe_int (pa_cons pe_int (pa_cons pe_int (pa_cons (pv 3) pa_nil)))))))))))
theorem ok_l_take (T : Txt K mg C) : FnOk P w K mg base CX0 3 T.d_l_take.f T.d_l_take.fd [("store" : Str), ("many" : Str)] (sp_l_take K C) := by
  have G_l_mixed := ok_l_mixed (P := P) (w := w) (mg := mg) (base := base) T
  refine T.d_l_take.fn.ok sc_l_take (fun vs H Q E h => ?_) (fun cdv A outer s H vs Q E hr h => ⟨rd_l_take K C E, ?_, pure_l_take vs H Q E h⟩)
  · first
    | (obtain ⟨_, rfl, _⟩ := h; rfl)
    | (obtain ⟨_, _, rfl, _⟩ := h; rfl)
    | (obtain ⟨_, _, _, rfl, _⟩ := h; rfl)
    | (obtain ⟨_, _, _, _, rfl, _⟩ := h; rfl)
    | (obtain ⟨_, _, _, _, _, rfl, _⟩ := h; rfl)
    | (obtain ⟨_, _, _, _, _, _, rfl, _⟩ := h; rfl)
    | (obtain ⟨_, _, _, _, _, _, _, rfl, _⟩ := h; rfl)
  · unfold rd_l_take
    exact (pss_cons (ps_set (i := 2) sc_l_take.nd rfl (Or.inl rfl) (pe_callB (c_max rfl) (by rfl) T.b_max (by decide +kernel) (pa_cons pe_int (pa_cons (pv 1) pa_nil)))) (pss_cons (ps_asg (pe_op op_addF (pe_ix ix_F (pv 0) pe_int (fun _ _ => rfl)) pe_int) (pg_sub (pv 0) pe_int set_F)) (Evl.pss_cut (ps_if (PW.pt (pw_and (pt_cmpR (op_eqF hr.units) (pe_ix ix_F (pv 0) pe_int (fun _ _ => rfl)) pe_int (nomark _)) (pw_and1 (pt_cmpR op_ltF (pe_ix ix_F (pv 0) pe_int (fun _ _ => rfl)) (pe_callB c_len (by rfl) T.b_len (by decide +kernel) (pa_cons (pe_ix ix_F (pv 0) pe_int (fun _ _ => rfl)) pa_nil)) (nomark _))))) (pss_cons (ps_set (i := 3) sc_l_take.nd rfl (Or.inl rfl) (pe_callTy c_int (by rfl) T.b_int (by decide +kernel) (pa_cons (pe_ix ix_F (pe_ix ix_F (pv 0) pe_int (fun _ _ => rfl)) (pe_ix ix_F (pv 0) pe_int (fun _ _ => rfl)) (fun _ _ => rfl)) pa_nil))) (pss_cons (ps_asg (pe_op op_addF (pe_ix ix_F (pv 0) pe_int (fun _ _ => rfl)) pe_int) (pg_sub (pv 0) pe_int set_F)) (pss_cons (ps_if (pt_cmpR op_ltF (pv 3) (pe_op op_powF pe_int pe_int) (nomark _)) (pss_one (ps_ret (pe_op op_modF (pe_callTy c_int (by rfl) T.b_int (by decide +kernel) (pa_cons (pe_callS G_l_mixed (hr.mono (by decide)) (by rfl) T.d_l_mixed.mg T.d_l_mixed.fn.kp T.d_l_mixed.bi pass0S (pa_cons (pv 3) (pa_cons (pe_ix ix_F (pv 0) pe_int (fun _ _ => rfl)) pa_nil))) pa_nil)) (pv 2)))) pss_nil) (pss_one (ps_asg (pv 3) (pg_sub (pv 0) pe_int set_F)))))) pss_nil) (pss_cons (ps_if (pt_cmpR (op_eqF hr.units) (pe_ix ix_F (pv 0) pe_int (fun _ _ => rfl)) pe_int (nomark _)) (pss_one (ps_ret (pe_op op_modF (pe_callTy c_int (by rfl) T.b_int (by decide +kernel) (pa_cons (pe_callS G_l_mixed (hr.mono (by decide)) (by rfl) T.d_l_mixed.mg T.d_l_mixed.fn.kp T.d_l_mixed.bi pass0S (pa_cons (pe_ix ix_F (pv 0) pe_int (fun _ _ => rfl)) (pa_cons (pe_ix ix_F (pv 0) pe_int (fun _ _ => rfl)) pa_nil))) pa_nil)) (pv 2)))) pss_nil) (pss_cons (ps_set (i := 4) sc_l_take.nd rfl (Or.inl rfl) (pe_op op_modF (pe_callTy c_int (by rfl) T.b_int (by decide +kernel) (pa_cons (pe_ix ix_F (pv 0) pe_int (fun _ _ => rfl)) pa_nil)) (pv 2))) (pss_cons (ps_asg (pe_op op_divF (pe_callTy c_int (by rfl) T.b_int (by decide +kernel) (pa_cons (pe_ix ix_F (pv 0) pe_int (fun _ _ => rfl)) pa_nil)) (pv 2)) (pg_sub (pv 0) pe_int set_F)) (pss_one (ps_ret (pv 4)))))))))
theorem ok_l_great (T : Txt K mg C) : FnOk P w K mg base CX0 4 T.d_l_great.f T.d_l_great.fd [("store" : Str), ("many" : Str)] (sp_l_great K C) := by
  have G_l_take := ok_l_take (P := P) (w := w) (mg := mg) (base := base) T
  refine T.d_l_great.fn.ok sc_l_great (fun vs H Q E h => ?_) (fun cdv A outer s H vs Q E hr h => ⟨rd_l_great K C E, ?_, pure_l_great vs H Q E h⟩)
  · first
    | (obtain ⟨_, rfl, _⟩ := h; rfl)
    | (obtain ⟨_, _, rfl, _⟩ := h; rfl)
    | (obtain ⟨_, _, _, rfl, _⟩ := h; rfl)
    | (obtain ⟨_, _, _, _, rfl, _⟩ := h; rfl)
    | (obtain ⟨_, _, _, _, _, rfl, _⟩ := h; rfl)
    | (obtain ⟨_, _, _, _, _, _, rfl, _⟩ := h; rfl)
    | (obtain ⟨_, _, _, _, _, _, _, rfl, _⟩ := h; rfl)
  · unfold rd_l_great
    exact (pss_cons (ps_set (i := 2) sc_l_great.nd rfl (Or.inl rfl) pe_int) (pss_cons (ps_for PassesOwn.never rfl (pi_range1 (by rfl) T.b_range (pa_cons pe_int pa_nil)) (pg_name (i := 3) sc_l_great.nd rfl (by first | exact .inl rfl | exact .inr rfl)) (pss_one (ps_set (i := 2) sc_l_great.nd rfl (Or.inl rfl) (pe_op op_addF (pe_op op_mulF (pv 2) pe_int) (pe_callS G_l_take (hr.mono (by decide)) (by rfl) T.d_l_take.mg T.d_l_take.fn.kp T.d_l_take.bi pass0S (pa_cons (pv 0) (pa_cons pe_int pa_nil))))))) (pss_one (ps_ret (pe_op op_modF (pe_callTy c_int (by rfl) T.b_int (by decide +kernel) (pa_cons (pv 2) pa_nil)) (pe_callB (c_max rfl) (by rfl) T.b_max (by decide +kernel) (pa_cons pe_int (pa_cons (pv 1) pa_nil))))))))
theorem ok_l_edge (T : Txt K mg C) : FnOk P w K mg base CX0 5 T.d_l_edge.f T.d_l_edge.fd [("store" : Str), ("low" : Str), ("high" : Str)] (sp_l_edge K C) := by
  have G_l_great := ok_l_great (P := P) (w := w) (mg := mg) (base := base) T
  have G_l_take := ok_l_take (P := P) (w := w) (mg := mg) (base := base) T
  refine T.d_l_edge.fn.ok sc_l_edge (fun vs H Q E h => ?_) (fun cdv A outer s H vs Q E hr h => ⟨rd_l_edge K C E, ?_, pure_l_edge vs H Q E h⟩)
  · first
    | (obtain ⟨_, rfl, _⟩ := h; rfl)
    | (obtain ⟨_, _, rfl, _⟩ := h; rfl)
    | (obtain ⟨_, _, _, rfl, _⟩ := h; rfl)
    | (obtain ⟨_, _, _, _, rfl, _⟩ := h; rfl)
    | (obtain ⟨_, _, _, _, _, rfl, _⟩ := h; rfl)
    | (obtain ⟨_, _, _, _, _, _, rfl, _⟩ := h; rfl)
    | (obtain ⟨_, _, _, _, _, _, _, rfl, _⟩ := h; rfl)
  · unfold rd_l_edge
    exact (pss_cons (ps_if (pt_cmpR op_leF (pv 2) (pv 1) (nomark _)) (pss_one (ps_ret (pv 1))) pss_nil) (pss_cons (ps_set (i := 3) sc_l_edge.nd rfl (Or.inl rfl) (pe_callS G_l_take (hr.mono (by decide)) (by rfl) T.d_l_take.mg T.d_l_take.fn.kp T.d_l_take.bi pass0S (pa_cons (pv 0) (pa_cons pe_int pa_nil)))) (pss_cons (ps_if (pt_cmpR (op_eqF hr.units) (pv 3) pe_int (nomark _)) (pss_one (ps_ret (pv 1))) pss_nil) (pss_cons (ps_if (pt_cmpR (op_eqF hr.units) (pv 3) pe_int (nomark _)) (pss_one (ps_ret (pv 2))) pss_nil) (pss_cons (ps_if (pt_cmpR op_ltF (pe_op op_subF (pv 2) (pv 1)) pe_int (nomark _)) (pss_one (ps_ret (pe_op op_addF (pv 1) (pe_callS G_l_take (hr.mono (by decide)) (by rfl) T.d_l_take.mg T.d_l_take.fn.kp T.d_l_take.bi pass0S (pa_cons (pv 0) (pa_cons (pe_op op_addF (pe_op op_subF (pv 2) (pv 1)) pe_int) pa_nil)))))) pss_nil) (pss_one (ps_ret (pe_op op_addF (pv 1) (pe_callS G_l_great (hr.mono (by decide)) (by rfl) T.d_l_great.mg T.d_l_great.fn.kp T.d_l_great.bi pass0S (pa_cons (pv 0) (pa_cons (pe_op op_addF (pe_op op_subF (pv 2) (pv 1)) pe_int) pa_nil)))))))))))
theorem ok_l_pick (T : Txt K mg C) : FnOk P w K mg base CX0 4 T.d_l_pick.f T.d_l_pick.fd [("store" : Str), ("row" : Str)] (sp_l_pick K C) := by
  have G_l_take := ok_l_take (P := P) (w := w) (mg := mg) (base := base) T
  refine T.d_l_pick.fn.ok sc_l_pick (fun vs H Q E h => ?_) (fun cdv A outer s H vs Q E hr h => ⟨rd_l_pick K C E, ?_, pure_l_pick vs H Q E h⟩)
  · first
    | (obtain ⟨_, rfl, _⟩ := h; rfl)
    | (obtain ⟨_, _, rfl, _⟩ := h; rfl)
    | (obtain ⟨_, _, _, rfl, _⟩ := h; rfl)
    | (obtain ⟨_, _, _, _, rfl, _⟩ := h; rfl)
    | (obtain ⟨_, _, _, _, _, rfl, _⟩ := h; rfl)
    | (obtain ⟨_, _, _, _, _, _, rfl, _⟩ := h; rfl)
    | (obtain ⟨_, _, _, _, _, _, _, rfl, _⟩ := h; rfl)
  · unfold rd_l_pick
    exact (pss_cons (ps_if (pt_cmpR (op_eqF hr.units) (pe_callB c_len (by rfl) T.b_len (by decide +kernel) (pa_cons (pv 1) pa_nil)) pe_int (nomark _)) (pss_one (ps_ret pe_non)) pss_nil) (pss_one (ps_ret (pe_ix ix_F (pv 1) (pe_callS G_l_take (hr.mono (by decide)) (by rfl) T.d_l_take.mg T.d_l_take.fn.kp T.d_l_take.bi pass0S (pa_cons (pv 0) (pa_cons (pe_callB c_len (by rfl) T.b_len (by decide +kernel) (pa_cons (pv 1) pa_nil)) pa_nil))) (fun _ _ => rfl)))))
theorem ok_l_some (T : Txt K mg C) : FnOk P w K mg base CX0 4 T.d_l_some.f T.d_l_some.fd [("store" : Str), ("row" : Str), ("many" : Str)] (sp_l_some K C) := by
  have G_l_take := ok_l_take (P := P) (w := w) (mg := mg) (base := base) T
  refine T.d_l_some.fn.ok sc_l_some (fun vs H Q E h => ?_) (fun cdv A outer s H vs Q E hr h => ⟨rd_l_some K C E, ?_, pure_l_some vs H Q E h⟩)
  · first
    | (obtain ⟨_, rfl, _⟩ := h; rfl)
    | (obtain ⟨_, _, rfl, _⟩ := h; rfl)
    | (obtain ⟨_, _, _, rfl, _⟩ := h; rfl)
    | (obtain ⟨_, _, _, _, rfl, _⟩ := h; rfl)
    | (obtain ⟨_, _, _, _, _, rfl, _⟩ := h; rfl)
    | (obtain ⟨_, _, _, _, _, _, rfl, _⟩ := h; rfl)
    | (obtain ⟨_, _, _, _, _, _, _, rfl, _⟩ := h; rfl)
  · unfold rd_l_some
    exact (pss_cons (ps_set (i := 3) sc_l_some.nd rfl (Or.inl rfl) (pe_callTy c_list (by rfl) T.b_list (by decide +kernel) (pa_cons (pv 1) pa_nil))) (pss_cons (ps_set (i := 4) sc_l_some.nd rfl (Or.inl rfl) (pe_lst pa_nil)) (pss_cons (ps_for PassesOwn.never rfl (pi_range1 (by rfl) T.b_range (pa_cons (pe_callB (c_min rfl) (by rfl) T.b_min (by decide +kernel) (pa_cons (pv 2) (pa_cons (pe_callB c_len (by rfl) T.b_len (by decide +kernel) (pa_cons (pv 1) pa_nil)) pa_nil))) pa_nil)) (pg_name (i := 5) sc_l_some.nd rfl (by first | exact .inl rfl | exact .inr rfl)) (pss_cons (ps_set (i := 6) sc_l_some.nd rfl (Or.inl rfl) (pe_callS G_l_take (hr.mono (by decide)) (by rfl) T.d_l_take.mg T.d_l_take.fn.kp T.d_l_take.bi pass0S (pa_cons (pv 0) (pa_cons (pe_callB c_len (by rfl) T.b_len (by decide +kernel) (pa_cons (pv 3) pa_nil)) pa_nil)))) (pss_cons (ps_expr (pe_imp (pe_bm PySem.F.plainAttrs_list PySem.F.slot_list_append PySem.F.type_list_append m_append (pv 4) (pa_cons (pe_ix ix_F (pv 3) (pv 6) (fun _ _ => rfl)) pa_nil)) bm_var)) (pss_one (ps_set (i := 3) sc_l_some.nd rfl (Or.inl rfl) (pe_op op_addF (pe_slice sl_F2 (pv 3) po_none (po_some (pv 6))) (pe_slice sl_F2 (pv 3) (po_some (pe_op op_addF (pv 6) pe_int)) po_none))))))) (pss_one (ps_ret (pv 4))))))
theorem ok_l_turned (T : Txt K mg C) : FnOk P w K mg base CX0 5 T.d_l_turned.f T.d_l_turned.fd [("store" : Str), ("row" : Str)] (sp_l_turned K C) := by
  have G_l_some := ok_l_some (P := P) (w := w) (mg := mg) (base := base) T
  refine T.d_l_turned.fn.ok sc_l_turned (fun vs H Q E h => ?_) (fun cdv A outer s H vs Q E hr h => ⟨rd_l_turned K C E, ?_, pure_l_turned vs H Q E h⟩)
  · first
    | (obtain ⟨_, rfl, _⟩ := h; rfl)
    | (obtain ⟨_, _, rfl, _⟩ := h; rfl)
    | (obtain ⟨_, _, _, rfl, _⟩ := h; rfl)
    | (obtain ⟨_, _, _, _, rfl, _⟩ := h; rfl)
    | (obtain ⟨_, _, _, _, _, rfl, _⟩ := h; rfl)
    | (obtain ⟨_, _, _, _, _, _, rfl, _⟩ := h; rfl)
    | (obtain ⟨_, _, _, _, _, _, _, rfl, _⟩ := h; rfl)
  · unfold rd_l_turned
    exact (pss_one (ps_ret (pe_callS G_l_some (hr.mono (by decide)) (by rfl) T.d_l_some.mg T.d_l_some.fn.kp T.d_l_some.bi pass0S (pa_cons (pv 0) (pa_cons (pv 1) (pa_cons (pe_callB c_len (by rfl) T.b_len (by decide +kernel) (pa_cons (pv 1) pa_nil)) pa_nil))))))
theorem ok_l_word (T : Txt K mg C) : FnOk P w K mg base CX0 4 T.d_l_word.f T.d_l_word.fd [("store" : Str), ("size" : Str)] (sp_l_word K C) := by
  have G_l_take := ok_l_take (P := P) (w := w) (mg := mg) (base := base) T
  refine T.d_l_word.fn.ok sc_l_word (fun vs H Q E h => ?_) (fun cdv A outer s H vs Q E hr h => ⟨rd_l_word K C E, ?_, pure_l_word vs H Q E h⟩)
  · first
    | (obtain ⟨_, rfl, _⟩ := h; rfl)
    | (obtain ⟨_, _, rfl, _⟩ := h; rfl)
    | (obtain ⟨_, _, _, rfl, _⟩ := h; rfl)
    | (obtain ⟨_, _, _, _, rfl, _⟩ := h; rfl)
    | (obtain ⟨_, _, _, _, _, rfl, _⟩ := h; rfl)
    | (obtain ⟨_, _, _, _, _, _, rfl, _⟩ := h; rfl)
    | (obtain ⟨_, _, _, _, _, _, _, rfl, _⟩ := h; rfl)
  · unfold rd_l_word
    exact (pss_cons (ps_set (i := 2) sc_l_word.nd rfl (Or.inl rfl) pe_str) (pss_cons (ps_set (i := 3) sc_l_word.nd rfl (Or.inl rfl) (pe_op op_addF (pv 2) pe_str)) (pss_cons (ps_set (i := 4) sc_l_word.nd rfl (Or.inl rfl) (pe_ix ix_F (pv 2) (pe_callS G_l_take (hr.mono (by decide)) (by rfl) T.d_l_take.mg T.d_l_take.fn.kp T.d_l_take.bi pass0S (pa_cons (pv 0) (pa_cons pe_int pa_nil))) (fun _ _ => rfl))) (pss_cons (ps_for PassesOwn.never rfl (pi_range1 (by rfl) T.b_range (pa_cons (pe_callB (c_min rfl) (by rfl) T.b_min (by decide +kernel) (pa_cons pe_int (pa_cons (pe_op op_subF (pv 1) pe_int) pa_nil))) pa_nil)) (pg_name (i := 5) sc_l_word.nd rfl (by first | exact .inl rfl | exact .inr rfl)) (pss_one (ps_set (i := 4) sc_l_word.nd rfl (Or.inl rfl) (pe_op op_addF (pv 4) (pe_ix ix_F (pv 3) (pe_callS G_l_take (hr.mono (by decide)) (by rfl) T.d_l_take.mg T.d_l_take.fn.kp T.d_l_take.bi pass0S (pa_cons (pv 0) (pa_cons pe_int pa_nil))) (fun _ _ => rfl)))))) (pss_one (ps_ret (pv 4)))))))
theorem ok_l_names (T : Txt K mg C) : FnOk P w K mg base CX0 6 T.d_l_names.f T.d_l_names.fd [("store" : Str), ("many" : Str)] (sp_l_names K C) := by
  have G_l_some := ok_l_some (P := P) (w := w) (mg := mg) (base := base) T
  have G_l_take := ok_l_take (P := P) (w := w) (mg := mg) (base := base) T
  have G_l_turned := ok_l_turned (P := P) (w := w) (mg := mg) (base := base) T
  have G_l_word := ok_l_word (P := P) (w := w) (mg := mg) (base := base) T
  refine T.d_l_names.fn.ok sc_l_names (fun vs H Q E h => ?_) (fun cdv A outer s H vs Q E hr h => ⟨rd_l_names K C E, ?_, pure_l_names vs H Q E h⟩)
  · first
    | (obtain ⟨_, rfl, _⟩ := h; rfl)
    | (obtain ⟨_, _, rfl, _⟩ := h; rfl)
    | (obtain ⟨_, _, _, rfl, _⟩ := h; rfl)
    | (obtain ⟨_, _, _, _, rfl, _⟩ := h; rfl)
    | (obtain ⟨_, _, _, _, _, rfl, _⟩ := h; rfl)
    | (obtain ⟨_, _, _, _, _, _, rfl, _⟩ := h; rfl)
    | (obtain ⟨_, _, _, _, _, _, _, rfl, _⟩ := h; rfl)
  · unfold rd_l_names
    exact (pss_cons (ps_set (i := 2) sc_l_names.nd rfl (Or.inl rfl) pe_str) (pss_cons (ps_set (i := 3) sc_l_names.nd rfl (Or.inl rfl) (pe_callS G_l_take (hr.mono (by decide)) (by rfl) T.d_l_take.mg T.d_l_take.fn.kp T.d_l_take.bi pass0S (pa_cons (pv 0) (pa_cons pe_int pa_nil)))) (pss_cons (ps_if (PW.pt (pw_and (pt_cmpR (op_eqF hr.units) (pv 3) pe_int (nomark _)) (pw_and1 (pt_cmpR op_leF (pv 1) pe_int (nomark _))))) (pss_cons (ps_set (i := 4) sc_l_names.nd rfl (Or.inr rfl) (pe_callS G_l_word (hr.mono (by decide)) (by rfl) T.d_l_word.mg T.d_l_word.fn.kp T.d_l_word.bi pass0S (pa_cons (pv 0) (pa_cons pe_int pa_nil)))) (pss_one (ps_ret (pe_callS G_l_turned (hr.mono (by decide)) (by rfl) T.d_l_turned.mg T.d_l_turned.fn.kp T.d_l_turned.bi pass0S (pa_cons (pv 0) (pa_cons (pe_lc (own := [(("k" : Str), 5)]) (g := (gName 5)) rfl sc_l_names.nd (pi_range1 (by rfl) T.b_range (pa_cons (pv 1) pa_nil)) (blkOk_by (own := [(("k" : Str), 5)]) (N := sN_l_names) (sc := defScope s_l_names) (by decide +kernel)) (fun _ _ _ _ _ => (pg_name (i := 5) sc_l_names.nd rfl (by first | exact .inl rfl | exact .inr rfl))) (fun _ _ _ _ _ => pts_nil) (fun _ _ _ _ _ => (pe_slice sl_F2 (pv 4) po_none (po_some (pe_op op_addF (pv 5) pe_int))))) pa_nil)))))) pss_nil) (pss_cons (ps_if (pt_cmpR (op_eqF hr.units) (pv 3) pe_int (nomark _)) (pss_cons (ps_set (i := 6) sc_l_names.nd rfl (Or.inl rfl) (pe_lst (pa_cons pe_str (pa_cons pe_str (pa_cons pe_str (pa_cons pe_str (pa_cons pe_str (pa_cons pe_str (pa_cons pe_str (pa_cons pe_str (pa_cons pe_str (pa_cons pe_str (pa_cons pe_str (pa_cons pe_str pa_nil)))))))))))))) (pss_one (ps_ret (pe_callS G_l_some (hr.mono (by decide)) (by rfl) T.d_l_some.mg T.d_l_some.fn.kp T.d_l_some.bi pass0S (pa_cons (pv 0) (pa_cons (pe_op op_addF (pv 6) (pe_lst (pa_cons pe_str (pa_cons pe_str (pa_cons pe_str (pa_cons pe_str pa_nil)))))) (pa_cons (pv 1) pa_nil))))))) pss_nil) (pss_cons (ps_if (pt_cmpR (op_eqF hr.units) (pv 3) pe_int (nomark _)) (pss_cons (ps_set (i := 6) sc_l_names.nd rfl (Or.inl rfl) (pe_lst (pa_cons pe_str (pa_cons pe_str (pa_cons pe_str (pa_cons pe_str (pa_cons pe_str (pa_cons pe_str (pa_cons pe_str (pa_cons pe_str (pa_cons pe_str (pa_cons pe_str (pa_cons pe_str (pa_cons pe_str pa_nil)))))))))))))) (pss_cons (ps_set (i := 7) sc_l_names.nd rfl (Or.inr rfl) (pe_ix ix_F (pv 2) (pe_callS G_l_take (hr.mono (by decide)) (by rfl) T.d_l_take.mg T.d_l_take.fn.kp T.d_l_take.bi pass0S (pa_cons (pv 0) (pa_cons pe_int pa_nil))) (fun _ _ => rfl))) (pss_one (ps_ret (pe_lc (own := [(("word" : Str), 4)]) (g := (gName 4)) rfl sc_l_names.nd (pi_list (pe_callS G_l_some (hr.mono (by decide)) (by rfl) T.d_l_some.mg T.d_l_some.fn.kp T.d_l_some.bi pass0S (pa_cons (pv 0) (pa_cons (pv 6) (pa_cons (pv 1) pa_nil))))) (blkOk_by (own := [(("word" : Str), 4)]) (N := sN_l_names) (sc := defScope s_l_names) (by decide +kernel)) (fun _ _ _ _ _ => (pg_name (i := 4) sc_l_names.nd rfl (by first | exact .inl rfl | exact .inr rfl))) (fun _ _ _ _ _ => pts_nil) (fun _ _ _ _ _ => (pe_op op_addF (pv 7) (pv 4)))))))) pss_nil) (pss_cons (ps_set (i := 8) sc_l_names.nd rfl (Or.inl rfl) pe_str) (Evl.pss_cut (ps_if (pt_cmpR op_gtF (pv 3) pe_int (nomark _)) (pss_cons (ps_set (i := 8) sc_l_names.nd rfl (Or.inl rfl) (pe_callS G_l_word (hr.mono (by decide)) (by rfl) T.d_l_word.mg T.d_l_word.fn.kp T.d_l_word.bi pass0S (pa_cons (pv 0) (pa_cons (pe_op op_addF pe_int (pe_callS G_l_take (hr.mono (by decide)) (by rfl) T.d_l_take.mg T.d_l_take.fn.kp T.d_l_take.bi pass0S (pa_cons (pv 0) (pa_cons pe_int pa_nil)))) pa_nil)))) (pss_one (ps_set (i := 2) sc_l_names.nd rfl (Or.inl rfl) (pe_op op_addF (pv 2) pe_str)))) pss_nil) (pss_cons (ps_set (i := 9) sc_l_names.nd rfl (Or.inl rfl) (pe_lst pa_nil)) (pss_cons (ps_for PassesOwn.never rfl (pi_range1 (by rfl) T.b_range (pa_cons (pv 1) pa_nil)) (pg_name (i := 5) sc_l_names.nd rfl (by first | exact .inl rfl | exact .inr rfl)) (pss_cons (ps_set (i := 10) sc_l_names.nd rfl (Or.inl rfl) (pe_callS G_l_take (hr.mono (by decide)) (by rfl) T.d_l_take.mg T.d_l_take.fn.kp T.d_l_take.bi pass0S (pa_cons (pv 0) (pa_cons (pe_callB c_len (by rfl) T.b_len (by decide +kernel) (pa_cons (pv 2) pa_nil)) pa_nil)))) (pss_cons (ps_set (i := 11) sc_l_names.nd rfl (Or.inl rfl) pe_str) (Evl.pss_cut (ps_if (pt_cmpR op_gtF (pv 3) pe_int (nomark _)) (pss_one (ps_set (i := 11) sc_l_names.nd rfl (Or.inl rfl) (pe_slice sl_F2 (pe_callS G_l_word (hr.mono (by decide)) (by rfl) T.d_l_word.mg T.d_l_word.fn.kp T.d_l_word.bi pass0S (pa_cons (pv 0) (pa_cons pe_int pa_nil))) po_none (po_some (pe_callS G_l_take (hr.mono (by decide)) (by rfl) T.d_l_take.mg T.d_l_take.fn.kp T.d_l_take.bi pass0S (pa_cons (pv 0) (pa_cons (pe_op op_subF pe_int (pe_callB c_len (by rfl) T.b_len (by decide +kernel) (pa_cons (pv 8) pa_nil))) pa_nil))))))) pss_nil) (pss_cons (ps_expr (pe_imp (pe_bm PySem.F.plainAttrs_list PySem.F.slot_list_append PySem.F.type_list_append m_append (pv 9) (pa_cons (pe_op op_addF (pe_op op_addF (pv 8) (pe_ix ix_F (pv 2) (pv 10) (fun _ _ => rfl))) (pv 11)) pa_nil)) bm_var)) (pss_one (ps_set (i := 2) sc_l_names.nd rfl (Or.inl rfl) (pe_op op_addF (pe_slice sl_F2 (pv 2) po_none (po_some (pv 10))) (pe_slice sl_F2 (pv 2) (po_some (pe_op op_addF (pv 10) pe_int)) po_none))))))))) (pss_one (ps_ret (pv 9))))))))))))
theorem ok_l_fresh (T : Txt K mg C) : FnOk P w K mg base CX0 5 T.d_l_fresh.f T.d_l_fresh.fd [("store" : Str), ("row" : Str)] (sp_l_fresh K C) := by
  have G_l_pick := ok_l_pick (P := P) (w := w) (mg := mg) (base := base) T
  have G_l_take := ok_l_take (P := P) (w := w) (mg := mg) (base := base) T
  have G_l_word := ok_l_word (P := P) (w := w) (mg := mg) (base := base) T
  refine T.d_l_fresh.fn.ok sc_l_fresh (fun vs H Q E h => ?_) (fun cdv A outer s H vs Q E hr h => ⟨rd_l_fresh K C E, ?_, pure_l_fresh vs H Q E h⟩)
  · first
    | (obtain ⟨_, rfl, _⟩ := h; rfl)
    | (obtain ⟨_, _, rfl, _⟩ := h; rfl)
    | (obtain ⟨_, _, _, rfl, _⟩ := h; rfl)
    | (obtain ⟨_, _, _, _, rfl, _⟩ := h; rfl)
    | (obtain ⟨_, _, _, _, _, rfl, _⟩ := h; rfl)
    | (obtain ⟨_, _, _, _, _, _, rfl, _⟩ := h; rfl)
    | (obtain ⟨_, _, _, _, _, _, _, rfl, _⟩ := h; rfl)
  · unfold rd_l_fresh
    exact (pss_cons (ps_set (i := 2) sc_l_fresh.nd rfl (Or.inl rfl) (pe_callS G_l_word (hr.mono (by decide)) (by rfl) T.d_l_word.mg T.d_l_word.fn.kp T.d_l_word.bi pass0S (pa_cons (pv 0) (pa_cons (pe_op op_addF pe_int (pe_callS G_l_take (hr.mono (by decide)) (by rfl) T.d_l_take.mg T.d_l_take.fn.kp T.d_l_take.bi pass0S (pa_cons (pv 0) (pa_cons pe_int pa_nil)))) pa_nil)))) (Evl.pss_cut (ps_if (PW.pt (pw_and (pt_cmpR op_gtF (pe_callB c_len (by rfl) T.b_len (by decide +kernel) (pa_cons (pv 1) pa_nil)) pe_int (nomark _)) (pw_and1 (pt_cmpR (op_eqF hr.units) (pe_callS G_l_take (hr.mono (by decide)) (by rfl) T.d_l_take.mg T.d_l_take.fn.kp T.d_l_take.bi pass0S (pa_cons (pv 0) (pa_cons pe_int pa_nil))) pe_int (nomark _))))) (pss_one (ps_set (i := 2) sc_l_fresh.nd rfl (Or.inl rfl) (pe_op op_addF (pe_slice sl_F2 (pe_callS G_l_pick (hr.mono (by decide)) (by rfl) T.d_l_pick.mg T.d_l_pick.fn.kp T.d_l_pick.bi pass0S (pa_cons (pv 0) (pa_cons (pv 1) pa_nil))) po_none (po_some pe_int)) (pe_ix ix_F pe_str (pe_callS G_l_take (hr.mono (by decide)) (by rfl) T.d_l_take.mg T.d_l_take.fn.kp T.d_l_take.bi pass0S (pa_cons (pv 0) (pa_cons pe_int pa_nil))) (fun _ _ => rfl))))) pss_nil) (pss_cons (ps_if (pt_cmpR op_ninF (pv 2) (pv 1) (by rfl)) (pss_one (ps_ret (pv 2))) pss_nil) (pss_cons (ps_for PassesOwn.never rfl (pi_str pe_str) (pg_name (i := 3) sc_l_fresh.nd rfl (by first | exact .inl rfl | exact .inr rfl)) (pss_one (ps_if (pt_cmpR op_ninF (pe_op op_addF (pe_slice sl_F2 (pv 2) po_none (po_some pe_int)) (pv 3)) (pv 1) (by rfl)) (pss_one (ps_ret (pe_op op_addF (pe_slice sl_F2 (pv 2) po_none (po_some pe_int)) (pv 3)))) pss_nil))) (pss_one (ps_ret (pv 2)))))))
theorem step_same (T : Txt K mg C) (n : Nat) (G_l_same : FnOk P w K mg base CX0 (n + 1) T.d_l_same.f T.d_l_same.fd [("one" : Str), ("other" : Str)] (sp_same_in n)) : FnOk P w K mg base CX0 (n + 2) T.d_l_same.f T.d_l_same.fd [("one" : Str), ("other" : Str)] (sp_sameN n) := by
  refine T.d_l_same.fn.ok sc_l_same (fun vs H Q E h => ?_) (fun cdv A outer s H vs Q E hr h => ⟨rd_l_same K C (sp_same_in n) E, ?_, pure_l_sameN n vs H Q E h⟩)
  · obtain ⟨_, _, _, rfl, _⟩ := h
    rfl
  · unfold rd_l_same
    exact (pss_cons (ps_if (PW.pt (pw_or (pt_cmpR op_isNF (pv 0) pe_non (nomark _)) (pw_or1 (pt_cmpR op_isNF (pv 1) pe_non (nomark _))))) (pss_one (ps_ret (pe_and (pe_cmpR op_isNF (pv 0) pe_non (nomark _)) (pe_one (pe_cmpR op_isNF (pv 1) pe_non (nomark _)))))) pss_nil) (pss_cons (ps_if (PW.pt (pw_or (pt_val (pe_callB c_isi (by rfl) T.b_isinstance (by decide +kernel) (pa_cons (pv 0) (pa_cons (pe_bltn (v := .ty "bool") (by rfl) T.b_bool (by decide +kernel) rfl) pa_nil)))) (pw_or1 (pt_val (pe_callB c_isi (by rfl) T.b_isinstance (by decide +kernel) (pa_cons (pv 1) (pa_cons (pe_bltn (v := .ty "bool") (by rfl) T.b_bool (by decide +kernel) rfl) pa_nil))))))) (pss_one (ps_ret (pe_and (pe_callB c_isi (by rfl) T.b_isinstance (by decide +kernel) (pa_cons (pv 0) (pa_cons (pe_bltn (v := .ty "bool") (by rfl) T.b_bool (by decide +kernel) rfl) pa_nil))) (pe_and (pe_callB c_isi (by rfl) T.b_isinstance (by decide +kernel) (pa_cons (pv 1) (pa_cons (pe_bltn (v := .ty "bool") (by rfl) T.b_bool (by decide +kernel) rfl) pa_nil))) (pe_one (pe_cmpR (op_eqF hr.units) (pv 0) (pv 1) (nomark _))))))) pss_nil) (pss_cons (ps_if (PW.pt (pw_or (pt_val (pe_callB c_isi (by rfl) T.b_isinstance (by decide +kernel) (pa_cons (pv 0) (pa_cons (pe_bltn (v := .ty "int") (by rfl) T.b_int (by decide +kernel) rfl) pa_nil)))) (pw_or1 (pt_val (pe_callB c_isi (by rfl) T.b_isinstance (by decide +kernel) (pa_cons (pv 1) (pa_cons (pe_bltn (v := .ty "int") (by rfl) T.b_int (by decide +kernel) rfl) pa_nil))))))) (pss_one (ps_ret (pe_and (pe_callB c_isi (by rfl) T.b_isinstance (by decide +kernel) (pa_cons (pv 0) (pa_cons (pe_bltn (v := .ty "int") (by rfl) T.b_int (by decide +kernel) rfl) pa_nil))) (pe_and (pe_callB c_isi (by rfl) T.b_isinstance (by decide +kernel) (pa_cons (pv 1) (pa_cons (pe_bltn (v := .ty "int") (by rfl) T.b_int (by decide +kernel) rfl) pa_nil))) (pe_one (pe_cmpR (op_eqF hr.units) (pv 0) (pv 1) (nomark _))))))) pss_nil) (pss_cons (ps_if (PW.pt (pw_or (pt_val (pe_callB c_isi (by rfl) T.b_isinstance (by decide +kernel) (pa_cons (pv 0) (pa_cons (pe_bltn (v := .ty "str") (by rfl) T.b_str (by decide +kernel) rfl) pa_nil)))) (pw_or1 (pt_val (pe_callB c_isi (by rfl) T.b_isinstance (by decide +kernel) (pa_cons (pv 1) (pa_cons (pe_bltn (v := .ty "str") (by rfl) T.b_str (by decide +kernel) rfl) pa_nil))))))) (pss_one (ps_ret (pe_and (pe_callB c_isi (by rfl) T.b_isinstance (by decide +kernel) (pa_cons (pv 0) (pa_cons (pe_bltn (v := .ty "str") (by rfl) T.b_str (by decide +kernel) rfl) pa_nil))) (pe_and (pe_callB c_isi (by rfl) T.b_isinstance (by decide +kernel) (pa_cons (pv 1) (pa_cons (pe_bltn (v := .ty "str") (by rfl) T.b_str (by decide +kernel) rfl) pa_nil))) (pe_one (pe_cmpR (op_eqF hr.units) (pv 0) (pv 1) (nomark _))))))) pss_nil) (pss_cons (ps_if (PW.pt (pw_or (pt_val (pe_callB c_isi (by rfl) T.b_isinstance (by decide +kernel) (pa_cons (pv 0) (pa_cons (pe_bltn (v := .ty "dict") (by rfl) T.b_dict (by decide +kernel) rfl) pa_nil)))) (pw_or1 (pt_val (pe_callB c_isi (by rfl) T.b_isinstance (by decide +kernel) (pa_cons (pv 1) (pa_cons (pe_bltn (v := .ty "dict") (by rfl) T.b_dict (by decide +kernel) rfl) pa_nil))))))) (pss_cons (ps_if (PW.pt (pw_or (pt_not (pt_val (pe_callB c_isi (by rfl) T.b_isinstance (by decide +kernel) (pa_cons (pv 0) (pa_cons (pe_bltn (v := .ty "dict") (by rfl) T.b_dict (by decide +kernel) rfl) pa_nil))))) (pw_or (pt_not (pt_val (pe_callB c_isi (by rfl) T.b_isinstance (by decide +kernel) (pa_cons (pv 1) (pa_cons (pe_bltn (v := .ty "dict") (by rfl) T.b_dict (by decide +kernel) rfl) pa_nil))))) (pw_or1 (pt_cmpR (op_neF hr.units) (pe_callB c_len2 (by rfl) T.b_len (by decide +kernel) (pa_cons (pv 0) pa_nil)) (pe_callB c_len2 (by rfl) T.b_len (by decide +kernel) (pa_cons (pv 1) pa_nil)) (nomark _)))))) (pss_one (ps_ret pe_bl)) pss_nil) (pss_cons (ps_lock (ps_for PassesOwn.never rfl (pi_keys (pv 0)) (pg_name (i := 2) sc_l_same.nd rfl (by first | exact .inl rfl | exact .inr rfl)) pss_never)) (pss_one (ps_ret pe_bl)))) pss_nil) (pss_cons (ps_if (PW.pt (pw_or (pt_val (pe_callB c_isiT (by rfl) T.b_isinstance (by decide +kernel) (pa_cons (pv 0) (pa_cons (pe_tup (pa_cons (pe_bltn (v := .ty "list") (by rfl) T.b_list (by decide +kernel) rfl) (pa_cons (pe_bltn (v := .ty "tuple") (by rfl) T.b_tuple (by decide +kernel) rfl) pa_nil))) pa_nil)))) (pw_or1 (pt_val (pe_callB c_isiT (by rfl) T.b_isinstance (by decide +kernel) (pa_cons (pv 1) (pa_cons (pe_tup (pa_cons (pe_bltn (v := .ty "list") (by rfl) T.b_list (by decide +kernel) rfl) (pa_cons (pe_bltn (v := .ty "tuple") (by rfl) T.b_tuple (by decide +kernel) rfl) pa_nil))) pa_nil))))))) (pss_cons (ps_if (PW.pt (pw_or (pt_cmpR (op_neF hr.units) (pe_callB c_isi (by rfl) T.b_isinstance (by decide +kernel) (pa_cons (pv 0) (pa_cons (pe_bltn (v := .ty "list") (by rfl) T.b_list (by decide +kernel) rfl) pa_nil))) (pe_callB c_isi (by rfl) T.b_isinstance (by decide +kernel) (pa_cons (pv 1) (pa_cons (pe_bltn (v := .ty "list") (by rfl) T.b_list (by decide +kernel) rfl) pa_nil))) (nomark _)) (pw_or1 (pt_cmpR (op_neF hr.units) (pe_callB c_isi (by rfl) T.b_isinstance (by decide +kernel) (pa_cons (pv 0) (pa_cons (pe_bltn (v := .ty "tuple") (by rfl) T.b_tuple (by decide +kernel) rfl) pa_nil))) (pe_callB c_isi (by rfl) T.b_isinstance (by decide +kernel) (pa_cons (pv 1) (pa_cons (pe_bltn (v := .ty "tuple") (by rfl) T.b_tuple (by decide +kernel) rfl) pa_nil))) (nomark _))))) (pss_one (ps_ret pe_bl)) pss_nil) (pss_cons (ps_if (pt_cmpR (op_neF hr.units) (pe_callB c_len2 (by rfl) T.b_len (by decide +kernel) (pa_cons (pv 0) pa_nil)) (pe_callB c_len2 (by rfl) T.b_len (by decide +kernel) (pa_cons (pv 1) pa_nil)) (nomark _)) (pss_one (ps_ret pe_bl)) pss_nil) (pss_cons (ps_for PassesOwn.never rfl (pi_range1 (by rfl) T.b_range (pa_cons (pe_callB c_len2 (by rfl) T.b_len (by decide +kernel) (pa_cons (pv 0) pa_nil)) pa_nil)) (pg_name (i := 3) sc_l_same.nd rfl (by first | exact .inl rfl | exact .inr rfl)) (pss_one (ps_if (pt_not (pt_val (pe_callS G_l_same hr (by rfl) T.d_l_same.mg T.d_l_same.fn.kp T.d_l_same.bi pass0S (pa_cons (pe_ix ix_F (pv 0) (pv 3) (fun _ _ => rfl)) (pa_cons (pe_ix ix_F (pv 1) (pv 3) (fun _ _ => rfl)) pa_nil))))) (pss_one (ps_ret pe_bl)) pss_nil))) (pss_one (ps_ret pe_bl))))) pss_nil) (pss_cons ps_never (pss_one ps_never))))))))
theorem ok_sameN (T : Txt K mg C) (n : Nat) : FnOk P w K mg base CX0 (n + 2) T.d_l_same.f T.d_l_same.fd [("one" : Str), ("other" : Str)] (sp_sameN n) := by
  induction n with
  | zero => exact step_same T 0 no_fn
  | succ n ih => exact step_same T (n + 1) ih
theorem ok_l_same (T : Txt K mg C) : FnOk P w K mg base CX0 8 T.d_l_same.f T.d_l_same.fd [("one" : Str), ("other" : Str)] (sp_l_same K C) := ok_sameN T 6
theorem step_l_copy (T : Txt K mg C) (n : Nat) (G_l_copy : FnOk P w K mg base CX0 (n + 1) T.d_l_copy.f T.d_l_copy.fd [("value" : Str)] (sp_copy_in n)) : FnOk P w K mg base CX0 (n + 1 + 1) T.d_l_copy.f T.d_l_copy.fd [("value" : Str)] (sp_copyN n) := by
  refine T.d_l_copy.fn.ok sc_l_copy (fun vs H Q E h => ?_) (fun cdv A outer s H vs Q E hr h => ⟨rd_l_copy K C (sp_copy_in n) E, ?_, pure_l_copyN n vs H Q E h⟩)
  · obtain ⟨_, _, rfl, _⟩ := h
    rfl
  · unfold rd_l_copy
    exact (pss_cons (ps_if (pt_val (pe_callB c_isi (by rfl) T.b_isinstance (by decide +kernel) (pa_cons (pv 0) (pa_cons (pe_bltn (v := .ty "list") (by rfl) T.b_list (by decide +kernel) rfl) pa_nil)))) (pss_one (ps_ret (pe_lc (own := [(("part" : Str), 3)]) (g := (gName 3)) rfl sc_l_copy.nd (pi_list (pv 0)) (blkOk_by (own := [(("part" : Str), 3)]) (N := sN_l_copy) (sc := defScope s_l_copy) (by decide +kernel)) (fun _ _ _ _ _ => (pg_name (i := 3) sc_l_copy.nd rfl (by first | exact .inl rfl | exact .inr rfl))) (fun _ _ _ _ _ => pts_nil) (fun _ _ _ _ _ => (pe_callS G_l_copy (hr.mono (by omega)) (by rfl) T.d_l_copy.mg T.d_l_copy.fn.kp T.d_l_copy.bi pass0S (pa_cons (pv 3) pa_nil)))))) pss_nil) (pss_cons (ps_if (pt_val (pe_callB c_isi (by rfl) T.b_isinstance (by decide +kernel) (pa_cons (pv 0) (pa_cons (pe_bltn (v := .ty "tuple") (by rfl) T.b_tuple (by decide +kernel) rfl) pa_nil)))) (pss_one (ps_ret (pe_callTy c_tuple (by rfl) T.b_tuple (by decide +kernel) (pa_cons (pe_lc (own := [(("part" : Str), 3)]) (g := (gName 3)) rfl sc_l_copy.nd (pi_tup (pv 0)) (blkOk_by (own := [(("part" : Str), 3)]) (N := sN_l_copy) (sc := defScope s_l_copy) (by decide +kernel)) (fun _ _ _ _ _ => (pg_name (i := 3) sc_l_copy.nd rfl (by first | exact .inl rfl | exact .inr rfl))) (fun _ _ _ _ _ => pts_nil) (fun _ _ _ _ _ => (pe_callS G_l_copy (hr.mono (by omega)) (by rfl) T.d_l_copy.mg T.d_l_copy.fn.kp T.d_l_copy.bi pass0S (pa_cons (pv 3) pa_nil)))) pa_nil)))) pss_nil) (pss_cons (ps_if (pt_val (pe_callB c_isi (by rfl) T.b_isinstance (by decide +kernel) (pa_cons (pv 0) (pa_cons (pe_bltn (v := .ty "dict") (by rfl) T.b_dict (by decide +kernel) rfl) pa_nil)))) (pss_cons (ps_set (i := 1) sc_l_copy.nd rfl (Or.inl rfl) pe_dnewK) (pss_cons (ps_lock (ps_for PassesOwn.never rfl (pi_keys (pv 0)) (pg_name (i := 2) sc_l_copy.nd rfl (by first | exact .inl rfl | exact .inr rfl)) pss_never)) (pss_one (ps_ret (pv 1))))) pss_nil) (pss_one (ps_ret (pv 0))))))
theorem ok_l_copyN (T : Txt K mg C) (n : Nat) : FnOk P w K mg base CX0 (n + 1 + 1) T.d_l_copy.f T.d_l_copy.fd [("value" : Str)] (sp_copyN n) := by
  induction n with
  | zero => exact step_l_copy T 0 no_fn
  | succ n ih => exact step_l_copy T (n + 1) (by rw [show n + 1 + 1 = n + 1 + 1 from by omega]; exact ih)
theorem ok_l_copy (T : Txt K mg C) : FnOk P w K mg base CX0 8 T.d_l_copy.f T.d_l_copy.fd [("value" : Str)] (sp_l_copy K C) := ok_l_copyN T 6
theorem step_spoil (T : Txt K mg C) (n : Nat) {spR spS : Sp} (len : ∀ vs H Q E, spS vs H Q E → vs.length = ([("value" : Str)] : List Str).length) (pure_ : ∀ vs H Q E, spS vs H Q E → rd_l_spoil K C spR E { nx := fun _ H' => Q .non H', rt := Q } (start sN_l_spoil vs) H)
    (G_l_spoil : FnOk P w K mg base CX0 (n + 1) T.d_l_spoil.f T.d_l_spoil.fd [("value" : Str)] spR) : FnOk P w K mg base CX0 (n + 2) T.d_l_spoil.f T.d_l_spoil.fd [("value" : Str)] spS := by
  refine T.d_l_spoil.fn.ok sc_l_spoil len (fun cdv A outer s H vs Q E hr h => ⟨rd_l_spoil K C spR E, ?_, pure_ vs H Q E h⟩)
  unfold rd_l_spoil
  exact (pss_cons (ps_if (pt_val (pe_callB c_isi (by rfl) T.b_isinstance (by decide +kernel) (pa_cons (pv 0) (pa_cons (pe_bltn (v := .ty "dict") (by rfl) T.b_dict (by decide +kernel) rfl) pa_nil)))) pss_never pss_nil) (pss_cons (ps_if (pt_val (pe_callB c_isiT (by rfl) T.b_isinstance (by decide +kernel) (pa_cons (pv 0) (pa_cons (pe_tup (pa_cons (pe_bltn (v := .ty "list") (by rfl) T.b_list (by decide +kernel) rfl) (pa_cons (pe_bltn (v := .ty "tuple") (by rfl) T.b_tuple (by decide +kernel) rfl) pa_nil))) pa_nil)))) (pss_one (ps_for PassesOwn.never rfl (pi_list (pe_callTy c_list (by rfl) T.b_list (by decide +kernel) (pa_cons (pv 0) pa_nil))) (pg_name (i := 2) sc_l_spoil.nd rfl (by first | exact .inl rfl | exact .inr rfl)) (pss_one (ps_expr (pe_callS G_l_spoil hr (by rfl) T.d_l_spoil.mg T.d_l_spoil.fn.kp T.d_l_spoil.bi pass0S (pa_cons (pv 2) pa_nil)))))) pss_nil) (pss_one (ps_if (pt_val (pe_callB c_isi (by rfl) T.b_isinstance (by decide +kernel) (pa_cons (pv 0) (pa_cons (pe_bltn (v := .ty "list") (by rfl) T.b_list (by decide +kernel) rfl) pa_nil)))) (pss_one (ps_if (pt_cmpR op_gtF (pe_callB c_len (by rfl) T.b_len (by decide +kernel) (pa_cons (pv 0) pa_nil)) pe_int (nomark _)) (pss_cons (ps_expr (pe_imp (pe_bm0 PySem.F.plainAttrs_list PySem.F.slot_list_pop PySem.F.type_list_pop m_pop (pv 0)) bm0_var)) (pss_one (ps_asg pe_non (pg_sub (pv 0) pe_int set_F)))) (pss_one (ps_expr (pe_imp (pe_bm PySem.F.plainAttrs_list PySem.F.slot_list_append PySem.F.type_list_append m_append (pv 0) (pa_cons pe_non pa_nil)) bm_var))))) pss_nil))))
theorem ok_l_spoil (T : Txt K mg C) : FnOk P w K mg base CX0 5 T.d_l_spoil.f T.d_l_spoil.fd [("value" : Str)] (sp_l_spoil K C) :=
  step_spoil T 3 (fun vs H Q E h => by
      rcases h with ⟨_, _, rfl, _⟩ | ⟨_, _, _, rfl, _⟩ <;> rfl)
    (fun vs H Q E h => h.elim (fun h => pure_c (fun v H Q E t q => .inl ⟨v, rfl, t, q⟩) vs H Q E h) (fun h => pure_d (fun vs H Q E z => .inr z) vs H Q E h))
  (step_spoil T 2 (spS := sp_spoil2) (fun vs H Q E h => by
      rcases h with ⟨_, rfl, _⟩ | ⟨_, _, rfl, _⟩ <;> rfl)
    (fun vs H Q E h => h.elim (fun h => pure_tf (fun v H Q E t q => ⟨v, rfl, .inl t, q⟩) vs H Q E h) (fun h => pure_c (fun v H Q E t q => ⟨v, rfl, t, q⟩) vs H Q E h))
  (step_spoil T 1 (spS := sp_spoil1) (fun vs H Q E h => by
      obtain ⟨_, rfl, _⟩ := h; rfl)
    (fun vs H Q E h => pure_tf (fun v H Q E t q => ⟨v, rfl, t, q⟩) vs H Q E h)
  (step_spoil T 0 (spS := sp_spoil0) (fun vs H Q E h => by
      obtain ⟨_, rfl, _⟩ := h; rfl) (fun vs H Q E h => pure_flat vs H Q E h) no_fn)))
theorem ok_l_is_name (T : Txt K mg C) : FnOk P w K mg base CX0 2 T.d_l_is_name.f T.d_l_is_name.fd [("value" : Str)] (sp_l_is_name K C) := by
  refine T.d_l_is_name.fn.ok sc_l_is_name (fun vs H Q E h => ?_) (fun cdv A outer s H vs Q E hr h => ⟨rd_l_is_name K C E, ?_, pure_l_is_name vs H Q E h⟩)
  · first
    | (obtain ⟨_, rfl, _⟩ := h; rfl)
    | (obtain ⟨_, _, rfl, _⟩ := h; rfl)
    | (obtain ⟨_, _, _, rfl, _⟩ := h; rfl)
    | (obtain ⟨_, _, _, _, rfl, _⟩ := h; rfl)
    | (obtain ⟨_, _, _, _, _, rfl, _⟩ := h; rfl)
    | (obtain ⟨_, _, _, _, _, _, rfl, _⟩ := h; rfl)
    | (obtain ⟨_, _, _, _, _, _, _, rfl, _⟩ := h; rfl)
  · unfold rd_l_is_name
    exact (pss_cons (ps_if (PW.pt (pw_or (pt_not (pt_val (pe_callB c_isi (by rfl) T.b_isinstance (by decide +kernel) (pa_cons (pv 0) (pa_cons (pe_bltn (v := .ty "str") (by rfl) T.b_str (by decide +kernel) rfl) pa_nil))))) (pw_or (pt_cmpR op_ltF (pe_callB c_len (by rfl) T.b_len (by decide +kernel) (pa_cons (pv 0) pa_nil)) pe_int (nomark _)) (pw_or1 (pt_cmpR op_gtF (pe_callB c_len (by rfl) T.b_len (by decide +kernel) (pa_cons (pv 0) pa_nil)) pe_int (nomark _)))))) (pss_one (ps_ret pe_bl)) pss_nil) (pss_cons (ps_for PassesOwn.never rfl (pi_str (pv 0)) (pg_name (i := 1) sc_l_is_name.nd rfl (by first | exact .inl rfl | exact .inr rfl)) (pss_one (ps_if (pt_cmpR op_ninF (pv 1) pe_str (by rfl)) (pss_one (ps_ret pe_bl)) pss_nil))) (pss_one (ps_ret (pe_cmpR op_ninF (pe_ix ix_F (pv 0) pe_int (fun _ _ => rfl)) pe_str (by rfl))))))
theorem ok_l_is_within (T : Txt K mg C) : FnOk P w K mg base CX0 2 T.d_l_is_within.f T.d_l_is_within.fd [("value" : Str), ("low" : Str), ("high" : Str)] (sp_l_is_within K C) := by
  refine T.d_l_is_within.fn.ok sc_l_is_within (fun vs H Q E h => ?_) (fun cdv A outer s H vs Q E hr h => ⟨rd_l_is_within K C E, ?_, pure_l_is_within vs H Q E h⟩)
  · first
    | (obtain ⟨_, rfl, _⟩ := h; rfl)
    | (obtain ⟨_, _, rfl, _⟩ := h; rfl)
    | (obtain ⟨_, _, _, rfl, _⟩ := h; rfl)
    | (obtain ⟨_, _, _, _, rfl, _⟩ := h; rfl)
    | (obtain ⟨_, _, _, _, _, rfl, _⟩ := h; rfl)
    | (obtain ⟨_, _, _, _, _, _, rfl, _⟩ := h; rfl)
    | (obtain ⟨_, _, _, _, _, _, _, rfl, _⟩ := h; rfl)
  · unfold rd_l_is_within
    exact (pss_one (ps_ret (pe_and (pe_callB c_isi (by rfl) T.b_isinstance (by decide +kernel) (pa_cons (pv 0) (pa_cons (pe_bltn (v := .ty "int") (by rfl) T.b_int (by decide +kernel) rfl) pa_nil))) (pe_and (pe_not (pe_callB c_isi (by rfl) T.b_isinstance (by decide +kernel) (pa_cons (pv 0) (pa_cons (pe_bltn (v := .ty "bool") (by rfl) T.b_bool (by decide +kernel) rfl) pa_nil)))) (pe_one (pe_chain op_leF op_leF (pv 1) (pv 0) (pv 2)))))))
theorem ok_l_is_leg (T : Txt K mg C) : FnOk P w K mg base CX0 3 T.d_l_is_leg.f T.d_l_is_leg.fd [("value" : Str)] (sp_l_is_leg K C) := by
  have G_l_is_name := ok_l_is_name (P := P) (w := w) (mg := mg) (base := base) T
  have G_l_is_within := ok_l_is_within (P := P) (w := w) (mg := mg) (base := base) T
  refine T.d_l_is_leg.fn.ok sc_l_is_leg (fun vs H Q E h => ?_) (fun cdv A outer s H vs Q E hr h => ⟨rd_l_is_leg K C E, ?_, pure_l_is_leg vs H Q E h⟩)
  · first
    | (obtain ⟨_, rfl, _⟩ := h; rfl)
    | (obtain ⟨_, _, rfl, _⟩ := h; rfl)
    | (obtain ⟨_, _, _, rfl, _⟩ := h; rfl)
    | (obtain ⟨_, _, _, _, rfl, _⟩ := h; rfl)
    | (obtain ⟨_, _, _, _, _, rfl, _⟩ := h; rfl)
    | (obtain ⟨_, _, _, _, _, _, rfl, _⟩ := h; rfl)
    | (obtain ⟨_, _, _, _, _, _, _, rfl, _⟩ := h; rfl)
  · unfold rd_l_is_leg
    exact (pss_cons (ps_if (PW.pt (pw_or (pt_not (pt_val (pe_callB c_isi (by rfl) T.b_isinstance (by decide +kernel) (pa_cons (pv 0) (pa_cons (pe_bltn (v := .ty "tuple") (by rfl) T.b_tuple (by decide +kernel) rfl) pa_nil))))) (pw_or (pt_cmpR (op_neF hr.units) (pe_callB c_len (by rfl) T.b_len (by decide +kernel) (pa_cons (pv 0) pa_nil)) pe_int (nomark _)) (pw_or1 (pt_not (pt_val (pe_callS G_l_is_name (hr.mono (by decide)) (by rfl) T.d_l_is_name.mg T.d_l_is_name.fn.kp T.d_l_is_name.bi pass0S (pa_cons (pe_ix ix_F (pv 0) pe_int (fun _ _ => rfl)) pa_nil)))))))) (pss_one (ps_ret pe_bl)) pss_nil) (pss_cons (ps_if (pt_val (pe_callS G_l_is_name (hr.mono (by decide)) (by rfl) T.d_l_is_name.mg T.d_l_is_name.fn.kp T.d_l_is_name.bi pass0S (pa_cons (pe_ix ix_F (pv 0) pe_int (fun _ _ => rfl)) pa_nil))) (pss_one (ps_ret (pe_callS G_l_is_within (hr.mono (by decide)) (by rfl) T.d_l_is_within.mg T.d_l_is_within.fn.kp T.d_l_is_within.bi pass0S (pa_cons (pe_ix ix_F (pv 0) pe_int (fun _ _ => rfl)) (pa_cons pe_int (pa_cons pe_int pa_nil)))))) pss_nil) (pss_one (ps_ret (pe_and (pe_callB c_isi (by rfl) T.b_isinstance (by decide +kernel) (pa_cons (pe_ix ix_F (pv 0) pe_int (fun _ _ => rfl)) (pa_cons (pe_bltn (v := .ty "str") (by rfl) T.b_str (by decide +kernel) rfl) pa_nil))) (pe_and (pe_cmpR (op_eqF hr.units) (pe_ix ix_F (pv 0) pe_int (fun _ _ => rfl)) pe_str (nomark _)) (pe_one (pe_callS G_l_is_within (hr.mono (by decide)) (by rfl) T.d_l_is_within.mg T.d_l_is_within.fn.kp T.d_l_is_within.bi pass0S (pa_cons (pe_ix ix_F (pv 0) pe_int (fun _ _ => rfl)) (pa_cons pe_int (pa_cons pe_int pa_nil)))))))))))
theorem ok_l_is_plan (T : Txt K mg C) : FnOk P w K mg base CX0 3 T.d_l_is_plan.f T.d_l_is_plan.fd [("value" : Str)] (sp_l_is_plan K C) := by
  have G_l_is_name := ok_l_is_name (P := P) (w := w) (mg := mg) (base := base) T
  refine T.d_l_is_plan.fn.ok sc_l_is_plan (fun vs H Q E h => ?_) (fun cdv A outer s H vs Q E hr h => ⟨rd_l_is_plan K C E, ?_, pure_l_is_plan vs H Q E h⟩)
  · first
    | (obtain ⟨_, rfl, _⟩ := h; rfl)
    | (obtain ⟨_, _, rfl, _⟩ := h; rfl)
    | (obtain ⟨_, _, _, rfl, _⟩ := h; rfl)
    | (obtain ⟨_, _, _, _, rfl, _⟩ := h; rfl)
    | (obtain ⟨_, _, _, _, _, rfl, _⟩ := h; rfl)
    | (obtain ⟨_, _, _, _, _, _, rfl, _⟩ := h; rfl)
    | (obtain ⟨_, _, _, _, _, _, _, rfl, _⟩ := h; rfl)
  · unfold rd_l_is_plan
    exact (pss_cons (ps_if (PW.pt (pw_or (pt_not (pt_val (pe_callB c_isi (by rfl) T.b_isinstance (by decide +kernel) (pa_cons (pv 0) (pa_cons (pe_bltn (v := .ty "tuple") (by rfl) T.b_tuple (by decide +kernel) rfl) pa_nil))))) (pw_or (pt_cmpR op_ltF (pe_callB c_len (by rfl) T.b_len (by decide +kernel) (pa_cons (pv 0) pa_nil)) pe_int (nomark _)) (pw_or1 (pt_cmpR op_gtF (pe_callB c_len (by rfl) T.b_len (by decide +kernel) (pa_cons (pv 0) pa_nil)) pe_int (nomark _)))))) (pss_one (ps_ret pe_bl)) pss_nil) (pss_cons (ps_for PassesOwn.never rfl (pi_tup (pv 0)) (pg_name (i := 1) sc_l_is_plan.nd rfl (by first | exact .inl rfl | exact .inr rfl)) (pss_one (ps_if (pt_not (pt_val (pe_callS G_l_is_name (hr.mono (by decide)) (by rfl) T.d_l_is_name.mg T.d_l_is_name.fn.kp T.d_l_is_name.bi pass0S (pa_cons (pv 1) pa_nil)))) (pss_one (ps_ret pe_bl)) pss_nil))) (pss_one (ps_ret pe_bl))))
theorem ok_l_bent_row (T : Txt K mg C) : FnOk P w K mg base CX0 5 T.d_l_bent_row.f T.d_l_bent_row.fd [("store" : Str), ("value" : Str)] (sp_l_bent_row K C) := by
  have G_l_pick := ok_l_pick (P := P) (w := w) (mg := mg) (base := base) T
  have G_l_take := ok_l_take (P := P) (w := w) (mg := mg) (base := base) T
  refine T.d_l_bent_row.fn.ok sc_l_bent_row (fun vs H Q E h => ?_) (fun cdv A outer s H vs Q E hr h => ⟨rd_l_bent_row K C E, ?_, pure_l_bent_row vs H Q E h⟩)
  · first
    | (obtain ⟨_, rfl, _⟩ := h; rfl)
    | (obtain ⟨_, _, rfl, _⟩ := h; rfl)
    | (obtain ⟨_, _, _, rfl, _⟩ := h; rfl)
    | (obtain ⟨_, _, _, _, rfl, _⟩ := h; rfl)
    | (obtain ⟨_, _, _, _, _, rfl, _⟩ := h; rfl)
    | (obtain ⟨_, _, _, _, _, _, rfl, _⟩ := h; rfl)
    | (obtain ⟨_, _, _, _, _, _, _, rfl, _⟩ := h; rfl)
  · unfold rd_l_bent_row
    exact (pss_cons (ps_set (i := 2) sc_l_bent_row.nd rfl (Or.inl rfl) (pe_callTy c_list (by rfl) T.b_list (by decide +kernel) (pa_cons (pv 1) pa_nil))) (pss_cons (ps_set (i := 3) sc_l_bent_row.nd rfl (Or.inl rfl) (pe_callS G_l_take (hr.mono (by decide)) (by rfl) T.d_l_take.mg T.d_l_take.fn.kp T.d_l_take.bi pass0S (pa_cons (pv 0) (pa_cons (pe_op op_addF (pe_callB c_len (by rfl) T.b_len (by decide +kernel) (pa_cons (pv 2) pa_nil)) pe_int) pa_nil)))) (pss_cons (ps_set (i := 4) sc_l_bent_row.nd rfl (Or.inl rfl) (pe_callS G_l_take (hr.mono (by decide)) (by rfl) T.d_l_take.mg T.d_l_take.fn.kp T.d_l_take.bi pass0S (pa_cons (pv 0) (pa_cons pe_int pa_nil)))) (Evl.pss_cut (ps_if (PW.pt (pw_and (pt_cmpR (op_eqF hr.units) (pv 4) pe_int (nomark _)) (pw_and1 (pt_cmpR op_gtF (pe_callB c_len (by rfl) T.b_len (by decide +kernel) (pa_cons (pv 2) pa_nil)) pe_int (nomark _))))) (pss_cons (ps_set (i := 3) sc_l_bent_row.nd rfl (Or.inl rfl) (pe_callB (c_min rfl) (by rfl) T.b_min (by decide +kernel) (pa_cons (pv 3) (pa_cons (pe_op op_subF (pe_callB c_len (by rfl) T.b_len (by decide +kernel) (pa_cons (pv 2) pa_nil)) pe_int) pa_nil)))) (pss_one (ps_set (i := 2) sc_l_bent_row.nd rfl (Or.inl rfl) (pe_op op_addF (pe_slice sl_F2 (pv 2) po_none (po_some (pv 3))) (pe_slice sl_F2 (pv 2) (po_some (pe_op op_addF (pv 3) pe_int)) po_none))))) (pss_one (ps_if (PW.pt (pw_and (pt_cmpR (op_eqF hr.units) (pv 4) pe_int (nomark _)) (pw_and1 (pt_cmpR op_gtF (pe_callB c_len (by rfl) T.b_len (by decide +kernel) (pa_cons (pv 2) pa_nil)) pe_int (nomark _))))) (pss_one (ps_expr (pe_imp (pe_bm PySem.F.plainAttrs_list PySem.F.slot_list_insert PySem.F.type_list_insert m_insert (pv 2) (pa_cons (pv 3) (pa_cons (pe_ix ix_F (pv 2) (pe_callB (c_min rfl) (by rfl) T.b_min (by decide +kernel) (pa_cons (pv 3) (pa_cons (pe_op op_subF (pe_callB c_len (by rfl) T.b_len (by decide +kernel) (pa_cons (pv 2) pa_nil)) pe_int) pa_nil))) (fun _ _ => rfl)) pa_nil))) bm_var))) (pss_one (ps_if (pt_cmpR (op_eqF hr.units) (pv 4) pe_int (nomark _)) (pss_one (ps_expr (pe_imp (pe_bm PySem.F.plainAttrs_list PySem.F.slot_list_insert PySem.F.type_list_insert m_insert (pv 2) (pa_cons (pv 3) (pa_cons (pe_callS G_l_pick (hr.mono (by decide)) (by rfl) T.d_l_pick.mg T.d_l_pick.fn.kp T.d_l_pick.bi pass0S (pa_cons (pv 0) (pa_cons (pe_lst (pa_cons pe_non (pa_cons pe_int (pa_cons pe_str (pa_cons (pe_tup pa_nil) (pa_cons (pe_lst pa_nil) pa_nil)))))) pa_nil))) pa_nil))) bm_var))) (pss_one (ps_if (pt_cmpR (op_eqF hr.units) (pv 4) pe_int (nomark _)) (pss_one (ps_ret (pe_callS G_l_pick (hr.mono (by decide)) (by rfl) T.d_l_pick.mg T.d_l_pick.fn.kp T.d_l_pick.bi pass0S (pa_cons (pv 0) (pa_cons (pe_lst (pa_cons pe_non (pa_cons pe_dnewK (pa_cons pe_int (pa_cons pe_str pa_nil))))) pa_nil))))) (pss_cons (ps_if (pt_val (pe_callB c_isi (by rfl) T.b_isinstance (by decide +kernel) (pa_cons (pv 1) (pa_cons (pe_bltn (v := .ty "tuple") (by rfl) T.b_tuple (by decide +kernel) rfl) pa_nil)))) (pss_one (ps_ret (pv 2))) pss_nil) (pss_one (ps_ret (pe_callTy c_tuple (by rfl) T.b_tuple (by decide +kernel) (pa_cons (pv 2) pa_nil)))))))))))) (pss_cons (ps_if (pt_val (pe_callB c_isi (by rfl) T.b_isinstance (by decide +kernel) (pa_cons (pv 1) (pa_cons (pe_bltn (v := .ty "tuple") (by rfl) T.b_tuple (by decide +kernel) rfl) pa_nil)))) (pss_one (ps_ret (pe_callTy c_tuple (by rfl) T.b_tuple (by decide +kernel) (pa_cons (pv 2) pa_nil)))) pss_nil) (pss_one (ps_ret (pv 2))))))))
theorem ok_l_bent_leaf (T : Txt K mg C) : FnOk P w K mg base CX0 4 T.d_l_bent_leaf.f T.d_l_bent_leaf.fd [("store" : Str), ("value" : Str)] (sp_l_bent_leaf K C) := by
  have G_l_take := ok_l_take (P := P) (w := w) (mg := mg) (base := base) T
  refine T.d_l_bent_leaf.fn.ok sc_l_bent_leaf (fun vs H Q E h => ?_) (fun cdv A outer s H vs Q E hr h => ⟨rd_l_bent_leaf K C E, ?_, pure_l_bent_leaf vs H Q E h⟩)
  · first
    | (obtain ⟨_, rfl, _⟩ := h; rfl)
    | (obtain ⟨_, _, rfl, _⟩ := h; rfl)
    | (obtain ⟨_, _, _, rfl, _⟩ := h; rfl)
    | (obtain ⟨_, _, _, _, rfl, _⟩ := h; rfl)
    | (obtain ⟨_, _, _, _, _, rfl, _⟩ := h; rfl)
    | (obtain ⟨_, _, _, _, _, _, rfl, _⟩ := h; rfl)
    | (obtain ⟨_, _, _, _, _, _, _, rfl, _⟩ := h; rfl)
  · unfold rd_l_bent_leaf
    exact (pss_cons (ps_set (i := 2) sc_l_bent_leaf.nd rfl (Or.inl rfl) (pe_callS G_l_take (hr.mono (by decide)) (by rfl) T.d_l_take.mg T.d_l_take.fn.kp T.d_l_take.bi pass0S (pa_cons (pv 0) (pa_cons pe_int pa_nil)))) (pss_cons (ps_if (pt_cmpR op_ltF (pv 2) pe_int (nomark _)) (pss_one (ps_ret (pe_ix ix_F (pe_lst (pa_cons (pe_lst (pa_cons (pv 1) pa_nil)) (pa_cons (pe_tup (pa_cons (pv 1) pa_nil)) pa_nil))) (pv 2) (fun _ _ => rfl)))) pss_nil) (pss_cons (ps_if (pt_cmpR op_isNF (pv 1) pe_non (nomark _)) (pss_one (ps_ret (pe_ix ix_F (pe_lst (pa_cons pe_int (pa_cons pe_str (pa_cons pe_str (pa_cons pe_bl pa_nil))))) (pe_callS G_l_take (hr.mono (by decide)) (by rfl) T.d_l_take.mg T.d_l_take.fn.kp T.d_l_take.bi pass0S (pa_cons (pv 0) (pa_cons pe_int pa_nil))) (fun _ _ => rfl)))) pss_nil) (pss_cons (ps_if (PW.pt (pw_or (pt_cmpR (op_eqF hr.units) (pv 2) pe_int (nomark _)) (pw_or1 (pt_not (pt_val (pe_callB c_isiT (by rfl) T.b_isinstance (by decide +kernel) (pa_cons (pv 1) (pa_cons (pe_tup (pa_cons (pe_bltn (v := .ty "int") (by rfl) T.b_int (by decide +kernel) rfl) (pa_cons (pe_bltn (v := .ty "str") (by rfl) T.b_str (by decide +kernel) rfl) pa_nil))) pa_nil)))))))) (pss_one (ps_ret pe_non)) pss_nil) (pss_cons (ps_if (pt_val (pe_callB c_isi (by rfl) T.b_isinstance (by decide +kernel) (pa_cons (pv 1) (pa_cons (pe_bltn (v := .ty "bool") (by rfl) T.b_bool (by decide +kernel) rfl) pa_nil)))) (pss_one (ps_ret (pe_callTy c_int (by rfl) T.b_int (by decide +kernel) (pa_cons (pv 1) pa_nil)))) pss_nil) (pss_cons (ps_if (PW.pt (pw_and (pt_val (pe_callB c_isi (by rfl) T.b_isinstance (by decide +kernel) (pa_cons (pv 1) (pa_cons (pe_bltn (v := .ty "int") (by rfl) T.b_int (by decide +kernel) rfl) pa_nil)))) (pw_and1 (pt_cmpR op_gtF (pe_callB c_abs (by rfl) T.b_abs (by decide +kernel) (pa_cons (pv 1) pa_nil)) (pe_op op_powF pe_int pe_int) (nomark _))))) (pss_one (ps_ret (pe_ix ix_F (pe_lst (pa_cons pe_int (pa_cons pe_int (pa_cons (pe_un un_negF pe_int) (pa_cons pe_bl (pa_cons pe_str (pa_cons pe_int pa_nil))))))) (pe_op op_subF (pv 2) pe_int) (fun _ _ => rfl)))) pss_nil) (pss_cons (ps_if (pt_val (pe_callB c_isi (by rfl) T.b_isinstance (by decide +kernel) (pa_cons (pv 1) (pa_cons (pe_bltn (v := .ty "int") (by rfl) T.b_int (by decide +kernel) rfl) pa_nil)))) (pss_one (ps_ret (pe_ix ix_F (pe_lst (pa_cons (pe_op op_addF (pv 1) pe_int) (pa_cons (pe_op op_subF (pv 1) pe_int) (pa_cons (pe_op op_subF (pe_op op_subF pe_int (pe_callB c_abs (by rfl) T.b_abs (by decide +kernel) (pa_cons (pv 1) pa_nil))) pe_int) (pa_cons (pe_cmpR (op_eqF hr.units) (pv 1) pe_int (nomark _)) (pa_cons (pe_callTy c_strI (by rfl) T.b_str (by decide +kernel) (pa_cons (pv 1) pa_nil)) (pa_cons (pe_op op_addF (pv 1) pe_int) pa_nil))))))) (pe_op op_subF (pv 2) pe_int) (fun _ _ => rfl)))) pss_nil) (pss_cons (ps_if (PW.pt (pw_and (pt_cmpR (op_eqF hr.units) (pv 2) pe_int (nomark _)) (pw_and1 (pt_cmpR op_gtF (pe_callB c_len (by rfl) T.b_len (by decide +kernel) (pa_cons (pv 1) pa_nil)) pe_int (nomark _))))) (pss_one (ps_ret (pe_slice sl_F2 (pv 1) po_none (po_some (pe_un un_negF pe_int))))) pss_nil) (pss_one (ps_ret (pe_op op_addF (pv 1) (pe_ix ix_F pe_str (pe_op op_subF (pv 2) pe_int) (fun _ _ => rfl)))))))))))))
theorem step_l_bent (T : Txt K mg C) (n : Nat) (G_l_bent : FnOk P w K mg base CX0 (n + 5) T.d_l_bent.f T.d_l_bent.fd [("store" : Str), ("value" : Str)] (sp_bent_in n)) : FnOk P w K mg base CX0 (n + 5 + 1) T.d_l_bent.f T.d_l_bent.fd [("store" : Str), ("value" : Str)] (sp_bentN n) := by
  have G_l_bent_leaf := ok_l_bent_leaf (P := P) (w := w) (mg := mg) (base := base) T
  have G_l_bent_row := ok_l_bent_row (P := P) (w := w) (mg := mg) (base := base) T
  have G_l_take := ok_l_take (P := P) (w := w) (mg := mg) (base := base) T
  refine T.d_l_bent.fn.ok sc_l_bent (fun vs H Q E h => ?_) (fun cdv A outer s H vs Q E hr h => ⟨rd_l_bent K C (sp_bent_in n) E, ?_, pure_l_bentN n vs H Q E h⟩)
  · obtain ⟨_, _, _, _, _, _, rfl, _⟩ := h
    rfl
  · unfold rd_l_bent
    exact (pss_cons (ps_if (pt_not (pt_val (pe_callB c_isiT (by rfl) T.b_isinstance (by decide +kernel) (pa_cons (pv 1) (pa_cons (pe_tup (pa_cons (pe_bltn (v := .ty "list") (by rfl) T.b_list (by decide +kernel) rfl) (pa_cons (pe_bltn (v := .ty "tuple") (by rfl) T.b_tuple (by decide +kernel) rfl) pa_nil))) pa_nil))))) (pss_one (ps_ret (pe_callS G_l_bent_leaf (hr.mono (by omega)) (by rfl) T.d_l_bent_leaf.mg T.d_l_bent_leaf.fn.kp T.d_l_bent_leaf.bi pass0S (pa_cons (pv 0) (pa_cons (pv 1) pa_nil))))) pss_nil) (pss_cons (ps_if (PW.pt (pw_or (pt_cmpR (op_eqF hr.units) (pe_callB c_len (by rfl) T.b_len (by decide +kernel) (pa_cons (pv 1) pa_nil)) pe_int (nomark _)) (pw_or1 (pt_cmpR (op_eqF hr.units) (pe_callS G_l_take (hr.mono (by omega)) (by rfl) T.d_l_take.mg T.d_l_take.fn.kp T.d_l_take.bi pass0S (pa_cons (pv 0) (pa_cons pe_int pa_nil))) pe_int (nomark _))))) (pss_one (ps_ret (pe_callS G_l_bent_row (hr.mono (by omega)) (by rfl) T.d_l_bent_row.mg T.d_l_bent_row.fn.kp T.d_l_bent_row.bi pass0S (pa_cons (pv 0) (pa_cons (pv 1) pa_nil))))) pss_nil) (pss_cons (ps_set (i := 2) sc_l_bent.nd rfl (Or.inl rfl) (pe_callS G_l_take (hr.mono (by omega)) (by rfl) T.d_l_take.mg T.d_l_take.fn.kp T.d_l_take.bi pass0S (pa_cons (pv 0) (pa_cons (pe_callB c_len (by rfl) T.b_len (by decide +kernel) (pa_cons (pv 1) pa_nil)) pa_nil)))) (pss_cons (ps_set (i := 3) sc_l_bent.nd rfl (Or.inl rfl) (pe_callTy c_list (by rfl) T.b_list (by decide +kernel) (pa_cons (pv 1) pa_nil))) (pss_cons (ps_asg (pe_callS G_l_bent (hr.mono (by omega)) (by rfl) T.d_l_bent.mg T.d_l_bent.fn.kp T.d_l_bent.bi pass0S (pa_cons (pv 0) (pa_cons (pe_ix ix_F (pv 3) (pv 2) (fun _ _ => rfl)) pa_nil))) (pg_sub (pv 3) (pv 2) set_F)) (pss_cons (ps_if (pt_val (pe_callB c_isi (by rfl) T.b_isinstance (by decide +kernel) (pa_cons (pv 1) (pa_cons (pe_bltn (v := .ty "tuple") (by rfl) T.b_tuple (by decide +kernel) rfl) pa_nil)))) (pss_one (ps_ret (pe_callTy c_tuple (by rfl) T.b_tuple (by decide +kernel) (pa_cons (pv 3) pa_nil)))) pss_nil) (pss_one (ps_ret (pv 3)))))))))
theorem ok_l_bentN (T : Txt K mg C) (n : Nat) : FnOk P w K mg base CX0 (n + 5 + 1) T.d_l_bent.f T.d_l_bent.fd [("store" : Str), ("value" : Str)] (sp_bentN n) := by
  induction n with
  | zero => exact step_l_bent T 0 no_fn
  | succ n ih => exact step_l_bent T (n + 1) (by rw [show n + 1 + 5 = n + 5 + 1 from by omega]; exact ih)
theorem ok_l_bent (T : Txt K mg C) : FnOk P w K mg base CX0 11 T.d_l_bent.f T.d_l_bent.fd [("store" : Str), ("value" : Str)] (sp_l_bent K C) := ok_l_bentN T 5
theorem ok_l_legs (T : Txt K mg C) : FnOk P w K mg base CX0 2 T.d_l_legs.f T.d_l_legs.fd [("plan" : Str)] (sp_l_legs K C) := by
  refine T.d_l_legs.fn.ok sc_l_legs (fun vs H Q E h => ?_) (fun cdv A outer s H vs Q E hr h => ⟨rd_l_legs K C E, ?_, pure_l_legs vs H Q E h⟩)
  · first
    | (obtain ⟨_, rfl, _⟩ := h; rfl)
    | (obtain ⟨_, _, rfl, _⟩ := h; rfl)
    | (obtain ⟨_, _, _, rfl, _⟩ := h; rfl)
    | (obtain ⟨_, _, _, _, rfl, _⟩ := h; rfl)
    | (obtain ⟨_, _, _, _, _, rfl, _⟩ := h; rfl)
    | (obtain ⟨_, _, _, _, _, _, rfl, _⟩ := h; rfl)
    | (obtain ⟨_, _, _, _, _, _, _, rfl, _⟩ := h; rfl)
  · unfold rd_l_legs
    exact (pss_cons (ps_set (i := 1) sc_l_legs.nd rfl (Or.inr rfl) (pe_op op_addT (pv 0) (pe_tup (pa_cons pe_str pa_nil)))) (pss_one (ps_ret (pe_lc (own := [(("day" : Str), 2)]) (g := (gName 2)) rfl sc_l_legs.nd (pi_range1 (by rfl) T.b_range (pa_cons (pe_callB c_len (by rfl) T.b_len (by decide +kernel) (pa_cons (pv 0) pa_nil)) pa_nil)) (blkOk_by (own := [(("day" : Str), 2)]) (N := sN_l_legs) (sc := defScope s_l_legs) (by decide +kernel)) (fun _ _ _ _ _ => (pg_name (i := 2) sc_l_legs.nd rfl (by first | exact .inl rfl | exact .inr rfl))) (fun _ _ _ _ _ => pts_nil) (fun _ _ _ _ _ => (pe_tup (pa_cons (pv 2) (pa_cons (pe_ix ix_F (pv 1) (pv 2) (fun _ _ => rfl)) (pa_cons (pe_ix ix_F (pv 1) (pe_op op_addF (pv 2) pe_int) (fun _ _ => rfl)) pa_nil)))))))))
theorem ok_l_no_legs (T : Txt K mg C) : FnOk P w K mg base CX0 6 T.d_l_no_legs.f T.d_l_no_legs.fd [("store" : Str), ("plan" : Str)] (sp_l_no_legs K C) := by
  have G_l_fresh := ok_l_fresh (P := P) (w := w) (mg := mg) (base := base) T
  have G_l_legs := ok_l_legs (P := P) (w := w) (mg := mg) (base := base) T
  have G_l_pick := ok_l_pick (P := P) (w := w) (mg := mg) (base := base) T
  have G_l_take := ok_l_take (P := P) (w := w) (mg := mg) (base := base) T
  refine T.d_l_no_legs.fn.ok sc_l_no_legs (fun vs H Q E h => ?_) (fun cdv A outer s H vs Q E hr h => ⟨rd_l_no_legs K C E, ?_, pure_l_no_legs vs H Q E h⟩)
  · first
    | (obtain ⟨_, rfl, _⟩ := h; rfl)
    | (obtain ⟨_, _, rfl, _⟩ := h; rfl)
    | (obtain ⟨_, _, _, rfl, _⟩ := h; rfl)
    | (obtain ⟨_, _, _, _, rfl, _⟩ := h; rfl)
    | (obtain ⟨_, _, _, _, _, rfl, _⟩ := h; rfl)
    | (obtain ⟨_, _, _, _, _, _, rfl, _⟩ := h; rfl)
    | (obtain ⟨_, _, _, _, _, _, _, rfl, _⟩ := h; rfl)
  · unfold rd_l_no_legs
    exact (pss_cons (ps_set (i := 2) sc_l_no_legs.nd rfl (Or.inl rfl) (pe_callS G_l_legs (hr.mono (by decide)) (by rfl) T.d_l_legs.mg T.d_l_legs.fn.kp T.d_l_legs.bi pass0S (pa_cons (pv 1) pa_nil))) (pss_cons (ps_set (i := 3) sc_l_no_legs.nd rfl (Or.inl rfl) (pe_callS G_l_take (hr.mono (by decide)) (by rfl) T.d_l_take.mg T.d_l_take.fn.kp T.d_l_take.bi pass0S (pa_cons (pv 0) (pa_cons (pe_callB c_len (by rfl) T.b_len (by decide +kernel) (pa_cons (pv 2) pa_nil)) pa_nil)))) (pss_cons (ps_set (i := 4) sc_l_no_legs.nd rfl (Or.inl rfl) (pe_callS G_l_take (hr.mono (by decide)) (by rfl) T.d_l_take.mg T.d_l_take.fn.kp T.d_l_take.bi pass0S (pa_cons (pv 0) (pa_cons pe_int pa_nil)))) (Evl.pss_cut (ps_if (PW.pt (pw_and (pt_cmpR (op_eqF hr.units) (pv 4) pe_int (nomark _)) (pw_and1 (pt_cmpR op_gtF (pe_callB c_len (by rfl) T.b_len (by decide +kernel) (pa_cons (pv 2) pa_nil)) pe_int (nomark _))))) (pss_one (ps_ret (pe_lst (pa_cons (pe_slice sl_F2 (pv 2) po_none (po_some (pe_un un_negF pe_int))) pa_nil)))) pss_nil) (Evl.pss_cut (ps_if (PW.pt (pw_and (pt_cmpR (op_eqF hr.units) (pv 4) pe_int (nomark _)) (pw_and1 (pt_cmpR op_gtF (pe_callB c_len (by rfl) T.b_len (by decide +kernel) (pa_cons (pv 2) pa_nil)) pe_int (nomark _))))) (pss_one (ps_ret (pe_lst (pa_cons (pe_op op_addF (pe_slice sl_F2 (pv 2) (po_some pe_int) po_none) (pe_slice sl_F2 (pv 2) po_none (po_some pe_int))) pa_nil)))) pss_nil) (pss_cons (ps_if (pt_cmpR (op_eqF hr.units) (pv 4) pe_int (nomark _)) (pss_one (ps_ret (pe_lst (pa_cons (pe_op op_addF (pe_op op_addF (pe_slice sl_F2 (pv 2) po_none (po_some (pv 3))) (pe_lst (pa_cons (pe_ix ix_F (pv 2) (pv 3) (fun _ _ => rfl)) pa_nil))) (pe_slice sl_F2 (pv 2) (po_some (pv 3)) po_none)) pa_nil)))) pss_nil) (Evl.pss_cut (ps_if (PW.pt (pw_and (pt_cmpR (op_eqF hr.units) (pv 4) pe_int (nomark _)) (pw_and1 (pt_cmpR op_gtF (pv 3) pe_int (nomark _))))) (pss_one (ps_ret (pe_lst (pa_cons (pe_op op_addF (pe_op op_addF (pe_slice sl_F2 (pv 2) po_none (po_some (pv 3))) (pe_lst (pa_cons (pe_tup (pa_cons (pe_ix ix_F (pe_ix ix_F (pv 2) (pv 3) (fun _ _ => rfl)) pe_int (fun _ _ => rfl)) (pa_cons (pe_callS G_l_fresh (hr.mono (by decide)) (by rfl) T.d_l_fresh.mg T.d_l_fresh.fn.kp T.d_l_fresh.bi pass0S (pa_cons (pv 0) (pa_cons (pe_lst (pa_cons (pe_ix ix_F (pe_ix ix_F (pv 2) (pv 3) (fun _ _ => rfl)) pe_int (fun _ _ => rfl)) pa_nil)) pa_nil))) (pa_cons (pe_ix ix_F (pe_ix ix_F (pv 2) (pv 3) (fun _ _ => rfl)) pe_int (fun _ _ => rfl)) pa_nil)))) pa_nil))) (pe_slice sl_F2 (pv 2) (po_some (pe_op op_addF (pv 3) pe_int)) po_none)) pa_nil)))) pss_nil) (pss_cons (ps_if (pt_cmpR (op_eqF hr.units) (pv 4) pe_int (nomark _)) (pss_one (ps_ret (pe_lst (pa_cons (pe_op op_addF (pv 2) (pe_lst (pa_cons (pe_tup (pa_cons (pe_callB (c_min rfl) (by rfl) T.b_min (by decide +kernel) (pa_cons pe_int (pa_cons (pe_callB c_len (by rfl) T.b_len (by decide +kernel) (pa_cons (pv 2) pa_nil)) pa_nil))) (pa_cons (pe_ix ix_F (pv 1) (pe_un un_negF pe_int) (fun _ _ => rfl)) (pa_cons pe_str pa_nil)))) pa_nil))) pa_nil)))) pss_nil) (pss_cons (ps_if (pt_cmpR (op_eqF hr.units) (pv 4) pe_int (nomark _)) (pss_one (ps_ret (pe_lst (pa_cons (pe_lc (own := [(("leg" : Str), 5)]) (g := (gName 5)) rfl sc_l_no_legs.nd (pi_list (pv 2)) (blkOk_by (own := [(("leg" : Str), 5)]) (N := sN_l_no_legs) (sc := defScope s_l_no_legs) (by decide +kernel)) (fun _ _ _ _ _ => (pg_name (i := 5) sc_l_no_legs.nd rfl (by first | exact .inl rfl | exact .inr rfl))) (fun _ _ _ _ _ => pts_nil) (fun _ _ _ _ _ => (pe_tup (pa_cons (pe_op op_addF (pe_ix ix_F (pv 5) pe_int (fun _ _ => rfl)) pe_int) (pa_cons (pe_ix ix_F (pv 5) pe_int (fun _ _ => rfl)) (pa_cons (pe_ix ix_F (pv 5) pe_int (fun _ _ => rfl)) pa_nil)))))) pa_nil)))) pss_nil) (pss_one (ps_ret (pe_lst (pa_cons (pe_callS G_l_pick (hr.mono (by decide)) (by rfl) T.d_l_pick.mg T.d_l_pick.fn.kp T.d_l_pick.bi pass0S (pa_cons (pv 0) (pa_cons (pe_lst (pa_cons (pe_lst pa_nil) (pa_cons (pe_callTy c_tuple (by rfl) T.b_tuple (by decide +kernel) (pa_cons (pv 2) pa_nil)) (pa_cons pe_non (pa_cons (pe_lc (own := [(("leg" : Str), 5)]) (g := (gName 5)) rfl sc_l_no_legs.nd (pi_list (pv 2)) (blkOk_by (own := [(("leg" : Str), 5)]) (N := sN_l_no_legs) (sc := defScope s_l_no_legs) (by decide +kernel)) (fun _ _ _ _ _ => (pg_name (i := 5) sc_l_no_legs.nd rfl (by first | exact .inl rfl | exact .inr rfl))) (fun _ _ _ _ _ => pts_nil) (fun _ _ _ _ _ => (pe_callTy c_list (by rfl) T.b_list (by decide +kernel) (pa_cons (pv 5) pa_nil)))) (pa_cons (pe_op op_addF (pv 2) (pe_lst (pa_cons pe_non pa_nil))) (pa_cons (pv 1) (pa_cons pe_dnewK (pa_cons pe_str pa_nil))))))))) pa_nil))) pa_nil)))))))))))))
theorem ok_l_is_legs (T : Txt K mg C) : FnOk P w K mg base CX0 4 T.d_l_is_legs.f T.d_l_is_legs.fd [("value" : Str)] (sp_l_is_legs K C) := by
  have G_l_is_leg := ok_l_is_leg (P := P) (w := w) (mg := mg) (base := base) T
  refine T.d_l_is_legs.fn.ok sc_l_is_legs (fun vs H Q E h => ?_) (fun cdv A outer s H vs Q E hr h => ⟨rd_l_is_legs K C E, ?_, pure_l_is_legs vs H Q E h⟩)
  · first
    | (obtain ⟨_, rfl, _⟩ := h; rfl)
    | (obtain ⟨_, _, rfl, _⟩ := h; rfl)
    | (obtain ⟨_, _, _, rfl, _⟩ := h; rfl)
    | (obtain ⟨_, _, _, _, rfl, _⟩ := h; rfl)
    | (obtain ⟨_, _, _, _, _, rfl, _⟩ := h; rfl)
    | (obtain ⟨_, _, _, _, _, _, rfl, _⟩ := h; rfl)
    | (obtain ⟨_, _, _, _, _, _, _, rfl, _⟩ := h; rfl)
  · unfold rd_l_is_legs
    exact (pss_cons (ps_if (PW.pt (pw_or (pt_not (pt_val (pe_callB c_isi (by rfl) T.b_isinstance (by decide +kernel) (pa_cons (pv 0) (pa_cons (pe_bltn (v := .ty "list") (by rfl) T.b_list (by decide +kernel) rfl) pa_nil))))) (pw_or1 (pt_cmpR (op_eqF hr.units) (pe_callB c_len (by rfl) T.b_len (by decide +kernel) (pa_cons (pv 0) pa_nil)) pe_int (nomark _))))) (pss_one (ps_ret pe_bl)) pss_nil) (pss_cons (ps_for PassesOwn.never rfl (pi_range1 (by rfl) T.b_range (pa_cons (pe_callB c_len (by rfl) T.b_len (by decide +kernel) (pa_cons (pv 0) pa_nil)) pa_nil)) (pg_name (i := 1) sc_l_is_legs.nd rfl (by first | exact .inl rfl | exact .inr rfl)) (pss_cons (ps_if (PW.pt (pw_or (pt_not (pt_val (pe_callS G_l_is_leg (hr.mono (by decide)) (by rfl) T.d_l_is_leg.mg T.d_l_is_leg.fn.kp T.d_l_is_leg.bi pass0S (pa_cons (pe_ix ix_F (pv 0) (pv 1) (fun _ _ => rfl)) pa_nil)))) (pw_or1 (pt_cmpR (op_neF hr.units) (pe_ix ix_F (pe_ix ix_F (pv 0) (pv 1) (fun _ _ => rfl)) pe_int (fun _ _ => rfl)) (pv 1) (nomark _))))) (pss_one (ps_ret pe_bl)) pss_nil) (pss_one (ps_if (PW.pt (pw_and (pt_cmpR op_gtF (pv 1) pe_int (nomark _)) (pw_and1 (pt_cmpR (op_neF hr.units) (pe_ix ix_F (pe_ix ix_F (pv 0) (pv 1) (fun _ _ => rfl)) pe_int (fun _ _ => rfl)) (pe_ix ix_F (pe_ix ix_F (pv 0) (pe_op op_subF (pv 1) pe_int) (fun _ _ => rfl)) pe_int (fun _ _ => rfl)) (nomark _))))) (pss_one (ps_ret pe_bl)) pss_nil)))) (pss_one (ps_ret (pe_cmpR (op_eqF hr.units) (pe_ix ix_F (pe_ix ix_F (pv 0) (pe_un un_negF pe_int) (fun _ _ => rfl)) pe_int (fun _ _ => rfl)) pe_str (nomark _))))))
theorem ok_l_told_of (T : Txt K mg C) : FnOk P w K mg base CX0 8 T.d_l_told_of.f T.d_l_told_of.fd [("form" : Str), ("value" : Str)] (sp_l_told_of K C) := by
  have G_legs_of := ok_legs_of (P := P) (w := w) (mg := mg) (base := base) T
  have G_plan_of := ok_plan_of (P := P) (w := w) (mg := mg) (base := base) T
  refine T.d_l_told_of.fn.ok sc_l_told_of (fun vs H Q E h => ?_) (fun cdv A outer s H vs Q E hr h => ⟨rd_l_told_of K C E, ?_, pure_l_told_of T.ef vs H Q E h⟩)
  · first
    | (obtain ⟨_, rfl, _⟩ := h; rfl)
    | (obtain ⟨_, _, rfl, _⟩ := h; rfl)
    | (obtain ⟨_, _, _, rfl, _⟩ := h; rfl)
    | (obtain ⟨_, _, _, _, rfl, _⟩ := h; rfl)
    | (obtain ⟨_, _, _, _, _, rfl, _⟩ := h; rfl)
    | (obtain ⟨_, _, _, _, _, _, rfl, _⟩ := h; rfl)
    | (obtain ⟨_, _, _, _, _, _, _, rfl, _⟩ := h; rfl)
  · unfold rd_l_told_of
    exact (pss_one (ps_tryX (tb := fun W => (tSeq (tIfS (tTest (tOp (fEq K) (tVar 0) (tC (.int 0)))) (tRet (tLst (tCons (tCallS (sp_legs_of K C) (WE W) (tCons (tVar 1) tNil)) tNil))) tNext) (tRet (tLst (tCons (tCallS (sp_plan_of K C) (WE W) (tCons (tVar 1) tNil)) tNil))))) (Wout := fun _ _ _ _ => False) rfl rfl takesN0 (fun W pn xe tk _ => (pss_cons (ps_if (pt_cmpR (op_eqF hr.units) (pv 0) pe_int (nomark _)) (pss_one (ps_ret (pe_lst (pa_cons (pe_callS G_legs_of (hr.mono (by decide)) (by rfl) T.d_legs_of.mg T.d_legs_of.fn.kp T.d_legs_of.bi (fun σ => L2N.passAt tk σ) (pa_cons (pv 1) pa_nil)) pa_nil)))) pss_nil) (pss_one (ps_ret (pe_lst (pa_cons (pe_callS G_plan_of (hr.mono (by decide)) (by rfl) T.d_plan_of.mg T.d_plan_of.fn.kp T.d_plan_of.bi (fun σ => L2N.passAt tk σ) (pa_cons (pv 1) pa_nil)) pa_nil)))))) (HdX.as (i := 2) sc_l_told_of.nd rfl rfl ⟨rfl, by decide, .inl T.g_BadShape⟩ (fun a oe cls d pn hz hf => (pss_one (ps_ret (pe_lst (pa_cons (pe_xf T.e_BadShape.xf (T.e_BadShape.no _ (by decide +kernel)) hz.zc hf (pv 2)) (pa_cons (pe_and (pe_callB (c_isE T.e_BadShape.ec hz hf) (by rfl) T.b_isinstance (by decide +kernel) (pa_cons (pv 2) (pa_cons (pe_glob (v := .ref C.CrossError) (by rfl) T.g_CrossError rfl) pa_nil))) (pe_one (pe_not (pe_callB (c_isET T.e_BadShape.ec hz hf) (by rfl) T.b_isinstance (by decide +kernel) (pa_cons (pv 2) (pa_cons (pe_tup (pa_cons (pe_glob (v := .ref C.BadText) (by rfl) T.g_BadText rfl) (pa_cons (pe_glob (v := .ref C.BadErrand) (by rfl) T.g_BadErrand rfl) pa_nil))) pa_nil)))))) pa_nil)))))) HdX.nil)))
theorem ok_l_asked (T : Txt K mg C) : FnOk P w K mg base CX0 9 T.d_l_asked.f T.d_l_asked.fd [("value" : Str)] (sp_l_asked K C) := by
  have G_l_copy := ok_l_copy (P := P) (w := w) (mg := mg) (base := base) T
  have G_l_is_legs := ok_l_is_legs (P := P) (w := w) (mg := mg) (base := base) T
  have G_l_same := ok_l_same (P := P) (w := w) (mg := mg) (base := base) T
  have G_l_told_of := ok_l_told_of (P := P) (w := w) (mg := mg) (base := base) T
  refine T.d_l_asked.fn.ok sc_l_asked (fun vs H Q E h => ?_) (fun cdv A outer s H vs Q E hr h => ⟨rd_l_asked K C E, ?_, pure_l_asked vs H Q E h⟩)
  · first
    | (obtain ⟨_, rfl, _⟩ := h; rfl)
    | (obtain ⟨_, _, rfl, _⟩ := h; rfl)
    | (obtain ⟨_, _, _, rfl, _⟩ := h; rfl)
    | (obtain ⟨_, _, _, _, rfl, _⟩ := h; rfl)
    | (obtain ⟨_, _, _, _, _, rfl, _⟩ := h; rfl)
    | (obtain ⟨_, _, _, _, _, _, rfl, _⟩ := h; rfl)
    | (obtain ⟨_, _, _, _, _, _, _, rfl, _⟩ := h; rfl)
  · unfold rd_l_asked
    exact (pss_cons (ps_set (i := 1) sc_l_asked.nd rfl (Or.inl rfl) (pe_callS G_l_copy (hr.mono (by decide)) (by rfl) T.d_l_copy.mg T.d_l_copy.fn.kp T.d_l_copy.bi pass0S (pa_cons (pv 0) pa_nil))) (pss_cons (ps_set (i := 2) sc_l_asked.nd rfl (Or.inl rfl) (pe_lst (pa_cons pe_str (pa_cons pe_bl pa_nil)))) (Evl.pss_cut (ps_if (pt_val (pe_callS G_l_is_legs (hr.mono (by decide)) (by rfl) T.d_l_is_legs.mg T.d_l_is_legs.fn.kp T.d_l_is_legs.bi pass0S (pa_cons (pv 0) pa_nil))) (pss_one (ps_set (i := 2) sc_l_asked.nd rfl (Or.inl rfl) (pe_lst (pa_cons (pe_callTy c_tuple (by rfl) T.b_tuple (by decide +kernel) (pa_cons (pe_lc (own := [(("leg" : Str), 4)]) (g := (gName 4)) rfl sc_l_asked.nd (pi_list (pv 0)) (blkOk_by (own := [(("leg" : Str), 4)]) (N := sN_l_asked) (sc := defScope s_l_asked) (by decide +kernel)) (fun _ _ _ _ _ => (pg_name (i := 4) sc_l_asked.nd rfl (by first | exact .inl rfl | exact .inr rfl))) (fun _ _ _ _ _ => pts_nil) (fun _ _ _ _ _ => (pe_ix ix_F (pv 4) pe_int (fun _ _ => rfl)))) pa_nil)) pa_nil)))) pss_nil) (pss_cons (ps_for PassesOwn.never rfl (pi_range1 (by rfl) T.b_range (pa_cons pe_int pa_nil)) (pg_name (i := 3) sc_l_asked.nd rfl (by first | exact .inl rfl | exact .inr rfl)) (pss_one (ps_if (PW.pt (pw_or (pt_not (pt_val (pe_callS G_l_same (hr.mono (by decide)) (by rfl) T.d_l_same.mg T.d_l_same.fn.kp T.d_l_same.bi pass0S (pa_cons (pe_callS G_l_told_of (hr.mono (by decide)) (by rfl) T.d_l_told_of.mg T.d_l_told_of.fn.kp T.d_l_told_of.bi pass0S (pa_cons pe_int (pa_cons (pv 1) pa_nil))) (pa_cons (pv 2) pa_nil))))) (pw_or1 (pt_not (pt_val (pe_callS G_l_same (hr.mono (by decide)) (by rfl) T.d_l_same.mg T.d_l_same.fn.kp T.d_l_same.bi pass0S (pa_cons (pv 1) (pa_cons (pv 0) pa_nil)))))))) (pss_one (ps_ret pe_bl)) pss_nil))) (pss_one (ps_ret pe_bl))))))
theorem ok_l_legs_asked (T : Txt K mg C) : FnOk P w K mg base CX0 9 T.d_l_legs_asked.f T.d_l_legs_asked.fd [("value" : Str)] (sp_l_legs_asked K C) := by
  have G_l_copy := ok_l_copy (P := P) (w := w) (mg := mg) (base := base) T
  have G_l_is_plan := ok_l_is_plan (P := P) (w := w) (mg := mg) (base := base) T
  have G_l_legs := ok_l_legs (P := P) (w := w) (mg := mg) (base := base) T
  have G_l_same := ok_l_same (P := P) (w := w) (mg := mg) (base := base) T
  have G_l_spoil := ok_l_spoil (P := P) (w := w) (mg := mg) (base := base) T
  have G_l_told_of := ok_l_told_of (P := P) (w := w) (mg := mg) (base := base) T
  refine T.d_l_legs_asked.fn.ok sc_l_legs_asked (fun vs H Q E h => ?_) (fun cdv A outer s H vs Q E hr h => ⟨rd_l_legs_asked K C E, ?_, pure_l_legs_asked vs H Q E h⟩)
  · first
    | (obtain ⟨_, rfl, _⟩ := h; rfl)
    | (obtain ⟨_, _, rfl, _⟩ := h; rfl)
    | (obtain ⟨_, _, _, rfl, _⟩ := h; rfl)
    | (obtain ⟨_, _, _, _, rfl, _⟩ := h; rfl)
    | (obtain ⟨_, _, _, _, _, rfl, _⟩ := h; rfl)
    | (obtain ⟨_, _, _, _, _, _, rfl, _⟩ := h; rfl)
    | (obtain ⟨_, _, _, _, _, _, _, rfl, _⟩ := h; rfl)
  · unfold rd_l_legs_asked
    exact (pss_cons (ps_set (i := 1) sc_l_legs_asked.nd rfl (Or.inl rfl) (pe_lst (pa_cons pe_str (pa_cons pe_bl pa_nil)))) (Evl.pss_cut (ps_if (pt_val (pe_callS G_l_is_plan (hr.mono (by decide)) (by rfl) T.d_l_is_plan.mg T.d_l_is_plan.fn.kp T.d_l_is_plan.bi pass0S (pa_cons (pv 0) pa_nil))) (pss_one (ps_set (i := 1) sc_l_legs_asked.nd rfl (Or.inl rfl) (pe_lst (pa_cons (pe_callS G_l_legs (hr.mono (by decide)) (by rfl) T.d_l_legs.mg T.d_l_legs.fn.kp T.d_l_legs.bi pass0S (pa_cons (pv 0) pa_nil)) pa_nil)))) pss_nil) (pss_cons (ps_set (i := 2) sc_l_legs_asked.nd rfl (Or.inl rfl) (pe_callS G_l_copy (hr.mono (by decide)) (by rfl) T.d_l_copy.mg T.d_l_copy.fn.kp T.d_l_copy.bi pass0S (pa_cons (pv 0) pa_nil))) (pss_cons (ps_set (i := 3) sc_l_legs_asked.nd rfl (Or.inl rfl) (pe_callS G_l_told_of (hr.mono (by decide)) (by rfl) T.d_l_told_of.mg T.d_l_told_of.fn.kp T.d_l_told_of.bi pass0S (pa_cons pe_int (pa_cons (pv 2) pa_nil)))) (pss_cons (ps_if (pt_not (pt_val (pe_callS G_l_same (hr.mono (by decide)) (by rfl) T.d_l_same.mg T.d_l_same.fn.kp T.d_l_same.bi pass0S (pa_cons (pv 3) (pa_cons (pv 1) pa_nil))))) (pss_one (ps_ret pe_bl)) pss_nil) (pss_cons (ps_expr (pe_callS G_l_spoil (hr.mono (by decide)) (by rfl) T.d_l_spoil.mg T.d_l_spoil.fn.kp T.d_l_spoil.bi pass0S (pa_cons (pv 3) pa_nil))) (pss_one (ps_ret (pe_and (pe_callS G_l_same (hr.mono (by decide)) (by rfl) T.d_l_same.mg T.d_l_same.fn.kp T.d_l_same.bi pass0S (pa_cons (pe_callS G_l_told_of (hr.mono (by decide)) (by rfl) T.d_l_told_of.mg T.d_l_told_of.fn.kp T.d_l_told_of.bi pass0S (pa_cons pe_int (pa_cons (pv 2) pa_nil))) (pa_cons (pv 1) pa_nil))) (pe_one (pe_callS G_l_same (hr.mono (by decide)) (by rfl) T.d_l_same.mg T.d_l_same.fn.kp T.d_l_same.bi pass0S (pa_cons (pv 2) (pa_cons (pv 0) pa_nil)))))))))))))
theorem ok_law (T : Txt K mg C) : FnOk P w K mg base CX0 12 T.d_law.f T.d_law.fd [("script" : Str)] (sp_law K C) := by
  have G_l_asked := ok_l_asked (P := P) (w := w) (mg := mg) (base := base) T
  have G_l_bent := ok_l_bent (P := P) (w := w) (mg := mg) (base := base) T
  have G_l_edge := ok_l_edge (P := P) (w := w) (mg := mg) (base := base) T
  have G_l_legs := ok_l_legs (P := P) (w := w) (mg := mg) (base := base) T
  have G_l_legs_asked := ok_l_legs_asked (P := P) (w := w) (mg := mg) (base := base) T
  have G_l_names := ok_l_names (P := P) (w := w) (mg := mg) (base := base) T
  have G_l_no_legs := ok_l_no_legs (P := P) (w := w) (mg := mg) (base := base) T
  have G_l_pick := ok_l_pick (P := P) (w := w) (mg := mg) (base := base) T
  have G_l_store := ok_l_store (P := P) (w := w) (mg := mg) (base := base) T
  have G_l_take := ok_l_take (P := P) (w := w) (mg := mg) (base := base) T
  refine T.d_law.fn.ok sc_law (fun vs H Q E h => ?_) (fun cdv A outer s H vs Q E hr h => ⟨rd_law K C E, ?_, pure_law vs H Q E h⟩)
  · first
    | (obtain ⟨_, rfl, _⟩ := h; rfl)
    | (obtain ⟨_, _, rfl, _⟩ := h; rfl)
    | (obtain ⟨_, _, _, rfl, _⟩ := h; rfl)
    | (obtain ⟨_, _, _, _, rfl, _⟩ := h; rfl)
    | (obtain ⟨_, _, _, _, _, rfl, _⟩ := h; rfl)
    | (obtain ⟨_, _, _, _, _, _, rfl, _⟩ := h; rfl)
    | (obtain ⟨_, _, _, _, _, _, _, rfl, _⟩ := h; rfl)
  · unfold rd_law
    exact (pss_cons (ps_set (i := 1) sc_law.nd rfl (Or.inr rfl) (pe_callS G_l_store (hr.mono (by decide)) (by rfl) T.d_l_store.mg T.d_l_store.fn.kp T.d_l_store.bi pass0S (pa_cons (pv 0) pa_nil))) (pss_cons (ps_set (i := 2) sc_law.nd rfl (Or.inr rfl) (pe_callS G_l_names (hr.mono (by decide)) (by rfl) T.d_l_names.mg T.d_l_names.fn.kp T.d_l_names.bi pass0S (pa_cons (pv 1) (pa_cons (pe_op op_addF pe_int (pe_callS G_l_take (hr.mono (by decide)) (by rfl) T.d_l_take.mg T.d_l_take.fn.kp T.d_l_take.bi pass0S (pa_cons (pv 1) (pa_cons pe_int pa_nil)))) pa_nil)))) (pss_cons (ps_set (i := 3) sc_law.nd rfl (Or.inl rfl) (pe_callTy c_tuple (by rfl) T.b_tuple (by decide +kernel) (pa_cons (pe_lc (own := [(("k" : Str), 10)]) (g := (gName 10)) rfl sc_law.nd (pi_range1 (by rfl) T.b_range (pa_cons (pe_callS G_l_edge (hr.mono (by decide)) (by rfl) T.d_l_edge.mg T.d_l_edge.fn.kp T.d_l_edge.bi pass0S (pa_cons (pv 1) (pa_cons pe_int (pa_cons pe_int pa_nil)))) pa_nil)) (blkOk_by (own := [(("k" : Str), 10)]) (N := sN_law) (sc := defScope s_law) (by decide +kernel)) (fun _ _ _ _ _ => (pg_name (i := 10) sc_law.nd rfl (by first | exact .inl rfl | exact .inr rfl))) (fun _ _ _ _ _ => pts_nil) (fun _ _ _ _ _ => (pe_callS G_l_pick (hr.mono (by decide)) (by rfl) T.d_l_pick.mg T.d_l_pick.fn.kp T.d_l_pick.bi pass0S (pa_cons (pv 1) (pa_cons (pv 2) pa_nil))))) pa_nil))) (pss_cons (ps_set (i := 4) sc_law.nd rfl (Or.inl rfl) (pe_callTy c_tuple (by rfl) T.b_tuple (by decide +kernel) (pa_cons (pe_lc (own := [(("k" : Str), 10)]) (g := (gName 10)) rfl sc_law.nd (pi_range1 (by rfl) T.b_range (pa_cons (pe_callS G_l_edge (hr.mono (by decide)) (by rfl) T.d_l_edge.mg T.d_l_edge.fn.kp T.d_l_edge.bi pass0S (pa_cons (pv 1) (pa_cons pe_int (pa_cons pe_int pa_nil)))) pa_nil)) (blkOk_by (own := [(("k" : Str), 10)]) (N := sN_law) (sc := defScope s_law) (by decide +kernel)) (fun _ _ _ _ _ => (pg_name (i := 10) sc_law.nd rfl (by first | exact .inl rfl | exact .inr rfl))) (fun _ _ _ _ _ => pts_nil) (fun _ _ _ _ _ => (pe_callS G_l_pick (hr.mono (by decide)) (by rfl) T.d_l_pick.mg T.d_l_pick.fn.kp T.d_l_pick.bi pass0S (pa_cons (pv 1) (pa_cons (pv 2) pa_nil))))) pa_nil))) (pss_cons (ps_set (i := 5) sc_law.nd rfl (Or.inl rfl) (pe_callS G_l_legs (hr.mono (by decide)) (by rfl) T.d_l_legs.mg T.d_l_legs.fn.kp T.d_l_legs.bi pass0S (pa_cons (pv 3) pa_nil))) (pss_cons (ps_set (i := 6) sc_law.nd rfl (Or.inl rfl) (pe_callS G_l_take (hr.mono (by decide)) (by rfl) T.d_l_take.mg T.d_l_take.fn.kp T.d_l_take.bi pass0S (pa_cons (pv 1) (pa_cons (pe_op op_addF (pe_callB c_len (by rfl) T.b_len (by decide +kernel) (pa_cons (pv 5) pa_nil)) pe_int) pa_nil)))) (pss_cons (ps_set (i := 7) sc_law.nd rfl (Or.inl rfl) (pe_callS G_l_bent (hr.mono (by decide)) (by rfl) T.d_l_bent.mg T.d_l_bent.fn.kp T.d_l_bent.bi pass0S (pa_cons (pv 1) (pa_cons (pv 5) pa_nil)))) (pss_cons (ps_set (i := 8) sc_law.nd rfl (Or.inl rfl) (pe_lst (pa_cons (pv 5) (pa_cons (pe_ix ix_F (pe_callS G_l_no_legs (hr.mono (by decide)) (by rfl) T.d_l_no_legs.mg T.d_l_no_legs.fn.kp T.d_l_no_legs.bi pass0S (pa_cons (pv 1) (pa_cons (pv 3) pa_nil))) pe_int (fun _ _ => rfl)) (pa_cons (pe_callS G_l_legs (hr.mono (by decide)) (by rfl) T.d_l_legs.mg T.d_l_legs.fn.kp T.d_l_legs.bi pass0S (pa_cons (pv 4) pa_nil)) (pa_cons (pe_op op_addF (pe_slice sl_F2 (pv 5) po_none (po_some (pv 6))) (pe_slice sl_F2 (pe_callS G_l_legs (hr.mono (by decide)) (by rfl) T.d_l_legs.mg T.d_l_legs.fn.kp T.d_l_legs.bi pass0S (pa_cons (pv 4) pa_nil)) (po_some (pv 6)) po_none)) pa_nil)))))) (pss_cons (ps_set (i := 8) sc_law.nd rfl (Or.inl rfl) (pe_op op_addF (pv 8) (pe_lst (pa_cons (pv 7) (pa_cons (pe_callS G_l_bent (hr.mono (by decide)) (by rfl) T.d_l_bent.mg T.d_l_bent.fn.kp T.d_l_bent.bi pass0S (pa_cons (pv 1) (pa_cons (pv 7) pa_nil))) (pa_cons (pe_op op_addF (pv 5) (pe_callS G_l_legs (hr.mono (by decide)) (by rfl) T.d_l_legs.mg T.d_l_legs.fn.kp T.d_l_legs.bi pass0S (pa_cons (pv 4) pa_nil))) (pa_cons (pv 5) pa_nil))))))) (pss_cons (ps_for PassesOwn.never rfl (pi_list (pv 8)) (pg_name (i := 9) sc_law.nd rfl (by first | exact .inl rfl | exact .inr rfl)) (pss_one (ps_if (pt_not (pt_val (pe_callS G_l_asked (hr.mono (by decide)) (by rfl) T.d_l_asked.mg T.d_l_asked.fn.kp T.d_l_asked.bi pass0S (pa_cons (pv 9) pa_nil)))) (pss_one (ps_ret pe_bl)) pss_nil))) (pss_cons (ps_set (i := 7) sc_law.nd rfl (Or.inl rfl) (pe_callS G_l_bent (hr.mono (by decide)) (by rfl) T.d_l_bent.mg T.d_l_bent.fn.kp T.d_l_bent.bi pass0S (pa_cons (pv 1) (pa_cons (pv 3) pa_nil)))) (pss_cons (ps_for PassesOwn.never rfl (pi_list (pe_lst (pa_cons (pv 3) (pa_cons (pv 7) (pa_cons (pe_op op_addF (pv 3) (pv 4)) (pa_cons (pe_callS G_l_bent (hr.mono (by decide)) (by rfl) T.d_l_bent.mg T.d_l_bent.fn.kp T.d_l_bent.bi pass0S (pa_cons (pv 1) (pa_cons (pv 7) pa_nil))) (pa_cons (pv 4) (pa_cons (pv 3) pa_nil)))))))) (pg_name (i := 9) sc_law.nd rfl (by first | exact .inl rfl | exact .inr rfl)) (pss_one (ps_if (pt_not (pt_val (pe_callS G_l_legs_asked (hr.mono (by decide)) (by rfl) T.d_l_legs_asked.mg T.d_l_legs_asked.fn.kp T.d_l_legs_asked.bi pass0S (pa_cons (pv 9) pa_nil)))) (pss_one (ps_ret pe_bl)) pss_nil))) (pss_one (ps_ret pe_bl))))))))))))))
end
end XB

/-! The end. -/
namespace XB
open PySem PySem.Spec PyProof.Rows L2
def sp_lawK (K : PySem.W.Frag) : Sp := fun vs H Q _ => ∃ (a : Addr) (ns : List Int), vs = [.ref a] ∧ SqL K H a (ns.map V.int) ∧ ns.length ≤ 63 ∧ ∀ H', Q (.bl true) H'
theorem all_mk {P : Program} {w : World} {K : PySem.W.Frag} {h : Heap} {mg : Str → Option Value} {fa : Addr} (X : K.In h) (G : h.Ns mainGlobals mg) (hfa : mg "law" = some (.ref fa))
    {q0 q1 q2 q3 : Addr}
    {f1 : Addr} {od1 an1 : Option Addr} {sl1 : Array (Option Value)} {oc1 kV1 dc1 pm1 cd1 ct1 : Value}
    {nm1 qn1 : Str} {N1 : Addr} {bs1 bm1 : List Value} {sn1 : List Str} {sub1 : List Value} {ab1 : Bool} {col1 : Option Bool} {dd1 : Option Addr} {m01 m11 m21 m31 m51 : Option Value}
    {f2 : Addr} {od2 an2 : Option Addr} {sl2 : Array (Option Value)} {oc2 kV2 dc2 pm2 cd2 ct2 : Value}
    {f3 : Addr} {od3 an3 : Option Addr} {sl3 : Array (Option Value)} {oc3 kV3 dc3 pm3 cd3 ct3 : Value}
    {f4 : Addr} {od4 an4 : Option Addr} {sl4 : Array (Option Value)} {oc4 kV4 dc4 pm4 cd4 ct4 : Value}
    {f5 : Addr} {od5 an5 : Option Addr} {sl5 : Array (Option Value)} {oc5 kV5 dc5 pm5 cd5 ct5 : Value}
    {f6 : Addr} {od6 an6 : Option Addr} {sl6 : Array (Option Value)} {oc6 kV6 dc6 pm6 cd6 ct6 : Value}
    {f7 : Addr} {od7 an7 : Option Addr} {sl7 : Array (Option Value)} {oc7 kV7 dc7 pm7 cd7 ct7 : Value}
    {f8 : Addr} {od8 an8 : Option Addr} {sl8 : Array (Option Value)} {oc8 kV8 dc8 pm8 cd8 ct8 : Value}
    {f9 : Addr} {od9 an9 : Option Addr} {sl9 : Array (Option Value)} {oc9 kV9 dc9 pm9 cd9 ct9 : Value}
    {f10 : Addr} {od10 an10 : Option Addr} {sl10 : Array (Option Value)} {oc10 kV10 dc10 pm10 cd10 ct10 : Value}
    {f11 : Addr} {od11 an11 : Option Addr} {sl11 : Array (Option Value)} {oc11 kV11 dc11 pm11 cd11 ct11 : Value}
    {f12 : Addr} {od12 an12 : Option Addr} {sl12 : Array (Option Value)} {oc12 kV12 dc12 pm12 cd12 ct12 : Value}
    {f13 : Addr} {od13 an13 : Option Addr} {sl13 : Array (Option Value)} {oc13 kV13 dc13 pm13 cd13 ct13 : Value}
    {f14 : Addr} {od14 an14 : Option Addr} {sl14 : Array (Option Value)} {oc14 kV14 dc14 pm14 cd14 ct14 : Value}
    {f15 : Addr} {od15 an15 : Option Addr} {sl15 : Array (Option Value)} {oc15 kV15 dc15 pm15 cd15 ct15 : Value}
    {f16 : Addr} {od16 an16 : Option Addr} {sl16 : Array (Option Value)} {oc16 kV16 dc16 pm16 cd16 ct16 : Value}
    {f17 : Addr} {od17 an17 : Option Addr} {sl17 : Array (Option Value)} {oc17 kV17 dc17 pm17 cd17 ct17 : Value}
    {f18 : Addr} {od18 an18 : Option Addr} {sl18 : Array (Option Value)} {oc18 kV18 dc18 pm18 cd18 ct18 : Value}
    {f19 : Addr} {od19 an19 : Option Addr} {sl19 : Array (Option Value)} {oc19 kV19 dc19 pm19 cd19 ct19 : Value}
    {f20 : Addr} {od20 an20 : Option Addr} {sl20 : Array (Option Value)} {oc20 kV20 dc20 pm20 cd20 ct20 : Value}
    {f21 : Addr} {od21 an21 : Option Addr} {sl21 : Array (Option Value)} {oc21 kV21 dc21 pm21 cd21 ct21 : Value}
    {f22 : Addr} {od22 an22 : Option Addr} {sl22 : Array (Option Value)} {oc22 kV22 dc22 pm22 cd22 ct22 : Value}
    {f23 : Addr} {od23 an23 : Option Addr} {sl23 : Array (Option Value)} {oc23 kV23 dc23 pm23 cd23 ct23 : Value}
    {f24 : Addr} {od24 an24 : Option Addr} {sl24 : Array (Option Value)} {oc24 kV24 dc24 pm24 cd24 ct24 : Value}
    {f25 : Addr} {od25 an25 : Option Addr} {sl25 : Array (Option Value)} {oc25 kV25 dc25 pm25 cd25 ct25 : Value}
    {f26 : Addr} {od26 an26 : Option Addr} {sl26 : Array (Option Value)} {oc26 kV26 dc26 pm26 cd26 ct26 : Value}
    {f27 : Addr} {od27 an27 : Option Addr} {sl27 : Array (Option Value)} {oc27 kV27 dc27 pm27 cd27 ct27 : Value}
    {f28 : Addr} {od28 an28 : Option Addr} {sl28 : Array (Option Value)} {oc28 kV28 dc28 pm28 cd28 ct28 : Value}
    {f29 : Addr} {od29 an29 : Option Addr} {sl29 : Array (Option Value)} {oc29 kV29 dc29 pm29 cd29 ct29 : Value}
    {f30 : Addr} {od30 an30 : Option Addr} {sl30 : Array (Option Value)} {oc30 kV30 dc30 pm30 cd30 ct30 : Value}
    {f31 : Addr} {od31 an31 : Option Addr} {sl31 : Array (Option Value)} {oc31 kV31 dc31 pm31 cd31 ct31 : Value}
    {f32 : Addr} {od32 an32 : Option Addr} {sl32 : Array (Option Value)} {oc32 kV32 dc32 pm32 cd32 ct32 : Value}
    {f33 : Addr} {od33 an33 : Option Addr} {sl33 : Array (Option Value)} {oc33 kV33 dc33 pm33 cd33 ct33 : Value}
    {f34 : Addr} {od34 an34 : Option Addr} {sl34 : Array (Option Value)} {oc34 kV34 dc34 pm34 cd34 ct34 : Value}
    {f35 : Addr} {od35 an35 : Option Addr} {sl35 : Array (Option Value)} {oc35 kV35 dc35 pm35 cd35 ct35 : Value}
    {f36 : Addr} {od36 an36 : Option Addr} {sl36 : Array (Option Value)} {oc36 kV36 dc36 pm36 cd36 ct36 : Value}
    {f37 : Addr} {od37 an37 : Option Addr} {sl37 : Array (Option Value)} {oc37 kV37 dc37 pm37 cd37 ct37 : Value}
    {f38 : Addr} {od38 an38 : Option Addr} {sl38 : Array (Option Value)} {oc38 kV38 dc38 pm38 cd38 ct38 : Value}
    {f39 : Addr} {od39 an39 : Option Addr} {sl39 : Array (Option Value)} {oc39 kV39 dc39 pm39 cd39 ct39 : Value}
    {f40 : Addr} {od40 an40 : Option Addr} {sl40 : Array (Option Value)} {oc40 kV40 dc40 pm40 cd40 ct40 : Value}
    {f41 : Addr} {od41 an41 : Option Addr} {sl41 : Array (Option Value)} {oc41 kV41 dc41 pm41 cd41 ct41 : Value}
    {t_END : Nat}
    {t_LAST_DAY : Nat}
    {t_LETTERS : Nat}
    {t_LETTERS_AND_DIGITS : Nat}
    {t_LONGEST_NAME : Nat}
    (a_BadErrand : PySem.W.nsIn K mainGlobals "BadErrand" = some (some (.ref q3)))
    (a_BadShape : PySem.W.nsIn K mainGlobals "BadShape" = some (some (.ref q1)))
    (a_BadText : PySem.W.nsIn K mainGlobals "BadText" = some (some (.ref q2)))
    (a_CrossError : PySem.W.nsIn K mainGlobals "CrossError" = some (some (.ref q0)))
    (x_BadShape : K.lookup q1 = some (excClassObj nm1 qn1 q1 N1 bs1 bm1 true sn1 sub1 ab1 col1 dd1 m01 m11 m21 m31 m51 "ValueError.__new__"))
    (rb_BadShape : PySem.HandSPX.refsVE bm1 = true)
    (sa_BadShape : PySem.W.findIn K (.ref q1) "__setattr__" = some (some (.builtin "object.__setattr__")))
    (ga_BadShape : PySem.W.findIn K (.ref q1) "__getattribute__" = some (some (.builtin "BaseException.__getattribute__")))
    (gg_BadShape : PySem.W.findIn K (.ref q1) "__getattr__" = some none)
    (ha_BadShape : PySem.W.findIn K (.ref q1) "__class__" = some (some (.builtin "object.__class__")))
    (iC_BadShape : PySem.W.findIn K (.ref q1) "__init__" = some (some (.ref f1)))
    (no_parameter_BadShape : PySem.W.findIn K (.ref q1) "parameter" = some none)
    (kC_BadShape : PySem.W.keepIn K (.ref q1) = true)
    (eC_BadShape : PySem.W.subIn K (.ref q1) (.type "BaseException") = some true)
    (tC_BadShape : PySem.W.typeIn K (.ref q1) = some (.type "type"))
    (hC_BadShape : PySem.W.hasDictIn K q1 = true)
    (mr_BadShape : PySem.W.mroIn K q1 (.type "object") = some true)
    (tI_BadShape : PySem.W.typeIn K (.ref f1) = some (.type "function"))
    (l_BadShape_init : K.lookup f1 = some ⟨oc1, od1, .func (PySem.W.fnOf "__init__" "BadShape.__init__" (defArgs s_BadShape_init) (defBody s_BadShape_init) (defScope s_BadShape_init) .none kV1 dc1 pm1 an1 cd1 ct1), sl1⟩)
    (c_BadShape_init : PySem.W.codeIn K cd1 "BadShape.__init__" = true)
    (k_BadShape_init : PySem.W.keepIn K (.ref f1) = true)
    (a_is_name : PySem.W.nsIn K mainGlobals "is_name" = some (some (.ref f2)))
    (l_is_name : K.lookup f2 = some ⟨oc2, od2, .func (PySem.W.fnOf "is_name" "is_name" (defArgs s_is_name) (defBody s_is_name) (defScope s_is_name) .none kV2 dc2 pm2 an2 cd2 ct2), sl2⟩)
    (c_is_name : PySem.W.codeIn K cd2 "is_name" = true)
    (k_is_name : PySem.W.keepIn K (.ref f2) = true)
    (a_is_place : PySem.W.nsIn K mainGlobals "is_place" = some (some (.ref f3)))
    (l_is_place : K.lookup f3 = some ⟨oc3, od3, .func (PySem.W.fnOf "is_place" "is_place" (defArgs s_is_place) (defBody s_is_place) (defScope s_is_place) .none kV3 dc3 pm3 an3 cd3 ct3), sl3⟩)
    (c_is_place : PySem.W.codeIn K cd3 "is_place" = true)
    (k_is_place : PySem.W.keepIn K (.ref f3) = true)
    (a_is_whole : PySem.W.nsIn K mainGlobals "is_whole" = some (some (.ref f4)))
    (l_is_whole : K.lookup f4 = some ⟨oc4, od4, .func (PySem.W.fnOf "is_whole" "is_whole" (defArgs s_is_whole) (defBody s_is_whole) (defScope s_is_whole) .none kV4 dc4 pm4 an4 cd4 ct4), sl4⟩)
    (c_is_whole : PySem.W.codeIn K cd4 "is_whole" = true)
    (k_is_whole : PySem.W.keepIn K (.ref f4) = true)
    (a_is_day : PySem.W.nsIn K mainGlobals "is_day" = some (some (.ref f5)))
    (l_is_day : K.lookup f5 = some ⟨oc5, od5, .func (PySem.W.fnOf "is_day" "is_day" (defArgs s_is_day) (defBody s_is_day) (defScope s_is_day) .none kV5 dc5 pm5 an5 cd5 ct5), sl5⟩)
    (c_is_day : PySem.W.codeIn K cd5 "is_day" = true)
    (k_is_day : PySem.W.keepIn K (.ref f5) = true)
    (a_is_plan : PySem.W.nsIn K mainGlobals "is_plan" = some (some (.ref f6)))
    (l_is_plan : K.lookup f6 = some ⟨oc6, od6, .func (PySem.W.fnOf "is_plan" "is_plan" (defArgs s_is_plan) (defBody s_is_plan) (defScope s_is_plan) .none kV6 dc6 pm6 an6 cd6 ct6), sl6⟩)
    (c_is_plan : PySem.W.codeIn K cd6 "is_plan" = true)
    (k_is_plan : PySem.W.keepIn K (.ref f6) = true)
    (a_is_crossing : PySem.W.nsIn K mainGlobals "is_crossing" = some (some (.ref f7)))
    (l_is_crossing : K.lookup f7 = some ⟨oc7, od7, .func (PySem.W.fnOf "is_crossing" "is_crossing" (defArgs s_is_crossing) (defBody s_is_crossing) (defScope s_is_crossing) .none kV7 dc7 pm7 an7 cd7 ct7), sl7⟩)
    (c_is_crossing : PySem.W.codeIn K cd7 "is_crossing" = true)
    (k_is_crossing : PySem.W.keepIn K (.ref f7) = true)
    (a_is_leg : PySem.W.nsIn K mainGlobals "is_leg" = some (some (.ref f8)))
    (l_is_leg : K.lookup f8 = some ⟨oc8, od8, .func (PySem.W.fnOf "is_leg" "is_leg" (defArgs s_is_leg) (defBody s_is_leg) (defScope s_is_leg) .none kV8 dc8 pm8 an8 cd8 ct8), sl8⟩)
    (c_is_leg : PySem.W.codeIn K cd8 "is_leg" = true)
    (k_is_leg : PySem.W.keepIn K (.ref f8) = true)
    (a_is_tuple_of : PySem.W.nsIn K mainGlobals "is_tuple_of" = some (some (.ref f9)))
    (l_is_tuple_of : K.lookup f9 = some ⟨oc9, od9, .func (PySem.W.fnOf "is_tuple_of" "is_tuple_of" (defArgs s_is_tuple_of) (defBody s_is_tuple_of) (defScope s_is_tuple_of) .none kV9 dc9 pm9 an9 cd9 ct9), sl9⟩)
    (c_is_tuple_of : PySem.W.codeIn K cd9 "is_tuple_of" = true)
    (k_is_tuple_of : PySem.W.keepIn K (.ref f9) = true)
    (a_check : PySem.W.nsIn K mainGlobals "check" = some (some (.ref f10)))
    (l_check : K.lookup f10 = some ⟨oc10, od10, .func (PySem.W.fnOf "check" "check" (defArgs s_check) (defBody s_check) (defScope s_check) .none kV10 dc10 pm10 an10 cd10 ct10), sl10⟩)
    (c_check : PySem.W.codeIn K cd10 "check" = true)
    (k_check : PySem.W.keepIn K (.ref f10) = true)
    (a_legs_of : PySem.W.nsIn K mainGlobals "legs_of" = some (some (.ref f11)))
    (l_legs_of : K.lookup f11 = some ⟨oc11, od11, .func (PySem.W.fnOf "legs_of" "legs_of" (defArgs s_legs_of) (defBody s_legs_of) (defScope s_legs_of) .none kV11 dc11 pm11 an11 cd11 ct11), sl11⟩)
    (c_legs_of : PySem.W.codeIn K cd11 "legs_of" = true)
    (k_legs_of : PySem.W.keepIn K (.ref f11) = true)
    (a_plan_of : PySem.W.nsIn K mainGlobals "plan_of" = some (some (.ref f12)))
    (l_plan_of : K.lookup f12 = some ⟨oc12, od12, .func (PySem.W.fnOf "plan_of" "plan_of" (defArgs s_plan_of) (defBody s_plan_of) (defScope s_plan_of) .none kV12 dc12 pm12 an12 cd12 ct12), sl12⟩)
    (c_plan_of : PySem.W.codeIn K cd12 "plan_of" = true)
    (k_plan_of : PySem.W.keepIn K (.ref f12) = true)
    (a_are_plan_legs : PySem.W.nsIn K mainGlobals "are_plan_legs" = some (some (.ref f13)))
    (l_are_plan_legs : K.lookup f13 = some ⟨oc13, od13, .func (PySem.W.fnOf "are_plan_legs" "are_plan_legs" (defArgs s_are_plan_legs) (defBody s_are_plan_legs) (defScope s_are_plan_legs) .none kV13 dc13 pm13 an13 cd13 ct13), sl13⟩)
    (c_are_plan_legs : PySem.W.codeIn K cd13 "are_plan_legs" = true)
    (k_are_plan_legs : PySem.W.keepIn K (.ref f13) = true)
    (a_l_mixed : PySem.W.nsIn K mainGlobals "_law_mixed" = some (some (.ref f14)))
    (l_l_mixed : K.lookup f14 = some ⟨oc14, od14, .func (PySem.W.fnOf "_law_mixed" "_law_mixed" (defArgs s_l_mixed) (defBody s_l_mixed) (defScope s_l_mixed) .none kV14 dc14 pm14 an14 cd14 ct14), sl14⟩)
    (c_l_mixed : PySem.W.codeIn K cd14 "_law_mixed" = true)
    (k_l_mixed : PySem.W.keepIn K (.ref f14) = true)
    (a_l_store : PySem.W.nsIn K mainGlobals "_law_store" = some (some (.ref f15)))
    (l_l_store : K.lookup f15 = some ⟨oc15, od15, .func (PySem.W.fnOf "_law_store" "_law_store" (defArgs s_l_store) (defBody s_l_store) (defScope s_l_store) .none kV15 dc15 pm15 an15 cd15 ct15), sl15⟩)
    (c_l_store : PySem.W.codeIn K cd15 "_law_store" = true)
    (k_l_store : PySem.W.keepIn K (.ref f15) = true)
    (a_l_take : PySem.W.nsIn K mainGlobals "_law_take" = some (some (.ref f16)))
    (l_l_take : K.lookup f16 = some ⟨oc16, od16, .func (PySem.W.fnOf "_law_take" "_law_take" (defArgs s_l_take) (defBody s_l_take) (defScope s_l_take) .none kV16 dc16 pm16 an16 cd16 ct16), sl16⟩)
    (c_l_take : PySem.W.codeIn K cd16 "_law_take" = true)
    (k_l_take : PySem.W.keepIn K (.ref f16) = true)
    (a_l_great : PySem.W.nsIn K mainGlobals "_law_great" = some (some (.ref f17)))
    (l_l_great : K.lookup f17 = some ⟨oc17, od17, .func (PySem.W.fnOf "_law_great" "_law_great" (defArgs s_l_great) (defBody s_l_great) (defScope s_l_great) .none kV17 dc17 pm17 an17 cd17 ct17), sl17⟩)
    (c_l_great : PySem.W.codeIn K cd17 "_law_great" = true)
    (k_l_great : PySem.W.keepIn K (.ref f17) = true)
    (a_l_edge : PySem.W.nsIn K mainGlobals "_law_edge" = some (some (.ref f18)))
    (l_l_edge : K.lookup f18 = some ⟨oc18, od18, .func (PySem.W.fnOf "_law_edge" "_law_edge" (defArgs s_l_edge) (defBody s_l_edge) (defScope s_l_edge) .none kV18 dc18 pm18 an18 cd18 ct18), sl18⟩)
    (c_l_edge : PySem.W.codeIn K cd18 "_law_edge" = true)
    (k_l_edge : PySem.W.keepIn K (.ref f18) = true)
    (a_l_pick : PySem.W.nsIn K mainGlobals "_law_pick" = some (some (.ref f19)))
    (l_l_pick : K.lookup f19 = some ⟨oc19, od19, .func (PySem.W.fnOf "_law_pick" "_law_pick" (defArgs s_l_pick) (defBody s_l_pick) (defScope s_l_pick) .none kV19 dc19 pm19 an19 cd19 ct19), sl19⟩)
    (c_l_pick : PySem.W.codeIn K cd19 "_law_pick" = true)
    (k_l_pick : PySem.W.keepIn K (.ref f19) = true)
    (a_l_some : PySem.W.nsIn K mainGlobals "_law_some" = some (some (.ref f20)))
    (l_l_some : K.lookup f20 = some ⟨oc20, od20, .func (PySem.W.fnOf "_law_some" "_law_some" (defArgs s_l_some) (defBody s_l_some) (defScope s_l_some) .none kV20 dc20 pm20 an20 cd20 ct20), sl20⟩)
    (c_l_some : PySem.W.codeIn K cd20 "_law_some" = true)
    (k_l_some : PySem.W.keepIn K (.ref f20) = true)
    (a_l_turned : PySem.W.nsIn K mainGlobals "_law_turned" = some (some (.ref f21)))
    (l_l_turned : K.lookup f21 = some ⟨oc21, od21, .func (PySem.W.fnOf "_law_turned" "_law_turned" (defArgs s_l_turned) (defBody s_l_turned) (defScope s_l_turned) .none kV21 dc21 pm21 an21 cd21 ct21), sl21⟩)
    (c_l_turned : PySem.W.codeIn K cd21 "_law_turned" = true)
    (k_l_turned : PySem.W.keepIn K (.ref f21) = true)
    (a_l_word : PySem.W.nsIn K mainGlobals "_law_word" = some (some (.ref f22)))
    (l_l_word : K.lookup f22 = some ⟨oc22, od22, .func (PySem.W.fnOf "_law_word" "_law_word" (defArgs s_l_word) (defBody s_l_word) (defScope s_l_word) .none kV22 dc22 pm22 an22 cd22 ct22), sl22⟩)
    (c_l_word : PySem.W.codeIn K cd22 "_law_word" = true)
    (k_l_word : PySem.W.keepIn K (.ref f22) = true)
    (a_l_names : PySem.W.nsIn K mainGlobals "_law_names" = some (some (.ref f23)))
    (l_l_names : K.lookup f23 = some ⟨oc23, od23, .func (PySem.W.fnOf "_law_names" "_law_names" (defArgs s_l_names) (defBody s_l_names) (defScope s_l_names) .none kV23 dc23 pm23 an23 cd23 ct23), sl23⟩)
    (c_l_names : PySem.W.codeIn K cd23 "_law_names" = true)
    (k_l_names : PySem.W.keepIn K (.ref f23) = true)
    (a_l_fresh : PySem.W.nsIn K mainGlobals "_law_fresh" = some (some (.ref f24)))
    (l_l_fresh : K.lookup f24 = some ⟨oc24, od24, .func (PySem.W.fnOf "_law_fresh" "_law_fresh" (defArgs s_l_fresh) (defBody s_l_fresh) (defScope s_l_fresh) .none kV24 dc24 pm24 an24 cd24 ct24), sl24⟩)
    (c_l_fresh : PySem.W.codeIn K cd24 "_law_fresh" = true)
    (k_l_fresh : PySem.W.keepIn K (.ref f24) = true)
    (a_l_same : PySem.W.nsIn K mainGlobals "_law_same" = some (some (.ref f25)))
    (l_l_same : K.lookup f25 = some ⟨oc25, od25, .func (PySem.W.fnOf "_law_same" "_law_same" (defArgs s_l_same) (defBody s_l_same) (defScope s_l_same) .none kV25 dc25 pm25 an25 cd25 ct25), sl25⟩)
    (c_l_same : PySem.W.codeIn K cd25 "_law_same" = true)
    (k_l_same : PySem.W.keepIn K (.ref f25) = true)
    (a_l_copy : PySem.W.nsIn K mainGlobals "_law_copy" = some (some (.ref f26)))
    (l_l_copy : K.lookup f26 = some ⟨oc26, od26, .func (PySem.W.fnOf "_law_copy" "_law_copy" (defArgs s_l_copy) (defBody s_l_copy) (defScope s_l_copy) .none kV26 dc26 pm26 an26 cd26 ct26), sl26⟩)
    (c_l_copy : PySem.W.codeIn K cd26 "_law_copy" = true)
    (k_l_copy : PySem.W.keepIn K (.ref f26) = true)
    (a_l_spoil : PySem.W.nsIn K mainGlobals "_law_spoil" = some (some (.ref f27)))
    (l_l_spoil : K.lookup f27 = some ⟨oc27, od27, .func (PySem.W.fnOf "_law_spoil" "_law_spoil" (defArgs s_l_spoil) (defBody s_l_spoil) (defScope s_l_spoil) .none kV27 dc27 pm27 an27 cd27 ct27), sl27⟩)
    (c_l_spoil : PySem.W.codeIn K cd27 "_law_spoil" = true)
    (k_l_spoil : PySem.W.keepIn K (.ref f27) = true)
    (a_l_is_name : PySem.W.nsIn K mainGlobals "_law_is_name" = some (some (.ref f28)))
    (l_l_is_name : K.lookup f28 = some ⟨oc28, od28, .func (PySem.W.fnOf "_law_is_name" "_law_is_name" (defArgs s_l_is_name) (defBody s_l_is_name) (defScope s_l_is_name) .none kV28 dc28 pm28 an28 cd28 ct28), sl28⟩)
    (c_l_is_name : PySem.W.codeIn K cd28 "_law_is_name" = true)
    (k_l_is_name : PySem.W.keepIn K (.ref f28) = true)
    (a_l_is_within : PySem.W.nsIn K mainGlobals "_law_is_within" = some (some (.ref f29)))
    (l_l_is_within : K.lookup f29 = some ⟨oc29, od29, .func (PySem.W.fnOf "_law_is_within" "_law_is_within" (defArgs s_l_is_within) (defBody s_l_is_within) (defScope s_l_is_within) .none kV29 dc29 pm29 an29 cd29 ct29), sl29⟩)
    (c_l_is_within : PySem.W.codeIn K cd29 "_law_is_within" = true)
    (k_l_is_within : PySem.W.keepIn K (.ref f29) = true)
    (a_l_is_leg : PySem.W.nsIn K mainGlobals "_law_is_leg" = some (some (.ref f30)))
    (l_l_is_leg : K.lookup f30 = some ⟨oc30, od30, .func (PySem.W.fnOf "_law_is_leg" "_law_is_leg" (defArgs s_l_is_leg) (defBody s_l_is_leg) (defScope s_l_is_leg) .none kV30 dc30 pm30 an30 cd30 ct30), sl30⟩)
    (c_l_is_leg : PySem.W.codeIn K cd30 "_law_is_leg" = true)
    (k_l_is_leg : PySem.W.keepIn K (.ref f30) = true)
    (a_l_is_plan : PySem.W.nsIn K mainGlobals "_law_is_plan" = some (some (.ref f31)))
    (l_l_is_plan : K.lookup f31 = some ⟨oc31, od31, .func (PySem.W.fnOf "_law_is_plan" "_law_is_plan" (defArgs s_l_is_plan) (defBody s_l_is_plan) (defScope s_l_is_plan) .none kV31 dc31 pm31 an31 cd31 ct31), sl31⟩)
    (c_l_is_plan : PySem.W.codeIn K cd31 "_law_is_plan" = true)
    (k_l_is_plan : PySem.W.keepIn K (.ref f31) = true)
    (a_l_bent_row : PySem.W.nsIn K mainGlobals "_law_bent_row" = some (some (.ref f32)))
    (l_l_bent_row : K.lookup f32 = some ⟨oc32, od32, .func (PySem.W.fnOf "_law_bent_row" "_law_bent_row" (defArgs s_l_bent_row) (defBody s_l_bent_row) (defScope s_l_bent_row) .none kV32 dc32 pm32 an32 cd32 ct32), sl32⟩)
    (c_l_bent_row : PySem.W.codeIn K cd32 "_law_bent_row" = true)
    (k_l_bent_row : PySem.W.keepIn K (.ref f32) = true)
    (a_l_bent_leaf : PySem.W.nsIn K mainGlobals "_law_bent_leaf" = some (some (.ref f33)))
    (l_l_bent_leaf : K.lookup f33 = some ⟨oc33, od33, .func (PySem.W.fnOf "_law_bent_leaf" "_law_bent_leaf" (defArgs s_l_bent_leaf) (defBody s_l_bent_leaf) (defScope s_l_bent_leaf) .none kV33 dc33 pm33 an33 cd33 ct33), sl33⟩)
    (c_l_bent_leaf : PySem.W.codeIn K cd33 "_law_bent_leaf" = true)
    (k_l_bent_leaf : PySem.W.keepIn K (.ref f33) = true)
    (a_l_bent : PySem.W.nsIn K mainGlobals "_law_bent" = some (some (.ref f34)))
    (l_l_bent : K.lookup f34 = some ⟨oc34, od34, .func (PySem.W.fnOf "_law_bent" "_law_bent" (defArgs s_l_bent) (defBody s_l_bent) (defScope s_l_bent) .none kV34 dc34 pm34 an34 cd34 ct34), sl34⟩)
    (c_l_bent : PySem.W.codeIn K cd34 "_law_bent" = true)
    (k_l_bent : PySem.W.keepIn K (.ref f34) = true)
    (a_l_legs : PySem.W.nsIn K mainGlobals "_law_legs" = some (some (.ref f35)))
    (l_l_legs : K.lookup f35 = some ⟨oc35, od35, .func (PySem.W.fnOf "_law_legs" "_law_legs" (defArgs s_l_legs) (defBody s_l_legs) (defScope s_l_legs) .none kV35 dc35 pm35 an35 cd35 ct35), sl35⟩)
    (c_l_legs : PySem.W.codeIn K cd35 "_law_legs" = true)
    (k_l_legs : PySem.W.keepIn K (.ref f35) = true)
    (a_l_no_legs : PySem.W.nsIn K mainGlobals "_law_no_legs" = some (some (.ref f36)))
    (l_l_no_legs : K.lookup f36 = some ⟨oc36, od36, .func (PySem.W.fnOf "_law_no_legs" "_law_no_legs" (defArgs s_l_no_legs) (defBody s_l_no_legs) (defScope s_l_no_legs) .none kV36 dc36 pm36 an36 cd36 ct36), sl36⟩)
    (c_l_no_legs : PySem.W.codeIn K cd36 "_law_no_legs" = true)
    (k_l_no_legs : PySem.W.keepIn K (.ref f36) = true)
    (a_l_is_legs : PySem.W.nsIn K mainGlobals "_law_is_legs" = some (some (.ref f37)))
    (l_l_is_legs : K.lookup f37 = some ⟨oc37, od37, .func (PySem.W.fnOf "_law_is_legs" "_law_is_legs" (defArgs s_l_is_legs) (defBody s_l_is_legs) (defScope s_l_is_legs) .none kV37 dc37 pm37 an37 cd37 ct37), sl37⟩)
    (c_l_is_legs : PySem.W.codeIn K cd37 "_law_is_legs" = true)
    (k_l_is_legs : PySem.W.keepIn K (.ref f37) = true)
    (a_l_told_of : PySem.W.nsIn K mainGlobals "_law_told_of" = some (some (.ref f38)))
    (l_l_told_of : K.lookup f38 = some ⟨oc38, od38, .func (PySem.W.fnOf "_law_told_of" "_law_told_of" (defArgs s_l_told_of) (defBody s_l_told_of) (defScope s_l_told_of) .none kV38 dc38 pm38 an38 cd38 ct38), sl38⟩)
    (c_l_told_of : PySem.W.codeIn K cd38 "_law_told_of" = true)
    (k_l_told_of : PySem.W.keepIn K (.ref f38) = true)
    (a_l_asked : PySem.W.nsIn K mainGlobals "_law_asked" = some (some (.ref f39)))
    (l_l_asked : K.lookup f39 = some ⟨oc39, od39, .func (PySem.W.fnOf "_law_asked" "_law_asked" (defArgs s_l_asked) (defBody s_l_asked) (defScope s_l_asked) .none kV39 dc39 pm39 an39 cd39 ct39), sl39⟩)
    (c_l_asked : PySem.W.codeIn K cd39 "_law_asked" = true)
    (k_l_asked : PySem.W.keepIn K (.ref f39) = true)
    (a_l_legs_asked : PySem.W.nsIn K mainGlobals "_law_legs_asked" = some (some (.ref f40)))
    (l_l_legs_asked : K.lookup f40 = some ⟨oc40, od40, .func (PySem.W.fnOf "_law_legs_asked" "_law_legs_asked" (defArgs s_l_legs_asked) (defBody s_l_legs_asked) (defScope s_l_legs_asked) .none kV40 dc40 pm40 an40 cd40 ct40), sl40⟩)
    (c_l_legs_asked : PySem.W.codeIn K cd40 "_law_legs_asked" = true)
    (k_l_legs_asked : PySem.W.keepIn K (.ref f40) = true)
    (a_law : PySem.W.nsIn K mainGlobals "law" = some (some (.ref f41)))
    (l_law : K.lookup f41 = some ⟨oc41, od41, .func (PySem.W.fnOf "law" "law" (defArgs s_law) (defBody s_law) (defScope s_law) .none kV41 dc41 pm41 an41 cd41 ct41), sl41⟩)
    (c_law : PySem.W.codeIn K cd41 "law" = true)
    (k_law : PySem.W.keepIn K (.ref f41) = true)
    (hn : PySem.W.specialIn K (.builtin "object.__class__") "__get__" = some (some (.builtin "getset_descriptor.__get__")))
    (ht : PySem.W.takesIn K (.builtin "object.__class__") = some true)
    (a_END : PySem.W.nsIn K mainGlobals "END" = some (some (.str ("-" : Str) t_END)))
    (a_LAST_DAY : PySem.W.nsIn K mainGlobals "LAST_DAY" = some (some (.int 6 t_LAST_DAY)))
    (a_LETTERS : PySem.W.nsIn K mainGlobals "LETTERS" = some (some (.str ("abcdefghijklmnopqrstuvwxyz" : Str) t_LETTERS)))
    (a_LETTERS_AND_DIGITS : PySem.W.nsIn K mainGlobals "LETTERS_AND_DIGITS" = some (some (.str ("abcdefghijklmnopqrstuvwxyz0123456789" : Str) t_LETTERS_AND_DIGITS)))
    (a_LONGEST_NAME : PySem.W.nsIn K mainGlobals "LONGEST_NAME" = some (some (.int 8 t_LONGEST_NAME)))
    (z_abs : PySem.W.nsIn K mainGlobals "abs" = some none)
    (z_all : PySem.W.nsIn K mainGlobals "all" = some none)
    (z_bool : PySem.W.nsIn K mainGlobals "bool" = some none)
    (z_dict : PySem.W.nsIn K mainGlobals "dict" = some none)
    (z_int : PySem.W.nsIn K mainGlobals "int" = some none)
    (z_isinstance : PySem.W.nsIn K mainGlobals "isinstance" = some none)
    (z_len : PySem.W.nsIn K mainGlobals "len" = some none)
    (z_list : PySem.W.nsIn K mainGlobals "list" = some none)
    (z_max : PySem.W.nsIn K mainGlobals "max" = some none)
    (z_min : PySem.W.nsIn K mainGlobals "min" = some none)
    (z_range : PySem.W.nsIn K mainGlobals "range" = some none)
    (z_str : PySem.W.nsIn K mainGlobals "str" = some none)
    (z_tuple : PySem.W.nsIn K mainGlobals "tuple" = some none)
    (ef_x_bb : PySem.W.exmOne K (.ref q1) (.ref q1) = some true)
    (ef_k_bc : PySem.W.kitOne K (.ref q1) (.ref q0) = some true)
    (ef_a_b : PySem.W.kitAny K (.ref q1) [.ref q2, .ref q3] = some false)
    : ∃ fd : FuncData, (∀ (s : Shared) (u : Value), BindsTo s fd ⟨[u], []⟩ [("script", u)]) ∧ ∀ base : Heap, K.In base → base.Ns mainGlobals mg → FnOk P w K mg base CX0 30 fa fd ["script"] (sp_lawK K) := by
  have e := hfa.symm.trans (PySem.W.mg_of X G a_law)
  cases e
  let T : Txt K mg (⟨q0, q1, q2, q3⟩ : CA) := {
    e_BadShape := ⟨f1, _, ⟨⟨_, _, _, _, _, _, _, _, _, _, _, _, _, _, _, x_BadShape, rb_BadShape⟩, sa_BadShape, eC_BadShape, tC_BadShape, kC_BadShape⟩, iC_BadShape, tI_BadShape, fun_mk (st := s_BadShape_init) l_BadShape_init c_BadShape_init k_BadShape_init, (Fun.binds (ps := [("self" : Str), ("parameter" : Str)]) (fun_mk (st := s_BadShape_init) l_BadShape_init c_BadShape_init k_BadShape_init) fun _ _ _ _ _ _ us hl => match us, hl with | [_, _], _ => rfl),
    ⟨ga_BadShape, gg_BadShape, eC_BadShape, hC_BadShape, ha_BadShape, hn, ht, mr_BadShape⟩, ⟨ga_BadShape, gg_BadShape, eC_BadShape, hC_BadShape⟩, (List.forall_mem_cons.2 ⟨no_parameter_BadShape, (fun _ h => absurd h List.not_mem_nil)⟩)⟩,
    d_is_name := ⟨f2, _, PySem.W.mg_of X G a_is_name, fun_mk (st := s_is_name) l_is_name c_is_name k_is_name, (Fun.binds (ps := [("value" : Str)]) (fun_mk (st := s_is_name) l_is_name c_is_name k_is_name) fun _ _ _ _ _ _ us hl => match us, hl with | [_], _ => rfl)⟩,
    d_is_place := ⟨f3, _, PySem.W.mg_of X G a_is_place, fun_mk (st := s_is_place) l_is_place c_is_place k_is_place, (Fun.binds (ps := [("value" : Str)]) (fun_mk (st := s_is_place) l_is_place c_is_place k_is_place) fun _ _ _ _ _ _ us hl => match us, hl with | [_], _ => rfl)⟩,
    d_is_whole := ⟨f4, _, PySem.W.mg_of X G a_is_whole, fun_mk (st := s_is_whole) l_is_whole c_is_whole k_is_whole, (Fun.binds (ps := [("value" : Str)]) (fun_mk (st := s_is_whole) l_is_whole c_is_whole k_is_whole) fun _ _ _ _ _ _ us hl => match us, hl with | [_], _ => rfl)⟩,
    d_is_day := ⟨f5, _, PySem.W.mg_of X G a_is_day, fun_mk (st := s_is_day) l_is_day c_is_day k_is_day, (Fun.binds (ps := [("value" : Str)]) (fun_mk (st := s_is_day) l_is_day c_is_day k_is_day) fun _ _ _ _ _ _ us hl => match us, hl with | [_], _ => rfl)⟩,
    d_is_plan := ⟨f6, _, PySem.W.mg_of X G a_is_plan, fun_mk (st := s_is_plan) l_is_plan c_is_plan k_is_plan, (Fun.binds (ps := [("value" : Str)]) (fun_mk (st := s_is_plan) l_is_plan c_is_plan k_is_plan) fun _ _ _ _ _ _ us hl => match us, hl with | [_], _ => rfl)⟩,
    d_is_crossing := ⟨f7, _, PySem.W.mg_of X G a_is_crossing, fun_mk (st := s_is_crossing) l_is_crossing c_is_crossing k_is_crossing, (Fun.binds (ps := [("value" : Str)]) (fun_mk (st := s_is_crossing) l_is_crossing c_is_crossing k_is_crossing) fun _ _ _ _ _ _ us hl => match us, hl with | [_], _ => rfl)⟩,
    d_is_leg := ⟨f8, _, PySem.W.mg_of X G a_is_leg, fun_mk (st := s_is_leg) l_is_leg c_is_leg k_is_leg, (Fun.binds (ps := [("value" : Str)]) (fun_mk (st := s_is_leg) l_is_leg c_is_leg k_is_leg) fun _ _ _ _ _ _ us hl => match us, hl with | [_], _ => rfl)⟩,
    d_is_tuple_of := ⟨f9, _, PySem.W.mg_of X G a_is_tuple_of, fun_mk (st := s_is_tuple_of) l_is_tuple_of c_is_tuple_of k_is_tuple_of, (Fun.binds (ps := [("value" : Str), ("parts" : Str)]) (fun_mk (st := s_is_tuple_of) l_is_tuple_of c_is_tuple_of k_is_tuple_of) fun _ _ _ _ _ _ us hl => match us, hl with | [_, _], _ => rfl)⟩,
    d_check := ⟨f10, _, PySem.W.mg_of X G a_check, fun_mk (st := s_check) l_check c_check k_check, (Fun.binds (ps := [("fits" : Str), ("parameter" : Str)]) (fun_mk (st := s_check) l_check c_check k_check) fun _ _ _ _ _ _ us hl => match us, hl with | [_, _], _ => rfl)⟩,
    d_legs_of := ⟨f11, _, PySem.W.mg_of X G a_legs_of, fun_mk (st := s_legs_of) l_legs_of c_legs_of k_legs_of, (Fun.binds (ps := [("plan" : Str)]) (fun_mk (st := s_legs_of) l_legs_of c_legs_of k_legs_of) fun _ _ _ _ _ _ us hl => match us, hl with | [_], _ => rfl)⟩,
    d_plan_of := ⟨f12, _, PySem.W.mg_of X G a_plan_of, fun_mk (st := s_plan_of) l_plan_of c_plan_of k_plan_of, (Fun.binds (ps := [("legs" : Str)]) (fun_mk (st := s_plan_of) l_plan_of c_plan_of k_plan_of) fun _ _ _ _ _ _ us hl => match us, hl with | [_], _ => rfl)⟩,
    d_are_plan_legs := ⟨f13, _, PySem.W.mg_of X G a_are_plan_legs, fun_mk (st := s_are_plan_legs) l_are_plan_legs c_are_plan_legs k_are_plan_legs, (Fun.binds (ps := [("value" : Str)]) (fun_mk (st := s_are_plan_legs) l_are_plan_legs c_are_plan_legs k_are_plan_legs) fun _ _ _ _ _ _ us hl => match us, hl with | [_], _ => rfl)⟩,
    d_l_mixed := ⟨f14, _, PySem.W.mg_of X G a_l_mixed, fun_mk (st := s_l_mixed) l_l_mixed c_l_mixed k_l_mixed, (Fun.binds (ps := [("cell" : Str), ("k" : Str)]) (fun_mk (st := s_l_mixed) l_l_mixed c_l_mixed k_l_mixed) fun _ _ _ _ _ _ us hl => match us, hl with | [_, _], _ => rfl)⟩,
    d_l_store := ⟨f15, _, PySem.W.mg_of X G a_l_store, fun_mk (st := s_l_store) l_l_store c_l_store k_l_store, (Fun.binds (ps := [("script" : Str)]) (fun_mk (st := s_l_store) l_l_store c_l_store k_l_store) fun _ _ _ _ _ _ us hl => match us, hl with | [_], _ => rfl)⟩,
    d_l_take := ⟨f16, _, PySem.W.mg_of X G a_l_take, fun_mk (st := s_l_take) l_l_take c_l_take k_l_take, (Fun.binds (ps := [("store" : Str), ("many" : Str)]) (fun_mk (st := s_l_take) l_l_take c_l_take k_l_take) fun _ _ _ _ _ _ us hl => match us, hl with | [_, _], _ => rfl)⟩,
    d_l_great := ⟨f17, _, PySem.W.mg_of X G a_l_great, fun_mk (st := s_l_great) l_l_great c_l_great k_l_great, (Fun.binds (ps := [("store" : Str), ("many" : Str)]) (fun_mk (st := s_l_great) l_l_great c_l_great k_l_great) fun _ _ _ _ _ _ us hl => match us, hl with | [_, _], _ => rfl)⟩,
    d_l_edge := ⟨f18, _, PySem.W.mg_of X G a_l_edge, fun_mk (st := s_l_edge) l_l_edge c_l_edge k_l_edge, (Fun.binds (ps := [("store" : Str), ("low" : Str), ("high" : Str)]) (fun_mk (st := s_l_edge) l_l_edge c_l_edge k_l_edge) fun _ _ _ _ _ _ us hl => match us, hl with | [_, _, _], _ => rfl)⟩,
    d_l_pick := ⟨f19, _, PySem.W.mg_of X G a_l_pick, fun_mk (st := s_l_pick) l_l_pick c_l_pick k_l_pick, (Fun.binds (ps := [("store" : Str), ("row" : Str)]) (fun_mk (st := s_l_pick) l_l_pick c_l_pick k_l_pick) fun _ _ _ _ _ _ us hl => match us, hl with | [_, _], _ => rfl)⟩,
    d_l_some := ⟨f20, _, PySem.W.mg_of X G a_l_some, fun_mk (st := s_l_some) l_l_some c_l_some k_l_some, (Fun.binds (ps := [("store" : Str), ("row" : Str), ("many" : Str)]) (fun_mk (st := s_l_some) l_l_some c_l_some k_l_some) fun _ _ _ _ _ _ us hl => match us, hl with | [_, _, _], _ => rfl)⟩,
    d_l_turned := ⟨f21, _, PySem.W.mg_of X G a_l_turned, fun_mk (st := s_l_turned) l_l_turned c_l_turned k_l_turned, (Fun.binds (ps := [("store" : Str), ("row" : Str)]) (fun_mk (st := s_l_turned) l_l_turned c_l_turned k_l_turned) fun _ _ _ _ _ _ us hl => match us, hl with | [_, _], _ => rfl)⟩,
    d_l_word := ⟨f22, _, PySem.W.mg_of X G a_l_word, fun_mk (st := s_l_word) l_l_word c_l_word k_l_word, (Fun.binds (ps := [("store" : Str), ("size" : Str)]) (fun_mk (st := s_l_word) l_l_word c_l_word k_l_word) fun _ _ _ _ _ _ us hl => match us, hl with | [_, _], _ => rfl)⟩,
    d_l_names := ⟨f23, _, PySem.W.mg_of X G a_l_names, fun_mk (st := s_l_names) l_l_names c_l_names k_l_names, (Fun.binds (ps := [("store" : Str), ("many" : Str)]) (fun_mk (st := s_l_names) l_l_names c_l_names k_l_names) fun _ _ _ _ _ _ us hl => match us, hl with | [_, _], _ => rfl)⟩,
    d_l_fresh := ⟨f24, _, PySem.W.mg_of X G a_l_fresh, fun_mk (st := s_l_fresh) l_l_fresh c_l_fresh k_l_fresh, (Fun.binds (ps := [("store" : Str), ("row" : Str)]) (fun_mk (st := s_l_fresh) l_l_fresh c_l_fresh k_l_fresh) fun _ _ _ _ _ _ us hl => match us, hl with | [_, _], _ => rfl)⟩,
    d_l_same := ⟨f25, _, PySem.W.mg_of X G a_l_same, fun_mk (st := s_l_same) l_l_same c_l_same k_l_same, (Fun.binds (ps := [("one" : Str), ("other" : Str)]) (fun_mk (st := s_l_same) l_l_same c_l_same k_l_same) fun _ _ _ _ _ _ us hl => match us, hl with | [_, _], _ => rfl)⟩,
    d_l_copy := ⟨f26, _, PySem.W.mg_of X G a_l_copy, fun_mk (st := s_l_copy) l_l_copy c_l_copy k_l_copy, (Fun.binds (ps := [("value" : Str)]) (fun_mk (st := s_l_copy) l_l_copy c_l_copy k_l_copy) fun _ _ _ _ _ _ us hl => match us, hl with | [_], _ => rfl)⟩,
    d_l_spoil := ⟨f27, _, PySem.W.mg_of X G a_l_spoil, fun_mk (st := s_l_spoil) l_l_spoil c_l_spoil k_l_spoil, (Fun.binds (ps := [("value" : Str)]) (fun_mk (st := s_l_spoil) l_l_spoil c_l_spoil k_l_spoil) fun _ _ _ _ _ _ us hl => match us, hl with | [_], _ => rfl)⟩,
    d_l_is_name := ⟨f28, _, PySem.W.mg_of X G a_l_is_name, fun_mk (st := s_l_is_name) l_l_is_name c_l_is_name k_l_is_name, (Fun.binds (ps := [("value" : Str)]) (fun_mk (st := s_l_is_name) l_l_is_name c_l_is_name k_l_is_name) fun _ _ _ _ _ _ us hl => match us, hl with | [_], _ => rfl)⟩,
    d_l_is_within := ⟨f29, _, PySem.W.mg_of X G a_l_is_within, fun_mk (st := s_l_is_within) l_l_is_within c_l_is_within k_l_is_within, (Fun.binds (ps := [("value" : Str), ("low" : Str), ("high" : Str)]) (fun_mk (st := s_l_is_within) l_l_is_within c_l_is_within k_l_is_within) fun _ _ _ _ _ _ us hl => match us, hl with | [_, _, _], _ => rfl)⟩,
    d_l_is_leg := ⟨f30, _, PySem.W.mg_of X G a_l_is_leg, fun_mk (st := s_l_is_leg) l_l_is_leg c_l_is_leg k_l_is_leg, (Fun.binds (ps := [("value" : Str)]) (fun_mk (st := s_l_is_leg) l_l_is_leg c_l_is_leg k_l_is_leg) fun _ _ _ _ _ _ us hl => match us, hl with | [_], _ => rfl)⟩,
    d_l_is_plan := ⟨f31, _, PySem.W.mg_of X G a_l_is_plan, fun_mk (st := s_l_is_plan) l_l_is_plan c_l_is_plan k_l_is_plan, (Fun.binds (ps := [("value" : Str)]) (fun_mk (st := s_l_is_plan) l_l_is_plan c_l_is_plan k_l_is_plan) fun _ _ _ _ _ _ us hl => match us, hl with | [_], _ => rfl)⟩,
    d_l_bent_row := ⟨f32, _, PySem.W.mg_of X G a_l_bent_row, fun_mk (st := s_l_bent_row) l_l_bent_row c_l_bent_row k_l_bent_row, (Fun.binds (ps := [("store" : Str), ("value" : Str)]) (fun_mk (st := s_l_bent_row) l_l_bent_row c_l_bent_row k_l_bent_row) fun _ _ _ _ _ _ us hl => match us, hl with | [_, _], _ => rfl)⟩,
    d_l_bent_leaf := ⟨f33, _, PySem.W.mg_of X G a_l_bent_leaf, fun_mk (st := s_l_bent_leaf) l_l_bent_leaf c_l_bent_leaf k_l_bent_leaf, (Fun.binds (ps := [("store" : Str), ("value" : Str)]) (fun_mk (st := s_l_bent_leaf) l_l_bent_leaf c_l_bent_leaf k_l_bent_leaf) fun _ _ _ _ _ _ us hl => match us, hl with | [_, _], _ => rfl)⟩,
    d_l_bent := ⟨f34, _, PySem.W.mg_of X G a_l_bent, fun_mk (st := s_l_bent) l_l_bent c_l_bent k_l_bent, (Fun.binds (ps := [("store" : Str), ("value" : Str)]) (fun_mk (st := s_l_bent) l_l_bent c_l_bent k_l_bent) fun _ _ _ _ _ _ us hl => match us, hl with | [_, _], _ => rfl)⟩,
    d_l_legs := ⟨f35, _, PySem.W.mg_of X G a_l_legs, fun_mk (st := s_l_legs) l_l_legs c_l_legs k_l_legs, (Fun.binds (ps := [("plan" : Str)]) (fun_mk (st := s_l_legs) l_l_legs c_l_legs k_l_legs) fun _ _ _ _ _ _ us hl => match us, hl with | [_], _ => rfl)⟩,
    d_l_no_legs := ⟨f36, _, PySem.W.mg_of X G a_l_no_legs, fun_mk (st := s_l_no_legs) l_l_no_legs c_l_no_legs k_l_no_legs, (Fun.binds (ps := [("store" : Str), ("plan" : Str)]) (fun_mk (st := s_l_no_legs) l_l_no_legs c_l_no_legs k_l_no_legs) fun _ _ _ _ _ _ us hl => match us, hl with | [_, _], _ => rfl)⟩,
    d_l_is_legs := ⟨f37, _, PySem.W.mg_of X G a_l_is_legs, fun_mk (st := s_l_is_legs) l_l_is_legs c_l_is_legs k_l_is_legs, (Fun.binds (ps := [("value" : Str)]) (fun_mk (st := s_l_is_legs) l_l_is_legs c_l_is_legs k_l_is_legs) fun _ _ _ _ _ _ us hl => match us, hl with | [_], _ => rfl)⟩,
    d_l_told_of := ⟨f38, _, PySem.W.mg_of X G a_l_told_of, fun_mk (st := s_l_told_of) l_l_told_of c_l_told_of k_l_told_of, (Fun.binds (ps := [("form" : Str), ("value" : Str)]) (fun_mk (st := s_l_told_of) l_l_told_of c_l_told_of k_l_told_of) fun _ _ _ _ _ _ us hl => match us, hl with | [_, _], _ => rfl)⟩,
    d_l_asked := ⟨f39, _, PySem.W.mg_of X G a_l_asked, fun_mk (st := s_l_asked) l_l_asked c_l_asked k_l_asked, (Fun.binds (ps := [("value" : Str)]) (fun_mk (st := s_l_asked) l_l_asked c_l_asked k_l_asked) fun _ _ _ _ _ _ us hl => match us, hl with | [_], _ => rfl)⟩,
    d_l_legs_asked := ⟨f40, _, PySem.W.mg_of X G a_l_legs_asked, fun_mk (st := s_l_legs_asked) l_l_legs_asked c_l_legs_asked k_l_legs_asked, (Fun.binds (ps := [("value" : Str)]) (fun_mk (st := s_l_legs_asked) l_l_legs_asked c_l_legs_asked k_l_legs_asked) fun _ _ _ _ _ _ us hl => match us, hl with | [_], _ => rfl)⟩,
    d_law := ⟨fa, _, PySem.W.mg_of X G a_law, fun_mk (st := s_law) l_law c_law k_law, (Fun.binds (ps := [("script" : Str)]) (fun_mk (st := s_law) l_law c_law k_law) fun _ _ _ _ _ _ us hl => match us, hl with | [_], _ => rfl)⟩,
    g_BadErrand := PySem.W.mg_of X G a_BadErrand,
    g_BadShape := PySem.W.mg_of X G a_BadShape,
    g_BadText := PySem.W.mg_of X G a_BadText,
    g_CrossError := PySem.W.mg_of X G a_CrossError,
    t_END := t_END,
    c_END := PySem.W.mg_of X G a_END,
    t_LAST_DAY := t_LAST_DAY,
    c_LAST_DAY := PySem.W.mg_of X G a_LAST_DAY,
    t_LETTERS := t_LETTERS,
    c_LETTERS := PySem.W.mg_of X G a_LETTERS,
    t_LETTERS_AND_DIGITS := t_LETTERS_AND_DIGITS,
    c_LETTERS_AND_DIGITS := PySem.W.mg_of X G a_LETTERS_AND_DIGITS,
    t_LONGEST_NAME := t_LONGEST_NAME,
    c_LONGEST_NAME := PySem.W.mg_of X G a_LONGEST_NAME,
    b_abs := PySem.W.mg_none_of X G z_abs,
    b_all := PySem.W.mg_none_of X G z_all,
    b_bool := PySem.W.mg_none_of X G z_bool,
    b_dict := PySem.W.mg_none_of X G z_dict,
    b_int := PySem.W.mg_none_of X G z_int,
    b_isinstance := PySem.W.mg_none_of X G z_isinstance,
    b_len := PySem.W.mg_none_of X G z_len,
    b_list := PySem.W.mg_none_of X G z_list,
    b_max := PySem.W.mg_none_of X G z_max,
    b_min := PySem.W.mg_none_of X G z_min,
    b_range := PySem.W.mg_none_of X G z_range,
    b_str := PySem.W.mg_none_of X G z_str,
    b_tuple := PySem.W.mg_none_of X G z_tuple,
    ef := ⟨ef_x_bb, ef_k_bc, ef_a_b⟩ }
  exact ⟨_, fun s u => .of_eq rfl, fun base _ _ => (ok_law T).mono (by decide)⟩
end XB

/-! The end. -/
namespace XB
open PySem PySem.Spec PyProof.Rows L2
theorem walk {l : PySem.W.OpenLaw} {q : Program} {loose : List Str} {XP : (Str → Option Value) → Heap → Prop} {YP : World → Heap → Prop} {d : DefRec} {K : Params → PySem.W.Frag} (hn : l.most = some 63) (hdf : d.params.defaults = [])
    (hY : ∀ (w : World) (h : Heap), YP w h → (K w.params).In h) 
    (F : ∀ (w : World) (mg : Str → Option Value) (fa : Addr) (h : Heap), (K w.params).In h → h.Ns mainGlobals mg → mg d.name = some (.ref fa) →
      ∃ fd : FuncData, (∀ (s : Shared) (u : Value), BindsTo s fd ⟨[u], []⟩ [("script", u)]) ∧ ∀ base : Heap, (K w.params).In base → base.Ns mainGlobals mg → FnOk l.prog w (K w.params) mg base CX0 30 fa fd ["script"] (sp_lawK (K w.params))) :
    PySem.W.WalkO q loose XP YP l.row.toRowW d [] (fun f vs => PySem.call f vs) :=
  L2.walk_of (n := 63) (k := 30) (x := "script") (CX := fun _ => CX0) (sp := fun w => sp_lawK (K w.params)) hn (by decide) hdf ⟨rfl, by decide, by decide⟩ hY F (fun _ _ a ns hl _ hS => ⟨a, ns, rfl, hS, hl, fun _ => rfl⟩) fun _ _ _ _ _ z => z
end XB
open PySem PySem.W PyProof.Rows in
set_option maxRecDepth 100000 in
set_option maxHeartbeats 0 in
theorem PySem.Challenge.cw_crossfarers_k17_legs_of_a_plan_read_back_holds : PySem.Challenge.rw_crossfarers_k17_legs_of_a_plan_read_back.Holds := by
  w_on; o_law; k_head; (case hw => w_witness2)
  k_fill
  refine XB.walk (l := PySem.Challenge.rw_crossfarers_k17_legs_of_a_plan_read_back) rfl rfl (fun w h Y => PySem.W.kIn_of Y) ?F
  case F =>
    intro w mg fa h KX G hmg
    refine' XB.all_mk KX G hmg ?a_BadErrand ?a_BadShape ?a_BadText ?a_CrossError ?x_BadShape ?rb_BadShape ?sa_BadShape ?ga_BadShape ?gg_BadShape ?ha_BadShape ?iC_BadShape ?no_parameter_BadShape ?kC_BadShape ?eC_BadShape ?tC_BadShape ?hC_BadShape ?mr_BadShape ?tI_BadShape ?l_BadShape_init ?c_BadShape_init ?k_BadShape_init ?a_is_name ?l_is_name ?c_is_name ?k_is_name ?a_is_place ?l_is_place ?c_is_place ?k_is_place ?a_is_whole ?l_is_whole ?c_is_whole ?k_is_whole ?a_is_day ?l_is_day ?c_is_day ?k_is_day ?a_is_plan ?l_is_plan ?c_is_plan ?k_is_plan ?a_is_crossing ?l_is_crossing ?c_is_crossing ?k_is_crossing ?a_is_leg ?l_is_leg ?c_is_leg ?k_is_leg ?a_is_tuple_of ?l_is_tuple_of ?c_is_tuple_of ?k_is_tuple_of ?a_check ?l_check ?c_check ?k_check ?a_legs_of ?l_legs_of ?c_legs_of ?k_legs_of ?a_plan_of ?l_plan_of ?c_plan_of ?k_plan_of ?a_are_plan_legs ?l_are_plan_legs ?c_are_plan_legs ?k_are_plan_legs ?a_l_mixed ?l_l_mixed ?c_l_mixed ?k_l_mixed ?a_l_store ?l_l_store ?c_l_store ?k_l_store ?a_l_take ?l_l_take ?c_l_take ?k_l_take ?a_l_great ?l_l_great ?c_l_great ?k_l_great ?a_l_edge ?l_l_edge ?c_l_edge ?k_l_edge ?a_l_pick ?l_l_pick ?c_l_pick ?k_l_pick ?a_l_some ?l_l_some ?c_l_some ?k_l_some ?a_l_turned ?l_l_turned ?c_l_turned ?k_l_turned ?a_l_word ?l_l_word ?c_l_word ?k_l_word ?a_l_names ?l_l_names ?c_l_names ?k_l_names ?a_l_fresh ?l_l_fresh ?c_l_fresh ?k_l_fresh ?a_l_same ?l_l_same ?c_l_same ?k_l_same ?a_l_copy ?l_l_copy ?c_l_copy ?k_l_copy ?a_l_spoil ?l_l_spoil ?c_l_spoil ?k_l_spoil ?a_l_is_name ?l_l_is_name ?c_l_is_name ?k_l_is_name ?a_l_is_within ?l_l_is_within ?c_l_is_within ?k_l_is_within ?a_l_is_leg ?l_l_is_leg ?c_l_is_leg ?k_l_is_leg ?a_l_is_plan ?l_l_is_plan ?c_l_is_plan ?k_l_is_plan ?a_l_bent_row ?l_l_bent_row ?c_l_bent_row ?k_l_bent_row ?a_l_bent_leaf ?l_l_bent_leaf ?c_l_bent_leaf ?k_l_bent_leaf ?a_l_bent ?l_l_bent ?c_l_bent ?k_l_bent ?a_l_legs ?l_l_legs ?c_l_legs ?k_l_legs ?a_l_no_legs ?l_l_no_legs ?c_l_no_legs ?k_l_no_legs ?a_l_is_legs ?l_l_is_legs ?c_l_is_legs ?k_l_is_legs ?a_l_told_of ?l_l_told_of ?c_l_told_of ?k_l_told_of ?a_l_asked ?l_l_asked ?c_l_asked ?k_l_asked ?a_l_legs_asked ?l_l_legs_asked ?c_l_legs_asked ?k_l_legs_asked ?a_law ?l_law ?c_law ?k_law ?hn ?ht ?a_END ?a_LAST_DAY ?a_LETTERS ?a_LETTERS_AND_DIGITS ?a_LONGEST_NAME ?z_abs ?z_all ?z_bool ?z_dict ?z_int ?z_isinstance ?z_len ?z_list ?z_max ?z_min ?z_range ?z_str ?z_tuple ?ef_x_bb ?ef_k_bc ?ef_a_b
    (case a_BadErrand => k_is)
    (case a_BadShape => k_is)
    (case a_BadText => k_is)
    (case a_CrossError => k_is)
    (case x_BadShape => k_is)
    (case rb_BadShape => decide +kernel)
    (case sa_BadShape => k_is)
    (case ga_BadShape => k_is)
    (case gg_BadShape => k_is)
    (case ha_BadShape => k_is)
    (case iC_BadShape => k_is)
    (case no_parameter_BadShape => k_is)
    (case kC_BadShape => k_is)
    (case eC_BadShape => k_is)
    (case tC_BadShape => k_is)
    (case hC_BadShape => k_is)
    (case mr_BadShape => k_is)
    (case tI_BadShape => k_is)
    (case l_BadShape_init => k_is)
    (case c_BadShape_init => k_is)
    (case k_BadShape_init => k_is)
    (case a_is_name => k_is)
    (case l_is_name => k_is)
    (case c_is_name => k_is)
    (case k_is_name => k_is)
    (case a_is_place => k_is)
    (case l_is_place => k_is)
    (case c_is_place => k_is)
    (case k_is_place => k_is)
    (case a_is_whole => k_is)
    (case l_is_whole => k_is)
    (case c_is_whole => k_is)
    (case k_is_whole => k_is)
    (case a_is_day => k_is)
    (case l_is_day => k_is)
    (case c_is_day => k_is)
    (case k_is_day => k_is)
    (case a_is_plan => k_is)
    (case l_is_plan => k_is)
    (case c_is_plan => k_is)
    (case k_is_plan => k_is)
    (case a_is_crossing => k_is)
    (case l_is_crossing => k_is)
    (case c_is_crossing => k_is)
    (case k_is_crossing => k_is)
    (case a_is_leg => k_is)
    (case l_is_leg => k_is)
    (case c_is_leg => k_is)
    (case k_is_leg => k_is)
    (case a_is_tuple_of => k_is)
    (case l_is_tuple_of => k_is)
    (case c_is_tuple_of => k_is)
    (case k_is_tuple_of => k_is)
    (case a_check => k_is)
    (case l_check => k_is)
    (case c_check => k_is)
    (case k_check => k_is)
    (case a_legs_of => k_is)
    (case l_legs_of => k_is)
    (case c_legs_of => k_is)
    (case k_legs_of => k_is)
    (case a_plan_of => k_is)
    (case l_plan_of => k_is)
    (case c_plan_of => k_is)
    (case k_plan_of => k_is)
    (case a_are_plan_legs => k_is)
    (case l_are_plan_legs => k_is)
    (case c_are_plan_legs => k_is)
    (case k_are_plan_legs => k_is)
    (case a_l_mixed => k_is)
    (case l_l_mixed => k_is)
    (case c_l_mixed => k_is)
    (case k_l_mixed => k_is)
    (case a_l_store => k_is)
    (case l_l_store => k_is)
    (case c_l_store => k_is)
    (case k_l_store => k_is)
    (case a_l_take => k_is)
    (case l_l_take => k_is)
    (case c_l_take => k_is)
    (case k_l_take => k_is)
    (case a_l_great => k_is)
    (case l_l_great => k_is)
    (case c_l_great => k_is)
    (case k_l_great => k_is)
    (case a_l_edge => k_is)
    (case l_l_edge => k_is)
    (case c_l_edge => k_is)
    (case k_l_edge => k_is)
    (case a_l_pick => k_is)
    (case l_l_pick => k_is)
    (case c_l_pick => k_is)
    (case k_l_pick => k_is)
    (case a_l_some => k_is)
    (case l_l_some => k_is)
    (case c_l_some => k_is)
    (case k_l_some => k_is)
    (case a_l_turned => k_is)
    (case l_l_turned => k_is)
    (case c_l_turned => k_is)
    (case k_l_turned => k_is)
    (case a_l_word => k_is)
    (case l_l_word => k_is)
    (case c_l_word => k_is)
    (case k_l_word => k_is)
    (case a_l_names => k_is)
    (case l_l_names => k_is)
    (case c_l_names => k_is)
    (case k_l_names => k_is)
    (case a_l_fresh => k_is)
    (case l_l_fresh => k_is)
    (case c_l_fresh => k_is)
    (case k_l_fresh => k_is)
    (case a_l_same => k_is)
    (case l_l_same => k_is)
    (case c_l_same => k_is)
    (case k_l_same => k_is)
    (case a_l_copy => k_is)
    (case l_l_copy => k_is)
    (case c_l_copy => k_is)
    (case k_l_copy => k_is)
    (case a_l_spoil => k_is)
    (case l_l_spoil => k_is)
    (case c_l_spoil => k_is)
    (case k_l_spoil => k_is)
    (case a_l_is_name => k_is)
    (case l_l_is_name => k_is)
    (case c_l_is_name => k_is)
    (case k_l_is_name => k_is)
    (case a_l_is_within => k_is)
    (case l_l_is_within => k_is)
    (case c_l_is_within => k_is)
    (case k_l_is_within => k_is)
    (case a_l_is_leg => k_is)
    (case l_l_is_leg => k_is)
    (case c_l_is_leg => k_is)
    (case k_l_is_leg => k_is)
    (case a_l_is_plan => k_is)
    (case l_l_is_plan => k_is)
    (case c_l_is_plan => k_is)
    (case k_l_is_plan => k_is)
    (case a_l_bent_row => k_is)
    (case l_l_bent_row => k_is)
    (case c_l_bent_row => k_is)
    (case k_l_bent_row => k_is)
    (case a_l_bent_leaf => k_is)
    (case l_l_bent_leaf => k_is)
    (case c_l_bent_leaf => k_is)
    (case k_l_bent_leaf => k_is)
    (case a_l_bent => k_is)
    (case l_l_bent => k_is)
    (case c_l_bent => k_is)
    (case k_l_bent => k_is)
    (case a_l_legs => k_is)
    (case l_l_legs => k_is)
    (case c_l_legs => k_is)
    (case k_l_legs => k_is)
    (case a_l_no_legs => k_is)
    (case l_l_no_legs => k_is)
    (case c_l_no_legs => k_is)
    (case k_l_no_legs => k_is)
    (case a_l_is_legs => k_is)
    (case l_l_is_legs => k_is)
    (case c_l_is_legs => k_is)
    (case k_l_is_legs => k_is)
    (case a_l_told_of => k_is)
    (case l_l_told_of => k_is)
    (case c_l_told_of => k_is)
    (case k_l_told_of => k_is)
    (case a_l_asked => k_is)
    (case l_l_asked => k_is)
    (case c_l_asked => k_is)
    (case k_l_asked => k_is)
    (case a_l_legs_asked => k_is)
    (case l_l_legs_asked => k_is)
    (case c_l_legs_asked => k_is)
    (case k_l_legs_asked => k_is)
    (case a_law => k_is)
    (case l_law => k_is)
    (case c_law => k_is)
    (case k_law => k_is)
    (case hn => k_is)
    (case ht => k_is)
    (case a_END => k_is)
    (case a_LAST_DAY => k_is)
    (case a_LETTERS => k_is)
    (case a_LETTERS_AND_DIGITS => k_is)
    (case a_LONGEST_NAME => k_is)
    (case z_abs => k_is)
    (case z_all => k_is)
    (case z_bool => k_is)
    (case z_dict => k_is)
    (case z_int => k_is)
    (case z_isinstance => k_is)
    (case z_len => k_is)
    (case z_list => k_is)
    (case z_max => k_is)
    (case z_min => k_is)
    (case z_range => k_is)
    (case z_str => k_is)
    (case z_tuple => k_is)
    (case ef_x_bb => first | kernel_rfl | exact rfl)
    (case ef_k_bc => first | kernel_rfl | exact rfl)
    (case ef_a_b => first | kernel_rfl | exact rfl)
