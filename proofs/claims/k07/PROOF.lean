import PyProof.Rows.All
import Wide.All
import OpenK.AllK
import Wide.FinOn
import HandS.ForMost
import HandS.ForExc
import HandS.Wide
import HandS.More
import HandS.Evl
import HandS.IsInst
import HandS.TupMul
import HandS.TupLe
import HandS.TryMany
import HandS.ExcInit
import HandS.ExcField
import HandS.ExcIs
import HandS.Style
import HandS.Zip
import HandS.HotCalls
import HandS.ExcInitHot
import HandS.Codes
import HandS.WordsDict
import HandS.DictEq
import HandS.TupAny
import HandS.SetKeys
import HandS.DictComp
import HandS.DictTup
import HandS.Walk
import PySem.Challenge.RW_crossfarers_k07_exchanges_of_a_table
set_option Elab.async false
set_option linter.all false
set_option maxRecDepth 100000
set_option maxHeartbeats 8000000

/-! Own words over the hand layer. Each operator's reading is a function of the values and the heap (so that simp runs it); how a reading is taken apart. -/
namespace XB
open PySem L2
/-! ### what stands in the heap -/
def asL : Option HO → Option (List V)
  | some (.lst xs) => some xs
  | some (.frz _ (.lst xs)) => some xs
  | _ => none
def asT : Option HO → Option (List V)
  | some (.tup xs) => some xs
  | some (.frz _ (.tup xs)) => some xs
  | _ => none
theorem asL_seq {K : PySem.W.Frag} {H : Hp} {p : Addr} {xs : List V} (h : asL (H p) = some xs) : SqL K H p xs := by
  unfold asL at h
  split at h
  · rename_i ys e; cases h; exact .inl (.inl e)
  · rename_i o ys e; cases h; exact .inl (.inr ⟨o, e⟩)
  · cases h
theorem asT_seq {K : PySem.W.Frag} {H : Hp} {p : Addr} {xs : List V} (h : asT (H p) = some xs) : SqT K H p xs := by
  unfold asT at h
  split at h
  · rename_i ys e; cases h; exact .inl (.inl e)
  · rename_i o ys e; cases h; exact .inl (.inr ⟨o, e⟩)
  · cases h
def asS (o : Option HO) : Option (List V) := match asL o with
  | some xs => some xs
  | none => asT o
theorem asS_or {o : Option HO} {xs : List V} (h : asS o = some xs) : asL o = some xs ∨ asT o = some xs := by
  unfold asS at h
  split at h
  · rename_i e; rw [← h]; exact .inl e
  · exact .inr h
def atV (xs : List V) (i : Int) (q : V → Prop) : Prop := match atI xs i with
  | some v => q v
  | none => False
/-! ### operators -/
def fAdd : R2 := fun x y H Q => match x, y with
  | .int i, .int j => Q (.int (i + j)) H
  | .str a, .str b => a.length + b.length ≤ sizeLine ∧ Q (.str (a ++ b)) H
  | .ref a, .ref b => (match H a, H b with
    | some (.lst xs), some (.lst ys) => xs.length + ys.length ≤ sizeLine ∧ ∀ p, H p = none → Q (.ref p) (upd H p (.lst (xs ++ ys)))
    | some (.tup xs), some (.tup ys) => xs ≠ [] ∧ ys ≠ [] ∧ xs.length + ys.length ≤ sizeLine ∧ ∀ p, H p = none → Q (.ref p) (upd H p (.tup (xs ++ ys)))
    | _, _ => False)
  | _, _ => False
def fSub : R2 := fun x y H Q => match x, y with
  | .int i, .int j => Q (.int (i - j)) H
  | _, _ => False
def fMul : R2 := fun x y H Q => match x, y with
  | .int i, .int j => CMul i j ∧ Q (.int (i * j)) H
  | .ref a, .int k => (match H a with
    | some (.lst xs) => (-(2 ^ 63) ≤ k ∧ k < 2 ^ 63 ∧ xs.length * k.toNat ≤ sizeLine) ∧ ∀ p, H p = none → Q (.ref p) (upd H p (.lst (List.replicate k.toNat xs).flatten))
    | _ => False)
  | _, _ => False
def fMod : R2 := fun x y H Q => match x, y with
  | .int i, .int j => 0 < j ∧ Q (.int (i % j)) H
  | _, _ => False
def fDiv : R2 := fun x y H Q => match x, y with
  | .int i, .int j => CDivW i j ∧ Q (.int (i / j)) H
  | _, _ => False
def fPow : R2 := fun x y H Q => match x, y with
  | .int i, .int j => CPow i j ∧ Q (.int (i ^ j.toNat)) H
  | _, _ => False
def fNeg : V → Hp → VK → Prop := fun x H Q => match x with
  | .int i => Q (.int (-i)) H
  | _ => False
def fCmp (f : Int → Int → Bool) : R2 := fun x y H Q => match x, y with
  | .int i, .int j => Q (.bl (f i j)) H
  | _, _ => False
abbrev fLt : R2 := fCmp fun i j => decide (i < j)
abbrev fLe : R2 := fCmp fun i j => decide (i ≤ j)
abbrev fGt : R2 := fCmp fun i j => decide (j < i)
abbrev fGe : R2 := fCmp fun i j => decide (j ≤ i)
def fEq (K : PySem.W.Frag) : R2 := fun x y H Q => match x, y with
  | .int i, .int j => Q (.bl (decide (i = j))) H
  | .bl i, .bl j => Q (.bl (decide (i = j))) H
  | .str i, .str j => Q (.bl (decide (i = j))) H
  | .ref a, .ref b => rEqD K (.ref a) (.ref b) H Q
  | x, y => scal x y = true ∧ Q (.bl (decide (x = y))) H
def fNe (K : PySem.W.Frag) : R2 := fun x y H Q => match x, y with
  | .int i, .int j => Q (.bl (!decide (i = j))) H
  | .bl i, .bl j => Q (.bl (!decide (i = j))) H
  | .str i, .str j => Q (.bl (!decide (i = j))) H
  | .ref a, .ref b => rNeD K (.ref a) (.ref b) H Q
  | x, y => scal x y = true ∧ Q (.bl (!decide (x = y))) H
def fIsN : R2 := fun x y H Q => match y with
  | .non => Q (.bl (decide (x = .non))) H
  | _ => False
def fNotN : R2 := fun x y H Q => match y with
  | .non => Q (.bl (!decide (x = .non))) H
  | _ => False
def fIsB : R2 := fun x y H Q => match x, y with
  | .bl a, .bl b => Q (.bl (decide (a = b))) H
  | _, _ => False
def fIx : R2 := fun x y H Q => match x, y with
  | .ref p, .int i => (match asS (H p) with
    | some xs => atV xs i fun v => Q v H
    | none => False)
  | .str z, .int i => z.length ≤ sizeLine ∧ ∃ c, atI z.cps.toList i = some c ∧ Q (.str ⟨#[c]⟩) H
  | _, _ => False
def fIn (K : PySem.W.Frag) : R2 := fun x y H Q => match x, y with
  | .str ⟨⟨[c]⟩⟩, .str z => Q (.bl (decide (c ∈ z.cps.toList))) H
  | x, .ref p => (match asS (H p) with
    | some xs => flatV x = true ∧ xs.all flatV = true ∧ Q (.bl (inV x xs)) H
    | none => False)
  | _, _ => False
/-! ### calls of what is built in -/
abbrev RL := List V → Hp → VK → Prop
def fInt : RL := fun xs H Q => match xs with
  | [.int i] => Q (.int i) H
  | [.bl k] => Q (.int (if k then 1 else 0)) H
  | _ => False
def fLen : RL := fun xs H Q => match xs with
  | [.str z] => z.length ≤ sizeLine ∧ Q (.int (z.length : Nat)) H
  | [.ref p] => (match asS (H p) with
    | some ys => Q (.int (ys.length : Nat)) H
    | none => False)
  | _ => False
def fMax : RL := fun xs H Q => match xs with
  | [.int i, .int j] => Q (.int (max i j)) H
  | _ => False
def fMin : RL := fun xs H Q => match xs with
  | [.int i, .int j] => Q (.int (min i j)) H
  | _ => False
def fAbs : RL := fun xs H Q => match xs with
  | [.int i] => Q (.int (if i < 0 then -i else i)) H
  | _ => False
def fList : RL := fun xs H Q => match xs with
  | [.ref p] => (match asS (H p) with
    | some ys => ∀ l, H l = none → Q (.ref l) (upd H l (.lst ys))
    | none => False)
  | _ => False
def fTuple : RL := fun xs H Q => match xs with
  | [.ref p] => (match asL (H p) with
    | some ys => ∀ l, H l = none → Q (.ref l) (upd H l (.tup ys))
    | none => False)
  | _ => False
def fAll : RL := fun xs H Q => match xs with
  | [.ref p] => (match asL (H p) with
    | some ys => ∃ bs : List Bool, ys = bs.map V.bl ∧ Q (.bl (bs.all id)) H
    | none => False)
  | _ => False
def fSum : RL := fun xs H Q => match xs with
  | [.ref p] => (match asL (H p) with
    | some ys => ∃ ns : List Int, ys = ns.map V.int ∧ Q (.int ns.sum) H
    | none => False)
  | _ => False
/-- the built-in class of a value -/
def tyN (x : V) (H : Hp) : Option String := match x with
  | .non => some "NoneType"
  | .bl _ => some "bool"
  | .int _ => some "int"
  | .str _ => some "str"
  | .ref p => (match H p with
    | some (.lst _) => some "list"
    | some (.frz _ (.lst _)) => some "list"
    | some (.tup _) => some "tuple"
    | some (.frz _ (.tup _)) => some "tuple"
    | some (.dK _) => some "dict"
    | some (.dT _) => some "dict"
    | some (.frz _ (.dK _)) => some "dict"
    | _ => none)
  | _ => none
theorem tyN_x {K : PySem.W.Frag} {x : V} {H : Hp} {t : String} (h : tyN x H = some t) : TyX K H x (.type t) := by
  unfold tyN at h
  split at h
  · cases h; exact .base .non
  · cases h; exact .base (.bl _)
  · cases h; exact .base (.int _)
  · cases h; exact .base (.str _)
  · split at h
    · rename_i e; cases h; exact .base (.lst e)
    · rename_i e; cases h; exact .base (.frz e)
    · rename_i e; cases h; exact .base (.tup e)
    · rename_i e; cases h; exact .fTuple e
    · rename_i e; cases h; exact .base (.dK e)
    · rename_i e; cases h; exact .base (.dT e)
    · rename_i e; cases h; exact .fDict e
    · cases h
  · cases h
def tys : List V → Option (List String)
  | [] => some []
  | .ty c :: r => (tys r).map (c :: ·)
  | _ => none
def kitS (t : String) : List String → Option Bool
  | [] => some false
  | c :: r => (match kitB t c with
    | some true => some true
    | some false => kitS t r
    | none => none)
theorem kitS_any {K : PySem.W.Frag} {t : String} : ∀ {ns : List String} {b : Bool}, kitS t ns = some b → PySem.W.kitAny K (.type t) (ns.map Value.type) = some b
  | [], b, h => h
  | c :: r, b, h => by
    unfold kitS at h
    split at h
    · rename_i e
      exact kitAny_cons (kit_ty e) (fun z => by cases z) (fun _ => by cases h; rfl)
    · rename_i e
      exact kitAny_cons (kit_ty e) (fun _ => kitS_any h) (fun z => by cases z)
    · cases h
theorem tys_pair : ∀ {cs : List V} {ns : List String}, tys cs = some ns → Paired ClsV cs (ns.map Value.type)
  | [], ns, h => by cases h; exact .nil
  | .ty c :: r, ns, h => by
    unfold tys at h
    cases e : tys r with
    | none => rw [e] at h; cases h
    | some m => rw [e] at h; cases h; exact .cons (.ty c) (tys_pair e)
  | .non :: _, _, h => by cases h
  | .bl _ :: _, _, h => by cases h
  | .int _ :: _, _, h => by cases h
  | .str _ :: _, _, h => by cases h
  | .byt _ :: _, _, h => by cases h
  | .flt _ :: _, _, h => by cases h
  | .ref _ :: _, _, h => by cases h
def fIsi : RL := fun xs H Q => match xs with
  | [x, .ty c] => (match tyN x H with
    | some t => (match kitB t c with
      | some b => Q (.bl b) H
      | none => False)
    | none => False)
  | _ => False
def fIsiT : RL := fun xs H Q => match xs with
  | [x, .ref tp] => (match tyN x H, H tp with
    | some t, some (.tup cs) => (match tys cs with
      | some ns => (match kitS t ns with
        | some b => Q (.bl b) H
        | none => False)
      | none => False)
    | _, _ => False)
  | _ => False
/-! ### methods, slices, stores, targets -/
abbrev RM := V → List V → Hp → VK → Prop
def fAppend : RM := fun x vs H Q => match x, vs with
  | .ref l, [y] => (match H l with
    | some (.lst xs) => xs.length < sizeLine ∧ Q .non (upd H l (.lst (xs ++ [y])))
    | _ => False)
  | _, _ => False
def fInsert : RM := fun x vs H Q => match x, vs with
  | .ref l, [.int i, y] => (match H l with
    | some (.lst xs) => (xs.length < sizeLine ∧ 0 ≤ i ∧ i < 2 ^ 63) ∧ Q .non (upd H l (.lst (xs.take i.toNat ++ [y] ++ xs.drop i.toNat)))
    | _ => False)
  | _, _ => False
def fPop : RM := fun x vs H Q => match x, vs with
  | .ref l, [] => (match H l with
    | some (.lst xs) => (match xs[xs.length - 1]? with
      | some y => Q y (upd H l (.lst xs.dropLast))
      | none => False)
    | _ => False)
  | _, _ => False
def fSl : V → Option Int → Option Int → Hp → VK → Prop := fun x lo hi H Q => match x with
  | .ref p => (match asL (H p) with
    | some xs => ∀ q, H q = none → Q (.ref q) (upd H q (.lst (cutV xs lo hi)))
    | none => (match asT (H p) with
      | some xs => ¬ (HT.sIx xs.length 0 lo = 0 ∧ HT.sIx xs.length xs.length hi = xs.length) ∧ ∀ q, H q = none → Q (.ref q) (upd H q (.tup (cutV xs lo hi)))
      | none => False))
  | _ => False
def fSet : V → V → V → Hp → (Hp → Prop) → Prop := fun o i v H Q => match o, i with
  | .ref p, .int k => (match H p with
    | some (.lst xs) => (match ixN xs.length k with
      | some j => Q (upd H p (.lst (xs.set j v)))
      | none => False)
    | _ => False)
  | _, _ => False
def gTupF (n : Nat) (t : TGs) : TG := fun v σ H Q => match v with
  | .ref a => (match asT (H a) with
    | some xs => xs.length = n ∧ t xs σ H Q
    | none => False)
  | _ => False
def tBMF (T : String) (r : RM) (to : TE) (t : TA) : TE := fun σ H Q => to σ H fun x H1 => tyN x H1 = some T ∧ t σ H1 fun xs H2 => r x xs H2 Q
def tBM0F (T : String) (r : RM) (to : TE) : TE := fun σ H Q => to σ H fun x H1 => tyN x H1 = some T ∧ r x [] H1 Q
def tRevF (te : TE) : TE := fun σ H Q => te σ H fun x H1 => match x with
  | .ref a => (match asL (H1 a) with
    | some xs => ∀ p, H1 p = none → Q (.ref p) (upd H1 p (.lst xs.reverse))
    | none => False)
  | _ => False
theorem ty_of_list {K : PySem.W.Frag} {x : V} {H : Hp} (h : tyN x H = some "list") : tyV K "list" x H := by
  unfold tyN at h
  split at h
  · exact absurd (Option.some.inj h) (by decide)
  · exact absurd (Option.some.inj h) (by decide)
  · exact absurd (Option.some.inj h) (by decide)
  · exact absurd (Option.some.inj h) (by decide)
  · split at h
    · rename_i e; exact .inl ⟨rfl, _, .inl (.inl e)⟩
    · rename_i o xs e; exact .inl ⟨rfl, _, .inl (.inr ⟨o, e⟩)⟩
    · exact absurd (Option.some.inj h) (by decide)
    · exact absurd (Option.some.inj h) (by decide)
    · exact absurd (Option.some.inj h) (by decide)
    · exact absurd (Option.some.inj h) (by decide)
    · exact absurd (Option.some.inj h) (by decide)
    · cases h
  · cases h
theorem bm_var {K : PySem.W.Frag} {r : RM} {n : Nat} {t : TA} : ∀ σ H Q, tBMF "list" r (tVar n) t σ H Q → tBM K "list" r (tVar n) t σ H Q := fun σ H Q ⟨v, e, h1, h2⟩ => ⟨v, e, ty_of_list h1, h2⟩
theorem bm0_var {K : PySem.W.Frag} {r : RM} {n : Nat} : ∀ σ H Q, tBM0F "list" r (tVar n) σ H Q → tBM0 K "list" r (tVar n) σ H Q := fun σ H Q ⟨v, e, h1, h2⟩ => ⟨v, e, ty_of_list h1, h2⟩
theorem rev_var {K : PySem.W.Frag} {n : Nat} : ∀ σ H Q, tRevF (tVar n) σ H Q → tRevL K (tVar n) σ H Q := fun σ H Q ⟨v, e, h⟩ => by
  refine ⟨v, e, ?_⟩
  dsimp only at h ⊢
  split at h
  · split at h
    · rename_i e2
      exact ⟨_, _, rfl, asL_seq e2, h⟩
    · exact h.elim
  · exact h.elim
section
variable {X : Cx}
theorem op_imp {f : Value → Value → Sem Value} {r r' : R2} (h : OpR X f r) (k : ∀ x y H Q, r' x y H Q → r x y H Q) : OpR X f r' :=
  fun pins s σ H x y v u Q I rx ry q => h pins s σ H x y v u Q I rx ry (k x y H Q q)
theorem un_imp {f : Value → Sem Value} {r r' : V → Hp → VK → Prop} (h : UnR X f r) (k : ∀ x H Q, r' x H Q → r x H Q) : UnR X f r' :=
  fun pins s σ H x v Q I rx q => h pins s σ H x v Q I rx (k x H Q q)
theorem call_imp {f : Value} {r r' : RL} (h : CallR X f r) (k : ∀ xs H Q, r' xs H Q → r xs H Q) : CallR X f r' :=
  fun pins s σ H xs us Q I rs q => h pins s σ H xs us Q I rs (k xs H Q q)
theorem mt_imp {id : String} {r r' : RM} (h : MtR X id r) (k : ∀ x xs H Q, r' x xs H Q → r x xs H Q) : MtR X id r' :=
  fun pins s σ H x xs v us Q I rx rs q => h pins s σ H x xs v us Q I rx rs (k x xs H Q q)
theorem ix_imp {r r' : R2} (h : IxR X r) (k : ∀ x y H Q, r' x y H Q → r x y H Q) : IxR X r' :=
  fun value slice pins s σ H x y v u Q I rx ry q hs => h value slice pins s σ H x y v u Q I rx ry (k x y H Q q) hs
theorem op_addF : OpR X (binaryOp .Add) fAdd := op_imp (op_add.or (op_cat.or (op_catT.or op_add_str))) fun x y H Q h => by
  unfold fAdd at h
  split at h
  · exact .inl ⟨_, _, rfl, rfl, h⟩
  · exact .inr (.inr (.inr ⟨_, _, rfl, rfl, h.1, h.2⟩))
  · split at h
    · rename_i e1 e2
      exact .inr (.inl ⟨_, _, _, _, rfl, rfl, e1, e2, h.1, h.2⟩)
    · rename_i e1 e2
      exact .inr (.inr (.inl ⟨_, _, _, _, rfl, rfl, .inl (.inl e1), .inl (.inl e2), h.1, h.2.2.1, fun z => absurd z h.2.1, fun _ => h.2.2.2⟩))
    · exact h.elim
  · exact h.elim
theorem op_subF : OpR X (binaryOp .Sub) fSub := op_imp op_sub fun x y H Q h => by
  unfold fSub at h
  split at h
  · exact ⟨_, _, rfl, rfl, h⟩
  · exact h.elim
theorem op_mulF : OpR X (binaryOp .Mult) fMul := op_imp (op_mul.or op_rep) fun x y H Q h => by
  unfold fMul at h
  split at h
  · exact .inl ⟨_, _, rfl, rfl, h.1, h.2⟩
  · split at h
    · rename_i e
      exact .inr ⟨_, _, _, rfl, rfl, e, h.1.1, h.1.2.1, h.1.2.2, h.2⟩
    · exact h.elim
  · exact h.elim
theorem op_modF : OpR X (binaryOp .Mod) fMod := op_imp op_mod fun x y H Q h => by
  unfold fMod at h
  split at h
  · exact ⟨_, _, rfl, rfl, h.1, h.2⟩
  · exact h.elim
theorem op_divF : OpR X (binaryOp .FloorDiv) fDiv := op_imp op_fdivW fun x y H Q h => by
  unfold fDiv at h
  split at h
  · exact ⟨_, _, rfl, rfl, h.1, h.2⟩
  · exact h.elim
theorem op_powF : OpR X (binaryOp .Pow) fPow := op_imp op_pow fun x y H Q h => by
  unfold fPow at h
  split at h
  · exact ⟨_, _, rfl, rfl, h.1, h.2⟩
  · exact h.elim
theorem un_negF : UnR X (unaryOp .USub) fNeg := un_imp un_neg fun x H Q h => by
  unfold fNeg at h
  split at h
  · exact ⟨_, rfl, h⟩
  · exact h.elim
theorem cmp_back {f : Int → Int → Bool} {x y : V} {H : Hp} {Q : VK} (h : fCmp f x y H Q) : rI0 (fun i j => .bl (f i j)) x y H Q := by
  unfold fCmp at h
  split at h
  · exact ⟨_, _, rfl, rfl, h⟩
  · exact h.elim
theorem op_ltF : OpR X (compareOp .Lt) fLt := op_imp op_lt fun _ _ _ _ h => cmp_back h
theorem op_leF : OpR X (compareOp .LtE) fLe := op_imp op_le fun _ _ _ _ h => cmp_back h
theorem op_gtF : OpR X (compareOp .Gt) fGt := op_imp op_gt fun _ _ _ _ h => cmp_back h
theorem op_geF : OpR X (compareOp .GtE) fGe := op_imp op_ge fun _ _ _ _ h => cmp_back h
theorem op_eqF (hu : X.A.units + 64 < cLine) : OpR X (compareOp .Eq) (fEq X.K) := op_imp (op_eq.or (op_eqD hu)) fun x y H Q h => by
  unfold fEq at h
  split at h
  · rename_i i j
    exact .inl ⟨rfl, by have e : decide (V.int i = V.int j) = decide (i = j) := by simp
                        rw [e]; exact h⟩
  · rename_i i j
    exact .inl ⟨rfl, by have e : decide (V.bl i = V.bl j) = decide (i = j) := by simp
                        rw [e]; exact h⟩
  · rename_i i j
    exact .inl ⟨rfl, by have e : decide (V.str i = V.str j) = decide (i = j) := by simp
                        rw [e]; exact h⟩
  · exact .inr h
  · exact .inl h
theorem op_neF (hu : X.A.units + 64 < cLine) : OpR X (compareOp .NotEq) (fNe X.K) := op_imp (op_ne.or (op_neD hu)) fun x y H Q h => by
  unfold fNe at h
  split at h
  · rename_i i j
    exact .inl ⟨rfl, by have e : decide (V.int i = V.int j) = decide (i = j) := by simp
                        rw [e]; exact h⟩
  · rename_i i j
    exact .inl ⟨rfl, by have e : decide (V.bl i = V.bl j) = decide (i = j) := by simp
                        rw [e]; exact h⟩
  · rename_i i j
    exact .inl ⟨rfl, by have e : decide (V.str i = V.str j) = decide (i = j) := by simp
                        rw [e]; exact h⟩
  · exact .inr h
  · exact .inl h
theorem op_isNF : OpR X (compareOp .Is) fIsN := op_imp op_isN fun x y H Q h => by
  unfold fIsN at h
  split at h
  · exact ⟨rfl, h⟩
  · exact h.elim
theorem op_notNF : OpR X (compareOp .IsNot) fNotN := op_imp op_notN fun x y H Q h => by
  unfold fNotN at h
  split at h
  · exact ⟨rfl, h⟩
  · exact h.elim
theorem op_isBF : OpR X (compareOp .Is) fIsB := op_imp op_is_bl fun x y H Q h => by
  unfold fIsB at h
  split at h
  · exact ⟨_, _, rfl, rfl, h⟩
  · exact h.elim
theorem ix_F : IxR X fIx := ix_imp ix_seq fun x y H Q h => by
  unfold fIx at h
  split at h
  · split at h
    · rename_i e
      unfold atV at h
      split at h
      · rename_i e2
        rcases asS_or e with e | e
        · exact .inl ⟨_, _, _, _, rfl, rfl, asL_seq e, e2, h⟩
        · exact .inr (.inl ⟨_, _, _, _, rfl, rfl, asT_seq e, e2, h⟩)
      · exact h.elim
    · exact h.elim
  · obtain ⟨h1, c, h2, h3⟩ := h
    exact .inr (.inr ⟨_, _, _, rfl, rfl, h1, h2, h3⟩)
  · exact h.elim
theorem op_inF : OpR X (compareOp .In) (fIn X.K) := op_imp (op_in_seq.or op_in_sign) fun x y H Q h => by
  unfold fIn at h
  split at h
  · exact .inr ⟨_, _, rfl, rfl, h⟩
  · split at h
    · rename_i e
      obtain ⟨h1, h2, h3⟩ := h
      exact .inl ⟨_, _, rfl, (asS_or e).elim (fun e => .inl (asL_seq e)) (fun e => .inr (asT_seq e)), h1, h2, h3⟩
    · exact h.elim
  · exact h.elim
theorem c_int : CallR X (.type "int") fInt := call_imp call_int1 fun xs H Q h => by
  unfold fInt at h
  split at h
  · exact .inl ⟨_, rfl, h⟩
  · exact .inr ⟨_, rfl, h⟩
  · exact h.elim
theorem c_len : CallR X (.builtin "len") fLen := call_imp call_len fun xs H Q h => by
  unfold fLen at h
  split at h
  · exact ⟨_, _, rfl, ⟨h.1, rfl⟩, h.2⟩
  · split at h
    · rename_i p _ ys e
      exact ⟨.ref p, _, rfl, (asS_or e).elim (fun e => .inl ⟨_, asL_seq e, rfl⟩) (fun e => .inr ⟨_, asT_seq e, rfl⟩), h⟩
    · exact h.elim
  · exact h.elim
theorem c_max (hc : X.calm = true) : CallR X (.builtin "max") fMax := call_imp (call_max2 hc) fun xs H Q h => by
  unfold fMax at h
  split at h
  · rename_i i j
    refine ⟨i, j, rfl, ?_⟩
    have e : (if j > i then j else i) = max i j := by
      split <;> omega
    rw [e]
    exact h
  · exact h.elim
theorem c_min (hc : X.calm = true) : CallR X (.builtin "min") fMin := call_imp (call_min2 hc) fun xs H Q h => by
  unfold fMin at h
  split at h
  · rename_i i j
    refine ⟨i, j, rfl, ?_⟩
    have e : (if j < i then j else i) = min i j := by
      split <;> omega
    rw [e]
    exact h
  · exact h.elim
theorem c_abs : CallR X (.builtin "abs") fAbs := call_imp call_abs fun xs H Q h => by
  unfold fAbs at h
  split at h
  · exact ⟨_, rfl, h⟩
  · exact h.elim
theorem c_list : CallR X (.type "list") fList := call_imp call_list_of fun xs H Q h => by
  unfold fList at h
  split at h
  · split at h
    · rename_i e
      exact ⟨_, _, rfl, (asS_or e).elim (fun e => .inl (asL_seq e)) (fun e => .inr (asT_seq e)), h⟩
    · exact h.elim
  · exact h.elim
theorem c_tuple : CallR X (.type "tuple") fTuple := call_imp call_tuple_of fun xs H Q h => by
  unfold fTuple at h
  split at h
  · split at h
    · rename_i e
      exact ⟨_, _, rfl, .inl ⟨asL_seq e, h⟩⟩
    · exact h.elim
  · exact h.elim
theorem c_all (hc : X.calm = true) : CallR X (.builtin "all") fAll := call_imp (cr_all hc) fun xs H Q h => by
  unfold fAll at h
  split at h
  · split at h
    · rename_i e
      obtain ⟨bs, rfl, q⟩ := h
      exact ⟨_, bs, rfl, asL_seq e, q⟩
    · exact h.elim
  · exact h.elim
theorem c_sum (hc : X.calm = true) : CallR X (.builtin "sum") fSum := call_imp (cr_sum hc) fun xs H Q h => by
  unfold fSum at h
  split at h
  · split at h
    · rename_i e
      obtain ⟨bs, rfl, q⟩ := h
      exact ⟨_, bs, rfl, asL_seq e, q⟩
    · exact h.elim
  · exact h.elim
theorem c_isi : CallR X (.builtin "isinstance") fIsi := call_imp call_isi fun xs H Q h => by
  unfold fIsi at h
  split at h
  · split at h
    · rename_i t e
      split at h
      · rename_i b e2
        exact ⟨_, _, _, _, b, rfl, .ty _, tyN_x e, kit_ty e2, h⟩
      · exact h.elim
    · exact h.elim
  · exact h.elim
theorem c_isiT : CallR X (.builtin "isinstance") fIsiT := call_imp call_isiT fun xs H Q h => by
  unfold fIsiT at h
  split at h
  · split at h
    · rename_i e1 e2
      split at h
      · rename_i e3
        split at h
        · rename_i b e4
          exact ⟨_, _, _, _, _, b, rfl, e2, tys_pair e3, tyN_x e1, kitS_any e4, h⟩
        · exact h.elim
      · exact h.elim
    · exact h.elim
  · exact h.elim
theorem m_append : MtR X "list.append" fAppend := mt_imp mt_append fun x xs H Q h => by
  unfold fAppend at h
  split at h
  · split at h
    · rename_i e
      exact ⟨_, _, _, rfl, rfl, e, h.1, h.2⟩
    · exact h.elim
  · exact h.elim
theorem m_insert : MtR X "list.insert" fInsert := mt_imp mt_insert fun x xs H Q h => by
  unfold fInsert at h
  split at h
  · split at h
    · rename_i e
      exact ⟨_, _, _, _, rfl, rfl, e, h.1.1, h.1.2.1, h.1.2.2, h.2⟩
    · exact h.elim
  · exact h.elim
theorem m_pop : MtR X "list.pop" fPop := mt_imp mt_pop fun x xs H Q h => by
  unfold fPop at h
  split at h
  · split at h
    · rename_i e
      split at h
      · rename_i e2
        exact ⟨_, _, _, rfl, rfl, e, e2, h⟩
      · exact h.elim
    · exact h.elim
  · exact h.elim
theorem sl_F : SlR X fSl := fun pins s σ H x v vl vu lo hi sl Q I rx hs pl pu h => by
  refine (sl_list.or sl_tup) pins s σ H x v vl vu lo hi sl Q I rx hs pl pu ?_
  unfold fSl at h
  split at h
  · split at h
    · rename_i e
      exact .inl ⟨_, _, rfl, asL_seq e, h⟩
    · split at h
      · rename_i e
        exact .inr ⟨_, _, rfl, asT_seq e, h.1, h.2⟩
      · exact h.elim
  · exact h.elim
theorem set_F : PSet X fSet := fun pins s σ H o i v ov iv u Q I ro ri rv h => by
  refine set_list pins s σ H o i v ov iv u Q I ro ri rv ?_
  unfold fSet at h
  split at h
  · split at h
    · rename_i e
      split at h
      · rename_i e2
        exact ⟨_, _, _, _, rfl, rfl, e, e2, h⟩
      · exact h.elim
    · exact h.elim
  · exact h.elim
theorem pg_tupF {es : List Expr} {k : Nat} {t : TGs} {n : Nat} {pos : Pos} (hc : X.calm = true) (h : PGs X es t)
    (hn : (assignEach es X.env).length = n := by rfl) (hst : (assignEach es X.env).findIdx? (·.1) = none := by rfl) : PG X (.Tuple es k pos) (gTupF n t) := by
  refine ⟨fun pins s σ H v u Q I r hw => (pg_tup hc h hn hst).run pins s σ H v u Q I r ?_⟩
  unfold gTupF at hw
  split at hw
  · split at hw
    · rename_i e
      exact ⟨_, _, rfl, asT_seq e, hw.1, hw.2⟩
    · exact hw.elim
  · exact hw.elim
theorem pe_imp {e : Expr} {t t' : TE} (h : PE X e t) (k : ∀ σ H Q, t' σ H Q → t σ H Q) : PE X e t' := ⟨fun pins s σ H Q I q => h.run pins s σ H Q I (k σ H Q q)⟩
end
/-! ### all that a reading's part does is bear a weaker wish -/
def MonE (t : TE) : Prop := ∀ σ H (Q Q' : VK), (∀ v H', Q v H' → Q' v H') → t σ H Q → t σ H Q'
theorem kit_table : kitB "NoneType" "int" = some false ∧ kitB "NoneType" "bool" = some false ∧ kitB "NoneType" "str" = some false ∧ kitB "NoneType" "list" = some false ∧ kitB "NoneType" "tuple" = some false ∧ kitB "NoneType" "dict" = some false ∧ kitB "int" "int" = some true ∧ kitB "int" "bool" = some false ∧ kitB "int" "str" = some false ∧ kitB "int" "list" = some false ∧ kitB "int" "tuple" = some false ∧ kitB "int" "dict" = some false ∧ kitB "bool" "int" = some true ∧ kitB "bool" "bool" = some true ∧ kitB "bool" "str" = some false ∧ kitB "bool" "list" = some false ∧ kitB "bool" "tuple" = some false ∧ kitB "bool" "dict" = some false ∧ kitB "str" "int" = some false ∧ kitB "str" "bool" = some false ∧ kitB "str" "str" = some true ∧ kitB "str" "list" = some false ∧ kitB "str" "tuple" = some false ∧ kitB "str" "dict" = some false ∧ kitB "list" "int" = some false ∧ kitB "list" "bool" = some false ∧ kitB "list" "str" = some false ∧ kitB "list" "list" = some true ∧ kitB "list" "tuple" = some false ∧ kitB "list" "dict" = some false ∧ kitB "tuple" "int" = some false ∧ kitB "tuple" "bool" = some false ∧ kitB "tuple" "str" = some false ∧ kitB "tuple" "list" = some false ∧ kitB "tuple" "tuple" = some true ∧ kitB "tuple" "dict" = some false ∧ kitB "dict" "int" = some false ∧ kitB "dict" "bool" = some false ∧ kitB "dict" "str" = some false ∧ kitB "dict" "list" = some false ∧ kitB "dict" "tuple" = some false ∧ kitB "dict" "dict" = some true := by decide +kernel
theorem kt_NoneType_int : kitB "NoneType" "int" = some false := kit_table.1
theorem kt_NoneType_bool : kitB "NoneType" "bool" = some false := kit_table.2.1
theorem kt_NoneType_str : kitB "NoneType" "str" = some false := kit_table.2.2.1
theorem kt_NoneType_list : kitB "NoneType" "list" = some false := kit_table.2.2.2.1
theorem kt_NoneType_tuple : kitB "NoneType" "tuple" = some false := kit_table.2.2.2.2.1
theorem kt_NoneType_dict : kitB "NoneType" "dict" = some false := kit_table.2.2.2.2.2.1
theorem kt_int_int : kitB "int" "int" = some true := kit_table.2.2.2.2.2.2.1
theorem kt_int_bool : kitB "int" "bool" = some false := kit_table.2.2.2.2.2.2.2.1
theorem kt_int_str : kitB "int" "str" = some false := kit_table.2.2.2.2.2.2.2.2.1
theorem kt_int_list : kitB "int" "list" = some false := kit_table.2.2.2.2.2.2.2.2.2.1
theorem kt_int_tuple : kitB "int" "tuple" = some false := kit_table.2.2.2.2.2.2.2.2.2.2.1
theorem kt_int_dict : kitB "int" "dict" = some false := kit_table.2.2.2.2.2.2.2.2.2.2.2.1
theorem kt_bool_int : kitB "bool" "int" = some true := kit_table.2.2.2.2.2.2.2.2.2.2.2.2.1
theorem kt_bool_bool : kitB "bool" "bool" = some true := kit_table.2.2.2.2.2.2.2.2.2.2.2.2.2.1
theorem kt_bool_str : kitB "bool" "str" = some false := kit_table.2.2.2.2.2.2.2.2.2.2.2.2.2.2.1
theorem kt_bool_list : kitB "bool" "list" = some false := kit_table.2.2.2.2.2.2.2.2.2.2.2.2.2.2.2.1
theorem kt_bool_tuple : kitB "bool" "tuple" = some false := kit_table.2.2.2.2.2.2.2.2.2.2.2.2.2.2.2.2.1
theorem kt_bool_dict : kitB "bool" "dict" = some false := kit_table.2.2.2.2.2.2.2.2.2.2.2.2.2.2.2.2.2.1
theorem kt_str_int : kitB "str" "int" = some false := kit_table.2.2.2.2.2.2.2.2.2.2.2.2.2.2.2.2.2.2.1
theorem kt_str_bool : kitB "str" "bool" = some false := kit_table.2.2.2.2.2.2.2.2.2.2.2.2.2.2.2.2.2.2.2.1
theorem kt_str_str : kitB "str" "str" = some true := kit_table.2.2.2.2.2.2.2.2.2.2.2.2.2.2.2.2.2.2.2.2.1
theorem kt_str_list : kitB "str" "list" = some false := kit_table.2.2.2.2.2.2.2.2.2.2.2.2.2.2.2.2.2.2.2.2.2.1
theorem kt_str_tuple : kitB "str" "tuple" = some false := kit_table.2.2.2.2.2.2.2.2.2.2.2.2.2.2.2.2.2.2.2.2.2.2.1
theorem kt_str_dict : kitB "str" "dict" = some false := kit_table.2.2.2.2.2.2.2.2.2.2.2.2.2.2.2.2.2.2.2.2.2.2.2.1
theorem kt_list_int : kitB "list" "int" = some false := kit_table.2.2.2.2.2.2.2.2.2.2.2.2.2.2.2.2.2.2.2.2.2.2.2.2.1
theorem kt_list_bool : kitB "list" "bool" = some false := kit_table.2.2.2.2.2.2.2.2.2.2.2.2.2.2.2.2.2.2.2.2.2.2.2.2.2.1
theorem kt_list_str : kitB "list" "str" = some false := kit_table.2.2.2.2.2.2.2.2.2.2.2.2.2.2.2.2.2.2.2.2.2.2.2.2.2.2.1
theorem kt_list_list : kitB "list" "list" = some true := kit_table.2.2.2.2.2.2.2.2.2.2.2.2.2.2.2.2.2.2.2.2.2.2.2.2.2.2.2.1
theorem kt_list_tuple : kitB "list" "tuple" = some false := kit_table.2.2.2.2.2.2.2.2.2.2.2.2.2.2.2.2.2.2.2.2.2.2.2.2.2.2.2.2.1
theorem kt_list_dict : kitB "list" "dict" = some false := kit_table.2.2.2.2.2.2.2.2.2.2.2.2.2.2.2.2.2.2.2.2.2.2.2.2.2.2.2.2.2.1
theorem kt_tuple_int : kitB "tuple" "int" = some false := kit_table.2.2.2.2.2.2.2.2.2.2.2.2.2.2.2.2.2.2.2.2.2.2.2.2.2.2.2.2.2.2.1
theorem kt_tuple_bool : kitB "tuple" "bool" = some false := kit_table.2.2.2.2.2.2.2.2.2.2.2.2.2.2.2.2.2.2.2.2.2.2.2.2.2.2.2.2.2.2.2.1
theorem kt_tuple_str : kitB "tuple" "str" = some false := kit_table.2.2.2.2.2.2.2.2.2.2.2.2.2.2.2.2.2.2.2.2.2.2.2.2.2.2.2.2.2.2.2.2.1
theorem kt_tuple_list : kitB "tuple" "list" = some false := kit_table.2.2.2.2.2.2.2.2.2.2.2.2.2.2.2.2.2.2.2.2.2.2.2.2.2.2.2.2.2.2.2.2.2.1
theorem kt_tuple_tuple : kitB "tuple" "tuple" = some true := kit_table.2.2.2.2.2.2.2.2.2.2.2.2.2.2.2.2.2.2.2.2.2.2.2.2.2.2.2.2.2.2.2.2.2.2.1
theorem kt_tuple_dict : kitB "tuple" "dict" = some false := kit_table.2.2.2.2.2.2.2.2.2.2.2.2.2.2.2.2.2.2.2.2.2.2.2.2.2.2.2.2.2.2.2.2.2.2.2.1
theorem kt_dict_int : kitB "dict" "int" = some false := kit_table.2.2.2.2.2.2.2.2.2.2.2.2.2.2.2.2.2.2.2.2.2.2.2.2.2.2.2.2.2.2.2.2.2.2.2.2.1
theorem kt_dict_bool : kitB "dict" "bool" = some false := kit_table.2.2.2.2.2.2.2.2.2.2.2.2.2.2.2.2.2.2.2.2.2.2.2.2.2.2.2.2.2.2.2.2.2.2.2.2.2.1
theorem kt_dict_str : kitB "dict" "str" = some false := kit_table.2.2.2.2.2.2.2.2.2.2.2.2.2.2.2.2.2.2.2.2.2.2.2.2.2.2.2.2.2.2.2.2.2.2.2.2.2.2.1
theorem kt_dict_list : kitB "dict" "list" = some false := kit_table.2.2.2.2.2.2.2.2.2.2.2.2.2.2.2.2.2.2.2.2.2.2.2.2.2.2.2.2.2.2.2.2.2.2.2.2.2.2.2.1
theorem kt_dict_tuple : kitB "dict" "tuple" = some false := kit_table.2.2.2.2.2.2.2.2.2.2.2.2.2.2.2.2.2.2.2.2.2.2.2.2.2.2.2.2.2.2.2.2.2.2.2.2.2.2.2.2.1
theorem kt_dict_dict : kitB "dict" "dict" = some true := kit_table.2.2.2.2.2.2.2.2.2.2.2.2.2.2.2.2.2.2.2.2.2.2.2.2.2.2.2.2.2.2.2.2.2.2.2.2.2.2.2.2.2
end XB

/-! How a reading is taken apart: each row fires where the reading stands with all that it wants. -/
namespace XB
open PySem L2
/-- a loop that has its iterator -/
def Loop (J : It) (g : TG) (tb : TS) (D : Ends) (σ : L2.St) (H : Hp) : Prop := ∃ W : Nat → Nat → L2.St → Hp → Prop, (∃ m, W 0 m σ H) ∧ ∀ i m σ H, W i m σ H →
  (J.stop i H ∧ D.nx σ H) ∨ (J.go i H ∧ ∃ N : L2.St → Hp → Prop, (∀ σ' H', N σ' H' → ∃ m', m' < m ∧ W (i + 1) m' σ' H') ∧ ∀ x H', J.yld i H x H' → g x σ H' fun σ2 H2 => tb { D with nx := N, ct := N, bk := D.nx } σ2 H2)
/-- a comprehension that has its iterator and its new list at D -/
def Made (J : It) (g : TG) (tt : TT) (te : TE) (vs : List Nat) (σ : L2.St) (D : Addr) (H1 : Hp) (Qd : Hp → Prop) : Prop := ∃ W : Nat → Nat → Hp → Prop, (∃ m, W 0 m (upd H1 D (.lst []))) ∧ ∀ i m H, W i m H →
  (J.stop i H ∧ Qd H) ∨ (J.go i H ∧ ∃ Nx : Hp → Prop, (∀ H', Nx H' → ∃ m', m' < m ∧ W (i + 1) m' H') ∧ ∀ x H', J.yld i H x H' → g x (wipe σ vs) H' fun σ2 H2 => wipe σ2 vs = wipe σ vs ∧ tt σ2 H2 fun b H3 =>
    if b = true then te σ2 H3 fun y H4 => ∃ acc, H4 D = some (.lst acc) ∧ acc.length < sizeLine ∧ Nx (upd H4 D (.lst (acc ++ [y]))) else Nx H3)
section
variable {K : PySem.W.Frag} {σ : L2.St} {H : Hp} {Q : VK} {i j : Int} {v : V}
theorem u_var {n : Nat} : tVar n σ H Q = ∃ v, σ[n]? = some (some v) ∧ Q v H := rfl
theorem u_c : tC v σ H Q = Q v H := rfl
theorem u_op {r : R2} {ta tb : TE} : tOp r ta tb σ H Q = ta σ H fun x H1 => tb σ H1 fun y H2 => r x y H2 Q := rfl
theorem u_un {r : V → Hp → VK → Prop} {ta : TE} : tUn r ta σ H Q = ta σ H fun x H1 => r x H1 Q := rfl
theorem u_nil {R : List V → Hp → Prop} : tNil σ H R = R [] H := rfl
theorem u_cons {te : TE} {tr : TA} {R : List V → Hp → Prop} : tCons te tr σ H R = te σ H fun x H1 => tr σ H1 fun xs H2 => R (x :: xs) H2 := rfl
theorem u_cb {r : List V → Hp → VK → Prop} {t : TA} : tCB r t σ H Q = t σ H fun vs H1 => r vs H1 Q := rfl
theorem u_call {sp : Sp} {dvs : List V} {E : XK} {t : TA} : tCall sp dvs E t σ H Q = t σ H fun vs H1 => sp (vs ++ dvs) H1 Q E := rfl
theorem u_callS {sp : Sp} {E : L2.St → XK} {t : TA} : tCallS sp E t σ H Q = t σ H fun vs H1 => sp vs H1 Q (E σ) := rfl
theorem u_tup {t : TA} : tTup t σ H Q = t σ H fun xs H1 => xs.length ≤ sizeLine ∧ ∀ p, H1 p = none → Q (.ref p) (upd H1 p (.tup xs)) := rfl
theorem u_lst {t : TA} : tLst t σ H Q = t σ H fun xs H1 => xs.length ≤ sizeLine ∧ ∀ p, H1 p = none → Q (.ref p) (upd H1 p (.lst xs)) := rfl
theorem u_test {te : TE} {R : Bool → Hp → Prop} : tTest te σ H R = te σ H fun x H1 => ∃ k, x = .bl k ∧ R k H1 := rfl
theorem u_B {te : TE} {R : Bool → Hp → Prop} : tB te σ H R = te σ H fun x H1 => ∃ k, x = .bl k ∧ R k H1 := rfl
theorem u_and {t u : TT} {R : Bool → Hp → Prop} : tAnd t u σ H R = t σ H fun c H1 => if c = true then u σ H1 R else R false H1 := rfl
theorem u_or {t u : TT} {R : Bool → Hp → Prop} : tOr t u σ H R = t σ H fun c H1 => if c = true then R true H1 else u σ H1 R := rfl
theorem u_not {t : TT} {R : Bool → Hp → Prop} : tNot t σ H R = t σ H fun c H1 => R (!c) H1 := rfl
theorem u_andV {ta tb : TE} : tAndV ta tb σ H Q = ta σ H fun x H1 => ∃ c, x = .bl c ∧ if c = true then tb σ H1 Q else Q (.bl false) H1 := rfl
theorem u_orV {ta tb : TE} : tOrV ta tb σ H Q = ta σ H fun x H1 => ∃ c, x = .bl c ∧ if c = true then Q (.bl true) H1 else tb σ H1 Q := rfl
theorem u_notV {ta : TE} : tNotV ta σ H Q = ta σ H fun x H1 => ∃ c, x = .bl c ∧ Q (.bl (!c)) H1 := rfl
theorem u_ifE {t : TT} {ta tb : TE} : tIf t ta tb σ H Q = t σ H fun c H1 => if c = true then ta σ H1 Q else tb σ H1 Q := rfl
theorem u_chain {r r' : R2} {ta tb tc : TE} : tChain r r' ta tb tc σ H Q = ta σ H fun x H1 => tb σ H1 fun y H2 => r x y H2 fun z H3 => ∃ k, z = .bl k ∧ (if k = true then tc σ H3 fun w' H4 => r' y w' H4 Q else Q (.bl false) H3) := rfl
theorem u_sl {r : V → Option Int → Option Int → Hp → VK → Prop} {te : TE} {tl th : TO} : tSl r te tl th σ H Q = te σ H fun x H1 => tl σ H1 fun l H2 => th σ H2 fun u H3 => r x l u H3 Q := rfl
theorem u_noPart {R : Option Int → Hp → Prop} : tNoPart σ H R = R none H := rfl
theorem u_part {te : TE} {R : Option Int → Hp → Prop} : tPart te σ H R = te σ H fun x H1 => ∃ i, x = .int i ∧ R (some i) H1 := rfl
theorem u_bm {T : String} {r : RM} {to : TE} {t : TA} : tBMF T r to t σ H Q = to σ H fun x H1 => tyN x H1 = some T ∧ t σ H1 fun xs H2 => r x xs H2 Q := rfl
theorem u_bm0 {T : String} {r : RM} {to : TE} : tBM0F T r to σ H Q = to σ H fun x H1 => tyN x H1 = some T ∧ r x [] H1 Q := rfl
theorem u_rev {te : TE} : tRevF te σ H Q = te σ H fun x H1 => match x with
  | .ref a => (match asL (H1 a) with
    | some xs => ∀ p, H1 p = none → Q (.ref p) (upd H1 p (.lst xs.reverse))
    | none => False)
  | _ => False := rfl
theorem u_lc {wi : TI} {g : TG} {tt : TT} {te : TE} {vs : List Nat} : tLc wi g tt te vs σ H Q = wi σ H fun J H1 => ∀ D, H1 D = none → Made J g tt te vs σ D H1 fun H' => Q (.ref D) H' := rfl
-- what is walked
variable {R : It → Hp → Prop}
theorem u_rng1 {ta : TA} : iRng1 ta σ H R = ta σ H fun vs H1 => ∃ j : Int, vs = [.int j] ∧ -(2 ^ 62) ≤ j ∧ j < 2 ^ 62 ∧ R (Itr 0 j.toNat) H1 := rfl
theorem u_rng2 {ta : TA} : iRng2 ta σ H R = ta σ H fun vs H1 => ∃ i j : Int, vs = [.int i, .int j] ∧ (-(2 ^ 62) ≤ i ∧ i < 2 ^ 62 ∧ -(2 ^ 62) ≤ j ∧ j < 2 ^ 62) ∧ R (Itr i (j - i).toNat) H1 := rfl
theorem u_list {tl : TE} : iList K tl σ H R = tl σ H fun x H1 => ∃ a, x = .ref a ∧ (∃ xs, SqL K H1 a xs) ∧ R (Itl K a) H1 := rfl
theorem u_revI {ta : TA} : iRev K ta σ H R = ta σ H fun vs H1 => ∃ (a : Addr) (xs : List V), vs = [.ref a] ∧ SqL K H1 a xs ∧ R (Itv K a xs.length) H1 := rfl
theorem u_zipI {ta : TA} : iZip K ta σ H R = ta σ H fun vs H1 => ∃ a b xs ys, vs = [.ref a, .ref b] ∧ SqL K H1 a xs ∧ SqL K H1 b ys ∧ R (Itz K a b) H1 := rfl
-- statements
variable {D : Ends} {t u w : TS} {te : TE} {g : TG} {n : Nat}
theorem u_next : tNext D σ H = D.nx σ H := rfl
theorem u_ret : tRet te D σ H = te σ H D.rt := rfl
theorem u_gname {S : L2.St → Hp → Prop} : gName n v σ H S = S (σ.set n (some v)) H := rfl
theorem u_gnil {vs : List V} {S : L2.St → Hp → Prop} : gNil vs σ H S = (vs = [] ∧ S σ H) := rfl
theorem u_gcons {t : TG} {u : TGs} {vs : List V} {S : L2.St → Hp → Prop} : gCons t u vs σ H S = ∃ v r, vs = v :: r ∧ t v σ H fun σ' H' => u r σ' H' S := rfl
theorem u_gsub {to ti : TE} {t : TSet} {S : L2.St → Hp → Prop} : gSub to ti t v σ H S = to σ H fun o H1 => ti σ H1 fun i H2 => t o i v H2 fun H3 => S σ H3 := rfl
theorem u_gtup {t : TGs} {a : Addr} {S : L2.St → Hp → Prop} : gTupF n t (.ref a) σ H S = (match asT (H a) with
    | some xs => xs.length = n ∧ t xs σ H S
    | none => False) := rfl
theorem q_asg (h : te σ H fun x H1 => g x σ H1 (u D)) : tSeq (tAsg te g) u D σ H := h
theorem q_asg1 (h : te σ H fun x H1 => g x σ H1 D.nx) : tAsg te g D σ H := h
theorem q_drop (h : te σ H fun _ H1 => u D σ H1) : tSeq (tDrop te) u D σ H := h
theorem q_drop1 (h : te σ H fun _ H1 => D.nx σ H1) : tDrop te D σ H := h
theorem q_if {c : TT} (h : c σ H fun b H1 => if b = true then t { D with nx := u D } σ H1 else w { D with nx := u D } σ H1) : tSeq (tIfS c t w) u D σ H := h
theorem q_if1 {c : TT} (h : c σ H fun b H1 => if b = true then t D σ H1 else w D σ H1) : tIfS c t w D σ H := h
theorem q_ret (h : te σ H D.rt) : tRet te D σ H := h
theorem q_seq (h : t { D with nx := u D } σ H) : tSeq t u D σ H := h
theorem q_for {wi : TI} (h : wi σ H fun J H1 => Loop J g t { D with nx := u D } σ H1) : tSeq (tFor wi g t) u D σ H := h
theorem q_for1 {wi : TI} (h : wi σ H fun J H1 => Loop J g t D σ H1) : tFor wi g t D σ H := h
-- operators at values
theorem f_add : fAdd (.int i) (.int j) H Q = Q (.int (i + j)) H := rfl
theorem f_addS {a b : Str} : fAdd (.str a) (.str b) H Q = (a.length + b.length ≤ sizeLine ∧ Q (.str (a ++ b)) H) := rfl
theorem f_addR {a b : Addr} : fAdd (.ref a) (.ref b) H Q = (match H a, H b with
    | some (.lst xs), some (.lst ys) => xs.length + ys.length ≤ sizeLine ∧ ∀ p, H p = none → Q (.ref p) (upd H p (.lst (xs ++ ys)))
    | some (.tup xs), some (.tup ys) => xs ≠ [] ∧ ys ≠ [] ∧ xs.length + ys.length ≤ sizeLine ∧ ∀ p, H p = none → Q (.ref p) (upd H p (.tup (xs ++ ys)))
    | _, _ => False) := rfl
theorem f_sub : fSub (.int i) (.int j) H Q = Q (.int (i - j)) H := rfl
theorem f_mul : fMul (.int i) (.int j) H Q = (CMul i j ∧ Q (.int (i * j)) H) := rfl
theorem f_mulR {a : Addr} : fMul (.ref a) (.int i) H Q = (match H a with
    | some (.lst xs) => (-(2 ^ 63) ≤ i ∧ i < 2 ^ 63 ∧ xs.length * i.toNat ≤ sizeLine) ∧ ∀ p, H p = none → Q (.ref p) (upd H p (.lst (List.replicate i.toNat xs).flatten))
    | _ => False) := rfl
theorem f_mod : fMod (.int i) (.int j) H Q = (0 < j ∧ Q (.int (i % j)) H) := rfl
theorem f_div : fDiv (.int i) (.int j) H Q = (CDivW i j ∧ Q (.int (i / j)) H) := rfl
theorem f_pow : fPow (.int i) (.int j) H Q = (CPow i j ∧ Q (.int (i ^ j.toNat)) H) := rfl
theorem f_neg : fNeg (.int i) H Q = Q (.int (-i)) H := rfl
theorem f_cmp {f : Int → Int → Bool} : fCmp f (.int i) (.int j) H Q = Q (.bl (f i j)) H := rfl
theorem f_eq : fEq K (.int i) (.int j) H Q = Q (.bl (decide (i = j))) H := rfl
theorem f_eqB {a b : Bool} : fEq K (.bl a) (.bl b) H Q = Q (.bl (decide (a = b))) H := rfl
theorem f_eqS {a b : Str} : fEq K (.str a) (.str b) H Q = Q (.bl (decide (a = b))) H := rfl
theorem f_ne : fNe K (.int i) (.int j) H Q = Q (.bl (!decide (i = j))) H := rfl
theorem f_neB {a b : Bool} : fNe K (.bl a) (.bl b) H Q = Q (.bl (!decide (a = b))) H := rfl
theorem f_neS {a b : Str} : fNe K (.str a) (.str b) H Q = Q (.bl (!decide (a = b))) H := rfl
theorem f_isN : fIsN v .non H Q = Q (.bl (decide (v = .non))) H := rfl
theorem f_notN : fNotN v .non H Q = Q (.bl (!decide (v = .non))) H := rfl
theorem f_isB {a b : Bool} : fIsB (.bl a) (.bl b) H Q = Q (.bl (decide (a = b))) H := rfl
theorem f_ix {p : Addr} : fIx (.ref p) (.int i) H Q = (match asS (H p) with
    | some xs => atV xs i fun v => Q v H
    | none => False) := rfl
theorem f_ixS {z : Str} : fIx (.str z) (.int i) H Q = (z.length ≤ sizeLine ∧ ∃ c, atI z.cps.toList i = some c ∧ Q (.str ⟨#[c]⟩) H) := rfl
theorem f_int : fInt [.int i] H Q = Q (.int i) H := rfl
theorem f_intB {k : Bool} : fInt [.bl k] H Q = Q (.int (if k then 1 else 0)) H := rfl
theorem f_len {p : Addr} : fLen [.ref p] H Q = (match asS (H p) with
    | some ys => Q (.int (ys.length : Nat)) H
    | none => False) := rfl
theorem f_lenS {z : Str} : fLen [.str z] H Q = (z.length ≤ sizeLine ∧ Q (.int (z.length : Nat)) H) := rfl
theorem f_max : fMax [.int i, .int j] H Q = Q (.int (max i j)) H := rfl
theorem f_min : fMin [.int i, .int j] H Q = Q (.int (min i j)) H := rfl
theorem f_abs : fAbs [.int i] H Q = Q (.int (if i < 0 then -i else i)) H := rfl
theorem f_list {p : Addr} : fList [.ref p] H Q = (match asS (H p) with
    | some ys => ∀ l, H l = none → Q (.ref l) (upd H l (.lst ys))
    | none => False) := rfl
theorem f_tuple {p : Addr} : fTuple [.ref p] H Q = (match asL (H p) with
    | some ys => ∀ l, H l = none → Q (.ref l) (upd H l (.tup ys))
    | none => False) := rfl
theorem f_all {p : Addr} : fAll [.ref p] H Q = (match asL (H p) with
    | some ys => ∃ bs : List Bool, ys = bs.map V.bl ∧ Q (.bl (bs.all id)) H
    | none => False) := rfl
theorem f_sum {p : Addr} : fSum [.ref p] H Q = (match asL (H p) with
    | some ys => ∃ ns : List Int, ys = ns.map V.int ∧ Q (.int ns.sum) H
    | none => False) := rfl
theorem f_isi {c : String} : fIsi [v, .ty c] H Q = (match tyN v H with
    | some t => (match kitB t c with
      | some b => Q (.bl b) H
      | none => False)
    | none => False) := rfl
theorem f_isiT {p : Addr} : fIsiT [v, .ref p] H Q = (match tyN v H, H p with
    | some t, some (.tup cs) => (match tys cs with
      | some ns => (match kitS t ns with
        | some b => Q (.bl b) H
        | none => False)
      | none => False)
    | _, _ => False) := rfl
theorem f_append {l : Addr} : fAppend (.ref l) [v] H Q = (match H l with
    | some (.lst xs) => xs.length < sizeLine ∧ Q .non (upd H l (.lst (xs ++ [v])))
    | _ => False) := rfl
theorem f_insert {l : Addr} : fInsert (.ref l) [.int i, v] H Q = (match H l with
    | some (.lst xs) => (xs.length < sizeLine ∧ 0 ≤ i ∧ i < 2 ^ 63) ∧ Q .non (upd H l (.lst (xs.take i.toNat ++ [v] ++ xs.drop i.toNat)))
    | _ => False) := rfl
theorem f_pop {l : Addr} : fPop (.ref l) [] H Q = (match H l with
    | some (.lst xs) => (match xs[xs.length - 1]? with
      | some y => Q y (upd H l (.lst xs.dropLast))
      | none => False)
    | _ => False) := rfl
theorem f_sl {p : Addr} {lo hi : Option Int} : fSl (.ref p) lo hi H Q = (match asL (H p) with
    | some xs => ∀ q, H q = none → Q (.ref q) (upd H q (.lst (cutV xs lo hi)))
    | none => (match asT (H p) with
      | some xs => ¬ (HT.sIx xs.length 0 lo = 0 ∧ HT.sIx xs.length xs.length hi = xs.length) ∧ ∀ q, H q = none → Q (.ref q) (upd H q (.tup (cutV xs lo hi)))
      | none => False)) := rfl
theorem f_set {p : Addr} {S : Hp → Prop} : fSet (.ref p) (.int i) v H S = (match H p with
    | some (.lst xs) => (match ixN xs.length i with
      | some j => S (upd H p (.lst (xs.set j v)))
      | none => False)
    | _ => False) := rfl
theorem asL_lst {xs : List V} : asL (some (.lst xs)) = some xs := rfl
theorem asL_frz {xs : List V} {o : Obj} : asL (some (.frz o (.lst xs))) = some xs := rfl
theorem asL_tup {xs : List V} : asL (some (.tup xs)) = none := rfl
theorem asT_tup {xs : List V} : asT (some (.tup xs)) = some xs := rfl
theorem asS_lst {xs : List V} : asS (some (.lst xs)) = some xs := rfl
theorem asS_frz {xs : List V} {o : Obj} : asS (some (.frz o (.lst xs))) = some xs := rfl
theorem asS_tup {xs : List V} : asS (some (.tup xs)) = some xs := rfl
theorem tyN_non : tyN .non H = some "NoneType" := rfl
theorem tyN_bl {b : Bool} : tyN (.bl b) H = some "bool" := rfl
theorem tyN_int : tyN (.int i) H = some "int" := rfl
theorem tyN_str {z : Str} : tyN (.str z) H = some "str" := rfl
theorem tyN_lst {p : Addr} {xs : List V} (h : H p = some (.lst xs)) : tyN (.ref p) H = some "list" := by simp only [tyN, h]
theorem tyN_tup {p : Addr} {xs : List V} (h : H p = some (.tup xs)) : tyN (.ref p) H = some "tuple" := by simp only [tyN, h]
theorem tyN_dK {p : Addr} {kvs : List (Key × V)} (h : H p = some (.dK kvs)) : tyN (.ref p) H = some "dict" := by simp only [tyN, h]
theorem at_nat {xs : List V} {k : Nat} {q : V → Prop} (h : xs[k]? = some v) (hq : q v) : atV xs (k : Int) q := by
  unfold atV
  rw [atI_nat h]
  exact hq
theorem atV_lit {xs : List V} {k : Nat} {q : V → Prop} : atV xs (no_index (OfNat.ofNat k)) q = (match xs[k]? with
    | some v => q v
    | none => False) := by
  have e : (OfNat.ofNat k : Int) = (k : Int) := rfl
  unfold atV
  cases h : xs[k]? with
  | some v => rw [e, atI_nat h]
  | none =>
    have hk : xs.length ≤ k := List.getElem?_eq_none_iff.mp h
    have e2 : atI xs (OfNat.ofNat k) = none := by
      unfold atI ixN
      rw [e, if_pos (by omega), if_neg (by omega)]
      rfl
    rw [e2]
theorem ixN_lit {n k : Nat} : ixN n (no_index (OfNat.ofNat k)) = if k < n then some k else none := by
  have e : (OfNat.ofNat k : Int) = (k : Int) := rfl
  unfold ixN
  rw [e, if_pos (by omega)]
  by_cases h : k < n
  · rw [if_pos (by omega), if_pos h]
    simp
  · rw [if_neg (by omega), if_neg h]
/-! ### loops -/
theorem loop_list {a : Addr} {xs : List V} {tb : TS} (Pv : Nat → L2.St → Hp → Prop) (h0 : Pv 0 σ H) (hl : ∀ i σ H, i ≤ xs.length → Pv i σ H → asL (H a) = some xs)
    (hs : ∀ i x σ H, xs[i]? = some x → Pv i σ H → g x σ H fun σ2 H2 => tb { D with nx := Pv (i + 1), ct := Pv (i + 1), bk := D.nx } σ2 H2) (hd : ∀ σ H, Pv xs.length σ H → D.nx σ H) : Loop (Itl K a) g tb D σ H :=
  for_list (K := K) Pv h0 (fun i σ H h p => asL_seq (hl i σ H h p)) hs hd
theorem loop_range {lo : Int} {m : Nat} {tb : TS} (Pv : Nat → L2.St → Hp → Prop) (h0 : Pv 0 σ H) (hs : ∀ i σ H, i < m → Pv i σ H → g (.int (lo + i)) σ H fun σ2 H2 => tb { D with nx := Pv (i + 1), ct := Pv (i + 1), bk := D.nx } σ2 H2)
    (hd : ∀ σ H, Pv m σ H → D.nx σ H) : Loop (Itr lo m) g tb D σ H := for_range Pv h0 hs hd
theorem walk_list {te : TE} {R : It → Hp → Prop} (h : te σ H fun x H1 => ∃ a xs, x = .ref a ∧ asL (H1 a) = some xs ∧ R (Itl K a) H1) (m : ∀ (Q Q' : VK), (∀ v H', Q v H' → Q' v H') → te σ H Q → te σ H Q') : iList K te σ H R :=
  m _ _ (fun v H' ⟨a, xs, e, e2, r⟩ => ⟨a, e, ⟨xs, asL_seq e2⟩, r⟩) h
theorem u_listV {R : It → Hp → Prop} {a : Addr} {xs : List V} (h : σ[n]? = some (some (.ref a))) (e : asL (H a) = some xs) (q : R (Itl K a) H) : iList K (tVar n) σ H R := ⟨_, h, a, rfl, ⟨xs, asL_seq e⟩, q⟩
theorem made_list {a Dd : Addr} {xs : List V} {tt : TT} {te : TE} {vs : List Nat} {Qd : Hp → Prop} (Pv : Nat → Hp → Prop) (h0 : Pv 0 (upd H Dd (.lst []))) (hl : ∀ i H, i ≤ xs.length → Pv i H → asL (H a) = some xs)
    (hs : ∀ i x H, xs[i]? = some x → Pv i H → g x (wipe σ vs) H fun σ2 H2 => wipe σ2 vs = wipe σ vs ∧ tt σ2 H2 fun b H3 =>
      if b = true then te σ2 H3 fun y H4 => ∃ acc, H4 Dd = some (.lst acc) ∧ acc.length < sizeLine ∧ Pv (i + 1) (upd H4 Dd (.lst (acc ++ [y]))) else Pv (i + 1) H3) (hd : ∀ H, Pv xs.length H → Qd H) : Made (Itl K a) g tt te vs σ Dd H Qd :=
  lc_list (K := K) Pv h0 (fun i H h p => asL_seq (hl i H h p)) hs hd
theorem made_range {lo : Int} {m : Nat} {Dd : Addr} {tt : TT} {te : TE} {vs : List Nat} {Qd : Hp → Prop} (Pv : Nat → Hp → Prop) (h0 : Pv 0 (upd H Dd (.lst [])))
    (hs : ∀ i H, i < m → Pv i H → g (.int (lo + i)) (wipe σ vs) H fun σ2 H2 => wipe σ2 vs = wipe σ vs ∧ tt σ2 H2 fun b H3 =>
      if b = true then te σ2 H3 fun y H4 => ∃ acc, H4 Dd = some (.lst acc) ∧ acc.length < sizeLine ∧ Pv (i + 1) (upd H4 Dd (.lst (acc ++ [y]))) else Pv (i + 1) H3) (hd : ∀ H, Pv m H → Qd H) : Made (Itr lo m) g tt te vs σ Dd H Qd :=
  lc_range Pv h0 hs hd
theorem w_nil : wipe σ [] = σ := rfl
theorem w_cons {k : Nat} {ks : List Nat} : wipe σ (k :: ks) = (wipe σ ks).set k none := rfl
/-- what stood stands -/
abbrev Sm (H H' : Hp) : Prop := ∀ b o, H b = some o → H' b = some o
theorem sm_new {H H1 : Hp} {p : Addr} {o : HO} (s : Sm H H1) (h : H1 p = none) : Sm H (upd H1 p o) := fun b u e => by
  rw [upd_ne (ne_of_none (s b u e) h)]
  exact s b u e
@[elab_as_elim] theorem al {H : Hp} {p : Addr} {o : HO} {motive : Hp → Prop} (np : H p = none) (k : ∀ H', Sm H H' → H' p = some o → motive H') : motive (upd H p o) := k _ (sm_new (fun _ _ z => z) np) upd_same
theorem sm_none {H H' : Hp} {p : Addr} (s : Sm H H') (h : H' p = none) : H p = none := by
  cases e : H p with
  | none => rfl
  | some o => rw [s _ _ e] at h; cases h
theorem sm_trans {H H1 H2 : Hp} (a : Sm H H1) (b : Sm H1 H2) : Sm H H2 := fun p o z => b p o (a p o z)
theorem sm_put {H H1 : Hp} {p : Addr} {o : HO} (s : Sm H H1) (h : H p = none) : Sm H (upd H1 p o) := fun b u e => by
  rw [upd_ne (ne_of_none e h)]
  exact s b u e
theorem sm_L {p : Addr} {H H' : Hp} {xs : List V} (s : Sm H H') (h : asL (H p) = some xs) : asL (H' p) = some xs := by
  cases e : H p with
  | none => rw [e] at h; cases h
  | some o => rw [s p o e, ← e]; exact h
theorem sm_T {p : Addr} {H H' : Hp} {xs : List V} (s : Sm H H') (h : asT (H p) = some xs) : asT (H' p) = some xs := by
  cases e : H p with
  | none => rw [e] at h; cases h
  | some o => rw [s p o e, ← e]; exact h
theorem sm_S {p : Addr} {H H' : Hp} {xs : List V} (s : Sm H H') (h : asS (H p) = some xs) : asS (H' p) = some xs := by
  cases e : H p with
  | none => rw [e] at h; cases h
  | some o => rw [s p o e, ← e]; exact h
theorem take_map_succ {α β : Type} {xs : List α} {i : Nat} {x : α} {f : α → β} (h : xs[i]? = some x) : (xs.take (i + 1)).map f = (xs.take i).map f ++ [f x] := by
  have hi := (List.getElem?_eq_some_iff.mp h)
  obtain ⟨hl, e⟩ := hi
  rw [List.take_add_one, h]
  simp
/-- a comprehension over a list, one value for each item -/
theorem made_map {a Dd : Addr} {xs : List V} {te : TE} {vs : List Nat} {Qd : Hp → Prop} (f : V → V) (hl : asL (H a) = some xs) (hD : H Dd = none) (hz : xs.length < sizeLine) (hw : ∀ x, wipe ((wipe σ vs).set n (some x)) vs = wipe σ vs)
    (he : ∀ (i : Nat) (x : V) (H' : Hp) (Q : VK), xs[i]? = some x → Sm H H' → (∀ H2, Sm H' H2 → Q (f x) H2) → te ((wipe σ vs).set n (some x)) H' Q) (hd : ∀ H', Sm H H' → H' Dd = some (.lst (xs.map f)) → Qd H') : Made (Itl K a) (gName n) tYes te vs σ Dd H Qd := by
  refine made_list (fun i H' => Sm H H' ∧ H' Dd = some (.lst ((xs.take i).map f))) ⟨sm_new (fun _ _ h => h) hD, upd_same⟩ (fun i H' _ p => sm_L p.1 hl) (fun i x H' hx p => ⟨hw x, ?_⟩) fun H' p => hd H' p.1 (by rw [← List.take_length (l := xs)]; exact p.2)
  refine iteT (B := Sm H H' ∧ H' Dd = some (.lst ((xs.take (i + 1)).map f))) ?_
  refine he i x H' _ hx p.1 fun H2 s2 => ⟨(xs.take i).map f, s2 _ _ p.2, ?_, ?_, ?_⟩
  · rw [List.length_map, List.length_take]; omega
  · exact sm_put (fun b o z => s2 b o (p.1 b o z)) hD
  · rw [upd_same, take_map_succ hx]
/-- .. over a list that stands for good -/
theorem made_mapS {a Dd : Addr} {xs : List V} {te : TE} {vs : List Nat} {Qd : Hp → Prop} (f : V → V) (hl : ∀ H', Sm H H' → SqL K H' a xs) (hD : H Dd = none) (hz : xs.length < sizeLine) (hw : ∀ x, wipe ((wipe σ vs).set n (some x)) vs = wipe σ vs)
    (he : ∀ (i : Nat) (x : V) (H' : Hp) (Q : VK), xs[i]? = some x → Sm H H' → (∀ H2, Sm H' H2 → Q (f x) H2) → te ((wipe σ vs).set n (some x)) H' Q) (hd : ∀ H', Sm H H' → H' Dd = some (.lst (xs.map f)) → Qd H') : Made (Itl K a) (gName n) tYes te vs σ Dd H Qd := by
  refine lc_list (K := K) (fun i H' => Sm H H' ∧ H' Dd = some (.lst ((xs.take i).map f))) ⟨sm_new (fun _ _ h => h) hD, upd_same⟩ (fun i H' _ p => hl H' p.1) (fun i x H' hx p => ⟨hw x, ?_⟩) fun H' p => hd H' p.1 (by rw [← List.take_length (l := xs)]; exact p.2)
  refine iteT (B := Sm H H' ∧ H' Dd = some (.lst ((xs.take (i + 1)).map f))) ?_
  refine he i x H' _ hx p.1 fun H2 s2 => ⟨(xs.take i).map f, s2 _ _ p.2, ?_, ?_, ?_⟩
  · rw [List.length_map, List.length_take]; omega
  · exact sm_put (fun b o z => s2 b o (p.1 b o z)) hD
  · rw [upd_same, take_map_succ hx]
/-- .. over a range -/
theorem made_mapR {lo : Int} {m : Nat} {Dd : Addr} {te : TE} {vs : List Nat} {Qd : Hp → Prop} (f : Nat → V) (hD : H Dd = none) (hz : m < sizeLine) (hw : ∀ x, wipe ((wipe σ vs).set n (some x)) vs = wipe σ vs)
    (he : ∀ (i : Nat) (H' : Hp) (Q : VK), i < m → Sm H H' → (∀ H2, Sm H' H2 → Q (f i) H2) → te ((wipe σ vs).set n (some (.int (lo + (i : Nat))))) H' Q) (hd : ∀ H', Sm H H' → H' Dd = some (.lst ((List.range m).map f)) → Qd H') : Made (Itr lo m) (gName n) tYes te vs σ Dd H Qd := by
  refine made_range (fun i H' => Sm H H' ∧ H' Dd = some (.lst ((List.range i).map f))) ⟨sm_new (fun _ _ h => h) hD, upd_same⟩ (fun i H' hi p => ⟨hw _, ?_⟩) fun H' p => hd H' p.1 p.2
  refine iteT (B := Sm H H' ∧ H' Dd = some (.lst ((List.range (i + 1)).map f))) ?_
  refine he i H' _ hi p.1 fun H2 s2 => ⟨(List.range i).map f, s2 _ _ p.2, ?_, ?_, ?_⟩
  · rw [List.length_map, List.length_range]; omega
  · exact sm_put (fun b o z => s2 b o (p.1 b o z)) hD
  · rw [upd_same, List.range_succ, List.map_append]
    rfl
/-- a comprehension over two lists of one length -/
theorem made_zip {a b Dd : Addr} {xs ys : List V} {tt : TT} {te : TE} {vs : List Nat} {Qd : Hp → Prop} (hl : xs.length = ys.length) (Pv : Nat → Hp → Prop) (h0 : Pv 0 (upd H Dd (.lst [])))
    (hq : ∀ i H, Pv i H → asL (H a) = some xs ∧ asL (H b) = some ys)
    (hs : ∀ (i : Nat) (x y : V) (T : Addr) (H : Hp), xs[i]? = some x → ys[i]? = some y → Pv i H → H T = none → g (.ref T) (wipe σ vs) (upd H T (.tup [x, y])) fun σ2 H2 => wipe σ2 vs = wipe σ vs ∧ tt σ2 H2 fun b H3 =>
      if b = true then te σ2 H3 fun y H4 => ∃ acc, H4 Dd = some (.lst acc) ∧ acc.length < sizeLine ∧ Pv (i + 1) (upd H4 Dd (.lst (acc ++ [y]))) else Pv (i + 1) H3)
    (hd : ∀ H, Pv xs.length H → Qd H) : Made (Itz K a b) g tt te vs σ Dd H Qd := by
  refine ⟨fun i m H => m = xs.length - i ∧ i ≤ xs.length ∧ Pv i H, ⟨xs.length, by simp, Nat.zero_le _, h0⟩, ?_⟩
  rintro i m H2 ⟨rfl, hi, p⟩
  obtain ⟨q1, q2⟩ := hq i H2 p
  by_cases hlt : i < xs.length
  · have hly : i < ys.length := by omega
    refine .inr ⟨⟨xs, ys, xs[i], ys[i], asL_seq q1, asL_seq q2, by simp [hlt], by simp [hly]⟩, Pv (i + 1), fun H' p' => ⟨xs.length - (i + 1), by omega, rfl, hlt, p'⟩, ?_⟩
    rintro v H' ⟨T, x, y, rfl, hT, rfl, hx, hy⟩
    exact hs i x y T H2 (hx xs (asL_seq q1)) (hy ys (asL_seq q2)) p hT
  · have e : i = xs.length := by omega
    subst e
    exact .inl ⟨⟨xs, ys, asL_seq q1, asL_seq q2, .inl (Nat.le_refl _)⟩, hd H2 p⟩
theorem loop_zip {a b : Addr} {xs ys : List V} {tb : TS} (hl : xs.length = ys.length) (Pv : Nat → L2.St → Hp → Prop) (h0 : Pv 0 σ H) (hq : ∀ i σ H, Pv i σ H → asL (H a) = some xs ∧ asL (H b) = some ys)
    (hs : ∀ (i : Nat) (x y : V) (T : Addr) (σ : L2.St) (H : Hp), xs[i]? = some x → ys[i]? = some y → Pv i σ H → H T = none → g (.ref T) σ (upd H T (.tup [x, y])) fun σ2 H2 => tb { D with nx := Pv (i + 1), ct := Pv (i + 1), bk := D.nx } σ2 H2)
    (hd : ∀ σ H, Pv xs.length σ H → D.nx σ H) : Loop (Itz K a b) g tb D σ H := RZ.for_zipL hl Pv h0 (fun i σ H p => ⟨asL_seq (hq i σ H p).1, asL_seq (hq i σ H p).2⟩) hs hd
theorem loop_rev {a : Addr} {xs : List V} {m : Nat} {tb : TS} (hm : m = xs.length) (Pv : Nat → L2.St → Hp → Prop) (h0 : Pv 0 σ H) (hl : ∀ i σ H, i ≤ xs.length → Pv i σ H → asL (H a) = some xs)
    (hs : ∀ (i : Nat) (x : V) (σ : L2.St) (H : Hp), i < xs.length → xs[xs.length - 1 - i]? = some x → Pv i σ H → g x σ H fun σ2 H2 => tb { D with nx := Pv (i + 1), ct := Pv (i + 1), bk := D.nx } σ2 H2) (hd : ∀ σ H, Pv xs.length σ H → D.nx σ H) : Loop (Itv K a m) g tb D σ H := by
  subst hm
  refine ⟨fun i m σ H => m = xs.length - i ∧ i ≤ xs.length ∧ Pv i σ H, ⟨xs.length, by simp, Nat.zero_le _, h0⟩, ?_⟩
  rintro i m σ2 H2 ⟨rfl, hi, p⟩
  have q := asL_seq (K := K) (hl i σ2 H2 hi p)
  by_cases hlt : i < xs.length
  · have hj : xs.length - 1 - i < xs.length := by omega
    refine .inr ⟨⟨hlt, xs, xs[xs.length - 1 - i], q, by simp [hj]⟩, Pv (i + 1), fun σ' H' p' => ⟨xs.length - (i + 1), by omega, rfl, hlt, p'⟩, ?_⟩
    rintro x H' ⟨rfl, hx⟩
    exact hs i x σ2 H' hlt (hx xs q) p
  · have e : i = xs.length := by omega
    subst e
    exact .inl ⟨Nat.le_refl _, hd σ2 H2 p⟩
theorem made_zipmap {a b Dd : Addr} {xs ys : List V} {te : TE} {vs : List Nat} {m : Nat} {Qd : Hp → Prop} (f : V → V → V) (ha : asL (H a) = some xs) (hb : asL (H b) = some ys) (hl : xs.length = ys.length) (hD : H Dd = none) (hz : xs.length < sizeLine)
    (hw : ∀ x y, wipe (((wipe σ vs).set m (some x)).set n (some y)) vs = wipe σ vs)
    (he : ∀ (i : Nat) (x y : V) (H' : Hp) (Q : VK), xs[i]? = some x → ys[i]? = some y → Sm H H' → (∀ H2, Sm H' H2 → Q (f x y) H2) → te (((wipe σ vs).set m (some x)).set n (some y)) H' Q)
    (hd : ∀ H', Sm H H' → H' Dd = some (.lst (List.zipWith f xs ys)) → Qd H') : Made (Itz K a b) (gTupF 2 (gCons (gName m) (gCons (gName n) gNil))) tYes te vs σ Dd H Qd := by
  refine made_zip hl (fun i H' => Sm H H' ∧ H' Dd = some (.lst (List.zipWith f (xs.take i) (ys.take i)))) ⟨sm_new (fun _ _ h => h) hD, upd_same⟩ (fun i H' p => ⟨sm_L p.1 ha, sm_L p.1 hb⟩) (fun i x y T H' hx hy p hT => ?_)
    fun H' p => hd H' p.1 (by have e := p.2; rw [List.take_length, hl, List.take_length] at e; exact e)
  have e1 : asT (upd H' T (.tup [x, y]) T) = some [x, y] := by rw [upd_same] <;> rfl
  rw [u_gtup, e1]
  refine ⟨rfl, x, [y], rfl, y, [], rfl, rfl, hw x y, ?_⟩
  have s1 : Sm H (upd H' T (.tup [x, y])) := sm_new p.1 hT
  have d1 : upd H' T (.tup [x, y]) Dd = some (.lst (List.zipWith f (xs.take i) (ys.take i))) := by
    rw [upd_ne (ne_of_none p.2 hT)]; exact p.2
  refine iteT (B := Sm H (upd H' T (.tup [x, y])) ∧ (upd H' T (.tup [x, y])) Dd = some (.lst (List.zipWith f (xs.take (i + 1)) (ys.take (i + 1))))) ?_
  refine he i x y _ _ hx hy s1 fun H2 s2 => ⟨_, s2 _ _ d1, ?_, ?_, ?_⟩
  · rw [List.length_zipWith, List.length_take]; omega
  · exact sm_put (fun b o z => s2 b o (s1 b o z)) hD
  · rw [upd_same, List.take_add_one, List.take_add_one, hx, hy, List.zipWith_append]
    · rfl
    · rw [List.length_take, List.length_take, hl]
end
end XB

/-! Errors: several clauses with and without a name, the making of an error with fields, isinstance of a caught one. -/
namespace XB
open PySem PySem.Spec PyProof.Rows L2 L2N
abbrev Sui := Addr → Value → Option Addr → TS
/-- the ends of a suite whose clause binds the name in slot i -/
def unb (i : Nat) (D : Ends) : Ends := { nx := fun σ H => D.nx (σ.set i none) H, rt := D.rt, bk := fun σ H => D.bk (σ.set i none) H, ct := fun σ H => D.ct (σ.set i none) H }
def suiAt (o : Option Nat) (ts : Sui) (a : Addr) (cls : Value) (d : Option Addr) (D : Ends) (σ : L2.St) (H : Hp) : Prop := match o with
  | none => ts a cls d D σ H
  | some i => ts a cls d (unb i D) (σ.set i (some (.ref a))) H
def wX (K : PySem.W.Frag) (Wout : WX) (D : Ends) : List (Value × Option Nat × Sui) → WX
  | [] => Wout
  | (c, o, ts) :: r => fun cls d σ H => ∃ b, PySem.W.exmOne K cls c = some b ∧ (b = true → ∀ a, H a = none → suiAt o ts a cls d D σ H) ∧ (b = false → wX K Wout D r cls d σ H)
def tTryX (K : PySem.W.Frag) (tb : WX → TS) (Wout : WX) (l : List (Value × Option Nat × Sui)) : TS := fun D σ H => tb (wX K Wout D l) D σ H
/-- a suite holds for every error that may come -/
def SuOk (X : Cx) (sts : List Stmt) (ts : Sui) : Prop := ∀ (a : Addr) (oe : Obj) (cls : Value) (d : Option Addr) (pn : List (Addr × Obj)), Zn cls d oe → (∃ fv, oe.data = .fields fv) → PSs (X.suite a ((a, oe) :: pn)) sts (ts a cls d)
inductive HdX (X : Cx) : List ExceptHandler → List (Value × Option Nat × Sui) → Prop
  | nil : HdX X [] []
  | plain {x : Str} {c : Value} {ts : Sui} {s0 : Stmt} {sr : List Stmt} {p1 p2 : Pos} {hs : List ExceptHandler} {l : List (Value × Option Nat × Sui)} (nm : Names X x c) (su : SuOk X (s0 :: sr) ts) (r : HdX X hs l) :
      HdX X (.ExceptHandler (some (.Name x p1)) none (s0 :: sr) p2 :: hs) ((c, none, ts) :: l)
  | as {x n : Str} {i : Nat} {c : Value} {ts : Sui} {s0 : Stmt} {sr : List Stmt} {p1 p2 : Pos} {hs : List ExceptHandler} {l : List (Value × Option Nat × Sui)} (nd : X.N.Nodup) (at_ : X.N[i]? = some n) (loc : X.env.kindOf n = some .local) (nm : Names X x c) (su : SuOk X (s0 :: sr) ts) (r : HdX X hs l) :
      HdX X (.ExceptHandler (some (.Name x p1)) (some n) (s0 :: sr) p2 :: hs) ((c, some i, ts) :: l)
section
variable {X : Cx}
theorem ps_tryX {body : List Stmt} {h0 : ExceptHandler} {hr : List ExceptHandler} {l : List (Value × Option Nat × Sui)} {pos : Pos} {tb : WX → TS} {Wout : WX} (stk : X.stack = X.env :: X.outer) (frm : X.env.frame = some X.env.locals) (tk : L2N.Takes X Wout)
    (bd : ∀ (W : WX) (pn : List (Addr × Obj)) (xe : Value → Shared → Prop), L2N.Takes (X.tr pn xe) W → PassesOwn (model X.prog X.w) X.A X.env xe → PSs (X.tr pn xe) body (tb W))
    (hd : HdX X (h0 :: hr) l) : PS X (.Try body (h0 :: hr) [] [] pos) (tTryX X.K tb Wout l) := by
  refine ⟨fun pins s σ H D I hyp => ?_⟩
  have okX := I.ok
  have frs2 : X.A.frames = some (X.env :: X.outer) := okX.frames.trans (by rw [stk])
  refine wpAny_Try_except ?_
  refine wpAny_mono ((bd (wX X.K Wout D l) (X.pn ++ pins) (fun er sa => wpAny (model X.prog X.w) X.A (noteFrame er X.env)
    (fun _ sb => wpAny (model X.prog X.w) X.A (setFlight er none) (fun _ sc => wpAny (model X.prog X.w) X.A (handleBy er X.env (h0 :: hr)) (SP X pins D) X.xe sc) X.xe sb) X.xe sa)
    (fun er st thrown => ?caught) PassesOwn.looking).run [] s σ H D (I.toTry _) hyp) (fun fl st done => ?went) (fun er st z => z)
  case caught =>
    obtain ⟨ea, G, sI, pinsT, σ2, H2, cls, d, rfl, Itry, nb, upS, sky, nea, eos, bare, wish⟩ := thrown
    have J : Inv X pins σ2 H2 sI := Itry.ofTry okX
    have sky2 : Sky G (X.env :: X.outer) ea (Zn cls d) X.env.locals st.heap := stk ▸ sky
    show wpAny (model X.prog X.w) X.A (noteFrame (.ref ea) X.env) _ _ _
    refine L2N.Sky.land Zn.steady frs2 frm sky2 fun ha fla upa => ?_
    have Ja : Inv X pins σ2 H2 { st with heap := ha } := J.landed nb fla.1 (upS.trans upa) eos bare
    obtain ⟨oa, va, ga, za, da⟩ := fla.there
    have out : ea ∉ frs (X.env :: X.outer) := fun inn => by
      obtain ⟨_, o2, g2, fv⟩ := fla.2.2.1.mem inn
      rw [ga] at g2
      cases g2
      exact fv _ da
    have ne1 : ea ≠ X.env.locals := fun z => out (List.mem_filterMap.mpr ⟨X.env, List.mem_cons_self, by rw [frm, z]⟩)
    have ne2 : ea ∉ X.fs := fun inn => by
      obtain ⟨e2, m2, q2⟩ := List.mem_filterMap.mp inn
      exact out (List.mem_filterMap.mpr ⟨e2, List.mem_cons_of_mem _ m2, q2⟩)
    have Sa := Ja.suite ga da nea ne1 ne2
    -- what a clause's test tells
    have asks : ∀ {x : Str} {c : Value} {b : Bool} {np : Pos} {Q : Value → Shared → Prop} {E : Value → Shared → Prop}, Names X x c → (∀ sx, sx = { st with heap := ha } → Q c sx) →
        wpAny (model X.prog X.w) (X.A.mark (some (.ref ea))) (eval (.Name x np) X.env) Q E { st with heap := ha } := fun {x c b np Q E} nm q => by
      obtain ⟨gl, dbg, k1 | ⟨k1, k2, k3⟩⟩ := nm
      · exact ld_glob (X := X.suite ea ((ea, oa) :: (X.pn ++ pins))) Sa gl k1 (q _ rfl) dbg
      · exact ld_blt (X := X.suite ea ((ea, oa) :: (X.pn ++ pins))) Sa gl k1 k2 (q _ rfl) k3 dbg
    have ty : PySem.W.Looks (model X.prog X.w) ha (typeOf (.ref ea)) cls := fun A Q E s5 k q => wpAny_typeOf_ref (k _ _ ga) (za.1 ▸ q)
    have walk : ∀ {hs2 : List ExceptHandler} {l2 : List (Value × Option Nat × Sui)}, HdX X hs2 l2 → wX X.K Wout D l2 cls d σ2 H2 → wpAny (model X.prog X.w) X.A (handleBy (.ref ea) X.env hs2) (SP X pins D) X.xe { st with heap := ha } := by
      intro hs2 l2 hok
      induction hok with
      | nil =>
        intro wl
        refine wpAny_handleBy_nil ?_
        obtain ⟨r1, r2, r3, ox, vx, T, oT, tx, gx, zx, dx, t1, rx⟩ := id fla
        unfold PySem.passOn
        refine wpAny_bind (wpAny_field gx dx t1 ?_)
        have nn : ¬ ((Value.ref T == Value.none) = true) := by simp
        rw [if_neg nn]
        have up9 : wpAny (model X.prog X.w) X.A (setFlight (.ref ea) X.env.frame) (fun _ s9 => wpAny (model X.prog X.w) X.A (throw (.ref ea) : Sem Flow) (SP X pins D) X.xe s9) X.xe { st with heap := ha } := by
          rw [frm]
          refine HandSPX.setFlight_upZ fla fun hb hhb upb => wpAny_throw (tk _ _ ?_)
          exact ⟨ea, G, sI, pins, σ2, H2, cls, d, rfl, J, nb, (upS.trans upa).trans upb, .inr (.inr (stk.symm ▸ hhb)), nea, eos, bare, wl⟩
        first
          | exact wpAny_bind (wpAny_pure (wpAny_bind up9))
          | exact wpAny_bind up9
      | @plain x c ts s0 sr p1 p2 hs3 l3 nm su r ih =>
        intro wl
        obtain ⟨b, hb, yes, no⟩ := wl
        refine wpAny_handleBy_cons (codeAny_handlers_test ?_) (by intro q; cases q)
        have LM := PySem.W.exm_one (M := model X.prog X.w) Ja.kIn ty hb
        refine asks (b := b) nm fun sx ex => ?_
        subst ex
        refine LM.here ?_
        cases b with
        | false => exact ih (no rfl)
        | true =>
          refine codeAny_handlers_suite ?_
          refine HandSPX.lands_againZ fla fun hb2 flb upb => ?_
          have Jb : Inv X pins σ2 H2 { st with heap := hb2 } := J.landed nb flb.1 ((upS.trans upa).trans upb) eos bare
          obtain ⟨ob, vb, gb, zb, db⟩ := flb.there
          have Sb := Jb.suite gb db nea ne1 ne2
          refine wpAny_mono ((su ea ob cls d (X.pn ++ pins) zb ⟨_, db⟩).run [] _ _ H2 _ Sb (yes rfl ea nea)) (fun f s6 res => ?_) (fun _ _ z => False.elim z)
          cases f with
          | next => obtain ⟨σ6, H6, S6, q6⟩ := res; exact ⟨_, _, S6.unsuite okX, q6⟩
          | brk => obtain ⟨σ6, H6, S6, q6⟩ := res; exact ⟨_, _, S6.unsuite okX, q6⟩
          | cont => obtain ⟨σ6, H6, S6, q6⟩ := res; exact ⟨_, _, S6.unsuite okX, q6⟩
          | ret u => obtain ⟨v6, σ6, H6, S6, r6, q6⟩ := res; exact ⟨_, _, _, S6.unsuite okX, r6, q6⟩
      | @as x n i c ts s0 sr p1 p2 hs3 l3 nd at_ loc nm su r ih =>
        intro wl
        obtain ⟨b, hb, yes, no⟩ := wl
        have hloc : Loc X.env.scope n := .inl loc
        refine wpAny_handleBy_cons (codeAny_handlers_test ?_) (by intro q; cases q)
        have LM := PySem.W.exm_one (M := model X.prog X.w) Ja.kIn ty hb
        refine asks (b := b) nm fun sx ex => ?_
        subst ex
        refine LM.here ?_
        cases b with
        | false => exact ih (no rfl)
        | true =>
          refine codeAny_handlers_suite_as ?_
          refine HandSPX.lands_againZ fla fun hb2 flb upb => ?_
          have Jb : Inv X pins σ2 H2 { st with heap := hb2 } := J.landed nb flb.1 ((upS.trans upa).trans upb) eos bare
          obtain ⟨ob, vb, gb, zb, db⟩ := flb.there
          have Sb := Jb.suite gb db nea ne1 ne2
          refine store_ok (X := X.suite ea ((ea, ob) :: (X.pn ++ pins))) (v := .ref ea) Sb nd at_ hloc rfl (fun s5 S5 => ?_) (.inr loc)
          refine wpAny_mono ((su ea ob cls d (X.pn ++ pins) zb ⟨_, db⟩).run [] s5 _ H2 _ S5 (yes rfl ea nea)) (fun f s6 res => ?_) (fun _ _ z => False.elim z)
          have fin : ∀ {σ6 : L2.St} {H6 : Hp} {Q : Shared → Prop}, Inv (X.suite ea ((ea, ob) :: (X.pn ++ pins))) [] σ6 H6 s6 → (∀ s7, Inv X pins (σ6.set i none) H6 s7 → Q s7) →
              wpAny (model X.prog X.w) X.A (do bindName X.env n .none; unbindBehindTheSuite X.env n p2) (fun _ s7 => Q s7) X.xe s6 := fun {σ6 H6 Q} S6 k => gone_ok (S6.unsuite okX) nd at_ loc k
          cases f with
          | next => obtain ⟨σ6, H6, S6, q6⟩ := res; exact fin S6 fun s7 J7 => ⟨_, _, J7, q6⟩
          | brk => obtain ⟨σ6, H6, S6, q6⟩ := res; exact fin S6 fun s7 J7 => ⟨_, _, J7, q6⟩
          | cont => obtain ⟨σ6, H6, S6, q6⟩ := res; exact fin S6 fun s7 J7 => ⟨_, _, J7, q6⟩
          | ret u => obtain ⟨v6, σ6, H6, S6, r6, q6⟩ := res; exact fin S6 fun s7 J7 => ⟨_, _, _, J7, r6, q6⟩
    exact walk hd wish
  case went =>
    cases fl with
    | next => obtain ⟨σ2, H2, J2, q⟩ := done; exact wpAny_execs_nil ⟨σ2, H2, J2.ofTry okX, q⟩
    | brk => obtain ⟨σ2, H2, J2, q⟩ := done; exact ⟨σ2, H2, J2.ofTry okX, q⟩
    | cont => obtain ⟨σ2, H2, J2, q⟩ := done; exact ⟨σ2, H2, J2.ofTry okX, q⟩
    | ret u => obtain ⟨v, σ2, H2, J2, r, q⟩ := done; exact ⟨v, σ2, H2, J2.ofTry okX, r, q⟩
/-- C(e, ..), C an error's class with its own __init__; what is made has no context -/
theorem pmk_N {CX : CXT} {x : Str} {e : Expr} {es : List Expr} {ta : TA} {p pos : Pos} {C fI : Addr} {k : Nat} {fd : FuncData} {ps : List Str} {sp : Sp} (T : OexC X.K C)
    (iC : PySem.W.findIn X.K (.ref C) "__init__" = some (some (.ref fI))) (tI : PySem.W.typeIn X.K (.ref fI) = some (.type "function")) (F1 : FnOk X.prog X.w X.K X.mg X.base CX k fI fd ps sp) (hr : Room (k + 1) X.A)
    (hb : Binds X.K fd ps []) (hx : Passes CX X (fun _ _ _ => False)) (hg : Gl X x) (hm : X.mg x = some (.ref C)) (ha : PA X (e :: es) ta) (hdb : (x == ("__debug__" : Str)) = false := by decide)
    (he : starEach (e :: es) X.env = (false, eval e X.env) :: starEach es X.env := by rfl) (hpl : (backTo pos (starEach es X.env)).any (·.1) = false := by rfl) : L2N.PMk X (.Call (.Name x p) (e :: es) [] pos) (tMkO C sp [] ta) := by
  intro pins s σ H Q I hyp
  obtain ⟨nm, qn, N, bs, bm, sn, sub, ab, col, dd, m0, m1, m2, m3, m5, lkC, okB⟩ := T.cls
  refine wpAny_Call_Name_kw (ld_glob I hg hm ?_ hdb)
  refine PySem.W.callWith_K (h₀ := X.base) I.ok.mod.kin T.kC (thn (ha.run pos pins s σ H _ I hyp) fun us st ⟨vs, H1, I1, rel, short, next⟩ => ⟨I1.kIn, ?_⟩) he hpl
  show wpAny _ _ (call (.ref C) us) _ _ _
  obtain ⟨hp, gs, dr, tk, os⟩ := st
  have sz1 : hp.objs.size ≤ hp.objs.size + 1 := Nat.le_succ _
  have fresh : H1 (hp.objs.size + 1) = none := I1.hok.fresh sz1
  have pro := next (hp.objs.size + 1) fresh
  rw [List.append_nil] at pro
  have keeps : ∀ b o, hp.get? b = some o → ((hp.push (PySem.W.kdv_tup us)).push (PySem.HandSPX.excO C hp.objs.size)).get? b = some o := fun b o z => Heap.get?_push_of_some _ (Heap.get?_push_of_some _ z)
  have stands : ((hp.push (PySem.W.kdv_tup us)).push (PySem.HandSPX.excO C hp.objs.size)).get? (hp.objs.size + 1) = some (PySem.HandSPX.excO C hp.objs.size) := by heap_get
  have Inew : Inv X pins σ (upd H1 (hp.objs.size + 1) (exo (hp.objs.size + 1) C none)) ⟨(hp.push (PySem.W.kdv_tup us)).push (PySem.HandSPX.excO C hp.objs.size), gs, dr, tk, os⟩ :=
    I1.laid (t' := tk) (h' := (hp.push (PySem.W.kdv_tup us)).push (PySem.HandSPX.excO C hp.objs.size)) (o := exo (hp.objs.size + 1) C none) (a := hp.objs.size + 1) keeps sz1 (exo_ok stands)
  have rel2 : Vals (V.ref (hp.objs.size + 1) :: vs) (Value.ref (hp.objs.size + 1) :: us) := .cons rfl rel
  have len2 : (Value.ref (hp.objs.size + 1) :: us ++ []).length = ps.length := by
    have z := rel2.length
    rw [F1.len _ _ _ _ pro] at z
    rw [List.append_nil]
    exact z.symm
  have fits : us.length ≤ sizeLine := by
    rw [← Paired.length rel, sizeLine_eq]
    omega
  have bnd := hb _ (Value.ref (hp.objs.size + 1) :: us) Inew.kIn len2
  rw [List.append_nil] at bnd
  refine wpAny_call (PySem.HandSPX.call_own F.excBase_ValueError (fun Y => PySem.HandSPX.refsVE_contains Y bm okB) (I1.kIn _ _ lkC) (PySem.W.looks_findIn I1.kIn iC) (fun me => PySem.W.bind_fn I1.kIn me tI) fits
    (codeAny_mono (F1.run _ X.stack _ _ ⟨Value.ref (hp.objs.size + 1) :: us, []⟩ (Value.ref (hp.objs.size + 1) :: us) _ _ (fun _ _ _ => False) (hr.make C us []) (Inew.env0.make C us []) bnd rel2 pro) fun r s2 res => ?_))
  cases r with
  | error er => exact hx pins σ _ _ er s2 Inew res
  | ok fl =>
    cases fl with
    | ret u =>
      obtain ⟨v, H2, os2, bare2, un2, hok2, rv, ev, d, fs, ea, ed, hd1, q2⟩ := res
      subst ev
      obtain ⟨h2, g2, d2, t2, osx⟩ := s2
      obtain ⟨t0, G, J, kG, gone, there, na⟩ := mk_end0 (d2 := d2) (t2 := t2) I1 sz1 keeps un2 hok2 os2 bare2 ea ed hd1
      refine ⟨rv, hp.objs.size + 1, _, _, ⟨G, g2, d2, t2, osx⟩, _, .ref C, some d, rfl, J, kG, gone, there, ⟨rfl, rfl, fun fv z => ?_⟩, rfl, rfl, na, rfl, bare2, raises_own T.exC T.tyC, q2⟩
      cases z
      rfl
    | next => exact False.elim res
    | brk => exact False.elim res
    | cont => exact False.elim res
end
/-- the fields that an error's __init__ stores, the last one first -/
def flds : List Str → List V → List (Str × V) → List (Str × V)
  | f :: fs, v :: vs, acc => flds fs vs ((f, v) :: acc)
  | _, _, acc => acc
/-- __init__(self, f1, ..): the fields are stored in order -/
def sp_einit (C : Addr) (names : List Str) : Sp := fun vs H Q _ => ∃ (a : Addr) (ws : List V), vs = .ref a :: ws ∧ ws.length = names.length ∧ H a = some (exo a C none) ∧
  ∀ (d : Addr) (H' : Hp), H d = none → d ≠ a → H' a = some (exo a C (some d)) → H' d = some (exd d (flds names ws [])) → (∀ b, b ≠ a → b ≠ d → H' b = H b) → Q .non H'
/-- raise C(e, ..): an error of the class, whose own dict at d, new, holds the fields -/
def tRaiseF (C : Addr) (names : List Str) (Wout : WX) (ta : TA) : TS := fun D σ H => ta σ H fun vs H1 => vs.length = names.length ∧ vs.length ≤ 1000 ∧
  ∀ (d : Addr) (H' : Hp), H1 d = none → H' d = some (.xd (flds names vs [])) → (∀ b o, H1 b = some o → H' b = some o) → Wout (.ref C) (some d) σ H'
theorem mko_of {C : Addr} {names : List Str} {ta : TA} {σ : L2.St} {H : Hp} {Q : XK} (m : ∀ (R R' : List V → Hp → Prop), (∀ vs H1, R vs H1 → R' vs H1) → ta σ H R → ta σ H R')
    (h : ta σ H fun vs H1 => vs.length = names.length ∧ vs.length ≤ 1000 ∧ ∀ (d : Addr) (H' : Hp), H1 d = none → H' d = some (.xd (flds names vs [])) → (∀ b o, H1 b = some o → H' b = some o) → Q (.ref C) (some d) H') :
    tMkO C (sp_einit C names) [] ta σ H Q := m _ _ (fun vs H1 ⟨l1, l2, k⟩ => ⟨l2, fun a na => by
  rw [List.append_nil]
  refine ⟨a, vs, rfl, l1, upd_same, fun d H' nd ne ha hd rest => ⟨rfl, d, _, ha, hd, ?_, ?_⟩⟩
  · rw [upd_ne ne] at nd; exact nd
  · rw [upd_ne ne] at nd
    refine k d _ nd upd_same fun b o hb => ?_
    have nba : b ≠ a := ne_of_none hb na
    have nbd : b ≠ d := ne_of_none hb nd
    rw [upd_ne nbd, del_ne nba, rest b nba nbd, upd_ne nba]
    exact hb⟩) h
theorem u_try {K : PySem.W.Frag} {tb : WX → TS} {W : WX} {l : List (Value × Option Nat × Sui)} {D : Ends} {σ : L2.St} {H : Hp} : tTryX K tb W l D σ H = tb (wX K W D l) D σ H := rfl
theorem u_sui {i : Nat} {ts : Sui} {a : Addr} {cls : Value} {d : Option Addr} {D : Ends} {σ : L2.St} {H : Hp} : suiAt (some i) ts a cls d D σ H = ts a cls d (unb i D) (σ.set i (some (.ref a))) H := rfl
theorem u_sui0 {ts : Sui} {a : Addr} {cls : Value} {d : Option Addr} {D : Ends} {σ : L2.St} {H : Hp} : suiAt none ts a cls d D σ H = ts a cls d D σ H := rfl
theorem u_unb_rt {i : Nat} {D : Ends} : (unb i D).rt = D.rt := rfl
theorem u_unb_nx {i : Nat} {D : Ends} {σ : L2.St} {H : Hp} : (unb i D).nx σ H = D.nx (σ.set i none) H := rfl
theorem u_xf {a C : Addr} {cls : Value} {d : Option Addr} {f : Str} {te : TE} {σ : L2.St} {H : Hp} {Q : VK} : tXf a cls d C f te σ H Q = te σ H fun x H1 => x = .ref a ∧ cls = .ref C ∧ ∃ (dd : Addr) (fs : List (Str × V)) (v : V), d = some dd ∧ H1 dd = some (.xd fs) ∧ fs.lookup f = some v ∧ Q v H1 := rfl
/-- the clause that takes the error *)-/
theorem wX_yes {K : PySem.W.Frag} {W : WX} {D : Ends} {c : Value} {o : Option Nat} {ts : Sui} {r : List (Value × Option Nat × Sui)} {cls : Value} {d : Option Addr} {σ : L2.St} {H : Hp} (h : PySem.W.exmOne K cls c = some true) (k : ∀ a, H a = none → suiAt o ts a cls d D σ H) :
    wX K W D ((c, o, ts) :: r) cls d σ H := ⟨true, h, fun _ => k, fun z => (by cases z)⟩
theorem wX_no {K : PySem.W.Frag} {W : WX} {D : Ends} {c : Value} {o : Option Nat} {ts : Sui} {r : List (Value × Option Nat × Sui)} {cls : Value} {d : Option Addr} {σ : L2.St} {H : Hp} (h : PySem.W.exmOne K cls c = some false) (k : wX K W D r cls d σ H) :
    wX K W D ((c, o, ts) :: r) cls d σ H := ⟨false, h, fun z => (by cases z), fun _ => k⟩
theorem u_WE {W : WX} {σ : L2.St} {cls : Value} {d : Option Addr} {H : Hp} : WE W σ cls d H = W cls d σ H := rfl
theorem u_raise {C : Addr} {names : List Str} {W : WX} {ta : TA} {D : Ends} {σ : L2.St} {H : Hp} : tRaiseF C names W ta D σ H = ta σ H fun vs H1 => vs.length = names.length ∧ vs.length ≤ 1000 ∧
  ∀ (d : Addr) (H' : Hp), H1 d = none → H' d = some (.xd (flds names vs [])) → (∀ b o, H1 b = some o → H' b = some o) → W (.ref C) (some d) σ H' := rfl
/-- an argument list bears a weaker wish -/
def MonA (ta : TA) : Prop := ∀ (σ : L2.St) (H : Hp) (R R' : List V → Hp → Prop), (∀ vs H1, R vs H1 → R' vs H1) → ta σ H R → ta σ H R'
def MonT (te : TE) : Prop := ∀ (σ : L2.St) (H : Hp) (R R' : VK), (∀ v H1, R v H1 → R' v H1) → te σ H R → te σ H R'
theorem mon_nil : MonA tNil := fun σ H R R' k h => k _ _ h
theorem mon_cons {te : TE} {tr : TA} (h1 : MonT te) (h2 : MonA tr) : MonA (tCons te tr) := fun σ H R R' k h => h1 σ H _ _ (fun v H1 q => h2 σ H1 _ _ (fun vs H2 q2 => k _ _ q2) q) h
theorem mon_var {i : Nat} : MonT (tVar i) := fun σ H R R' k ⟨v, e, q⟩ => ⟨v, e, k _ _ q⟩
theorem mon_c {v : V} : MonT (tC v) := fun σ H R R' k q => k _ _ q
section
variable {X : Cx}
theorem ps_raiseF {CX : CXT} {x : Str} {e : Expr} {es : List Expr} {ta : TA} {p pos pos2 : Pos} {C fI : Addr} {k : Nat} {fd : FuncData} {ps names : List Str} {W : WX} (hc : X.calm = true) (T : OexC X.K C)
    (iC : PySem.W.findIn X.K (.ref C) "__init__" = some (some (.ref fI))) (tI : PySem.W.typeIn X.K (.ref fI) = some (.type "function")) (F1 : FnOk X.prog X.w X.K X.mg X.base CX k fI fd ps (sp_einit C names)) (hr : Room (k + 1) X.A)
    (hb : Binds X.K fd ps []) (hx : Passes CX X (fun _ _ _ => False)) (hg : Gl X x) (hm : X.mg x = some (.ref C)) (tk : L2N.Takes X W) (mon : MonA ta) (ha : PA X (e :: es) ta) (hdb : (x == ("__debug__" : Str)) = false := by decide)
    (he : starEach (e :: es) X.env = (false, eval e X.env) :: starEach es X.env := by rfl) (hpl : (backTo pos (starEach es X.env)).any (·.1) = false := by rfl) :
    PS X (.Raise (some (.Call (.Name x p) (e :: es) [] pos)) none pos2) (tRaiseF C names W ta) :=
  ⟨fun pins s σ H D I q => (L2N.ps_raise hc tk (pmk_N T iC tI F1 hr hb hx hg hm ha hdb he hpl)).run pins s σ H D I (mko_of (Q := fun cls d H' => W cls d σ H') (fun R R' => mon σ H R R') q)⟩
theorem takesN0 {X : Cx} : L2N.Takes X (fun _ _ _ _ => False) := fun _ _ z => by
  obtain ⟨_, _, _, _, _, _, _, _, _, _, _, _, _, _, _, _, no⟩ := z
  exact no.elim
theorem pass0S {X : Cx} {E : L2.St → XK} : ∀ σ, PassesAt CX0 X σ (E σ) := fun _ _ _ _ _ _ _ z => z.elim
theorem passE {X : Cx} {E : XK} : Passes CX0 X E := fun _ _ _ _ _ _ _ z => z.elim
/-- a def that may raise -/
theorem okN {P : Program} {w : World} {K : PySem.W.Frag} {mg : Str → Option Value} {base : Heap} {x qual : Str} {st : Stmt} {f : Addr} {fd : FuncData} {N ps : List Str} {k : Nat} {sp : Sp} (F : Fun K x qual st f fd) (S : FnScope N ps (defScope st))
    (len : ∀ vs H Q E, sp vs H Q E → vs.length = ps.length)
    (hbody : ∀ (cdv : Value) (A : Around) (outer : List Env) (s : Shared) (H : Hp) (vs : List V) (Q : VK) (E : XK), Room k (A.deeper (envOfC qual (defScope st) s.heap.objs.size f cdv)) → sp vs H Q E →
      ∃ t, PSs (cxOf (L2N.CX P w) P w K mg base N qual (defScope st) f cdv A outer s H E) (defBody st) t ∧ t { nx := fun _ H' => Q .non H', rt := Q } (start N vs) H) : FnOk P w K mg base (L2N.CX P w) (k + 1) f fd ps sp := by
  obtain ⟨oc, od, kV, doc, pm, an, cdv, ct, osl, rfl, lk, hcd⟩ := F.ex
  exact fn_of lk hcd S len fun A outer s H vs Q E hr hsp => hbody cdv A outer s H vs Q E hr hsp
end
end XB

/-! isinstance of a caught error that has its own dict. -/
namespace XB
open PySem PySem.Spec PySem.Calls PyProof.Rows PySem.W
section
variable {prog : Program} {w : World} {A : Around} {E : Value → Shared → Prop} {s : Shared} {K : Frag} {x D : Addr} {ox : Obj} {od : Option Obj}
theorem err_class {Q : Option Value → Shared → Prop} (T : L2.ExcC K D) (hf : findObj K D od "__class__" = some (.bind (.builtin "getset_descriptor.__get__") (.builtin "object.__class__")))
    (X : K.In s.heap) (I : InstAt s.heap x ox D od) (h : Q (some (.ref D)) { s with toks := s.toks + 1 }) : wpAny (model prog w) A (getAttr? (.ref x) "__class__") Q E s := by
  obtain ⟨hp, gs, dr, tk, os⟩ := s
  have lk0 := I.type (M := model prog w)
  have lk1 := looks_findIn (M := model prog w) X T.hg
  have lk2 := looks_findIn (M := model prog w) X T.hk
  have lk3 := looks_find (M := model prog w) X I hf
  have isB : Looks (model prog w) hp (isInstance (.ref x) (.type "BaseException")) true := lk0.andThen (looks_subIn X T.hs)
  have e0 : (false && onTheHeap (Value.builtin "BaseException.__getattribute__")) = false := rfl
  have e2 : (Value.builtin "BaseException.__getattribute__" == Value.builtin "object.__getattribute__") = false := by decide +kernel
  have e1 : (onTheHeap (Value.ref D) && Value.builtin "BaseException.__getattribute__" == Value.builtin "object.__getattribute__") = false := by rw [e2] <;> rfl
  unfold getAttr? getAttrBy? getAttrBy
  refine wpAny_bind (wpAny_mkText (wpAny_bind (wpAny_attempt (wpAny_holding (wpAny_bind (lk0.at (wpAny_bind (lk1.at ?go))))))))
  case go =>
    show wpAny _ _ (if (onTheHeap (Value.ref D) && Value.builtin "BaseException.__getattribute__" == Value.builtin "object.__getattribute__") = true then _ else _) _ _ _
    rw [e1]
    rw [if_neg Bool.false_ne_true]
    unfold getAttrByItsOwn hookBefore
    refine wpAny_bind ?own
    case own =>
      rw [if_pos (show onTheHeap (Value.ref D) = true from rfl)]
      refine lk2.at (wpAny_bind (wpAny_attempt (wpAny_holding ?inner)))
      case inner =>
        unfold callGetattribute
        rw [e0]
        rw [if_neg Bool.false_ne_true]
        unfold boundAndCalled
        rw [PySem.F.excAttr_ValueError.ga.bind (.ref x)]
        refine wpAny_bind (wpAny_pure ?called)
        case called =>
          show wpAny _ _ (call (.builtin "BaseException.__getattribute__") [.ref x, .str "__class__" tk]) _ _ _
          refine wpAny_call (codeAny_call_builtin PySem.F.excAttr_ValueError.ga.plain PySem.F.entry_bexc_ga ?slot)
          case slot =>
            refine @check_slot (model prog w) _ _ ⟨hp, gs, dr, tk + 1, os⟩ "BaseException.__getattribute__" "BaseException" "__getattribute__" (.ref x) [.str "__class__" tk] [] _ (by decide +kernel) (by decide +kernel) isB (PySem.F.args_bexc_ga (.ref x) (.str "__class__" tk)) ?body
            case body =>
              unfold Builtin.«object.__getattribute__»
              refine wpAny_bind (wpAny_of_eq (a := ((Value.ref x : Value), [Value.str "__class__" tk])) (by first | rfl | (simp only [slotArgs] <;> rfl)) ?rest)
              case rest =>
                refine wpAny_bind (wpAny_pure (wpAny_bind (lk0.at (wpAny_bind (lk3.at ?get)))))
                case get =>
                  show wpAny _ _ (holding [Value.builtin "object.__class__"] (call (.builtin "getset_descriptor.__get__") [.builtin "object.__class__", .ref x, .ref D]) >>= ret) _ _ _
                  refine wpAny_bind (wpAny_holding (wpAny_call (class_get (s := ⟨hp, gs, dr, tk + 1, os⟩) (ox := ox) (od := od) X I T.hm ?out)))
                  case out =>
                    refine wpAny_pure ?end_
                    case end_ =>
                      show wpAny _ _ (handedOut (.ref D)) _ _ _
                      rw [handedOut_of (v := .ref D) rfl]
                      first
                        | exact wpAny_pure (wpAny_pure h)
                        | exact wpAny_pure h
                        | exact wpAny_pure (wpAny_bind (wpAny_pure (wpAny_pure h)))
theorem err_kit (T : L2.ExcC K D) (hf : findObj K D od "__class__" = some (.bind (.builtin "getset_descriptor.__get__") (.builtin "object.__class__"))) : KitX K (.ref x) (.ref D) (fun hp => InstAt hp x ox D od) where
  ty := fun _ _ _ I => I.type
  it := fun _ _ X _ => by
    obtain ⟨cd, hc, _⟩ := any_some T.hd
    unfold clsIn at hc
    split at hc
    · rename_i o2 d2 c2 l2 at2
      intro A2 Q2 E2 s2 k q
      unfold isType loadHead
      exact wpAny_bind (wpAny_loadPart (k _ _ (X _ _ at2)) (wpAny_pure q))
    · cases hc
  ne := fun hp tp dd its n sl X at_ => by
    obtain ⟨cd, hc, _⟩ := any_some T.hd
    refine Bool.eq_false_iff.mpr fun z => ?_
    have same : D = tp := Value.ref.inj (beq_iff_eq.mp z)
    subst same
    unfold clsIn at hc
    split at hc
    · rename_i o2 d2 c2 l2 at2
      have y := (X _ _ at2).symm.trans at_
      cases y
    · cases hc
  ca := fun X I k => err_class T hf X I k
end
open L2
/-- what the class at D must say, that isinstance asks its instances rightly -/
structure ErrC (K : PySem.W.Frag) (D : Addr) : Prop where
  ex : L2.ExcC K D
def fIsE (K : PySem.W.Frag) (D a : Addr) (cls : Value) (d : Option Addr) : RL := fun xs H Q => ∃ (c : V) (cv : Value) (b : Bool) (dd : Addr) (fs : List (Str × V)), xs = [.ref a, c] ∧ (∀ u, RelV c u → u = cv) ∧ cls = .ref D ∧ d = some dd ∧ H dd = some (.xd fs) ∧
  PySem.W.kitOne K (.ref D) cv = some b ∧ Q (.bl b) H
def fIsET (K : PySem.W.Frag) (D a : Addr) (cls : Value) (d : Option Addr) : RL := fun xs H Q => ∃ (tp : Addr) (cs : List V) (us : List Value) (b : Bool) (dd : Addr) (fs : List (Str × V)), xs = [.ref a, .ref tp] ∧ H tp = some (.tup cs) ∧ Paired ClsV cs us ∧ cls = .ref D ∧ d = some dd ∧ H dd = some (.xd fs) ∧
  PySem.W.kitAny K (.ref D) us = some b ∧ Q (.bl b) H
section
variable {X : Cx} {a D : Addr} {oe : Obj} {cls : Value} {d : Option Addr} {pn : List (Addr × Obj)}
theorem err_at {pins : List (Addr × Obj)} {σ : L2.St} {H : Hp} {s : Shared} {dd : Addr} {fs : List (Str × V)} (I : Inv (X.suite a ((a, oe) :: pn)) pins σ H s) (hz : L2N.Zn (.ref D) (some dd) oe) (hf : ∃ fv, oe.data = .fields fv) (hx : H dd = some (.xd fs)) :
    ∃ od, PySem.W.InstAt s.heap a oe D (some od) := by
  obtain ⟨at_, _⟩ := I.pin (a, oe) (List.mem_append_left _ List.mem_cons_self)
  have ob : ObjOk (X.suite a ((a, oe) :: pn)).prog (X.suite a ((a, oe) :: pn)).w H s.heap dd (.xd fs) := I.hok dd _ hx
  obtain ⟨mA, hns, _⟩ := ob
  obtain ⟨od, ho, _⟩ := lookIn_ns hns
  obtain ⟨fv, hd⟩ := hf
  exact ⟨od, at_, hz.1, by unfold PySem.W.notCls; rw [hd] <;> rfl, by rw [hz.2.1]; exact ho⟩
theorem c_isE (T : L2.ExcC X.K D) (hz : L2N.Zn cls d oe) (hf : ∃ fv, oe.data = .fields fv) : CallR (X.suite a ((a, oe) :: pn)) (.builtin "isinstance") (fIsE X.K D a cls d) := by
  intro pins s σ H xs us Q I r h
  obtain ⟨c, cv, b, dd, fs, rfl, hcv, rfl, rfl, hx, e, q⟩ := h
  obtain ⟨u1, u2, rfl, r1, r2⟩ := vals2 r
  cases (show u1 = Value.ref a from r1)
  have ec := hcv _ r2
  subst ec
  obtain ⟨od, J⟩ := err_at I hz hf hx
  exact PySem.W.kia_one (err_kit T (PySem.W.findObj_data (by obtain ⟨cd, hc, _⟩ := PySem.W.any_some T.hd; rw [hc] <;> rfl) T.ha T.hn T.ht)) I.kIn J e (fun z => nomatch z) fun tk => ⟨.bl b, H, I.kept (t' := tk) fun _ _ z => z, rfl, q⟩
theorem c_isET (T : L2.ExcC X.K D) (hz : L2N.Zn cls d oe) (hf : ∃ fv, oe.data = .fields fv) : CallR (X.suite a ((a, oe) :: pn)) (.builtin "isinstance") (fIsET X.K D a cls d) := by
  intro pins s σ H xs us Q I r h
  obtain ⟨tp, cs, ws, b, dd, fs, rfl, hT, k, rfl, rfl, hx, e, q⟩ := h
  obtain ⟨u1, u2, rfl, r1, r2⟩ := vals2 r
  cases (show u1 = Value.ref a from r1)
  cases (show u2 = Value.ref tp from r2)
  obtain ⟨od, J⟩ := err_at I hz hf hx
  have ot : ObjOk (X.suite a ((a, oe) :: pn)).prog (X.suite a ((a, oe) :: pn)).w H s.heap tp (.tup cs) := I.hok tp _ hT
  obtain ⟨_, its, rv, o, h1, h2, n, h3⟩ := ot
  have e3 := ClsV.all k rv
  subst e3
  obtain ⟨oc, odd, dt, sl⟩ := o
  simp only at h2 h3
  subst h2 h3
  exact PySem.W.kia_tup (err_kit T (PySem.W.findObj_data (by obtain ⟨cd, hc, _⟩ := PySem.W.any_some T.hd; rw [hc] <;> rfl) T.ha T.hn T.ht)) I.kIn J h1 e (fun z => nomatch z) fun tk => ⟨.bl b, H, I.kept (t' := tk) fun _ _ z => z, rfl, q⟩
end
end XB

/-! Texts: not in, slices, str of a number, loops over a text. -/
namespace XB
open PySem L2
def fNin (K : PySem.W.Frag) : R2 := fun x y H Q => match x, y with
  | .str ⟨⟨[c]⟩⟩, .str z => Q (.bl (!decide (c ∈ z.cps.toList))) H
  | x, .ref p => (match asS (H p) with
    | some xs => flatV x = true ∧ xs.all flatV = true ∧ Q (.bl (!inV x xs)) H
    | none => False)
  | _, _ => False
section
variable {X : Cx}
theorem op_ninF : OpR X (compareOp .NotIn) (fNin X.K) := op_imp (op_notIn_seq.or op_notIn_sign) fun x y H Q h => by
  unfold fNin at h
  split at h
  · exact .inr ⟨_, _, rfl, rfl, h⟩
  · split at h
    · rename_i e
      obtain ⟨h1, h2, h3⟩ := h
      exact .inl ⟨_, _, rfl, (asS_or e).elim (fun e => .inl (asL_seq e)) (fun e => .inr (asT_seq e)), h1, h2, h3⟩
    · exact h.elim
  · exact h.elim
/-- a slice of a text too -/
def fSl2 : V → Option Int → Option Int → Hp → VK → Prop := fun x lo hi H Q => match x with
  | .str z => z.length ≤ sizeLine ∧ Q (.str (Txt.slice z lo hi)) H
  | x => fSl x lo hi H Q
theorem sl_F2 : SlR X fSl2 := fun pins s σ H x v vl vu lo hi sl Q I rx hs pl pu h => by
  refine (C8.sl_txt.or sl_F) pins s σ H x v vl vu lo hi sl Q I rx hs pl pu ?_
  unfold fSl2 at h
  split at h
  · exact .inl ⟨_, rfl, h.1, h.2⟩
  · exact .inr h
def fStrI : RL := fun xs H Q => match xs with
  | [.int i] => i.natAbs.log2 < 1920 ∧ Q (.str (toString i)) H
  | _ => False
theorem c_strI : CallR X (.type "str") fStrI := fun pins s σ H xs us Q I r h => by
  refine call_str_int pins s σ H xs us Q I r ?_
  unfold fStrI at h
  split at h
  · exact ⟨_, rfl, h.1, h.2⟩
  · exact h.elim
end
section
variable {K : PySem.W.Frag} {H : Hp} {Q : VK} {σ : L2.St} {v : V} {D : Ends} {g : TG} {n : Nat}
theorem u_strI {te : TE} {R : It → Hp → Prop} : iStr te σ H R = te σ H fun v H1 => ∃ x, v = .str x ∧ R (Its x) H1 := rfl
theorem f_nin1 {c : Nat} {z : Str} : fNin K (.str ⟨⟨[c]⟩⟩) (.str z) H Q = Q (.bl (!decide (c ∈ z.cps.toList))) H := rfl
theorem f_in1 {c : Nat} {z : Str} : fIn K (.str ⟨⟨[c]⟩⟩) (.str z) H Q = Q (.bl (decide (c ∈ z.cps.toList))) H := rfl
theorem f_slS {z : Str} {lo hi : Option Int} : fSl2 (.str z) lo hi H Q = (z.length ≤ sizeLine ∧ Q (.str (Txt.slice z lo hi)) H) := rfl
theorem f_slR {p : Addr} {lo hi : Option Int} : fSl2 (.ref p) lo hi H Q = fSl (.ref p) lo hi H Q := rfl
theorem f_strI {i : Int} : fStrI [.int i] H Q = (i.natAbs.log2 < 1920 ∧ Q (.str (toString i)) H) := rfl
end
section
variable {K : PySem.W.Frag} {H : Hp} {σ : L2.St} {D : Ends} {g : TG} {n : Nat}
/-- a loop over a text's signs -/
theorem loop_str {z : Str} {tb : TS} (Pv : Nat → L2.St → Hp → Prop) (h0 : Pv 0 σ H)
    (hs : ∀ i c σ H, z.cps[i]? = some c → Pv i σ H → g (.str ⟨#[c]⟩) σ H fun σ2 H2 => tb { D with nx := Pv (i + 1), ct := Pv (i + 1), bk := D.nx } σ2 H2) (hd : ∀ σ H, Pv z.cps.size σ H → D.nx σ H) : Loop (Its z) g tb D σ H := by
  refine ⟨fun i m σ H => m = z.cps.size - i ∧ i ≤ z.cps.size ∧ Pv i σ H, ⟨z.cps.size, rfl, Nat.zero_le _, h0⟩, ?_⟩
  rintro i m σ H ⟨rfl, hi, p⟩
  by_cases hlt : i < z.cps.size
  · refine .inr ⟨hlt, Pv (i + 1), fun σ' H' p' => ⟨z.cps.size - (i + 1), by omega, rfl, hlt, p'⟩, fun x H' y => ?_⟩
    obtain ⟨e, c, hc, rfl⟩ := y
    subst e
    exact hs i c σ _ hc p
  · have e : i = z.cps.size := by omega
    subst e
    exact .inl ⟨Nat.le_refl _, hd σ H p⟩
/-- a list made of a text's signs, each by f -/
theorem made_mapStr {z : Str} {Dd : Addr} {te : TE} {vs : List Nat} {Qd : Hp → Prop} (f : Nat → V) (hD : H Dd = none) (hz : z.cps.size < sizeLine) (hw : ∀ x, wipe ((wipe σ vs).set n (some x)) vs = wipe σ vs)
    (he : ∀ (i c : Nat) (H' : Hp) (Q : VK), z.cps[i]? = some c → Sm H H' → (∀ H2, Sm H' H2 → Q (f c) H2) → te ((wipe σ vs).set n (some (.str ⟨#[c]⟩))) H' Q) (hd : ∀ H', Sm H H' → H' Dd = some (.lst (z.cps.toList.map f)) → Qd H') : Made (Its z) (gName n) tYes te vs σ Dd H Qd := by
  refine ⟨fun i m H' => m = z.cps.size - i ∧ i ≤ z.cps.size ∧ Sm H H' ∧ H' Dd = some (.lst ((z.cps.toList.take i).map f)), ⟨z.cps.size, rfl, Nat.zero_le _, sm_new (fun _ _ h => h) hD, upd_same⟩, ?_⟩
  rintro i m H' ⟨rfl, hi, s1, h1⟩
  by_cases hlt : i < z.cps.size
  · refine .inr ⟨hlt, fun H' => Sm H H' ∧ H' Dd = some (.lst ((z.cps.toList.take (i + 1)).map f)), fun H' p' => ⟨z.cps.size - (i + 1), by omega, rfl, hlt, p'⟩, fun x H2 y => ?_⟩
    obtain ⟨e, c, hc, rfl⟩ := y
    subst e
    refine ⟨hw _, ?_⟩
    refine iteT (B := Sm H H2 ∧ H2 Dd = some (.lst ((z.cps.toList.take (i + 1)).map f))) ?_
    refine he i c _ _ hc s1 fun H3 s3 => ⟨(z.cps.toList.take i).map f, s3 _ _ h1, ?_, ?_, ?_⟩
    · rw [List.length_map, List.length_take]
      have : z.cps.toList.length = z.cps.size := Array.length_toList
      omega
    · exact sm_put (fun b o q => s3 b o (s1 b o q)) hD
    · have hc2 : z.cps.toList[i]? = some c := by rw [Array.getElem?_toList]; exact hc
      rw [upd_same, take_map_succ hc2]
  · have e : i = z.cps.size := by omega
    subst e
    refine .inl ⟨Nat.le_refl _, hd _ s1 ?_⟩
    have : z.cps.toList.length = z.cps.size := Array.length_toList
    rw [h1, ← this, List.take_length]
end
end XB

/-! Empty dicts among the data; a thing of the heap == a text. -/
namespace XB
open PySem PySem.Spec PySem.Calls PyProof.Rows PySem.W
section
variable {M : Model} {prog : Program} {w : World} {A : Around} {E : Value → Shared → Prop} {s : Shared}
theorem dict_declines {a : Addr} {z : Str} {u : Tok} (da : s.TypeIs (.ref a) "dict") {Q : Value → Shared → Prop} (h : Q .notImplemented s) : wpAny (model prog w) A (call (.builtin "dict.__eq__") [.ref a, .str z u]) Q E s := by
  refine wpAny_call_entry PySem.F.slot_dict_eq da PySem.F.entry_dict_eq ?_ (PySem.F.args_dict_eq_2 _ _)
  show wpAny _ _ (Builtin.Dict.dictSlotArgs "__eq__" ⟨[.ref a, .str z u], []⟩ >>= _) _ _ s
  refine wpAny_bind ?_
  unfold Builtin.Dict.dictSlotArgs
  refine wpAny_bind (wpAny_notOrdered_dict da ?_)
  show wpAny _ _ (pure (Value.ref a, Value.str z u)) _ _ s
  refine wpAny_pure ?_
  refine wpAny_bind (wpAny_isInstance (T := "str") (typeIs_str s z u) PySem.F.sub_str_dict ?_)
  simp only [Bool.not_false, if_true]
  obtain ⟨hp, g, d, tk, os⟩ := s
  wp_walk
  exact ⟨_, rfl, h⟩
theorem str_declines (z : Str) (u : Tok) (a : Addr) (ob : Obj) (hd : ∃ es ep, ob.data = .dict es ep) : Meets (Builtin.«str.__eq__» ⟨[.str z u, .ref a], []⟩) (fun _ R s => s.heap.get? a = some ob ∧ R (.ok (.ret .notImplemented)) s) := by
  obtain ⟨es, ep, hd⟩ := hd
  obtain ⟨c, dd, dt, sl⟩ := ob
  simp only at hd
  subst hd
  exact .of_wp fun prog w A R s h => by
    obtain ⟨hp, g, d, tk, os⟩ := s
    obtain ⟨hl, h⟩ := h
    wp_walk using wpAny_loadPart' hl, wpAny_load hl
    exact ⟨_, rfl, h⟩
end
section
variable {prog : Program} {w : World} {A : Around} {s : Shared}
theorem rc_dict_str {a : Addr} {ob : Obj} (z : Str) (u : Tok) (da : s.TypeIs (.ref a) "dict") (ha : s.heap.get? a = some ob) (hd : ∃ es ep, ob.data = .dict es ep) (hu : A.units < cLine) {E Q : Value → Shared → Prop} (h : Q (.bool false) s) :
    wpAny (model prog w) A (richCompare .Eq (.ref a) (.str z u)) Q E s :=
  SeqAt.rc_eq_decline_or (k := false) da (typeIs_str s z u) (by decide) PySem.F.sub_str_dict PySem.F.slot_dict_eq PySem.F.slot_str_eq_refl
    (fun _ hq => dict_declines da hq)
    (fun _ hq => call_meets PySem.F.slot_str_eq_refl (typeIs_str s z u) PySem.F.entry_str_eq (PySem.F.args_str_eq_2 _ _) (str_declines z u a ob hd) ⟨ha, hq⟩)
    (fun _ hq => wpAny_of_eq (rfl : isSame (.ref a) (.str z u) = pure false) hq) (.inr hu) h
end
open L2
section
variable {X : Cx}
/-- what stands in the heap == a text: False -/
def rEqRS (K : PySem.W.Frag) : R2 := fun x y H Q => ∃ p z, x = .ref p ∧ y = .str z ∧ ((∃ xs, SqL K H p xs) ∨ (∃ xs, SqT K H p xs) ∨ ∃ kvs, H p = some (.dK kvs)) ∧ Q (.bl false) H
theorem op_eqRS (hu : X.A.units < cLine) : OpR X (compareOp .Eq) (rEqRS X.K) := by
  intro pins s σ H x y v u Q I rx ry h
  obtain ⟨p, z, rfl, rfl, h, q⟩ := h
  cases (show v = Value.ref p from rx)
  obtain ⟨t, rfl⟩ : ∃ t, u = .str z t := ry
  rcases h with ⟨xs, h⟩ | ⟨xs, h⟩ | ⟨kvs, h⟩
  · obtain ⟨its, _, pl, _⟩ := I.list h
    exact SeqAt.RcAt.list_str z t pl.isList hu X.prog X.w _ _ ⟨.bl false, H, I, rfl, q⟩
  · obtain ⟨its, _, pl, _⟩ := I.tuple h
    exact SeqAt.RcAt.tuple_str z t pl hu X.prog X.w _ _ ⟨.bl false, H, I, rfl, q⟩
  · obtain ⟨_, ya, va, ra, da⟩ := (show ObjOk X.prog X.w H s.heap p (.dK kvs) from I.hok p _ h)
    obtain ⟨o, es, ep, ho, _, hd, _⟩ := id da
    exact rc_dict_str z t da.typeIs ho ⟨es, ep, hd⟩ hu ⟨.bl false, H, I, rfl, q⟩
def fEqX (K : PySem.W.Frag) : R2 := fun x y H Q => match x, y with
  | .ref p, .str _ => (match H p with
    | some (.dK _) => Q (.bl false) H
    | _ => (match asS (H p) with
      | some _ => Q (.bl false) H
      | none => False))
  | x, y => fEq K x y H Q
theorem op_eqX (hu : X.A.units + 64 < cLine) : OpR X (compareOp .Eq) (fEqX X.K) := op_imp ((op_eqRS (by omega)).or (op_eqF hu)) fun x y H Q h => by
  unfold fEqX at h
  split at h
  · rename_i p z
    split at h
    · rename_i kvs e
      exact .inl ⟨p, z, rfl, rfl, .inr (.inr ⟨kvs, e⟩), h⟩
    · split at h
      · rename_i xs e
        refine .inl ⟨p, z, rfl, rfl, ?_, h⟩
        rcases asS_or e with e | e
        · exact .inl ⟨xs, asL_seq e⟩
        · exact .inr (.inl ⟨xs, asT_seq e⟩)
      · exact h.elim
  · exact .inr h
/-- two tuples put together -/
def fAddT : R2 := fun x y H Q => match x, y with
  | .ref a, .ref b => (match asT (H a), asT (H b) with
    | some xs, some ys => xs ≠ [] ∧ ys ≠ [] ∧ xs.length + ys.length ≤ sizeLine ∧ ∀ p, H p = none → Q (.ref p) (upd H p (.tup (xs ++ ys)))
    | _, _ => False)
  | _, _ => False
theorem op_addT : OpR X (binaryOp .Add) fAddT := op_imp op_catT fun x y H Q h => by
  unfold fAddT at h
  split at h
  · split at h
    · rename_i e1 e2
      exact ⟨_, _, _, _, rfl, rfl, asT_seq e1, asT_seq e2, h.1, h.2.2.1, fun z => absurd z h.2.1, fun _ => h.2.2.2⟩
    · exact h.elim
  · exact h.elim
/-- len, of a dict too -/
def fLen2 : RL := fun xs H Q => match xs with
  | [.ref p] => (match H p with
    | some (.dK kvs) => Q (.int (kvs.length : Nat)) H
    | _ => (match asS (H p) with
      | some ys => Q (.int (ys.length : Nat)) H
      | none => False))
  | xs => fLen xs H Q
theorem c_len2 : CallR X (.builtin "len") fLen2 := call_imp (c_len.or L2.call_lenD) fun xs H Q h => by
  unfold fLen2 at h
  split at h
  · rename_i p
    split at h
    · rename_i kvs e
      exact .inr ⟨p, kvs, rfl, e, h⟩
    · refine .inl ?_
      show (match asS (H p) with
        | some ys => Q (.int (ys.length : Nat)) H
        | none => False)
      exact h
  · exact .inl h
end
section
variable {K : PySem.W.Frag} {H : Hp} {Q : VK} {σ : L2.St} {D : Ends} {g : TG} {tb : TS} {n : Nat}
theorem f_lenL {p : Addr} {xs : List V} (h : asS (H p) = some xs) : fLen2 [.ref p] H Q = Q (.int (xs.length : Nat)) H := by
  unfold fLen2
  dsimp only
  split
  · rename_i e
    rw [e] at h
    cases h
  · rw [h]
theorem f_lenD {p : Addr} {kvs : List (Key × V)} (h : H p = some (.dK kvs)) : fLen2 [.ref p] H Q = Q (.int (kvs.length : Nat)) H := by
  unfold fLen2
  dsimp only
  rw [h]
theorem f_eqRS {p : Addr} {z : Str} {xs : List V} (h : asS (H p) = some xs) : fEqX K (.ref p) (.str z) H Q = Q (.bl false) H := by
  unfold fEqX
  dsimp only
  split
  · rfl
  · rw [h]
theorem f_eqDS {p : Addr} {z : Str} {kvs : List (Key × V)} (h : H p = some (.dK kvs)) : fEqX K (.ref p) (.str z) H Q = Q (.bl false) H := by
  unfold fEqX
  dsimp only
  rw [h]
theorem f_eqXS {a b : Str} : fEqX K (.str a) (.str b) H Q = Q (.bl (decide (a = b))) H := rfl
theorem f_eqXn {b : Str} : fEqX K .non (.str b) H Q = (scal V.non (.str b) = true ∧ Q (.bl (decide (V.non = .str b))) H) := rfl
theorem f_eqXb {a : Bool} {b : Str} : fEqX K (.bl a) (.str b) H Q = (scal (V.bl a) (.str b) = true ∧ Q (.bl (decide (V.bl a = .str b))) H) := rfl
theorem f_eqXi {a : Int} {b : Str} : fEqX K (.int a) (.str b) H Q = (scal (V.int a) (.str b) = true ∧ Q (.bl (decide (V.int a = .str b))) H) := rfl
theorem f_addT {a b : Addr} {xs ys : List V} (h1 : asT (H a) = some xs) (h2 : asT (H b) = some ys) : fAddT (.ref a) (.ref b) H Q = (xs ≠ [] ∧ ys ≠ [] ∧ xs.length + ys.length ≤ sizeLine ∧ ∀ p, H p = none → Q (.ref p) (upd H p (.tup (xs ++ ys)))) := by
  unfold fAddT
  dsimp only
  rw [h1, h2]
theorem u_tupI {te : TE} {R : It → Hp → Prop} : iTup K te σ H R = te σ H fun x H1 => ∃ a, x = .ref a ∧ (∃ xs, SqT K H1 a xs) ∧ R (Itt K a) H1 := rfl
theorem loop_tup {a : Addr} {xs : List V} {g : TG} {tb : TS} {D : Ends} (Pv : Nat → L2.St → Hp → Prop) (h0 : Pv 0 σ H) (hl : ∀ i σ H, i ≤ xs.length → Pv i σ H → asT (H a) = some xs)
    (hs : ∀ i x σ H, xs[i]? = some x → Pv i σ H → g x σ H fun σ2 H2 => tb { D with nx := Pv (i + 1), ct := Pv (i + 1), bk := D.nx } σ2 H2) (hd : ∀ σ H, Pv xs.length σ H → D.nx σ H) : Loop (Itt K a) g tb D σ H :=
  for_tup (K := K) Pv h0 (fun i σ H h p => asT_seq (hl i σ H h p)) hs hd
/-- a comprehension over a tuple, one value for each item -/
theorem made_mapT {a Dd : Addr} {xs : List V} {te : TE} {vs : List Nat} {Qd : Hp → Prop} (f : V → V) (hl : asT (H a) = some xs) (hD : H Dd = none) (hz : xs.length < sizeLine) (hw : ∀ x, wipe ((wipe σ vs).set n (some x)) vs = wipe σ vs)
    (he : ∀ (i : Nat) (x : V) (H' : Hp) (Q : VK), xs[i]? = some x → Sm H H' → (∀ H2, Sm H' H2 → Q (f x) H2) → te ((wipe σ vs).set n (some x)) H' Q) (hd : ∀ H', Sm H H' → H' Dd = some (.lst (xs.map f)) → Qd H') : Made (Itt K a) (gName n) tYes te vs σ Dd H Qd := by
  refine lc_tup (K := K) (fun i H' => Sm H H' ∧ H' Dd = some (.lst ((xs.take i).map f))) ⟨sm_new (fun _ _ h => h) hD, upd_same⟩ (fun i H' _ p => asT_seq (sm_T p.1 hl)) (fun i x H' hx p => ⟨hw x, ?_⟩) fun H' p => hd H' p.1 (by rw [← List.take_length (l := xs)]; exact p.2)
  refine iteT (B := Sm H H' ∧ H' Dd = some (.lst ((xs.take (i + 1)).map f))) ?_
  refine he i x H' _ hx p.1 fun H2 s2 => ⟨(xs.take i).map f, s2 _ _ p.2, ?_, ?_, ?_⟩
  · rw [List.length_map, List.length_take]; omega
  · exact sm_put (fun b o z => s2 b o (p.1 b o z)) hD
  · rw [upd_same, take_map_succ hx]
/-- .. over a list, by the data that its items stand for -/
theorem made_mapD {a Dd : Addr} {xs : List V} {ds : List PyData} {te : TE} {vs : List Nat} {Qd : Hp → Prop} (f : PyData → V) (hl : asL (H a) = some xs) (hD : H Dd = none) (ll : xs.length = ds.length) (hz : ds.length < sizeLine) (hw : ∀ x, wipe ((wipe σ vs).set n (some x)) vs = wipe σ vs)
    (he : ∀ (i : Nat) (x : V) (d : PyData) (H' : Hp) (Q : VK), xs[i]? = some x → ds[i]? = some d → Sm H H' → (∀ H2, Sm H' H2 → Q (f d) H2) → te ((wipe σ vs).set n (some x)) H' Q) (hd : ∀ H', Sm H H' → H' Dd = some (.lst (ds.map f)) → Qd H') : Made (Itl K a) (gName n) tYes te vs σ Dd H Qd := by
  refine made_list (fun i H' => Sm H H' ∧ H' Dd = some (.lst ((ds.take i).map f))) ⟨sm_new (fun _ _ h => h) hD, upd_same⟩ (fun i H' _ p => sm_L p.1 hl) (fun i x H' hx p => ⟨hw x, ?_⟩) fun H' p => hd H' p.1 (by rw [← List.take_length (l := ds), ← ll]; exact p.2)
  have hi := (List.getElem?_eq_some_iff.mp hx).1
  have hdi : ds[i]? = some (ds[i]'(by omega)) := by simp
  refine iteT (B := Sm H H' ∧ H' Dd = some (.lst ((ds.take (i + 1)).map f))) ?_
  refine he i x _ H' _ hx hdi p.1 fun H2 s2 => ⟨(ds.take i).map f, s2 _ _ p.2, ?_, ?_, ?_⟩
  · rw [List.length_map, List.length_take]; omega
  · exact sm_put (fun b o z => s2 b o (p.1 b o z)) hD
  · rw [upd_same, take_map_succ hdi]
theorem at_last {xs : List V} {v : V} {q : V → Prop} (h : xs[xs.length - 1]? = some v) (hq : q v) : atV xs (-1) q := by
  have hl := (List.getElem?_eq_some_iff.mp h).1
  have e : atI xs (-1) = some v := by
    unfold atI ixN
    rw [if_neg (by omega), if_pos (by omega)]
    have e2 : (-1 + ((xs.length : Nat) : Int)).toNat = xs.length - 1 := by omega
    simp only [e2, Option.bind_some]
    exact h
  unfold atV
  rw [e]
  exact hq
theorem asS_dK {kvs : List (Key × V)} : asS (some (.dK kvs)) = none := rfl
/-- a walk over an empty dict -/
theorem lock_empty {d : Addr} (hσ : σ[n]? = some (some (.ref d))) (hd : H d = some (.dK [])) (q : D.nx σ H) : tLock (tFor (iKeys (tVar n)) g tb) D σ H := by
  refine ⟨d, _, hd, (by trivial), fun od => ⟨_, hσ, d, od, rfl, .inl ⟨[], upd_same, ?_⟩⟩⟩
  refine ⟨fun i m σ' H' => σ' = σ ∧ H' = upd H d (.frz od (.dK [])), ⟨0, rfl, rfl⟩, ?_⟩
  rintro i m σ' H' ⟨rfl, rfl⟩
  refine .inl ⟨⟨upd_same, Nat.zero_le _⟩, upd_same, ?_⟩
  have e : upd (upd H d (.frz od (.dK []))) d (.dK []) = H := by
    rw [upd_upd]
    funext b
    by_cases hb : b = d
    · rw [hb, upd_same, hd]
    · rw [upd_ne hb]
  rw [e]
  exact q
end
end XB

/-! More words: rows of two kinds, tuples in parts, texts in order, sorted. -/
namespace XB
open PySem PySem.Spec PySem.Calls PyProof.Rows PySem.W
section
variable {prog : Program} {w : World} {A : Around} {E : Value → Shared → Prop} {s : Shared}
open PySem.SeqAt
open PySem.AutoSeq1 (wpAny_loadPart')
open PySem.MeetsSeq PySem.MeetsSeq2 PySem.MeetsSeq3
/-- two tuples whose first things are unlike texts -/
theorem tuple_first (l b : Addr) (n n2 : Nat) (dd dd2 : Option Addr) (sl sl2 : Array (Option Value)) (x y : Str) (t u : Tok) (r r2 : List Value) (hne : (x == y) = false) :
    Meets (Builtin.«tuple.__lt__» ⟨[.ref l, .ref b], []⟩)
      (fun _ R s => s.heap.get? l = some { cls := .type "tuple", dict := dd, data := .seq (Value.str x t :: r).toArray n, slots := sl } ∧ s.heap.get? b = some { cls := .type "tuple", dict := dd2, data := .seq (Value.str y u :: r2).toArray n2, slots := sl2 } ∧
        R (.ok (.ret (.bool (decide (x.cps.toList < y.cps.toList))))) s) :=
  .of_wp fun prog w A R s h => by
    obtain ⟨hp, g, d, tk, os⟩ := s; obtain ⟨hl, hb, h⟩ := h
    have f2 := AutoSeq1.sub_tuple_tuple
    wp_walk using wpAny_loadPart' hl, wpAny_loadPart' hb, wpAny_forIn_list _ (fun rest b s' => b.1 = none ∧ s' = ⟨hp, g, d, tk, os⟩ ∧ ∃ z, rest = (Value.str x t, Value.str y u) :: z) _
    case turn =>
      rintro ⟨p, q⟩ rest b s' ⟨hb', rfl, z, hz⟩
      injection hz with h1 h2
      injection h1 with h3 h4
      subst h3 h4 h2
      have he := SeqAt.EqAt.str_str (A := A.in1) (s := ⟨hp, g, d, tk, os⟩) x t y u
      rw [hne] at he
      refine wpAny_bind (he prog w _ _ ?_)
      have hri := DT.rcLt_str A.in1 ⟨hp, g, d, tk, os⟩ x t y u prog w
      wp_walk using hri
      exact ⟨_, rfl, by simpa using h⟩
    case fin =>
      rintro ⟨b1, b2⟩ s' ⟨hb', rfl, z, hz⟩
      cases hz
    case h =>
      exact ⟨rfl, rfl, _, rfl⟩
theorem lt_first {l b : Addr} {x y : Str} {t u : Tok} {r r2 : List Value} {Q : Value → Shared → Prop} (hl : IsTup s.heap l (Value.str x t :: r).toArray) (hb : IsTup s.heap b (Value.str y u :: r2).toArray) (hne : (x == y) = false) (hu : A.units < cLine)
    (h : Q (.bool (decide (x.cps.toList < y.cps.toList))) s) : wpAny (model prog w) A (compareOp .Lt (.ref l) (.ref b)) Q E s := by
  obtain ⟨⟨cls, dd, data, sl⟩, ho, hc, n, hd⟩ := id hl
  obtain ⟨⟨cls2, dd2, data2, sl2⟩, ho2, hc2, n2, hd2⟩ := id hb
  simp only at hc hd hc2 hd2
  subst hc hd hc2 hd2
  exact richCompare_meets_room (op := .Lt) ⟨_, ho, rfl⟩ ⟨_, ho2, rfl⟩ PySem.F.slot_tuple_lt PySem.F.entry_tuple_lt (PySem.F.args_tuple_lt_2 _ _) (tuple_first l b n n2 dd dd2 sl sl2 x y t u r r2 hne)
    ⟨ho, ho2, show Value.bool (decide (x.cps.toList < y.cps.toList)) ≠ Value.notImplemented ∧ Q (.bool (decide (x.cps.toList < y.cps.toList))) s from ⟨(fun z => nomatch z), h⟩⟩ hu
end
open L2
section
variable {X : Cx}
def rLtTS (K : PySem.W.Frag) : R2 := fun x y H Q => ∃ a b z w xs ys, x = .ref a ∧ y = .ref b ∧ SqT K H a (.str z :: xs) ∧ SqT K H b (.str w :: ys) ∧ z ≠ w ∧ Q (.bl (decide (z.cps.toList < w.cps.toList))) H
theorem op_ltTS (hu : X.A.units < cLine) : OpR X (compareOp .Lt) (rLtTS X.K) := by
  intro pins s σ H x y v u Q I rx ry h
  obtain ⟨a, b, z, w, xs, ys, rfl, rfl, ha, hb, hne, q⟩ := h
  cases rx
  cases ry
  obtain ⟨its, r1, p1, _⟩ := I.tuple ha
  obtain ⟨its2, r2, p2, _⟩ := I.tuple hb
  cases r1 with
  | cons e1 r1 =>
    cases r2 with
    | cons e2 r2 =>
      obtain ⟨t, rfl⟩ := e1
      obtain ⟨t2, rfl⟩ := e2
      exact lt_first p1 p2 (by simpa using hne) hu ⟨.bl _, H, I, rfl, q⟩
def ltS (a b : Str) : Bool := decide (a.cps.toList < b.cps.toList)
def fLtX : R2 := fun x y H Q => match x, y with
  | .int i, .int j => Q (.bl (decide (i < j))) H
  | .str i, .str j => Q (.bl (ltS i j)) H
  | .ref a, .ref b => (match asT (H a), asT (H b) with
    | some (.str z :: _), some (.str w :: _) => z ≠ w ∧ Q (.bl (ltS z w)) H
    | _, _ => False)
  | _, _ => False
theorem op_ltX (hu : X.A.units + 64 < cLine) : OpR X (compareOp .Lt) fLtX := op_imp (op_lt.or (op_lt_str.or (op_ltTS (by omega)))) fun x y H Q h => by
  unfold fLtX at h
  split at h
  · exact .inl ⟨_, _, rfl, rfl, h⟩
  · exact .inr (.inl ⟨_, _, rfl, rfl, h⟩)
  · split at h
    · rename_i e1 e2
      exact .inr (.inr ⟨_, _, _, _, _, _, rfl, rfl, asT_seq e1, asT_seq e2, h.1, h.2⟩)
    · exact h.elim
  · exact h.elim
/-- + of any two tuples, lists, numbers, texts -/
def fAddA : R2 := fun x y H Q => match x, y with
  | .ref a, .ref b => (match asT (H a), asT (H b) with
    | some xs, some ys => xs.length + ys.length ≤ sizeLine ∧ (xs = [] → Q (.ref b) H) ∧ (xs ≠ [] → ys = [] → Q (.ref a) H) ∧ (xs ≠ [] → ys ≠ [] → ∀ p, H p = none → Q (.ref p) (upd H p (.tup (xs ++ ys))))
    | _, _ => fAdd (.ref a) (.ref b) H Q)
  | x, y => fAdd x y H Q
theorem op_addA : OpR X (binaryOp .Add) fAddA := op_imp (op_catA.or op_addF) fun x y H Q h => by
  unfold fAddA at h
  split at h
  · split at h
    · rename_i e1 e2
      exact .inl ⟨_, _, _, _, rfl, rfl, asT_seq e1, asT_seq e2, h⟩
    · exact .inr h
  · exact .inr h
def fSlA : V → Option Int → Option Int → Hp → VK → Prop := fun x lo hi H Q => match x with
  | .ref a => (match asT (H a) with
    | some xs => (HT.sIx xs.length 0 lo = 0 ∧ HT.sIx xs.length xs.length hi = xs.length → Q (.ref a) H) ∧ (¬ (HT.sIx xs.length 0 lo = 0 ∧ HT.sIx xs.length xs.length hi = xs.length) → ∀ p, H p = none → Q (.ref p) (upd H p (.tup (cutV xs lo hi))))
    | none => fSl2 (.ref a) lo hi H Q)
  | x => fSl2 x lo hi H Q
theorem sl_FA : SlR X fSlA := fun pins s σ H x v vl vu lo hi sl Q I rx hs pl pu h => by
  refine (sl_tupA.or sl_F2) pins s σ H x v vl vu lo hi sl Q I rx hs pl pu ?_
  unfold fSlA at h
  split at h
  · split at h
    · rename_i e
      exact .inl ⟨_, _, rfl, asT_seq e, h⟩
    · exact .inr h
  · exact .inr h
/-- sorted, of a list of texts -/
def fSortS : RL := fun vs H Q => match vs with
  | [.ref a] => (match asL (H a) with
    | some xs => ∃ zs : List Str, xs = zs.map V.str ∧ zs.length < 64 ∧ ∀ (ys : List Str) (p : Addr), ys.Perm zs → sortedS ys = true → H p = none → Q (.ref p) (upd H p (.lst (ys.map V.str)))
    | none => False)
  | _ => False
theorem c_sortS : CallR X (.builtin "sorted") fSortS := call_imp cr_sortedS fun vs H Q h => by
  unfold fSortS at h
  split at h
  · split at h
    · rename_i e
      obtain ⟨zs, rfl, hl, q⟩ := h
      exact ⟨_, zs, rfl, asL_seq e, hl, q⟩
    · exact h.elim
  · exact h.elim
/-- .. of a dict of texts -/
def fSortD : RL := fun vs H Q => match vs with
  | [.ref a] => (match H a with
    | some (.dK kvs) => ∃ zs : List Str, kvs.map (·.1) = zs.map Sum.inr ∧ zs.length < 64 ∧ ∀ (ys : List Str) (p : Addr), ys.Perm zs → sortedS ys = true → H p = none → Q (.ref p) (upd H p (.lst (ys.map V.str)))
    | _ => False)
  | _ => False
theorem c_sortD (hc : X.calm = true) : CallR X (.builtin "sorted") fSortD := call_imp (call_sortedD hc) fun vs H Q h => by
  unfold fSortD at h
  split at h
  · split at h
    · rename_i e
      obtain ⟨zs, hk, hl, q⟩ := h
      exact ⟨_, _, zs, rfl, .inl e, hk, hl, q⟩
    · exact h.elim
  · exact h.elim
/-- a walk over a list or a tuple -/
def iSeq (K : PySem.W.Frag) (n : Nat) : TI := fun σ H R => iList K (tVar n) σ H R ∨ iTup K (tVar n) σ H R
theorem pi_seq {tg e : Expr} {n : Nat} (h1 : PI X tg e (iList X.K (tVar n))) (h2 : PI X tg e (iTup X.K (tVar n))) : PI X tg e (iSeq X.K n) :=
  ⟨fun pins s σ H R I h => h.elim (fun h => h1.run pins s σ H R I h) fun h => h2.run pins s σ H R I h⟩
end
end XB

/-! The helpers that draw. -/
namespace XB
open PySem L2
theorem upd_ne' {H : Hp} {a b : Addr} {o : HO} (h : a ≠ b) : upd H a o b = H b := upd_ne (Ne.symm h)
local macro_rules | `(tactic| walk_at "s") => `(tactic| try simp only [u_var, u_c, u_op, u_un, u_nil, u_cons, u_cb, u_call, u_callS, u_tup, u_lst, u_test, u_B, u_and, u_or, u_not, u_andV, u_orV, u_notV, u_ifE, u_chain, u_sl, u_noPart, u_part, u_bm, u_bm0, u_rev, u_lc, u_try, u_sui, u_sui0, u_unb_rt, u_unb_nx, u_xf, u_WE, w_nil, w_cons, u_raise, u_rng1, u_rng2, u_next, u_ret, u_gname, u_gnil, u_gcons, u_gsub, u_gtup,
  f_add, f_addS, f_addR, f_sub, f_mul, f_mulR, f_mod, f_div, f_pow, f_neg, f_cmp, f_eq, f_eqB, f_eqS, f_ne, f_neB, f_neS, f_isN, f_notN, f_isB, f_ix, f_ixS, f_int, f_intB, f_len, f_lenS, f_max, f_min, f_abs, f_list, f_tuple, f_all, f_sum, f_isi, f_isiT, f_append, f_insert, f_pop, f_sl, f_set,
  kitS, tys, List.isEmpty_cons, Option.map_some, kt_NoneType_int, kt_NoneType_bool, kt_NoneType_str, kt_NoneType_list, kt_NoneType_tuple, kt_NoneType_dict, kt_int_int, kt_int_bool, kt_int_str, kt_int_list, kt_int_tuple, kt_int_dict, kt_bool_int, kt_bool_bool, kt_bool_str, kt_bool_list, kt_bool_tuple, kt_bool_dict, kt_str_int, kt_str_bool, kt_str_str, kt_str_list, kt_str_tuple, kt_str_dict, kt_list_int, kt_list_bool, kt_list_str, kt_list_list, kt_list_tuple, kt_list_dict, kt_tuple_int, kt_tuple_bool, kt_tuple_str, kt_tuple_list, kt_tuple_tuple, kt_tuple_dict, kt_dict_int, kt_dict_bool, kt_dict_str, kt_dict_list, kt_dict_tuple, kt_dict_dict, asL_lst, asL_frz, asL_tup, asT_tup, asS_lst, asS_frz, asS_tup, tyN_non, tyN_bl, tyN_int, tyN_str, atV_lit, ixN_lit, upd_same, upd_ne, upd_ne',
  List.getElem?_cons_zero, List.getElem?_cons_succ, List.set_cons_zero, List.set_cons_succ, List.append_nil, List.length_cons, List.length_nil, Option.some.injEq, exists_eq_left', exists_eq_left, exists_and_left, V.bl.injEq, V.int.injEq, V.str.injEq, V.ref.injEq, Bool.not_eq_true, Bool.not_true, Bool.not_false, decide_true, decide_false, decide_eq_true_eq, decide_eq_false_iff_not, Bool.false_eq_true, if_true, if_false, ite_true, ite_false, reduceCtorEq, true_and, and_true, Nat.reduceAdd, Nat.reduceLT, Nat.zero_add, ne_eq, not_false_eq_true, not_true_eq_false, List.cons.injEq, and_assoc])
local macro_rules | `(tactic| walk_at "S") => `(tactic| try simp only [u_var, u_c, u_op, u_un, u_nil, u_cons, u_cb, u_call, u_callS, u_tup, u_lst, u_test, u_B, u_and, u_or, u_not, u_andV, u_orV, u_notV, u_ifE, u_chain, u_sl, u_noPart, u_part, u_bm, u_bm0, u_rev, u_lc, u_try, u_sui, u_sui0, u_unb_rt, u_unb_nx, u_xf, u_WE, w_nil, w_cons, u_raise, u_rng1, u_rng2, u_next, u_ret, u_gname, u_gnil, u_gcons, u_gsub, u_gtup,
  f_add, f_addS, f_addR, f_sub, f_mul, f_mulR, f_mod, f_div, f_pow, f_neg, f_cmp, f_eq, f_eqB, f_eqS, f_ne, f_neB, f_neS, f_isN, f_notN, f_isB, f_ix, f_ixS, f_int, f_intB, f_len, f_lenS, f_max, f_min, f_abs, f_list, f_tuple, f_all, f_sum, f_isi, f_isiT, f_append, f_insert, f_pop, f_sl, f_set,
  kitS, tys, List.isEmpty_cons, Option.map_some, kt_NoneType_int, kt_NoneType_bool, kt_NoneType_str, kt_NoneType_list, kt_NoneType_tuple, kt_NoneType_dict, kt_int_int, kt_int_bool, kt_int_str, kt_int_list, kt_int_tuple, kt_int_dict, kt_bool_int, kt_bool_bool, kt_bool_str, kt_bool_list, kt_bool_tuple, kt_bool_dict, kt_str_int, kt_str_bool, kt_str_str, kt_str_list, kt_str_tuple, kt_str_dict, kt_list_int, kt_list_bool, kt_list_str, kt_list_list, kt_list_tuple, kt_list_dict, kt_tuple_int, kt_tuple_bool, kt_tuple_str, kt_tuple_list, kt_tuple_tuple, kt_tuple_dict, kt_dict_int, kt_dict_bool, kt_dict_str, kt_dict_list, kt_dict_tuple, kt_dict_dict, asL_lst, asL_frz, asL_tup, asT_tup, asS_lst, asS_frz, asS_tup, tyN_non, tyN_bl, tyN_int, tyN_str, atV_lit, ixN_lit, upd_same, upd_ne, upd_ne',
  List.getElem?_cons_zero, List.getElem?_cons_succ, List.set_cons_zero, List.set_cons_succ, List.append_nil, List.length_cons, List.length_nil, Option.some.injEq, exists_eq_left', exists_eq_left, exists_and_left, V.bl.injEq, V.int.injEq, V.str.injEq, V.ref.injEq, Bool.not_eq_true, Bool.not_true, Bool.not_false, decide_true, decide_false, decide_eq_true_eq, decide_eq_false_iff_not, Bool.false_eq_true, if_true, if_false, ite_true, ite_false, reduceCtorEq, true_and, and_true, Nat.reduceAdd, Nat.reduceLT, Nat.zero_add, ne_eq, not_false_eq_true, not_true_eq_false, List.cons.injEq, and_assoc, *])
/-- all that stood stands, but for what stood at st; and st goes on with the numbers that it had -/
def Kp (st : Addr) (H H' : Hp) : Prop := (∀ a o, a ≠ st → H a = some o → H' a = some o) ∧ ∀ c r, H st = some (.lst (c :: r)) → ∃ r', H' st = some (.lst (c :: r'))
theorem Kp.refl (st : Addr) (H : Hp) : Kp st H H := ⟨fun _ _ _ h => h, fun _ r h => ⟨r, h⟩⟩
theorem Kp.trans {st : Addr} {H H1 H2 : Hp} (a : Kp st H H1) (b : Kp st H1 H2) : Kp st H H2 := ⟨fun x o n h => b.1 x o n (a.1 x o n h), fun c r h => by
  obtain ⟨r1, h1⟩ := a.2 c r h
  exact b.2 c r1 h1⟩
theorem Kp.put {st : Addr} {H H1 : Hp} {x : V} {r r' : List V} (a : Kp st H H1) (e : H1 st = some (.lst (x :: r))) : Kp st H (upd H1 st (.lst (x :: r'))) := ⟨fun x u n h => by
  rw [upd_ne n]
  exact a.1 x u n h, fun c z h => by
  obtain ⟨r1, h1⟩ := a.2 c z h
  rw [e] at h1
  cases h1
  exact ⟨r', upd_same⟩⟩
theorem Kp.new {st p : Addr} {H H1 : Hp} {o : HO} (a : Kp st H H1) (h : H1 p = none) : Kp st H (upd H1 p o) := ⟨fun x u n e => by
  rw [upd_ne (ne_of_none (a.1 x u n e) h)]
  exact a.1 x u n e, fun c z e => by
  obtain ⟨r1, h1⟩ := a.2 c z e
  exact ⟨r1, by rw [upd_ne (ne_of_none h1 h)]; exact h1⟩⟩
/-- the store of the draws: the script's numbers, the place, what is left of a great one, the count, the seed -/
def StL (H : Hp) (st c : Addr) (ns : List Int) (a b d e : Int) : Prop :=
  H st = some (.lst [.ref c, .int a, .int b, .int d, .int e]) ∧ H c = some (.lst (ns.map V.int)) ∧ c ≠ st ∧ 0 ≤ a ∧ ns.length ≤ 1000
def StAt (H : Hp) (st : Addr) : Prop := ∃ (c : Addr) (ns : List Int) (a b d e : Int), StL H st c ns a b d e
theorem StAt.new {H : Hp} {st p : Addr} {o : HO} (s : StAt H st) (h : H p = none) : StAt (upd H p o) st := by
  obtain ⟨c, ns, a, b, d, e, h1, h2, h3, h4, h5⟩ := s
  exact ⟨c, ns, a, b, d, e, by rw [upd_ne (ne_of_none h1 h)]; exact h1, by rw [upd_ne (ne_of_none h2 h)]; exact h2, h3, h4, h5⟩
theorem Kp.asS {st p : Addr} {H H' : Hp} {xs : List V} (k : Kp st H H') (n : p ≠ st) (h : XB.asS (H p) = some xs) : XB.asS (H' p) = some xs := by
  cases e : H p with
  | none => rw [e] at h; cases h
  | some o => rw [k.1 p o n e, ← e]; exact h
theorem Kp.asL {st p : Addr} {H H' : Hp} {xs : List V} (k : Kp st H H') (n : p ≠ st) (h : XB.asL (H p) = some xs) : XB.asL (H' p) = some xs := by
  cases e : H p with
  | none => rw [e] at h; cases h
  | some o => rw [k.1 p o n e, ← e]; exact h
theorem StAt.sm {H H' : Hp} {st : Addr} (s : StAt H st) (k : Sm H H') : StAt H' st := by
  obtain ⟨c, ns, a, b, d, e, h1, h2, h3, h4, h5⟩ := s
  exact ⟨c, ns, a, b, d, e, k _ _ h1, k _ _ h2, h3, h4, h5⟩
theorem StAt.ne {H : Hp} {st p : Addr} (s : StAt H st) (h : H p = none) : p ≠ st := by
  obtain ⟨c, ns, a, b, d, e, h1, _⟩ := s
  exact (ne_of_none h1 h).symm
theorem kp_sm {H H' : Hp} {st : Addr} (k : Sm H H') : Kp st H H' := ⟨fun a o _ h => k a o h, fun c r h => ⟨r, k _ _ h⟩⟩
structure CA where
  (CrossError BadShape Lacking NoRank : Addr)
theorem below {base many : Int} (h : 0 < base) (hb : base = many ∨ base = 1) (x : Int) : x % base < many ∨ x % base = 0 := by
  have h1 := Int.emod_lt_of_pos x h
  have h2 := Int.emod_nonneg x (show base ≠ 0 by omega)
  rcases hb with e | e
  · rw [← e]; exact .inl h1
  · rw [e] at h1 h2 ⊢; exact .inr (by omega)
theorem log_small {base : Int} (h : 0 < base) (hb : base < 2 ^ 64) : base.natAbs.log2 < 9000 := by
  have h1 : base.natAbs < 2 ^ 64 := by omega
  have h2 := (Nat.log2_lt (n := base.natAbs) (k := 64) (by omega)).mpr h1
  omega
def sp_l_mixed (K : PySem.W.Frag) (C : CA) : Sp := fun vs H Q _ => ∃ a k : Int, vs = [.int a, .int k] ∧ ∀ r : Int, 0 ≤ r → r < 2147483629 → Q (.int r) H
def rd_l_mixed (K : PySem.W.Frag) (C : CA) (E : XK) : TS :=
  (tSeq (tAsg (tOp fMod (tCB fInt (tCons (tOp fAdd (tOp fAdd (tOp fMul (tCB fInt (tCons (tVar 0) tNil)) (tC (.int 48271))) (tOp fMul (tVar 1) (tC (.int 69621)))) (tC (.int 1))) tNil)) (tC (.int 2147483647))) (gName 2)) (tSeq (tAsg (tOp fMod (tCB fInt (tCons (tOp fAdd (tOp fAdd (tOp fMul (tVar 2) (tVar 2)) (tOp fMul (tVar 1) (tC (.int 40692)))) (tC (.int 7))) tNil)) (tC (.int 2147483399))) (gName 3)) (tRet (tOp fMod (tCB fInt (tCons (tOp fAdd (tOp fMul (tVar 3) (tVar 3)) (tVar 2)) tNil)) (tC (.int 2147483629))))))
theorem pure_l_mixed {K : PySem.W.Frag} {C : CA} (vs : List V) (H : Hp) (Q : VK) (E : XK) (h : sp_l_mixed K C vs H Q E) : rd_l_mixed K C E { nx := fun _ H' => Q .non H', rt := Q } (start [("cell" : Str), ("k" : Str), ("first" : Str), ("second" : Str)] vs) H := by
  obtain ⟨a, k, rfl, q⟩ := h
  show rd_l_mixed K C E _ [some (.int a), some (.int k), none, none] H
  unfold rd_l_mixed
  refine q_asg ?_
  walk_at "s"
  refine ⟨.inr ⟨by decide, by decide⟩, .inr ⟨by decide, by decide⟩, by decide, ?_⟩
  refine q_asg ?_
  have h1 := Int.emod_nonneg (a * 48271 + k * 69621 + 1) (show (2147483647 : Int) ≠ 0 by decide)
  have h2 := Int.emod_lt_of_pos (a * 48271 + k * 69621 + 1) (show (0 : Int) < 2147483647 by decide)
  generalize (a * 48271 + k * 69621 + 1) % 2147483647 = f at h1 h2 ⊢
  walk_at "s"
  refine ⟨.inl ⟨by omega, by omega⟩, .inr ⟨by decide, by decide⟩, by decide, ?_⟩
  have h3 := Int.emod_nonneg (f * f + k * 40692 + 7) (show (2147483399 : Int) ≠ 0 by decide)
  have h4 := Int.emod_lt_of_pos (f * f + k * 40692 + 7) (show (0 : Int) < 2147483399 by decide)
  generalize (f * f + k * 40692 + 7) % 2147483399 = s at h3 h4 ⊢
  refine ⟨.inl ⟨by omega, by omega⟩, by decide, ?_⟩
  exact q _ (Int.emod_nonneg _ (by decide)) (Int.emod_lt_of_pos _ (by decide))
def sp_l_take (K : PySem.W.Frag) (C : CA) : Sp := fun vs H Q _ => ∃ (st : Addr) (many : Int), vs = [.ref st, .int many] ∧ StAt H st ∧ many < 2 ^ 64 ∧
  ∀ (r : Int) (H' : Hp), 0 ≤ r → (r < many ∨ r = 0) → Kp st H H' → StAt H' st → Q (.int r) H'
def rd_l_take (K : PySem.W.Frag) (C : CA) (E : XK) : TS :=
  (tSeq (tAsg (tCB fMax (tCons (tC (.int 1)) (tCons (tVar 1) tNil))) (gName 2)) (tSeq (tAsg (tOp fAdd (tOp fIx (tVar 0) (tC (.int 3))) (tC (.int 1))) (gSub (tVar 0) (tC (.int 3)) fSet)) (Evl.tCut (tIfS (tAnd (tTest (tOp (fEq K) (tOp fIx (tVar 0) (tC (.int 2))) (tC (.int 0)))) (tTest (tOp fLt (tOp fIx (tVar 0) (tC (.int 1))) (tCB fLen (tCons (tOp fIx (tVar 0) (tC (.int 0))) tNil))))) (tSeq (tAsg (tCB fInt (tCons (tOp fIx (tOp fIx (tVar 0) (tC (.int 0))) (tOp fIx (tVar 0) (tC (.int 1)))) tNil)) (gName 3)) (tSeq (tAsg (tOp fAdd (tOp fIx (tVar 0) (tC (.int 1))) (tC (.int 1))) (gSub (tVar 0) (tC (.int 1)) fSet)) (tSeq (tIfS (tTest (tOp fLt (tVar 3) (tOp fPow (tC (.int 10)) (tC (.int 18))))) (tRet (tOp fMod (tCB fInt (tCons (tCallS (sp_l_mixed K C) (fun _ => E0) (tCons (tVar 3) (tCons (tOp fIx (tVar 0) (tC (.int 3))) tNil))) tNil)) (tVar 2))) tNext) (tAsg (tVar 3) (gSub (tVar 0) (tC (.int 2)) fSet))))) tNext) (tSeq (tIfS (tTest (tOp (fEq K) (tOp fIx (tVar 0) (tC (.int 2))) (tC (.int 0)))) (tRet (tOp fMod (tCB fInt (tCons (tCallS (sp_l_mixed K C) (fun _ => E0) (tCons (tOp fIx (tVar 0) (tC (.int 4))) (tCons (tOp fIx (tVar 0) (tC (.int 3))) tNil))) tNil)) (tVar 2))) tNext) (tSeq (tAsg (tOp fMod (tCB fInt (tCons (tOp fIx (tVar 0) (tC (.int 2))) tNil)) (tVar 2)) (gName 4)) (tSeq (tAsg (tOp fDiv (tCB fInt (tCons (tOp fIx (tVar 0) (tC (.int 2))) tNil)) (tVar 2)) (gSub (tVar 0) (tC (.int 2)) fSet)) (tRet (tVar 4))))))))
theorem pure_l_take {K : PySem.W.Frag} {C : CA} (vs : List V) (H : Hp) (Q : VK) (E : XK) (h : sp_l_take K C vs H Q E) : rd_l_take K C E { nx := fun _ H' => Q .non H', rt := Q } (start [("store" : Str), ("many" : Str), ("base" : Str), ("cell" : Str), ("digit" : Str)] vs) H := by
  obtain ⟨st, many, rfl, ⟨c, ns, a, b, d, e, h1, h2, h3, h4, h5⟩, hm, q⟩ := h
  show rd_l_take K C E _ [some (.ref st), some (.int many), none, none, none] H
  unfold rd_l_take
  refine q_asg ?_
  walk_at "s"
  have hb1 : 0 < max 1 many := by omega
  have hb2 : max 1 many = many ∨ max 1 many = 1 := by omega
  have hb3 : max 1 many < 2 ^ 64 := by omega
  generalize max 1 many = base at hb1 hb2 hb3 ⊢
  refine q_asg ?_
  walk_at "S"
  have k1 : Kp st H (upd H st (HO.lst [V.ref c, V.int a, V.int b, V.int (d + 1), V.int e])) := (Kp.refl st H).put h1
  refine ⟨fun σ' H' => ∃ a' b' d' v, σ' = [some (.ref st), some (.int many), some (.int base), v, none] ∧ StL H' st c ns a' b' d' e ∧ Kp st H H', q_if1 ?_, ?_⟩
  · walk_at "S"
    by_cases cb : b = 0
    · by_cases ca : a < (List.map V.int ns).length
      · rw [if_pos cb, if_pos ca]
        subst cb
        rw [List.length_map] at ca
        obtain ⟨n, rfl⟩ : ∃ n : Nat, a = n := ⟨a.toNat, by omega⟩
        have hn : n < ns.length := by omega
        have hx : (List.map V.int ns)[n]? = some (V.int ns[n]) := by simp [hn]
        refine q_asg ?_
        walk_at "S"
        refine at_nat hx ?_
        walk_at "S"
        refine q_asg ?_
        walk_at "S"
        refine q_if ?_
        walk_at "S"
        refine ⟨⟨by decide, by decide, by decide⟩, ?_⟩
        split
        · walk_at "S"
          refine ⟨_, _, rfl, fun r r0 r1 => ?_⟩
          walk_at "s"
          refine ⟨hb1, ?_⟩
          refine q _ _ (Int.emod_nonneg r (show base ≠ 0 by omega)) ?_ (k1.put upd_same) ⟨c, ns, _, _, _, _, upd_same, ?_, h3, ?_, h5⟩
          · exact below hb1 hb2 r
          · rw [upd_ne h3, upd_ne h3]; exact h2
          · omega
        · walk_at "S"
          refine q_asg1 ?_
          walk_at "S"
          refine ⟨_, _, _, ⟨upd_same, ?_, h3, ?_, h5⟩, (k1.put upd_same).put upd_same⟩
          · rw [upd_ne h3, upd_ne h3, upd_ne h3]; exact h2
          · omega
      · rw [if_pos cb, if_neg ca]
        walk_at "s"
        exact ⟨_, _, _, upd_same, by rw [upd_ne h3]; exact h2, h3, h4, h5⟩
    · rw [if_neg cb]
      walk_at "s"
      exact ⟨_, _, _, upd_same, by rw [upd_ne h3]; exact h2, h3, h4, h5⟩
  · rintro σ' H' ⟨a', b', d', v, rfl, ⟨g1, g2, g3, g4, g5⟩, k2⟩
    refine q_if ?_
    walk_at "S"
    split
    · walk_at "S"
      refine ⟨_, _, rfl, fun r r0 r1 => ?_⟩
      walk_at "s"
      refine ⟨hb1, ?_⟩
      refine q _ _ (Int.emod_nonneg r (show base ≠ 0 by omega)) ?_ k2 ⟨c, ns, _, _, _, _, g1, g2, g3, g4, g5⟩
      exact below hb1 hb2 r
    · walk_at "S"
      refine q_asg ?_
      walk_at "S"
      refine q_asg ?_
      walk_at "S"
      refine ⟨⟨hb1, log_small hb1 hb3⟩, q _ _ (Int.emod_nonneg b' (show base ≠ 0 by omega)) (below hb1 hb2 b') (k2.put g1) ⟨c, ns, _, _, _, _, upd_same, ?_, h3, g4, h5⟩⟩
      rw [upd_ne h3]; exact g2
theorem take_ok {K : PySem.W.Frag} {C : CA} {H : Hp} {Q : VK} {E : XK} {st : Addr} {many : Int} (hs : StAt H st) (hm : many < 2 ^ 64)
    (q : ∀ (r : Int) (H' : Hp), 0 ≤ r → (r < many ∨ r = 0) → Kp st H H' → StAt H' st → Q (.int r) H') : sp_l_take K C [.ref st, .int many] H Q E := ⟨_, _, rfl, hs, hm, q⟩
def sp_l_great (K : PySem.W.Frag) (C : CA) : Sp := fun vs H Q _ => ∃ (st : Addr) (many : Int), vs = [.ref st, .int many] ∧ StAt H st ∧
  ∀ (r : Int) (H' : Hp), 0 ≤ r → (r < many ∨ r = 0) → Kp st H H' → StAt H' st → Q (.int r) H'
def rd_l_great (K : PySem.W.Frag) (C : CA) (E : XK) : TS :=
  (tSeq (tAsg (tC (.int 0)) (gName 2)) (tSeq (tFor (iRng1 (tCons (tC (.int 12)) tNil)) (gName 3) (tAsg (tOp fAdd (tOp fMul (tVar 2) (tC (.int 1000))) (tCallS (sp_l_take K C) (fun _ => E0) (tCons (tVar 0) (tCons (tC (.int 1000)) tNil)))) (gName 2))) (tRet (tOp fMod (tCB fInt (tCons (tVar 2) tNil)) (tCB fMax (tCons (tC (.int 1)) (tCons (tVar 1) tNil)))))))
theorem pure_l_great {K : PySem.W.Frag} {C : CA} (vs : List V) (H : Hp) (Q : VK) (E : XK) (h : sp_l_great K C vs H Q E) : rd_l_great K C E { nx := fun _ H' => Q .non H', rt := Q } (start [("store" : Str), ("many" : Str), ("number" : Str), ("k" : Str)] vs) H := by
  obtain ⟨st, many, rfl, hs, q⟩ := h
  show rd_l_great K C E _ [some (.ref st), some (.int many), none, none] H
  unfold rd_l_great
  refine q_asg ?_
  walk_at "S"
  refine q_for ?_
  walk_at "S"
  refine ⟨by decide, by decide, ?_⟩
  refine loop_range (fun i σ H1 => ∃ (n : Int) (v : Option V), σ = [some (.ref st), some (.int many), some (.int n), v] ∧ Kp st H H1 ∧ StAt H1 st) ⟨_, _, rfl, Kp.refl _ _, hs⟩ ?_ ?_
  · rintro i σ H1 hi ⟨n, v, rfl, k1, s1⟩
    walk_at "s"
    refine q_asg1 ?_
    walk_at "s"
    refine ⟨.inr ⟨by decide, by decide⟩, take_ok s1 (by decide) fun r H2 _ _ k2 s2 => ?_⟩
    walk_at "s"
    exact ⟨k1.trans k2, s2⟩
  · rintro σ H1 ⟨n, v, rfl, k1, s1⟩
    walk_at "s"
    have hb1 : 0 < max 1 many := by omega
    have hb2 : max 1 many = many ∨ max 1 many = 1 := by omega
    exact ⟨hb1, q _ _ (Int.emod_nonneg _ (by omega)) (below hb1 hb2 n) k1 s1⟩
theorem great_ok {K : PySem.W.Frag} {C : CA} {H : Hp} {Q : VK} {E : XK} {st : Addr} {many : Int} (hs : StAt H st)
    (q : ∀ (r : Int) (H' : Hp), 0 ≤ r → (r < many ∨ r = 0) → Kp st H H' → StAt H' st → Q (.int r) H') : sp_l_great K C [.ref st, .int many] H Q E := ⟨_, _, rfl, hs, q⟩
def sp_l_edge (K : PySem.W.Frag) (C : CA) : Sp := fun vs H Q _ => ∃ (st : Addr) (lo hi : Int), vs = [.ref st, .int lo, .int hi] ∧ StAt H st ∧
  ∀ (r : Int) (H' : Hp), lo ≤ r → (r ≤ hi ∨ r = lo) → Kp st H H' → StAt H' st → Q (.int r) H'
theorem edge_ok {K : PySem.W.Frag} {C : CA} {H : Hp} {Q : VK} {E : XK} {st : Addr} {lo hi : Int} (hs : StAt H st)
    (q : ∀ (r : Int) (H' : Hp), lo ≤ r → (r ≤ hi ∨ r = lo) → Kp st H H' → StAt H' st → Q (.int r) H') : sp_l_edge K C [.ref st, .int lo, .int hi] H Q E := ⟨_, _, _, rfl, hs, q⟩
def rd_l_edge (K : PySem.W.Frag) (C : CA) (E : XK) : TS :=
  (tSeq (tIfS (tTest (tOp fLe (tVar 2) (tVar 1))) (tRet (tVar 1)) tNext) (tSeq (tAsg (tCallS (sp_l_take K C) (fun _ => E0) (tCons (tVar 0) (tCons (tC (.int 6)) tNil))) (gName 3)) (tSeq (tIfS (tTest (tOp (fEq K) (tVar 3) (tC (.int 0)))) (tRet (tVar 1)) tNext) (tSeq (tIfS (tTest (tOp (fEq K) (tVar 3) (tC (.int 1)))) (tRet (tVar 2)) tNext) (tSeq (tIfS (tTest (tOp fLt (tOp fSub (tVar 2) (tVar 1)) (tC (.int 1000000)))) (tRet (tOp fAdd (tVar 1) (tCallS (sp_l_take K C) (fun _ => E0) (tCons (tVar 0) (tCons (tOp fAdd (tOp fSub (tVar 2) (tVar 1)) (tC (.int 1))) tNil))))) tNext) (tRet (tOp fAdd (tVar 1) (tCallS (sp_l_great K C) (fun _ => E0) (tCons (tVar 0) (tCons (tOp fAdd (tOp fSub (tVar 2) (tVar 1)) (tC (.int 1))) tNil))))))))))
theorem pure_l_edge {K : PySem.W.Frag} {C : CA} (vs : List V) (H : Hp) (Q : VK) (E : XK) (h : sp_l_edge K C vs H Q E) : rd_l_edge K C E { nx := fun _ H' => Q .non H', rt := Q } (start [("store" : Str), ("low" : Str), ("high" : Str), ("form" : Str)] vs) H := by
  obtain ⟨st, lo, hi, rfl, hs, q⟩ := h
  show rd_l_edge K C E _ [some (.ref st), some (.int lo), some (.int hi), none] H
  unfold rd_l_edge
  refine q_if ?_
  walk_at "s"
  refine ite2 (fun c1 => q _ _ (Int.le_refl _) (.inr rfl) (Kp.refl _ _) hs) fun c1 => ?_
  refine q_asg ?_
  walk_at "s"
  refine take_ok hs (by decide) fun r H1 r0 r1 k1 s1 => ?_
  refine q_if ?_
  walk_at "s"
  refine ite2 (fun c2 => q _ _ (Int.le_refl _) (.inr rfl) k1 s1) fun c2 => ?_
  refine q_if ?_
  walk_at "s"
  refine ite2 (fun c3 => q _ _ (by omega) (.inl (Int.le_refl _)) k1 s1) fun c3 => ?_
  refine q_if ?_
  walk_at "s"
  refine ite2 (fun c4 => ?_) fun c4 => ?_
  · refine take_ok s1 (by omega) fun r H2 r0 r1 k2 s2 => ?_
    walk_at "s"
    exact q _ _ (by omega) (by omega) (k1.trans k2) s2
  · refine great_ok s1 fun r H2 r0 r1 k2 s2 => ?_
    walk_at "s"
    exact q _ _ (by omega) (by omega) (k1.trans k2) s2
def sp_l_pick (K : PySem.W.Frag) (C : CA) : Sp := fun vs H Q _ => ∃ (st p : Addr) (xs : List V), vs = [.ref st, .ref p] ∧ StAt H st ∧ asS (H p) = some xs ∧ p ≠ st ∧ xs.length < 2 ^ 60 ∧
  (xs = [] → Q .non H) ∧ ∀ (n : Nat) (v : V) (H' : Hp), xs[n]? = some v → Kp st H H' → StAt H' st → Q v H'
def rd_l_pick (K : PySem.W.Frag) (C : CA) (E : XK) : TS :=
  (tSeq (tIfS (tTest (tOp (fEq K) (tCB fLen (tCons (tVar 1) tNil)) (tC (.int 0)))) (tRet (tC .non)) tNext) (tRet (tOp fIx (tVar 1) (tCallS (sp_l_take K C) (fun _ => E0) (tCons (tVar 0) (tCons (tCB fLen (tCons (tVar 1) tNil)) tNil))))))
theorem pure_l_pick {K : PySem.W.Frag} {C : CA} (vs : List V) (H : Hp) (Q : VK) (E : XK) (h : sp_l_pick K C vs H Q E) : rd_l_pick K C E { nx := fun _ H' => Q .non H', rt := Q } (start [("store" : Str), ("row" : Str)] vs) H := by
  obtain ⟨st, p, xs, rfl, hs, hp, hne, hl, q0, q⟩ := h
  show rd_l_pick K C E _ [some (.ref st), some (.ref p)] H
  unfold rd_l_pick
  refine q_if ?_
  walk_at "s"
  rw [hp]
  walk_at "s"
  refine ite2 (fun c => ?_) fun c => ?_
  · walk_at "s"
    exact q0 (by cases xs with | nil => rfl | cons _ _ => simp at c; omega)
  · walk_at "s"
    refine take_ok hs (by omega) fun r H1 r0 r1 k1 s1 => ?_
    walk_at "s"
    obtain ⟨n, rfl⟩ : ∃ n : Nat, r = n := ⟨r.toNat, by omega⟩
    have hn : n < xs.length := by omega
    rw [k1.asS hne hp]
    exact at_nat (v := xs[n]) (by simp [hn]) (q n _ _ (by simp [hn]) k1 s1)
end XB

/-! The program's numbers. -/
namespace XB
open PySem L2
local macro_rules | `(tactic| walk_at "s") => `(tactic| try simp only [u_var, u_c, u_op, u_un, u_nil, u_cons, u_cb, u_call, u_callS, u_tup, u_lst, u_test, u_B, u_and, u_or, u_not, u_andV, u_orV, u_notV, u_ifE, u_chain, u_sl, u_noPart, u_part, u_bm, u_bm0, u_rev, u_lc, u_try, u_sui, u_sui0, u_unb_rt, u_unb_nx, u_xf, u_WE, w_nil, w_cons, u_raise, u_rng1, u_rng2, u_next, u_ret, u_gname, u_gnil, u_gcons, u_gsub, u_gtup,
  f_add, f_addS, f_addR, f_sub, f_mul, f_mulR, f_mod, f_div, f_pow, f_neg, f_cmp, f_eq, f_eqB, f_eqS, f_ne, f_neB, f_neS, f_isN, f_notN, f_isB, f_ix, f_ixS, f_int, f_intB, f_len, f_lenS, f_max, f_min, f_abs, f_list, f_tuple, f_all, f_sum, f_isi, f_isiT, f_append, f_insert, f_pop, f_sl, f_set,
  kitS, tys, List.isEmpty_cons, Option.map_some, kt_NoneType_int, kt_NoneType_bool, kt_NoneType_str, kt_NoneType_list, kt_NoneType_tuple, kt_NoneType_dict, kt_int_int, kt_int_bool, kt_int_str, kt_int_list, kt_int_tuple, kt_int_dict, kt_bool_int, kt_bool_bool, kt_bool_str, kt_bool_list, kt_bool_tuple, kt_bool_dict, kt_str_int, kt_str_bool, kt_str_str, kt_str_list, kt_str_tuple, kt_str_dict, kt_list_int, kt_list_bool, kt_list_str, kt_list_list, kt_list_tuple, kt_list_dict, kt_tuple_int, kt_tuple_bool, kt_tuple_str, kt_tuple_list, kt_tuple_tuple, kt_tuple_dict, kt_dict_int, kt_dict_bool, kt_dict_str, kt_dict_list, kt_dict_tuple, kt_dict_dict, asL_lst, asL_frz, asL_tup, asT_tup, asS_lst, asS_frz, asS_tup, tyN_non, tyN_bl, tyN_int, tyN_str, atV_lit, ixN_lit, upd_same, upd_ne, upd_ne',
  List.getElem?_cons_zero, List.getElem?_cons_succ, List.set_cons_zero, List.set_cons_succ, List.append_nil, List.length_cons, List.length_nil, Option.some.injEq, exists_eq_left', exists_eq_left, exists_and_left, V.bl.injEq, V.int.injEq, V.str.injEq, V.ref.injEq, Bool.not_eq_true, Bool.not_true, Bool.not_false, decide_true, decide_false, decide_eq_true_eq, decide_eq_false_iff_not, Bool.false_eq_true, if_true, if_false, ite_true, ite_false, reduceCtorEq, true_and, and_true, Nat.reduceAdd, Nat.reduceLT, Nat.zero_add, ne_eq, not_false_eq_true, not_true_eq_false, List.cons.injEq, and_assoc])
local macro_rules | `(tactic| walk_at "S") => `(tactic| try simp only [u_var, u_c, u_op, u_un, u_nil, u_cons, u_cb, u_call, u_callS, u_tup, u_lst, u_test, u_B, u_and, u_or, u_not, u_andV, u_orV, u_notV, u_ifE, u_chain, u_sl, u_noPart, u_part, u_bm, u_bm0, u_rev, u_lc, u_try, u_sui, u_sui0, u_unb_rt, u_unb_nx, u_xf, u_WE, w_nil, w_cons, u_raise, u_rng1, u_rng2, u_next, u_ret, u_gname, u_gnil, u_gcons, u_gsub, u_gtup,
  f_add, f_addS, f_addR, f_sub, f_mul, f_mulR, f_mod, f_div, f_pow, f_neg, f_cmp, f_eq, f_eqB, f_eqS, f_ne, f_neB, f_neS, f_isN, f_notN, f_isB, f_ix, f_ixS, f_int, f_intB, f_len, f_lenS, f_max, f_min, f_abs, f_list, f_tuple, f_all, f_sum, f_isi, f_isiT, f_append, f_insert, f_pop, f_sl, f_set,
  kitS, tys, List.isEmpty_cons, Option.map_some, kt_NoneType_int, kt_NoneType_bool, kt_NoneType_str, kt_NoneType_list, kt_NoneType_tuple, kt_NoneType_dict, kt_int_int, kt_int_bool, kt_int_str, kt_int_list, kt_int_tuple, kt_int_dict, kt_bool_int, kt_bool_bool, kt_bool_str, kt_bool_list, kt_bool_tuple, kt_bool_dict, kt_str_int, kt_str_bool, kt_str_str, kt_str_list, kt_str_tuple, kt_str_dict, kt_list_int, kt_list_bool, kt_list_str, kt_list_list, kt_list_tuple, kt_list_dict, kt_tuple_int, kt_tuple_bool, kt_tuple_str, kt_tuple_list, kt_tuple_tuple, kt_tuple_dict, kt_dict_int, kt_dict_bool, kt_dict_str, kt_dict_list, kt_dict_tuple, kt_dict_dict, asL_lst, asL_frz, asL_tup, asT_tup, asS_lst, asS_frz, asS_tup, tyN_non, tyN_bl, tyN_int, tyN_str, atV_lit, ixN_lit, upd_same, upd_ne, upd_ne',
  List.getElem?_cons_zero, List.getElem?_cons_succ, List.set_cons_zero, List.set_cons_succ, List.append_nil, List.length_cons, List.length_nil, Option.some.injEq, exists_eq_left', exists_eq_left, exists_and_left, V.bl.injEq, V.int.injEq, V.str.injEq, V.ref.injEq, Bool.not_eq_true, Bool.not_true, Bool.not_false, decide_true, decide_false, decide_eq_true_eq, decide_eq_false_iff_not, Bool.false_eq_true, if_true, if_false, ite_true, ite_false, reduceCtorEq, true_and, and_true, Nat.reduceAdd, Nat.reduceLT, Nat.zero_add, ne_eq, not_false_eq_true, not_true_eq_false, List.cons.injEq, and_assoc, *])
/-- a value of a built-in class -/
def Ty (v : V) (H : Hp) : Prop := ∃ t, tyN v H = some t
theorem ty_cases {v : V} {H : Hp} (h : Ty v H) : v = .non ∨ (∃ b, v = .bl b) ∨ (∃ i, v = .int i) ∨ (∃ z, v = .str z) ∨ ∃ p, v = .ref p ∧
    ((tyN (.ref p) H = some "list" ∧ ∃ xs, asL (H p) = some xs) ∨ (tyN (.ref p) H = some "tuple" ∧ ∃ xs, asT (H p) = some xs ∧ asL (H p) = none) ∨ (tyN (.ref p) H = some "dict" ∧ asS (H p) = none)) := by
  obtain ⟨t, h⟩ := h
  cases v with
  | non => exact .inl rfl
  | bl b => exact .inr (.inl ⟨b, rfl⟩)
  | int i => exact .inr (.inr (.inl ⟨i, rfl⟩))
  | str z => exact .inr (.inr (.inr (.inl ⟨z, rfl⟩)))
  | ref p =>
    refine .inr (.inr (.inr (.inr ⟨p, rfl, ?_⟩)))
    dsimp only [tyN] at h ⊢
    split at h
    · rename_i xs e; rw [e]; exact .inl ⟨rfl, xs, rfl⟩
    · rename_i o xs e; rw [e]; exact .inl ⟨rfl, xs, rfl⟩
    · rename_i xs e; rw [e]; exact .inr (.inl ⟨rfl, xs, rfl, rfl⟩)
    · rename_i o xs e; rw [e]; exact .inr (.inl ⟨rfl, xs, rfl, rfl⟩)
    · rename_i kvs e; rw [e]; exact .inr (.inr ⟨rfl, rfl⟩)
    · rename_i kvs e; rw [e]; exact .inr (.inr ⟨rfl, rfl⟩)
    · rename_i o kvs e; rw [e]; exact .inr (.inr ⟨rfl, rfl⟩)
    · cases h
  | byt b => cases h
  | flt b => cases h
  | ty n => cases h
def isI : V → Bool
  | .int _ => true
  | _ => false
def isNum : V → Bool
  | .int i => decide (0 ≤ i)
  | _ => false
def baseOk : V → Bool
  | .int i => decide (1 ≤ i) && decide (i ≤ 1000)
  | _ => false
/-- the list that the value is -/
def lstOf (v : V) (H : Hp) : Option (List V) := match v with
  | .ref p => asL (H p)
  | _ => none
def basesOk (v : V) (H : Hp) : Bool := match lstOf v H with
  | some xs => decide (xs.length ≤ 60) && xs.all baseOk
  | none => false
theorem tyN_mono {v : V} {H H' : Hp} {t : String} (s : ∀ b o, H b = some o → H' b = some o) (h : tyN v H = some t) : tyN v H' = some t := by
  cases v with
  | ref p =>
    dsimp only [tyN] at h ⊢
    cases e : H p with
    | none => rw [e] at h; cases h
    | some o => rw [e] at h; rw [s p o e]; exact h
  | _ => exact h
theorem asS_of_L {o : Option HO} {xs : List V} (h : asL o = some xs) : asS o = some xs := by
  unfold asS
  rw [h]
def sp_check (K : PySem.W.Frag) (C : CA) : Sp := fun vs H Q E => ∃ (b : Bool) (z : Str), vs = [.bl b, .str z] ∧ (b = true → Q .non H) ∧
  (b = false → ∀ (d : Addr) (H' : Hp), H d = none → H' d = some (.xd [(("parameter" : Str), V.str z)]) → (∀ b o, H b = some o → H' b = some o) → E (.ref C.BadShape) (some d) H')
def rd_check (K : PySem.W.Frag) (C : CA) (E : XK) : TS :=
  (tIfS (tNot (tB (tVar 0))) (tRaiseF C.BadShape [("parameter" : Str)] (fun cls d _ H => E cls d H) (tCons (tVar 1) tNil)) tNext)
theorem pure_check {K : PySem.W.Frag} {C : CA} (vs : List V) (H : Hp) (Q : VK) (E : XK) (h : sp_check K C vs H Q E) : rd_check K C E { nx := fun _ H' => Q .non H', rt := Q } (start [("fits" : Str), ("parameter" : Str)] vs) H := by
  obtain ⟨b, z, rfl, q1, q2⟩ := h
  show rd_check K C E _ [some (.bl b), some (.str z)] H
  unfold rd_check
  refine q_if1 ?_
  walk_at "s"
  cases b with
  | true => walk_at "s"; exact q1 rfl
  | false =>
    walk_at "s"
    exact ⟨by decide, fun d H' a b c => q2 rfl d H' a b c⟩
/-- digits for good bases -/
def digitsIn : List V → List Int → Bool
  | [], [] => true
  | .int d :: ds, b :: bs => decide (0 ≤ d) && decide (d < b) && digitsIn ds bs
  | _, _ => false
def digitOk : V → V → Bool
  | .int d, .int b => decide (0 ≤ d) && decide (d < b)
  | _, _ => false
theorem zip_bools : ∀ {xs : List V} {ns : List Int}, xs.length = ns.length → List.zipWith (fun b d => V.bl (digitOk d b)) (ns.map V.int) xs = (List.zipWith (fun d b => digitOk d (.int b)) xs ns).map V.bl
  | [], [], _ => rfl
  | x :: xs, n :: ns, h => by
    have ih := zip_bools (xs := xs) (ns := ns) (by simpa using h)
    simp only [List.map_cons, List.zipWith_cons_cons, ih]
  | [], _ :: _, h => by simp at h
  | _ :: _, [], h => by simp at h
theorem digits_all : ∀ {xs : List V} {ns : List Int}, xs.length = ns.length → digitsIn xs ns = (List.zipWith (fun d b => digitOk d (.int b)) xs ns).all id
  | [], [], _ => rfl
  | x :: xs, n :: ns, h => by
    have ih := digits_all (xs := xs) (ns := ns) (by simpa using h)
    simp only [List.zipWith_cons_cons, List.all_cons, ← ih, id_eq]
    cases x <;> simp [digitsIn, digitOk]
  | [], _ :: _, h => by simp at h
  | _ :: _, [], h => by simp at h
theorem digits_short : ∀ {xs : List V} {ns : List Int}, ¬ xs.length = ns.length → digitsIn xs ns = false
  | [], [], h => absurd rfl h
  | x :: xs, n :: ns, h => by
    have ih := digits_short (xs := xs) (ns := ns) (by simpa using h)
    cases x <;> simp [digitsIn, ih]
  | [], _ :: _, _ => rfl
  | x :: _, [], _ => by cases x <;> rfl
def digitsOk (v : V) (H : Hp) (ns : List Int) : Bool := match lstOf v H with
  | some xs => digitsIn xs ns
  | none => false
/-- .. and so are the parts of a list -/
def TyD (v : V) (H : Hp) : Prop := Ty v H ∧ ∀ xs, lstOf v H = some xs → ∀ x ∈ xs, Ty x H
theorem Ty.mono {v : V} {H H' : Hp} (h : Ty v H) (s : Sm H H') : Ty v H' := by
  obtain ⟨t, e⟩ := h
  exact ⟨t, tyN_mono s e⟩
theorem lst_ty {H : Hp} {p : Addr} {xs : List V} (h : asL (H p) = some xs) : tyN (.ref p) H = some "list" := by
  dsimp only [tyN]
  cases e : H p with
  | none => rw [e] at h; cases h
  | some o =>
    rw [e] at h
    cases o with
    | lst ys => rfl
    | frz ob u => cases u <;> first | rfl | (cases h)
    | _ => cases h
theorem asL_back {H H' : Hp} {p : Addr} {t : String} {ys : List V} (s : Sm H H') (h : tyN (.ref p) H = some t) (e : asL (H' p) = some ys) : asL (H p) = some ys := by
  dsimp only [tyN] at h
  cases eo : H p with
  | none => rw [eo] at h; cases h
  | some o => rw [s p o eo] at e; exact e
theorem lstOf_mono {v : V} {H H' : Hp} (s : Sm H H') (h : Ty v H) : lstOf v H' = lstOf v H := by
  obtain ⟨t, h⟩ := h
  cases v with
  | ref p =>
    dsimp only [lstOf]
    cases e : H p with
    | none => dsimp only [tyN] at h; rw [e] at h; cases h
    | some o => rw [s p o e]
  | _ => rfl
theorem TyD.mono {v : V} {H H' : Hp} (h : TyD v H) (s : Sm H H') : TyD v H' := ⟨h.1.mono s, fun xs e x hx => (h.2 xs (by rw [← lstOf_mono s h.1]; exact e) x hx).mono s⟩
theorem ints_ty {H : Hp} {ns : List Int} : ∀ x ∈ ns.map V.int, Ty x H := fun x hx => by
  obtain ⟨n, _, rfl⟩ := List.mem_map.mp hx
  exact ⟨"int", rfl⟩
theorem TyD.ints {H : Hp} {p : Addr} {ns : List Int} (h : asL (H p) = some (ns.map V.int)) : TyD (.ref p) H := ⟨⟨_, lst_ty h⟩, fun xs e x hx => by
  have e2 : asL (H p) = some xs := e
  rw [h] at e2
  cases e2
  exact ints_ty x hx⟩
theorem bases_ok {H : Hp} {p : Addr} {ns : List Int} (h : asL (H p) = some (ns.map V.int)) (hl : ns.length ≤ 60) (hb : ∀ n ∈ ns, 1 ≤ n ∧ n ≤ 1000) : basesOk (.ref p) H = true := by
  unfold basesOk lstOf
  simp only [h, List.length_map, hl, decide_true, Bool.true_and, List.all_map, List.all_eq_true]
  intro n hn
  simp [baseOk, hb n hn]
/-- the error's own dict -/
def ErrAt (H H' : Hp) (d : Addr) (fs : List (Str × V)) : Prop := Sm H H' ∧ H' d = some (.xd fs)
def mixV : List Int → List Int → Int → Int
  | b :: bs, d :: ds, a => mixV bs ds (a * b + d)
  | _, _, a => a
theorem mixV_take : ∀ {bs ds : List Int} {i : Nat} {b d a : Int}, bs[i]? = some b → ds[i]? = some d → mixV (bs.take (i + 1)) (ds.take (i + 1)) a = mixV (bs.take i) (ds.take i) a * b + d
  | b0 :: bs, d0 :: ds, 0, b, d, a, h1, h2 => by
    cases h1
    cases h2
    simp [mixV]
  | b0 :: bs, d0 :: ds, i + 1, b, d, a, h1, h2 => by
    have ih := mixV_take (bs := bs) (ds := ds) (i := i) (b := b) (d := d) (a := a * b0 + d0) h1 h2
    simp only [List.take_succ_cons, mixV]
    exact ih
  | [], _, _, _, _, _, h1, _ => by simp at h1
  | _ :: _, [], _, _, _, _, _, h2 => by simp at h2
theorem digitsIn_len : ∀ {ds ns : List Int}, digitsIn (ds.map V.int) ns = true → ds.length = ns.length
  | [], [], _ => rfl
  | d :: ds, n :: ns, h => by
    simp only [List.map_cons, digitsIn, Bool.and_eq_true] at h
    have ih := digitsIn_len h.2
    simp [ih]
  | [], _ :: _, h => by simp [digitsIn] at h
  | _ :: _, [], h => by simp [digitsIn] at h
theorem get_int {ns : List Int} {i : Nat} {x : V} (h : (ns.map V.int)[i]? = some x) : ∃ n, ns[i]? = some n ∧ x = V.int n := by
  rw [List.getElem?_map] at h
  cases e : ns[i]? with
  | none => rw [e] at h; cases h
  | some n => rw [e] at h; exact ⟨n, rfl, (Option.some.inj h).symm⟩
def prodL (ns : List Int) : Int := ns.foldl (· * ·) 1
/-- digits, the lowest first -/
def lowD : List Int → Int → List Int
  | b :: bs, x => x % b :: lowD bs (x / b)
  | [], _ => []
def lowQ : List Int → Int → Int
  | b :: bs, x => lowQ bs (x / b)
  | [], x => x
theorem lowD_take : ∀ {bs : List Int} {i : Nat} {b x : Int}, bs[i]? = some b → lowD (bs.take (i + 1)) x = lowD (bs.take i) x ++ [lowQ (bs.take i) x % b]
  | b0 :: bs, 0, b, x, h => by cases h; rfl
  | b0 :: bs, i + 1, b, x, h => by
    have ih := lowD_take (bs := bs) (i := i) (b := b) (x := x / b0) h
    simp only [List.take_succ_cons, lowD, lowQ, ih, List.cons_append]
  | [], _, _, _, h => by simp at h
theorem lowQ_take : ∀ {bs : List Int} {i : Nat} {b x : Int}, bs[i]? = some b → lowQ (bs.take (i + 1)) x = lowQ (bs.take i) x / b
  | b0 :: bs, 0, b, x, h => by cases h; rfl
  | b0 :: bs, i + 1, b, x, h => by
    have ih := lowQ_take (bs := bs) (i := i) (b := b) (x := x / b0) h
    simp only [List.take_succ_cons, lowQ, ih]
  | [], _, _, _, h => by simp at h
theorem prodL_take {bs : List Int} {i : Nat} {b : Int} (h : bs[i]? = some b) : prodL (bs.take (i + 1)) = prodL (bs.take i) * b := by
  unfold prodL
  rw [List.take_add_one, h, List.foldl_append]
  rfl
theorem lowD_len : ∀ {bs : List Int} {x : Int}, (lowD bs x).length = bs.length
  | [], _ => rfl
  | _ :: bs, x => by simp [lowD, lowD_len (bs := bs)]
def digs (ns : List Int) (x : Int) : List Int := (lowD ns.reverse x).reverse
end XB

/-! The law's helpers. -/
namespace XB
open PySem L2
local macro_rules | `(tactic| walk_at "s") => `(tactic| try simp only [u_var, u_c, u_op, u_un, u_nil, u_cons, u_cb, u_call, u_callS, u_tup, u_lst, u_test, u_B, u_and, u_or, u_not, u_andV, u_orV, u_notV, u_ifE, u_chain, u_sl, u_noPart, u_part, u_bm, u_bm0, u_rev, u_lc, u_try, u_sui, u_sui0, u_unb_rt, u_unb_nx, u_xf, u_WE, w_nil, w_cons, u_raise, u_rng1, u_rng2, u_next, u_ret, u_gname, u_gnil, u_gcons, u_gsub, u_gtup,
  f_add, f_addS, f_addR, f_sub, f_mul, f_mulR, f_mod, f_div, f_pow, f_neg, f_cmp, f_eq, f_eqB, f_eqS, f_ne, f_neB, f_neS, f_isN, f_notN, f_isB, f_ix, f_ixS, f_int, f_intB, f_len, f_lenS, f_max, f_min, f_abs, f_list, f_tuple, f_all, f_sum, f_isi, f_isiT, f_append, f_insert, f_pop, f_sl, f_set,
  kitS, tys, List.isEmpty_cons, Option.map_some, kt_NoneType_int, kt_NoneType_bool, kt_NoneType_str, kt_NoneType_list, kt_NoneType_tuple, kt_NoneType_dict, kt_int_int, kt_int_bool, kt_int_str, kt_int_list, kt_int_tuple, kt_int_dict, kt_bool_int, kt_bool_bool, kt_bool_str, kt_bool_list, kt_bool_tuple, kt_bool_dict, kt_str_int, kt_str_bool, kt_str_str, kt_str_list, kt_str_tuple, kt_str_dict, kt_list_int, kt_list_bool, kt_list_str, kt_list_list, kt_list_tuple, kt_list_dict, kt_tuple_int, kt_tuple_bool, kt_tuple_str, kt_tuple_list, kt_tuple_tuple, kt_tuple_dict, kt_dict_int, kt_dict_bool, kt_dict_str, kt_dict_list, kt_dict_tuple, kt_dict_dict, asL_lst, asL_frz, asL_tup, asT_tup, asS_lst, asS_frz, asS_tup, tyN_non, tyN_bl, tyN_int, tyN_str, atV_lit, ixN_lit, upd_same, upd_ne, upd_ne',
  List.getElem?_cons_zero, List.getElem?_cons_succ, List.set_cons_zero, List.set_cons_succ, List.append_nil, List.length_cons, List.length_nil, Option.some.injEq, exists_eq_left', exists_eq_left, exists_and_left, V.bl.injEq, V.int.injEq, V.str.injEq, V.ref.injEq, Bool.not_eq_true, Bool.not_true, Bool.not_false, decide_true, decide_false, decide_eq_true_eq, decide_eq_false_iff_not, Bool.false_eq_true, if_true, if_false, ite_true, ite_false, reduceCtorEq, true_and, and_true, Nat.reduceAdd, Nat.reduceLT, Nat.zero_add, ne_eq, not_false_eq_true, not_true_eq_false, List.cons.injEq, and_assoc])
local macro_rules | `(tactic| walk_at "S") => `(tactic| try simp only [u_var, u_c, u_op, u_un, u_nil, u_cons, u_cb, u_call, u_callS, u_tup, u_lst, u_test, u_B, u_and, u_or, u_not, u_andV, u_orV, u_notV, u_ifE, u_chain, u_sl, u_noPart, u_part, u_bm, u_bm0, u_rev, u_lc, u_try, u_sui, u_sui0, u_unb_rt, u_unb_nx, u_xf, u_WE, w_nil, w_cons, u_raise, u_rng1, u_rng2, u_next, u_ret, u_gname, u_gnil, u_gcons, u_gsub, u_gtup,
  f_add, f_addS, f_addR, f_sub, f_mul, f_mulR, f_mod, f_div, f_pow, f_neg, f_cmp, f_eq, f_eqB, f_eqS, f_ne, f_neB, f_neS, f_isN, f_notN, f_isB, f_ix, f_ixS, f_int, f_intB, f_len, f_lenS, f_max, f_min, f_abs, f_list, f_tuple, f_all, f_sum, f_isi, f_isiT, f_append, f_insert, f_pop, f_sl, f_set,
  kitS, tys, List.isEmpty_cons, Option.map_some, kt_NoneType_int, kt_NoneType_bool, kt_NoneType_str, kt_NoneType_list, kt_NoneType_tuple, kt_NoneType_dict, kt_int_int, kt_int_bool, kt_int_str, kt_int_list, kt_int_tuple, kt_int_dict, kt_bool_int, kt_bool_bool, kt_bool_str, kt_bool_list, kt_bool_tuple, kt_bool_dict, kt_str_int, kt_str_bool, kt_str_str, kt_str_list, kt_str_tuple, kt_str_dict, kt_list_int, kt_list_bool, kt_list_str, kt_list_list, kt_list_tuple, kt_list_dict, kt_tuple_int, kt_tuple_bool, kt_tuple_str, kt_tuple_list, kt_tuple_tuple, kt_tuple_dict, kt_dict_int, kt_dict_bool, kt_dict_str, kt_dict_list, kt_dict_tuple, kt_dict_dict, asL_lst, asL_frz, asL_tup, asT_tup, asS_lst, asS_frz, asS_tup, tyN_non, tyN_bl, tyN_int, tyN_str, atV_lit, ixN_lit, upd_same, upd_ne, upd_ne',
  List.getElem?_cons_zero, List.getElem?_cons_succ, List.set_cons_zero, List.set_cons_succ, List.append_nil, List.length_cons, List.length_nil, Option.some.injEq, exists_eq_left', exists_eq_left, exists_and_left, V.bl.injEq, V.int.injEq, V.str.injEq, V.ref.injEq, Bool.not_eq_true, Bool.not_true, Bool.not_false, decide_true, decide_false, decide_eq_true_eq, decide_eq_false_iff_not, Bool.false_eq_true, if_true, if_false, ite_true, ite_false, reduceCtorEq, true_and, and_true, Nat.reduceAdd, Nat.reduceLT, Nat.zero_add, ne_eq, not_false_eq_true, not_true_eq_false, List.cons.injEq, and_assoc, *])
/-- item by item -/
def All2 (R : V → PyData → Prop) (xs : List V) (ds : List PyData) : Prop := xs.length = ds.length ∧ ∀ (i : Nat) (x : V) (d : PyData), xs[i]? = some x → ds[i]? = some d → R x d
def Flat (m : Nat) (v : V) (d : PyData) : Prop := (v = .non ∧ d = .none) ∨ (∃ b, v = .bl b ∧ d = .bool b) ∨ (∃ i, v = .int i ∧ d = .int i) ∨ ∃ z : Str, (v = .str z ∧ z.length ≤ m) ∧ d = .str z
/-- v stands for the data d, at most n deep, of texts and rows of at most m -/
def RpM (m : Nat) (H : Hp) : Nat → V → PyData → Prop
  | 0, v, d => Flat m v d
  | n + 1, v, d => Flat m v d ∨ (∃ p xs ds, v = .ref p ∧ asL (H p) = some xs ∧ d = .list ds ∧ xs.length ≤ m ∧ All2 (RpM m H n) xs ds) ∨
    (∃ p xs ds, v = .ref p ∧ asT (H p) = some xs ∧ d = .tuple ds ∧ xs.length ≤ m ∧ All2 (RpM m H n) xs ds) ∨ ∃ p, v = .ref p ∧ H p = some (.dK []) ∧ d = .dict []
abbrev Rp := RpM 1000
theorem Flat.wide {m k : Nat} {v : V} {d : PyData} (hk : m ≤ k) (h : Flat m v d) : Flat k v d := by
  rcases h with h | h | h | ⟨z, ⟨e1, e2⟩, e3⟩
  · exact .inl h
  · exact .inr (.inl h)
  · exact .inr (.inr (.inl h))
  · exact .inr (.inr (.inr ⟨z, ⟨e1, Nat.le_trans e2 hk⟩, e3⟩))
theorem RpM.mono {m : Nat} {H H' : Hp} (s : Sm H H') : ∀ {n : Nat} {v : V} {d : PyData}, RpM m H n v d → RpM m H' n v d
  | 0, _, _, h => h
  | n + 1, v, d, h => by
    rcases h with h | ⟨p, xs, ds, e1, e2, e3, e4, e5, e6⟩ | ⟨p, xs, ds, e1, e2, e3, e4, e5, e6⟩ | ⟨p, e1, e2, e3⟩
    · exact .inl h
    · exact .inr (.inl ⟨p, xs, ds, e1, sm_L s e2, e3, e4, e5, fun i x d hx hd => RpM.mono s (e6 i x d hx hd)⟩)
    · exact .inr (.inr (.inl ⟨p, xs, ds, e1, sm_T s e2, e3, e4, e5, fun i x d hx hd => RpM.mono s (e6 i x d hx hd)⟩))
    · exact .inr (.inr (.inr ⟨p, e1, s _ _ e2, e3⟩))
theorem RpM.wide {m k : Nat} (hk : m ≤ k) {H : Hp} : ∀ {n : Nat} {v : V} {d : PyData}, RpM m H n v d → RpM k H n v d
  | 0, _, _, h => Flat.wide hk h
  | n + 1, v, d, h => by
    rcases h with h | ⟨p, xs, ds, e1, e2, e3, e4, e5, e6⟩ | ⟨p, xs, ds, e1, e2, e3, e4, e5, e6⟩ | ⟨p, e1, e2, e3⟩
    · exact .inl (h.wide hk)
    · exact .inr (.inl ⟨p, xs, ds, e1, e2, e3, Nat.le_trans e4 hk, e5, fun i x d hx hd => RpM.wide hk (e6 i x d hx hd)⟩)
    · exact .inr (.inr (.inl ⟨p, xs, ds, e1, e2, e3, Nat.le_trans e4 hk, e5, fun i x d hx hd => RpM.wide hk (e6 i x d hx hd)⟩))
    · exact .inr (.inr (.inr ⟨p, e1, e2, e3⟩))
theorem RpM.up {m : Nat} {H : Hp} : ∀ {n : Nat} {v : V} {d : PyData}, RpM m H n v d → RpM m H (n + 1) v d
  | 0, _, _, h => .inl h
  | n + 1, v, d, h => by
    rcases h with h | ⟨p, xs, ds, e1, e2, e3, e4, e5, e6⟩ | ⟨p, xs, ds, e1, e2, e3, e4, e5, e6⟩ | ⟨p, e1, e2, e3⟩
    · exact .inl h
    · exact .inr (.inl ⟨p, xs, ds, e1, e2, e3, e4, e5, fun i x d hx hd => RpM.up (e6 i x d hx hd)⟩)
    · exact .inr (.inr (.inl ⟨p, xs, ds, e1, e2, e3, e4, e5, fun i x d hx hd => RpM.up (e6 i x d hx hd)⟩))
    · exact .inr (.inr (.inr ⟨p, e1, e2, e3⟩))
theorem tup_ty {H : Hp} {p : Addr} {xs : List V} (h : asT (H p) = some xs) : tyN (.ref p) H = some "tuple" := by
  dsimp only [tyN]
  cases e : H p with
  | none => rw [e] at h; cases h
  | some o =>
    rw [e] at h
    cases o with
    | tup ys => rfl
    | frz ob u => cases u <;> first | rfl | (cases h)
    | _ => cases h
theorem asS_of_T {o : Option HO} {xs : List V} (h : asT o = some xs) : asS o = some xs := by
  cases o with
  | none => cases h
  | some u =>
    cases u with
    | tup ys => exact h
    | frz ob w => cases w <;> first | exact h | (cases h)
    | _ => cases h
/-- both stand for one data: they are the same -/
def sp_sameN (n : Nat) : Sp := fun vs H Q _ => ∃ v1 v2 d, vs = [v1, v2] ∧ Rp H n v1 d ∧ Rp H n v2 d ∧ ∀ H', Sm H H' → Q (.bl true) H'
def sp_same_in : Nat → Sp
  | 0 => fun _ _ _ _ => False
  | n + 1 => sp_sameN n
def sp_l_same (K : PySem.W.Frag) (C : CA) : Sp := sp_sameN 6
def rd_l_same (K : PySem.W.Frag) (C : CA) (spR : Sp) (E : XK) : TS :=
  (tSeq (tIfS (tOr (tTest (tOp fIsN (tVar 0) (tC .non))) (tTest (tOp fIsN (tVar 1) (tC .non)))) (tRet (tAndV (tOp fIsN (tVar 0) (tC .non)) (tOp fIsN (tVar 1) (tC .non)))) tNext) (tSeq (tIfS (tOr (tB (tCB fIsi (tCons (tVar 0) (tCons (tC (.ty "bool")) tNil)))) (tB (tCB fIsi (tCons (tVar 1) (tCons (tC (.ty "bool")) tNil))))) (tRet (tAndV (tCB fIsi (tCons (tVar 0) (tCons (tC (.ty "bool")) tNil))) (tAndV (tCB fIsi (tCons (tVar 1) (tCons (tC (.ty "bool")) tNil))) (tOp (fEq K) (tVar 0) (tVar 1))))) tNext) (tSeq (tIfS (tOr (tB (tCB fIsi (tCons (tVar 0) (tCons (tC (.ty "int")) tNil)))) (tB (tCB fIsi (tCons (tVar 1) (tCons (tC (.ty "int")) tNil))))) (tRet (tAndV (tCB fIsi (tCons (tVar 0) (tCons (tC (.ty "int")) tNil))) (tAndV (tCB fIsi (tCons (tVar 1) (tCons (tC (.ty "int")) tNil))) (tOp (fEq K) (tVar 0) (tVar 1))))) tNext) (tSeq (tIfS (tOr (tB (tCB fIsi (tCons (tVar 0) (tCons (tC (.ty "str")) tNil)))) (tB (tCB fIsi (tCons (tVar 1) (tCons (tC (.ty "str")) tNil))))) (tRet (tAndV (tCB fIsi (tCons (tVar 0) (tCons (tC (.ty "str")) tNil))) (tAndV (tCB fIsi (tCons (tVar 1) (tCons (tC (.ty "str")) tNil))) (tOp (fEq K) (tVar 0) (tVar 1))))) tNext) (tSeq (tIfS (tOr (tB (tCB fIsi (tCons (tVar 0) (tCons (tC (.ty "dict")) tNil)))) (tB (tCB fIsi (tCons (tVar 1) (tCons (tC (.ty "dict")) tNil))))) (tSeq (tIfS (tOr (tNot (tB (tCB fIsi (tCons (tVar 0) (tCons (tC (.ty "dict")) tNil))))) (tOr (tNot (tB (tCB fIsi (tCons (tVar 1) (tCons (tC (.ty "dict")) tNil))))) (tTest (tOp (fNe K) (tCB fLen2 (tCons (tVar 0) tNil)) (tCB fLen2 (tCons (tVar 1) tNil)))))) (tRet (tC (.bl false))) tNext) (tSeq (tLock (tFor (iKeys (tVar 0)) (gName 2) tNever)) (tRet (tC (.bl true))))) tNext) (tSeq (tIfS (tOr (tB (tCB fIsiT (tCons (tVar 0) (tCons (tTup (tCons (tC (.ty "list")) (tCons (tC (.ty "tuple")) tNil))) tNil)))) (tB (tCB fIsiT (tCons (tVar 1) (tCons (tTup (tCons (tC (.ty "list")) (tCons (tC (.ty "tuple")) tNil))) tNil))))) (tSeq (tIfS (tOr (tTest (tOp (fNe K) (tCB fIsi (tCons (tVar 0) (tCons (tC (.ty "list")) tNil))) (tCB fIsi (tCons (tVar 1) (tCons (tC (.ty "list")) tNil))))) (tTest (tOp (fNe K) (tCB fIsi (tCons (tVar 0) (tCons (tC (.ty "tuple")) tNil))) (tCB fIsi (tCons (tVar 1) (tCons (tC (.ty "tuple")) tNil)))))) (tRet (tC (.bl false))) tNext) (tSeq (tIfS (tTest (tOp (fNe K) (tCB fLen2 (tCons (tVar 0) tNil)) (tCB fLen2 (tCons (tVar 1) tNil)))) (tRet (tC (.bl false))) tNext) (tSeq (tFor (iRng1 (tCons (tCB fLen2 (tCons (tVar 0) tNil)) tNil)) (gName 3) (tIfS (tNot (tB (tCallS spR (fun _ => E0) (tCons (tOp fIx (tVar 0) (tVar 3)) (tCons (tOp fIx (tVar 1) (tVar 3)) tNil))))) (tRet (tC (.bl false))) tNext)) (tRet (tC (.bl true)))))) tNext) (tSeq tNever tNever)))))))
theorem pure_l_sameN {K : PySem.W.Frag} {C : CA} (n : Nat) (vs : List V) (H : Hp) (Q : VK) (E : XK) (h : sp_sameN n vs H Q E) : rd_l_same K C (sp_same_in n) E { nx := fun _ H' => Q .non H', rt := Q } (start [("one" : Str), ("other" : Str), ("key" : Str), ("k" : Str), ("alike" : Str), ("found" : Str)] vs) H := by
  obtain ⟨v1, v2, d, rfl, r1, r2, q⟩ := h
  show rd_l_same K C _ E _ [some v1, some v2, none, none, none, none] H
  unfold rd_l_same
  have flat : Flat 1000 v1 d → Flat 1000 v2 d → rd_l_same K C (sp_same_in n) E { nx := fun _ H' => Q .non H', rt := Q } [some v1, some v2, none, none, none, none] H := fun f1 f2 => by
    have q0 := q H fun _ _ z => z
    unfold rd_l_same
    rcases f1 with ⟨rfl, rfl⟩ | ⟨b, rfl, rfl⟩ | ⟨i, rfl, rfl⟩ | ⟨z, ⟨rfl, _⟩, rfl⟩
    · rcases f2 with ⟨rfl, _⟩ | ⟨b, rfl, e⟩ | ⟨i, rfl, e⟩ | ⟨z, ⟨rfl, _⟩, e⟩
      · refine q_if ?_
        walk_at "s"
        exact q0
      all_goals cases e
    · rcases f2 with ⟨rfl, e⟩ | ⟨b2, rfl, e⟩ | ⟨i, rfl, e⟩ | ⟨z, ⟨rfl, _⟩, e⟩
      · cases e
      · cases e
        refine q_if ?_
        walk_at "s"
        refine q_if ?_
        walk_at "s"
        exact q0
      all_goals cases e
    · rcases f2 with ⟨rfl, e⟩ | ⟨b2, rfl, e⟩ | ⟨i2, rfl, e⟩ | ⟨z, ⟨rfl, _⟩, e⟩
      · cases e
      · cases e
      · cases e
        refine q_if ?_
        walk_at "s"
        refine q_if ?_
        walk_at "s"
        refine q_if ?_
        walk_at "s"
        exact q0
      · cases e
    · rcases f2 with ⟨rfl, e⟩ | ⟨b2, rfl, e⟩ | ⟨i2, rfl, e⟩ | ⟨z2, ⟨rfl, _⟩, e⟩
      · cases e
      · cases e
      · cases e
      · cases e
        refine q_if ?_
        walk_at "s"
        refine q_if ?_
        walk_at "s"
        refine q_if ?_
        walk_at "s"
        refine q_if ?_
        walk_at "s"
        exact q0
  cases n with
  | zero => exact flat r1 r2
  | succ n =>
    rcases r1 with f1 | ⟨p1, xs, ds, rfl, e1, rfl, l1, a1⟩ | ⟨p1, xs, ds, rfl, e1, rfl, l1, a1⟩ | ⟨p1, rfl, e1, rfl⟩
    · rcases r2 with f2 | ⟨p2, ys, ds2, rfl, e2, rfl, l2, a2⟩ | ⟨p2, ys, ds2, rfl, e2, rfl, l2, a2⟩ | ⟨p2, rfl, e2, rfl⟩
      · exact flat f1 f2
      · rcases f1 with ⟨_, e⟩ | ⟨_, _, e⟩ | ⟨_, _, e⟩ | ⟨_, _, e⟩ <;> cases e
      · rcases f1 with ⟨_, e⟩ | ⟨_, _, e⟩ | ⟨_, _, e⟩ | ⟨_, _, e⟩ <;> cases e
      · rcases f1 with ⟨_, e⟩ | ⟨_, _, e⟩ | ⟨_, _, e⟩ | ⟨_, _, e⟩ <;> cases e
    · rcases r2 with f2 | ⟨p2, ys, ds2, rfl, e2, e, l2, a2⟩ | ⟨p2, ys, ds2, rfl, e2, e, l2, a2⟩ | ⟨p2, rfl, e2, e⟩
      · rcases f2 with ⟨_, e⟩ | ⟨_, _, e⟩ | ⟨_, _, e⟩ | ⟨_, _, e⟩ <;> cases e
      · cases e
        refine q_if ?_
        walk_at "s"
        refine q_if ?_
        walk_at "s"
        rw [lst_ty e1, lst_ty e2]
        walk_at "s"
        refine q_if ?_
        walk_at "s"
        rw [lst_ty e1, lst_ty e2]
        walk_at "s"
        refine q_if ?_
        walk_at "s"
        rw [lst_ty e1, lst_ty e2]
        walk_at "s"
        refine q_if ?_
        walk_at "s"
        rw [lst_ty e1, lst_ty e2]
        walk_at "s"
        refine q_if ?_
        walk_at "s"
        refine ⟨by decide, fun tp htp => ?_⟩
        have s1 : Sm H (upd H tp (.tup [V.ty "list", V.ty "tuple"])) := sm_new (fun _ _ z => z) htp
        have t1 := upd_same (H := H) (a := tp) (o := .tup [V.ty "list", V.ty "tuple"])
        generalize upd H tp (.tup [V.ty "list", V.ty "tuple"]) = H1 at s1 t1 ⊢
        rw [tyN_mono s1 (lst_ty e1)]
        walk_at "s"
        have e1' := sm_L s1 e1
        have e2' := sm_L s1 e2
        refine q_if ?_
        walk_at "s"
        rw [lst_ty e1', lst_ty e2']
        walk_at "s"
        refine q_if ?_
        walk_at "s"
        simp only [f_lenL (asS_of_L e1'), f_lenL (asS_of_L e2')]
        walk_at "s"
        have ll : xs.length = ys.length := a1.1.trans a2.1.symm
        have l3 : (xs.length : Int) = ys.length := by omega
        simp only [l3, decide_true, Bool.not_true, Bool.false_eq_true, if_false]
        refine q_for ?_
        walk_at "s"
        simp only [f_lenL (asS_of_L e1')]
        walk_at "s"
        refine ⟨by omega, by omega, ?_⟩
        refine loop_range (fun i σ H2 => ∃ v, σ = [some (.ref p1), some (.ref p2), none, v, none, none] ∧ Sm H1 H2) ⟨_, rfl, fun _ _ z => z⟩ ?_ ?_
        · rintro i σ H2 hi ⟨v, rfl, s2⟩
          walk_at "s"
          have hx : i < xs.length := by omega
          have hy : i < ys.length := by omega
          have hd : i < ds.length := by have := a1.1; omega
          refine q_if1 ?_
          walk_at "s"
          rw [asS_of_L (sm_L s2 e1'), asS_of_L (sm_L s2 e2')]
          walk_at "s"
          have ei : (0 : Int) + (i : Nat) = (i : Nat) := Int.zero_add _
          rw [ei]
          refine at_nat (v := xs[i]) (by simp [hx]) (at_nat (v := ys[i]) (by simp [hy]) ?_)
          refine ⟨_, _, ds[i], rfl, (a1.2 i _ _ (by simp [hx]) (by simp [hd])).mono (fun b o z => s2 b o (s1 b o z)), (a2.2 i _ _ (by simp [hy]) (by simp [hd])).mono (fun b o z => s2 b o (s1 b o z)), fun H3 s3 => ?_⟩
          walk_at "s"
          exact fun b o z => s3 b o (s2 b o z)
        · rintro σ H2 ⟨v, rfl, s2⟩
          walk_at "s"
          exact q H2 fun b o z => s2 b o (s1 b o z)
      · cases e
      · cases e
    · rcases r2 with f2 | ⟨p2, ys, ds2, rfl, e2, e, l2, a2⟩ | ⟨p2, ys, ds2, rfl, e2, e, l2, a2⟩ | ⟨p2, rfl, e2, e⟩
      · rcases f2 with ⟨_, e⟩ | ⟨_, _, e⟩ | ⟨_, _, e⟩ | ⟨_, _, e⟩ <;> cases e
      · cases e
      · cases e
        refine q_if ?_
        walk_at "s"
        refine q_if ?_
        walk_at "s"
        rw [tup_ty e1, tup_ty e2]
        walk_at "s"
        refine q_if ?_
        walk_at "s"
        rw [tup_ty e1, tup_ty e2]
        walk_at "s"
        refine q_if ?_
        walk_at "s"
        rw [tup_ty e1, tup_ty e2]
        walk_at "s"
        refine q_if ?_
        walk_at "s"
        rw [tup_ty e1, tup_ty e2]
        walk_at "s"
        refine q_if ?_
        walk_at "s"
        refine ⟨by decide, fun tp htp => ?_⟩
        have s1 : Sm H (upd H tp (.tup [V.ty "list", V.ty "tuple"])) := sm_new (fun _ _ z => z) htp
        have t1 := upd_same (H := H) (a := tp) (o := .tup [V.ty "list", V.ty "tuple"])
        generalize upd H tp (.tup [V.ty "list", V.ty "tuple"]) = H1 at s1 t1 ⊢
        rw [tyN_mono s1 (tup_ty e1)]
        walk_at "s"
        have e1' := sm_T s1 e1
        have e2' := sm_T s1 e2
        refine q_if ?_
        walk_at "s"
        rw [tup_ty e1', tup_ty e2']
        walk_at "s"
        refine q_if ?_
        walk_at "s"
        simp only [f_lenL (asS_of_T e1'), f_lenL (asS_of_T e2')]
        walk_at "s"
        have ll : xs.length = ys.length := a1.1.trans a2.1.symm
        have l3 : (xs.length : Int) = ys.length := by omega
        simp only [l3, decide_true, Bool.not_true, Bool.false_eq_true, if_false]
        refine q_for ?_
        walk_at "s"
        simp only [f_lenL (asS_of_T e1')]
        walk_at "s"
        refine ⟨by omega, by omega, ?_⟩
        refine loop_range (fun i σ H2 => ∃ v, σ = [some (.ref p1), some (.ref p2), none, v, none, none] ∧ Sm H1 H2) ⟨_, rfl, fun _ _ z => z⟩ ?_ ?_
        · rintro i σ H2 hi ⟨v, rfl, s2⟩
          walk_at "s"
          have hx : i < xs.length := by omega
          have hy : i < ys.length := by omega
          have hd : i < ds.length := by have := a1.1; omega
          refine q_if1 ?_
          walk_at "s"
          rw [asS_of_T (sm_T s2 e1'), asS_of_T (sm_T s2 e2')]
          walk_at "s"
          have ei : (0 : Int) + (i : Nat) = (i : Nat) := Int.zero_add _
          rw [ei]
          refine at_nat (v := xs[i]) (by simp [hx]) (at_nat (v := ys[i]) (by simp [hy]) ?_)
          refine ⟨_, _, ds[i], rfl, (a1.2 i _ _ (by simp [hx]) (by simp [hd])).mono (fun b o z => s2 b o (s1 b o z)), (a2.2 i _ _ (by simp [hy]) (by simp [hd])).mono (fun b o z => s2 b o (s1 b o z)), fun H3 s3 => ?_⟩
          walk_at "s"
          exact fun b o z => s3 b o (s2 b o z)
        · rintro σ H2 ⟨v, rfl, s2⟩
          walk_at "s"
          exact q H2 fun b o z => s2 b o (s1 b o z)
      · cases e
    · rcases r2 with f2 | ⟨p2, ys, ds2, rfl, e2, e, l2, a2⟩ | ⟨p2, ys, ds2, rfl, e2, e, l2, a2⟩ | ⟨p2, rfl, e2, e⟩
      · rcases f2 with ⟨_, e⟩ | ⟨_, _, e⟩ | ⟨_, _, e⟩ | ⟨_, _, e⟩ <;> cases e
      · cases e
      · cases e
      · have y1 := tyN_dK e1
        have y2 := tyN_dK e2
        refine q_if ?_
        walk_at "s"
        refine q_if ?_
        walk_at "s"
        rw [y1, y2]
        walk_at "s"
        refine q_if ?_
        walk_at "s"
        rw [y1, y2]
        walk_at "s"
        refine q_if ?_
        walk_at "s"
        rw [y1, y2]
        walk_at "s"
        refine q_if ?_
        walk_at "s"
        rw [y1]
        walk_at "s"
        refine q_if ?_
        walk_at "s"
        rw [y1]
        walk_at "s"
        rw [y2]
        walk_at "s"
        simp only [f_lenD e1, f_lenD e2]
        walk_at "s"
        refine q_seq (lock_empty (n := 0) rfl e1 ?_)
        walk_at "s"
        exact q H fun _ _ z => z
def sp_l_store (K : PySem.W.Frag) (C : CA) : Sp := fun vs H Q _ => ∃ (a : Addr) (ns : List Int), vs = [.ref a] ∧ SqL K H a (ns.map V.int) ∧ ns.length ≤ 63 ∧ ∀ st H', Sm H H' → H st = none → StAt H' st → Q (.ref st) H'
def rd_l_store (K : PySem.W.Frag) (C : CA) (E : XK) : TS :=
  (tSeq (tAsg (tLc (iList K (tVar 0)) (gName 1) tYes (tCB fInt (tCons (tVar 1) tNil)) [1]) (gName 2)) (tSeq (tAsg (tC (.int 0)) (gName 3)) (tSeq (tFor (iList K (tVar 2)) (gName 1) (tAsg (tCallS (sp_l_mixed K C) (fun _ => E0) (tCons (tOp fAdd (tCB fInt (tCons (tVar 1) tNil)) (tVar 3)) (tCons (tCB fLen (tCons (tVar 2) tNil)) tNil))) (gName 3))) (tRet (tLst (tCons (tVar 2) (tCons (tC (.int 0)) (tCons (tC (.int 0)) (tCons (tC (.int 0)) (tCons (tVar 3) tNil))))))))))
theorem pure_l_store {K : PySem.W.Frag} {C : CA} (vs : List V) (H : Hp) (Q : VK) (E : XK) (h : sp_l_store K C vs H Q E) : rd_l_store K C E { nx := fun _ H' => Q .non H', rt := Q } (start [("script" : Str), ("cell" : Str), ("cells" : Str), ("seed" : Str)] vs) H := by
  obtain ⟨a, ns, rfl, hs, hn, q⟩ := h
  show rd_l_store K C E _ [some (.ref a), none, none, none] H
  unfold rd_l_store
  refine q_asg ?_
  walk_at "s"
  rw [u_list]
  walk_at "s"
  refine ⟨⟨_, hs⟩, fun Dd hD => ?_⟩
  refine made_mapS id (fun H' s => L2.Same.seq s hs) hD (by rw [List.length_map]; show _ < 2 ^ 24; omega) (fun _ => rfl) (fun i x H1 Q1 hx s1 q1 => ?_) fun H1 s1 hd => ?_
  · obtain ⟨n, hn, rfl⟩ := get_int hx
    walk_at "s"
    exact q1 H1 fun _ _ z => z
  · rw [List.map_id] at hd
    walk_at "s"
    refine q_asg ?_
    walk_at "s"
    refine q_for ?_
    rw [u_list]
    walk_at "s"
    refine ⟨⟨_, asL_seq (by rw [hd] <;> rfl)⟩, ?_⟩
    refine loop_list (xs := ns.map V.int) (fun i σ H2 => ∃ (v : Option V) (e : Int), σ = [some (.ref a), v, some (.ref Dd), some (.int e)] ∧ H2 = H1) ⟨_, _, rfl, rfl⟩ (fun i σ H2 _ ⟨_, _, _, e⟩ => by rw [e, hd] <;> rfl) ?_ ?_
    · rintro i x σ H2 hx ⟨v, e, rfl, rfl⟩
      obtain ⟨n, hn, rfl⟩ := get_int hx
      walk_at "s"
      refine q_asg1 ?_
      walk_at "s"
      rw [hd]
      walk_at "s"
      refine ⟨_, _, rfl, fun r _ _ => ?_⟩
      walk_at "s"
      exact ⟨r, rfl⟩
    · rintro σ H2 ⟨v, e, rfl, rfl⟩
      walk_at "s"
      refine ⟨by decide, fun st hst => ?_⟩
      have h0 : H st = none := by
        cases eo : H st with
        | none => rfl
        | some o => rw [s1 _ _ eo] at hst; cases hst
      refine q st _ (sm_new s1 hst) h0 ⟨Dd, ns, 0, 0, 0, e, upd_same, ?_, ne_of_none hd hst, by decide, by omega⟩
      rw [upd_ne (ne_of_none hd hst)]
      exact hd
theorem Kp.put' {st p : Addr} {H H1 : Hp} {o : HO} (a : Kp st H H1) (h : H p = none) (n : p ≠ st) : Kp st H (upd H1 p o) := ⟨fun x u m e => by
  rw [upd_ne (ne_of_none e h)]
  exact a.1 x u m e, fun c r e => by
  obtain ⟨r1, h1⟩ := a.2 c r e
  exact ⟨r1, by rw [upd_ne n.symm]; exact h1⟩⟩
theorem StAt.put' {H H1 : Hp} {st p : Addr} {o : HO} (s : StAt H st) (h : H p = none) (k : Kp st H H1) (s1 : StAt H1 st) : StAt (upd H1 p o) st := by
  have n := s.ne h
  obtain ⟨c, ns, a, b, d, e, h1, h2, _⟩ := s
  obtain ⟨c', ns', a', b', d', e', g1, g2, g3, g4, g5⟩ := s1
  obtain ⟨r1, e1⟩ := k.2 _ _ h1
  rw [g1] at e1
  cases e1
  exact ⟨c, ns', a', b', d', e', by rw [upd_ne n.symm]; exact g1, by rw [upd_ne (ne_of_none h2 h)]; exact g2, g3, g4, g5⟩
theorem asS_at {H : Hp} {p : Addr} {xs : List V} (h : H p = some (.lst xs)) : asS (H p) = some xs := by rw [h]; rfl
theorem asL_at {H : Hp} {p : Addr} {xs : List V} (h : H p = some (.lst xs)) : asL (H p) = some xs := by rw [h]; rfl
theorem pick_ok {K : PySem.W.Frag} {C : CA} {H : Hp} {Q : VK} {E : XK} {st p : Addr} {xs : List V} (hs : StAt H st) (hp : asS (H p) = some xs) (n : p ≠ st) (hl : xs.length < 2 ^ 60) (h0 : xs ≠ [])
    (q : ∀ (n : Nat) (v : V) (H' : Hp), xs[n]? = some v → Kp st H H' → StAt H' st → Q v H') : sp_l_pick K C [.ref st, .ref p] H Q E := ⟨_, _, _, rfl, hs, hp, n, hl, fun e => absurd e h0, q⟩
theorem cut_to {xs : List V} {i : Int} (h : 0 ≤ i) : cutV xs none (some i) = xs.take i.toNat := by
  obtain ⟨n, rfl⟩ : ∃ n : Nat, i = n := ⟨i.toNat, by omega⟩
  unfold cutV
  rw [HT.sIx_none, List.drop_zero, HT.sIx_nat, Nat.sub_zero, Int.toNat_natCast, ← List.take_eq_take_min]
theorem cut_from {xs : List V} {i : Int} (h : 0 ≤ i) : cutV xs (some i) none = xs.drop i.toNat := by
  obtain ⟨n, rfl⟩ : ∃ n : Nat, i = n := ⟨i.toNat, by omega⟩
  unfold cutV
  rw [HT.sIx_none, HT.sIx_nat, Int.toNat_natCast]
  by_cases c : n ≤ xs.length
  · rw [Nat.min_eq_left c, List.take_of_length_le (by rw [List.length_drop]; omega)]
  · rw [List.drop_eq_nil_of_le (by omega), List.drop_eq_nil_of_le (by omega), List.take_nil]
end XB

/-! Lists spoilt. -/
namespace XB
open PySem L2
local macro_rules | `(tactic| walk_at "s") => `(tactic| try simp only [u_var, u_c, u_op, u_un, u_nil, u_cons, u_cb, u_call, u_callS, u_tup, u_lst, u_test, u_B, u_and, u_or, u_not, u_andV, u_orV, u_notV, u_ifE, u_chain, u_sl, u_noPart, u_part, u_bm, u_bm0, u_rev, u_lc, u_try, u_sui, u_sui0, u_unb_rt, u_unb_nx, u_xf, u_WE, w_nil, w_cons, u_raise, u_rng1, u_rng2, u_next, u_ret, u_gname, u_gnil, u_gcons, u_gsub, u_gtup,
  f_add, f_addS, f_addR, f_sub, f_mul, f_mulR, f_mod, f_div, f_pow, f_neg, f_cmp, f_eq, f_eqB, f_eqS, f_ne, f_neB, f_neS, f_isN, f_notN, f_isB, f_ix, f_ixS, f_int, f_intB, f_len, f_lenS, f_max, f_min, f_abs, f_list, f_tuple, f_all, f_sum, f_isi, f_isiT, f_append, f_insert, f_pop, f_sl, f_set,
  kitS, tys, List.isEmpty_cons, Option.map_some, kt_NoneType_int, kt_NoneType_bool, kt_NoneType_str, kt_NoneType_list, kt_NoneType_tuple, kt_NoneType_dict, kt_int_int, kt_int_bool, kt_int_str, kt_int_list, kt_int_tuple, kt_int_dict, kt_bool_int, kt_bool_bool, kt_bool_str, kt_bool_list, kt_bool_tuple, kt_bool_dict, kt_str_int, kt_str_bool, kt_str_str, kt_str_list, kt_str_tuple, kt_str_dict, kt_list_int, kt_list_bool, kt_list_str, kt_list_list, kt_list_tuple, kt_list_dict, kt_tuple_int, kt_tuple_bool, kt_tuple_str, kt_tuple_list, kt_tuple_tuple, kt_tuple_dict, kt_dict_int, kt_dict_bool, kt_dict_str, kt_dict_list, kt_dict_tuple, kt_dict_dict, asL_lst, asL_frz, asL_tup, asT_tup, asS_lst, asS_frz, asS_tup, tyN_non, tyN_bl, tyN_int, tyN_str, atV_lit, ixN_lit, upd_same, upd_ne, upd_ne',
  List.getElem?_cons_zero, List.getElem?_cons_succ, List.set_cons_zero, List.set_cons_succ, List.append_nil, List.length_cons, List.length_nil, Option.some.injEq, exists_eq_left', exists_eq_left, exists_and_left, V.bl.injEq, V.int.injEq, V.str.injEq, V.ref.injEq, Bool.not_eq_true, Bool.not_true, Bool.not_false, decide_true, decide_false, decide_eq_true_eq, decide_eq_false_iff_not, Bool.false_eq_true, if_true, if_false, ite_true, ite_false, reduceCtorEq, true_and, and_true, Nat.reduceAdd, Nat.reduceLT, Nat.zero_add, ne_eq, not_false_eq_true, not_true_eq_false, List.cons.injEq, and_assoc])
local macro_rules | `(tactic| walk_at "S") => `(tactic| try simp only [u_var, u_c, u_op, u_un, u_nil, u_cons, u_cb, u_call, u_callS, u_tup, u_lst, u_test, u_B, u_and, u_or, u_not, u_andV, u_orV, u_notV, u_ifE, u_chain, u_sl, u_noPart, u_part, u_bm, u_bm0, u_rev, u_lc, u_try, u_sui, u_sui0, u_unb_rt, u_unb_nx, u_xf, u_WE, w_nil, w_cons, u_raise, u_rng1, u_rng2, u_next, u_ret, u_gname, u_gnil, u_gcons, u_gsub, u_gtup,
  f_add, f_addS, f_addR, f_sub, f_mul, f_mulR, f_mod, f_div, f_pow, f_neg, f_cmp, f_eq, f_eqB, f_eqS, f_ne, f_neB, f_neS, f_isN, f_notN, f_isB, f_ix, f_ixS, f_int, f_intB, f_len, f_lenS, f_max, f_min, f_abs, f_list, f_tuple, f_all, f_sum, f_isi, f_isiT, f_append, f_insert, f_pop, f_sl, f_set,
  kitS, tys, List.isEmpty_cons, Option.map_some, kt_NoneType_int, kt_NoneType_bool, kt_NoneType_str, kt_NoneType_list, kt_NoneType_tuple, kt_NoneType_dict, kt_int_int, kt_int_bool, kt_int_str, kt_int_list, kt_int_tuple, kt_int_dict, kt_bool_int, kt_bool_bool, kt_bool_str, kt_bool_list, kt_bool_tuple, kt_bool_dict, kt_str_int, kt_str_bool, kt_str_str, kt_str_list, kt_str_tuple, kt_str_dict, kt_list_int, kt_list_bool, kt_list_str, kt_list_list, kt_list_tuple, kt_list_dict, kt_tuple_int, kt_tuple_bool, kt_tuple_str, kt_tuple_list, kt_tuple_tuple, kt_tuple_dict, kt_dict_int, kt_dict_bool, kt_dict_str, kt_dict_list, kt_dict_tuple, kt_dict_dict, asL_lst, asL_frz, asL_tup, asT_tup, asS_lst, asS_frz, asS_tup, tyN_non, tyN_bl, tyN_int, tyN_str, atV_lit, ixN_lit, upd_same, upd_ne, upd_ne',
  List.getElem?_cons_zero, List.getElem?_cons_succ, List.set_cons_zero, List.set_cons_succ, List.append_nil, List.length_cons, List.length_nil, Option.some.injEq, exists_eq_left', exists_eq_left, exists_and_left, V.bl.injEq, V.int.injEq, V.str.injEq, V.ref.injEq, Bool.not_eq_true, Bool.not_true, Bool.not_false, decide_true, decide_false, decide_eq_true_eq, decide_eq_false_iff_not, Bool.false_eq_true, if_true, if_false, ite_true, ite_false, reduceCtorEq, true_and, and_true, Nat.reduceAdd, Nat.reduceLT, Nat.zero_add, ne_eq, not_false_eq_true, not_true_eq_false, List.cons.injEq, and_assoc, *])
/-- a plain value, or a tuple of such -/
def TF (H : Hp) (x : V) : Prop := flatV x = true ∨ ∃ q ys, x = .ref q ∧ asT (H q) = some ys ∧ ys.all flatV = true ∧ ys.length ≤ 1000
theorem TF.mono {H H' : Hp} {x : V} (s : Sm H H') (h : TF H x) : TF H' x := by
  rcases h with h | ⟨q, ys, e1, e2, e3⟩
  · exact .inl h
  · exact .inr ⟨q, ys, e1, sm_T s e2, e3⟩
def sp_spoil0 : Sp := fun vs H Q _ => ∃ v, vs = [v] ∧ flatV v = true ∧ ∀ H', Sm H H' → Q .non H'
def sp_spoil1 : Sp := fun vs H Q _ => ∃ v, vs = [v] ∧ TF H v ∧ ∀ H', Sm H H' → Q .non H'
def sp_spoilC : Sp := fun vs H Q _ => ∃ p xs, vs = [.ref p] ∧ H p = some (.lst xs) ∧ xs.length ≤ 1000 ∧ (∀ x ∈ xs, TF H x) ∧ ∀ H', (∀ b o, b ≠ p → H b = some o → H' b = some o) → Q .non H'
def sp_spoil2 : Sp := fun vs H Q E => sp_spoil1 vs H Q E ∨ sp_spoilC vs H Q E
def sp_spoilD : Sp := fun vs H Q _ => ∃ t p ys, vs = [.ref t] ∧ H t = some (.lst [.ref p]) ∧ p ≠ t ∧ H p = some (.lst ys) ∧ ys.length ≤ 1000 ∧ (∀ x ∈ ys, TF H x) ∧ ∀ H', (∀ b o, b ≠ t → b ≠ p → H b = some o → H' b = some o) → Q .non H'
def sp_spoilT : Sp := fun vs H Q _ => ∃ p xs, vs = [.ref p] ∧ H p = some (.tup xs) ∧ xs.length ≤ 1000 ∧ (∀ x ∈ xs, TF H x) ∧ ∀ H', Sm H H' → Q .non H'
def sp_l_spoil (K : PySem.W.Frag) (C : CA) : Sp := fun vs H Q E => sp_spoilC vs H Q E ∨ sp_spoilT vs H Q E
def rd_l_spoil (K : PySem.W.Frag) (C : CA) (spR : Sp) (E : XK) : TS :=
  (tSeq (tIfS (tB (tCB fIsi (tCons (tVar 0) (tCons (tC (.ty "dict")) tNil)))) tNever tNext) (tSeq (tIfS (tB (tCB fIsiT (tCons (tVar 0) (tCons (tTup (tCons (tC (.ty "list")) (tCons (tC (.ty "tuple")) tNil))) tNil)))) (tFor (iList K (tCB fList (tCons (tVar 0) tNil))) (gName 2) (tDrop (tCallS spR (fun _ => E0) (tCons (tVar 2) tNil)))) tNext) (tIfS (tB (tCB fIsi (tCons (tVar 0) (tCons (tC (.ty "list")) tNil)))) (tIfS (tTest (tOp fGt (tCB fLen (tCons (tVar 0) tNil)) (tC (.int 1)))) (tSeq (tDrop (tBM0F "list" fPop (tVar 0))) (tAsg (tC .non) (gSub (tVar 0) (tC (.int 0)) fSet))) (tDrop (tBMF "list" fAppend (tVar 0) (tCons (tC .non) tNil)))) tNext)))
abbrev spoilN : List Str := [("value" : Str), ("key" : Str), ("part" : Str)]
theorem pure_flat {K : PySem.W.Frag} {C : CA} {spR : Sp} (vs : List V) (H : Hp) (Q : VK) (E : XK) (h : sp_spoil0 vs H Q E) : rd_l_spoil K C spR E { nx := fun _ H' => Q .non H', rt := Q } (start spoilN vs) H := by
  obtain ⟨v, rfl, f, q⟩ := h
  show rd_l_spoil K C _ E _ [some v, none, none] H
  unfold rd_l_spoil
  refine q_if ?_
  cases v with
  | non =>
    walk_at "s"
    refine q_if ?_
    walk_at "s"
    refine ⟨by decide, fun tp ht => al ht fun H1 s1 h1 => ?_⟩
    try simp only [h1]
    walk_at "s"
    refine q_if1 ?_
    walk_at "s"
    exact q H1 s1
  | bl b =>
    walk_at "s"
    refine q_if ?_
    walk_at "s"
    refine ⟨by decide, fun tp ht => al ht fun H1 s1 h1 => ?_⟩
    try simp only [h1]
    walk_at "s"
    refine q_if1 ?_
    walk_at "s"
    exact q H1 s1
  | int i =>
    walk_at "s"
    refine q_if ?_
    walk_at "s"
    refine ⟨by decide, fun tp ht => al ht fun H1 s1 h1 => ?_⟩
    try simp only [h1]
    walk_at "s"
    refine q_if1 ?_
    walk_at "s"
    exact q H1 s1
  | str z =>
    walk_at "s"
    refine q_if ?_
    walk_at "s"
    refine ⟨by decide, fun tp ht => al ht fun H1 s1 h1 => ?_⟩
    try simp only [h1]
    walk_at "s"
    refine q_if1 ?_
    walk_at "s"
    exact q H1 s1
  | _ => cases f
theorem spoil_end {K : PySem.W.Frag} {H : Hp} {a : Addr} {xs : List V} {Q : VK} {σ1 σ2 : Option V} (h : H a = some (.lst xs)) (hl : xs.length ≤ 1000) (q : ∀ ys, (∀ f : V → Bool, f .non = true → xs.all f = true → ys.all f = true) → ys.length ≤ xs.length + 1 → (2 ≤ xs.length → ys.length ≤ xs.length) → (xs.length < 2 → ys.length ≤ 2) → Q .non (upd H a (.lst ys))) :
    tIfS (tB (tCB fIsi (tCons (tVar 0) (tCons (tC (.ty "list")) tNil)))) (tIfS (tTest (tOp fGt (tCB fLen (tCons (tVar 0) tNil)) (tC (.int 1)))) (tSeq (tDrop (tBM0F "list" fPop (tVar 0))) (tAsg (tC .non) (gSub (tVar 0) (tC (.int 0)) fSet)))
      (tDrop (tBMF "list" fAppend (tVar 0) (tCons (tC .non) tNil)))) tNext { nx := fun _ H' => Q .non H', rt := Q } [some (.ref a), σ1, σ2] H := by
  refine q_if1 ?_
  walk_at "s"
  simp only [tyN_lst h]
  walk_at "s"
  refine q_if1 ?_
  walk_at "s"
  simp only [h]
  walk_at "s"
  refine ite2 (fun c => ?_) fun c => ?_
  · have c2 : 1 < xs.length := by omega
    have el : xs[xs.length - 1]? = some (xs[xs.length - 1]'(by omega)) := by simp
    refine q_drop ?_
    walk_at "s"
    refine ⟨tyN_lst h, ?_⟩
    simp only [h, el]
    refine q_asg1 ?_
    walk_at "s"
    have c3 : 0 < xs.dropLast.length := by rw [List.length_dropLast]; omega
    simp only [c3, if_true, upd_upd]
    refine q _ (fun f f0 fa => ?_) ?_ ?_ ?_
    · rw [List.all_eq_true] at fa ⊢
      intro x hx
      rcases List.mem_or_eq_of_mem_set hx with hx | rfl
      · exact fa x (List.dropLast_subset _ hx)
      · exact f0
    · rw [List.length_set, List.length_dropLast]; omega
    · intro _; rw [List.length_set, List.length_dropLast]; omega
    · intro _; omega
  · refine q_drop1 ?_
    walk_at "s"
    refine ⟨tyN_lst h, ?_⟩
    simp only [h]
    refine ⟨by show _ < 2 ^ 24; omega, q _ (fun f f0 fa => ?_) ?_ ?_ ?_⟩
    · simp [fa, f0]
    · simp
    · intro _; omega
    · intro _; simp; omega
theorem pure_tf {K : PySem.W.Frag} {C : CA} {spR : Sp} (hR : ∀ v H Q E, flatV v = true → (∀ H', Sm H H' → Q .non H') → spR [v] H Q E) (vs : List V) (H : Hp) (Q : VK) (E : XK) (h : sp_spoil1 vs H Q E) :
    rd_l_spoil K C spR E { nx := fun _ H' => Q .non H', rt := Q } (start spoilN vs) H := by
  obtain ⟨v, rfl, h | ⟨a, xs, rfl, ha, fa, la⟩, q⟩ := h
  · exact pure_flat _ H Q E ⟨v, rfl, h, q⟩
  show rd_l_spoil K C _ E _ [some (.ref a), none, none] H
  unfold rd_l_spoil
  refine q_if ?_
  walk_at "s"
  simp only [tup_ty ha]
  walk_at "s"
  refine q_if ?_
  walk_at "s"
  refine ⟨by decide, fun tp ht => al ht fun H1 s1 h1 => ?_⟩
  have ha1 := sm_T s1 ha
  simp only [h1, tup_ty ha1]
  walk_at "s"
  refine q_for1 ?_
  rw [u_list]
  walk_at "s"
  simp only [asS_of_T ha1]
  walk_at "s"
  refine fun pl nl => al nl fun H2 s2 h2 => ⟨⟨xs, asL_seq (by rw [h2] <;> rfl)⟩, ?_⟩
  refine loop_list (xs := xs) (fun i σ H3 => ∃ v, σ = [some (.ref a), none, v] ∧ Sm H2 H3) ⟨_, rfl, fun _ _ z => z⟩ (fun i σ H3 _ ⟨_, _, s3⟩ => by rw [s3 _ _ h2] <;> rfl) ?_ ?_
  · rintro i x σ H3 hx ⟨v, rfl, s3⟩
    walk_at "s"
    refine q_drop1 ?_
    walk_at "s"
    refine hR x _ _ _ ?_ fun H4 s4 => ?_
    · rw [List.all_eq_true] at fa
      exact fa x (List.mem_of_getElem? hx)
    · walk_at "s"
      exact sm_trans s3 s4
  · rintro σ H3 ⟨v, rfl, s3⟩
    have s13 : Sm H H3 := sm_trans s1 (sm_trans s2 s3)
    dsimp only
    refine q_if1 ?_
    walk_at "s"
    simp only [tup_ty (sm_T s13 ha)]
    walk_at "s"
    exact q H3 s13
theorem pure_c {K : PySem.W.Frag} {C : CA} {spR : Sp} (hR : ∀ v H Q E, TF H v → (∀ H', Sm H H' → Q .non H') → spR [v] H Q E) (vs : List V) (H : Hp) (Q : VK) (E : XK) (h : sp_spoilC vs H Q E) :
    rd_l_spoil K C spR E { nx := fun _ H' => Q .non H', rt := Q } (start spoilN vs) H := by
  obtain ⟨a, xs, rfl, ha, la, fa, q⟩ := h
  show rd_l_spoil K C _ E _ [some (.ref a), none, none] H
  unfold rd_l_spoil
  refine q_if ?_
  walk_at "s"
  simp only [tyN_lst ha]
  walk_at "s"
  refine q_if ?_
  walk_at "s"
  refine ⟨by decide, fun tp ht => al ht fun H1 s1 h1 => ?_⟩
  have ha1 := s1 _ _ ha
  simp only [h1, tyN_lst ha1]
  walk_at "s"
  refine q_for1 ?_
  rw [u_list]
  walk_at "s"
  simp only [ha1]
  walk_at "s"
  refine fun pl nl => al nl fun H2 s2 h2 => ⟨⟨xs, asL_seq (by rw [h2] <;> rfl)⟩, ?_⟩
  refine loop_list (xs := xs) (fun i σ H3 => ∃ v, σ = [some (.ref a), none, v] ∧ Sm H2 H3) ⟨_, rfl, fun _ _ z => z⟩ (fun i σ H3 _ ⟨_, _, s3⟩ => by rw [s3 _ _ h2] <;> rfl) ?_ ?_
  · rintro i x σ H3 hx ⟨v, rfl, s3⟩
    walk_at "s"
    refine q_drop1 ?_
    walk_at "s"
    refine hR x _ _ _ ((fa x (List.mem_of_getElem? hx)).mono (sm_trans s1 (sm_trans s2 s3))) fun H4 s4 => ?_
    walk_at "s"
    exact sm_trans s3 s4
  · rintro σ H3 ⟨v, rfl, s3⟩
    have s13 : Sm H H3 := sm_trans s1 (sm_trans s2 s3)
    refine spoil_end (K := K) (s13 _ _ ha) la fun ys _ _ _ _ => q _ fun b o nb hb => ?_
    rw [upd_ne nb]
    exact s13 _ _ hb
theorem pure_d {K : PySem.W.Frag} {C : CA} {spR : Sp} (hR : ∀ vs H Q E, sp_spoilC vs H Q E → spR vs H Q E) (vs : List V) (H : Hp) (Q : VK) (E : XK) (h : sp_spoilD vs H Q E) :
    rd_l_spoil K C spR E { nx := fun _ H' => Q .non H', rt := Q } (start spoilN vs) H := by
  obtain ⟨a, p, ys, rfl, ha, np, hp, lp, fp, q⟩ := h
  show rd_l_spoil K C _ E _ [some (.ref a), none, none] H
  unfold rd_l_spoil
  refine q_if ?_
  walk_at "s"
  simp only [tyN_lst ha]
  walk_at "s"
  refine q_if ?_
  walk_at "s"
  refine ⟨by decide, fun tp ht => al ht fun H1 s1 h1 => ?_⟩
  have ha1 := s1 _ _ ha
  simp only [h1, tyN_lst ha1]
  walk_at "s"
  refine q_for1 ?_
  rw [u_list]
  walk_at "s"
  simp only [ha1]
  walk_at "s"
  refine fun pl nl => al nl fun H2 s2 h2 => ⟨⟨_, asL_seq (by rw [h2] <;> rfl)⟩, ?_⟩
  have hp2 := s2 _ _ (s1 _ _ hp)
  have npl : pl ≠ p := (ne_of_none (s1 _ _ hp) nl).symm
  refine loop_list (xs := [.ref p]) (fun i σ H3 => ∃ v, σ = [some (.ref a), none, v] ∧ (i = 0 → H3 = H2) ∧ ∀ b o, b ≠ p → H2 b = some o → H3 b = some o) ⟨_, rfl, fun _ => rfl, fun _ _ _ z => z⟩ (fun i σ H3 _ ⟨_, _, _, s3⟩ => by rw [s3 _ _ npl h2] <;> rfl) ?_ ?_
  · rintro i x σ H3 hx ⟨v, rfl, s0, s3⟩
    obtain rfl : i = 0 := by
      have := (List.getElem?_eq_some_iff.mp hx).1
      simp at this
      exact this
    cases hx
    have := s0 rfl
    subst this
    walk_at "s"
    refine q_drop1 ?_
    walk_at "s"
    refine hR _ _ _ _ ⟨p, ys, rfl, hp2, lp, fun x hx => (fp x hx).mono (sm_trans s1 s2), fun H4 s4 => ?_⟩
    walk_at "s"
    exact ⟨fun z => z.elim, s4⟩
  · rintro σ H3 ⟨v, rfl, _, s3⟩
    refine spoil_end (K := K) (s3 _ _ np.symm (s2 _ _ ha1)) (by show 1 ≤ 1000; decide) fun zs _ _ _ _ => q _ fun b o nb nbp hb => ?_
    rw [upd_ne nb]
    exact s3 _ _ nbp (s2 _ _ (s1 _ _ hb))
theorem pure_t {K : PySem.W.Frag} {C : CA} {spR : Sp} (hR : ∀ v H Q E, TF H v → (∀ H', Sm H H' → Q .non H') → spR [v] H Q E) (vs : List V) (H : Hp) (Q : VK) (E : XK) (h : sp_spoilT vs H Q E) :
    rd_l_spoil K C spR E { nx := fun _ H' => Q .non H', rt := Q } (start spoilN vs) H := by
  obtain ⟨a, xs, rfl, ha0, la, fa, q⟩ := h
  have ha : asT (H a) = some xs := by rw [ha0]; rfl
  show rd_l_spoil K C _ E _ [some (.ref a), none, none] H
  unfold rd_l_spoil
  refine q_if ?_
  walk_at "s"
  simp only [tup_ty ha]
  walk_at "s"
  refine q_if ?_
  walk_at "s"
  refine ⟨by decide, fun tp ht => al ht fun H1 s1 h1 => ?_⟩
  have ha1 := sm_T s1 ha
  simp only [h1, tup_ty ha1]
  walk_at "s"
  refine q_for1 ?_
  rw [u_list]
  walk_at "s"
  simp only [asS_of_T ha1]
  walk_at "s"
  refine fun pl nl => al nl fun H2 s2 h2 => ⟨⟨xs, asL_seq (by rw [h2] <;> rfl)⟩, ?_⟩
  refine loop_list (xs := xs) (fun i σ H3 => ∃ v, σ = [some (.ref a), none, v] ∧ Sm H2 H3) ⟨_, rfl, fun _ _ z => z⟩ (fun i σ H3 _ ⟨_, _, s3⟩ => by rw [s3 _ _ h2] <;> rfl) ?_ ?_
  · rintro i x σ H3 hx ⟨v, rfl, s3⟩
    walk_at "s"
    refine q_drop1 ?_
    walk_at "s"
    refine hR x _ _ _ ((fa x (List.mem_of_getElem? hx)).mono (sm_trans s1 (sm_trans s2 s3))) fun H4 s4 => ?_
    walk_at "s"
    exact sm_trans s3 s4
  · rintro σ H3 ⟨v, rfl, s3⟩
    have s13 : Sm H H3 := sm_trans s1 (sm_trans s2 s3)
    dsimp only
    refine q_if1 ?_
    walk_at "s"
    simp only [tup_ty (sm_T s13 ha)]
    walk_at "s"
    exact q H3 s13
end XB

/-! Texts drawn. -/
namespace XB
open PySem L2
local macro_rules | `(tactic| walk_at "s") => `(tactic| try simp only [u_var, u_c, u_op, u_un, u_nil, u_cons, u_cb, u_call, u_callS, u_tup, u_lst, u_test, u_B, u_and, u_or, u_not, u_andV, u_orV, u_notV, u_ifE, u_chain, u_sl, u_noPart, u_part, u_bm, u_bm0, u_rev, u_lc, u_try, u_sui, u_sui0, u_unb_rt, u_unb_nx, u_xf, u_WE, w_nil, w_cons, u_raise, u_rng1, u_rng2, u_next, u_ret, u_gname, u_gnil, u_gcons, u_gsub, u_gtup,
  f_add, f_addS, f_addR, f_sub, f_mul, f_mulR, f_mod, f_div, f_pow, f_neg, f_cmp, f_eq, f_eqB, f_eqS, f_ne, f_neB, f_neS, f_isN, f_notN, f_isB, f_ix, f_ixS, f_int, f_intB, f_len, f_lenS, f_max, f_min, f_abs, f_list, f_tuple, f_all, f_sum, f_isi, f_isiT, f_append, f_insert, f_pop, f_sl, f_set,
  kitS, tys, List.isEmpty_cons, Option.map_some, kt_NoneType_int, kt_NoneType_bool, kt_NoneType_str, kt_NoneType_list, kt_NoneType_tuple, kt_NoneType_dict, kt_int_int, kt_int_bool, kt_int_str, kt_int_list, kt_int_tuple, kt_int_dict, kt_bool_int, kt_bool_bool, kt_bool_str, kt_bool_list, kt_bool_tuple, kt_bool_dict, kt_str_int, kt_str_bool, kt_str_str, kt_str_list, kt_str_tuple, kt_str_dict, kt_list_int, kt_list_bool, kt_list_str, kt_list_list, kt_list_tuple, kt_list_dict, kt_tuple_int, kt_tuple_bool, kt_tuple_str, kt_tuple_list, kt_tuple_tuple, kt_tuple_dict, kt_dict_int, kt_dict_bool, kt_dict_str, kt_dict_list, kt_dict_tuple, kt_dict_dict, asL_lst, asL_frz, asL_tup, asT_tup, asS_lst, asS_frz, asS_tup, tyN_non, tyN_bl, tyN_int, tyN_str, atV_lit, ixN_lit, upd_same, upd_ne, upd_ne',
  List.getElem?_cons_zero, List.getElem?_cons_succ, List.set_cons_zero, List.set_cons_succ, List.append_nil, List.length_cons, List.length_nil, Option.some.injEq, exists_eq_left', exists_eq_left, exists_and_left, V.bl.injEq, V.int.injEq, V.str.injEq, V.ref.injEq, Bool.not_eq_true, Bool.not_true, Bool.not_false, decide_true, decide_false, decide_eq_true_eq, decide_eq_false_iff_not, Bool.false_eq_true, if_true, if_false, ite_true, ite_false, reduceCtorEq, true_and, and_true, Nat.reduceAdd, Nat.reduceLT, Nat.zero_add, ne_eq, not_false_eq_true, not_true_eq_false, List.cons.injEq, and_assoc])
local macro_rules | `(tactic| walk_at "S") => `(tactic| try simp only [u_var, u_c, u_op, u_un, u_nil, u_cons, u_cb, u_call, u_callS, u_tup, u_lst, u_test, u_B, u_and, u_or, u_not, u_andV, u_orV, u_notV, u_ifE, u_chain, u_sl, u_noPart, u_part, u_bm, u_bm0, u_rev, u_lc, u_try, u_sui, u_sui0, u_unb_rt, u_unb_nx, u_xf, u_WE, w_nil, w_cons, u_raise, u_rng1, u_rng2, u_next, u_ret, u_gname, u_gnil, u_gcons, u_gsub, u_gtup,
  f_add, f_addS, f_addR, f_sub, f_mul, f_mulR, f_mod, f_div, f_pow, f_neg, f_cmp, f_eq, f_eqB, f_eqS, f_ne, f_neB, f_neS, f_isN, f_notN, f_isB, f_ix, f_ixS, f_int, f_intB, f_len, f_lenS, f_max, f_min, f_abs, f_list, f_tuple, f_all, f_sum, f_isi, f_isiT, f_append, f_insert, f_pop, f_sl, f_set,
  kitS, tys, List.isEmpty_cons, Option.map_some, kt_NoneType_int, kt_NoneType_bool, kt_NoneType_str, kt_NoneType_list, kt_NoneType_tuple, kt_NoneType_dict, kt_int_int, kt_int_bool, kt_int_str, kt_int_list, kt_int_tuple, kt_int_dict, kt_bool_int, kt_bool_bool, kt_bool_str, kt_bool_list, kt_bool_tuple, kt_bool_dict, kt_str_int, kt_str_bool, kt_str_str, kt_str_list, kt_str_tuple, kt_str_dict, kt_list_int, kt_list_bool, kt_list_str, kt_list_list, kt_list_tuple, kt_list_dict, kt_tuple_int, kt_tuple_bool, kt_tuple_str, kt_tuple_list, kt_tuple_tuple, kt_tuple_dict, kt_dict_int, kt_dict_bool, kt_dict_str, kt_dict_list, kt_dict_tuple, kt_dict_dict, asL_lst, asL_frz, asL_tup, asT_tup, asS_lst, asS_frz, asS_tup, tyN_non, tyN_bl, tyN_int, tyN_str, atV_lit, ixN_lit, upd_same, upd_ne, upd_ne',
  List.getElem?_cons_zero, List.getElem?_cons_succ, List.set_cons_zero, List.set_cons_succ, List.append_nil, List.length_cons, List.length_nil, Option.some.injEq, exists_eq_left', exists_eq_left, exists_and_left, V.bl.injEq, V.int.injEq, V.str.injEq, V.ref.injEq, Bool.not_eq_true, Bool.not_true, Bool.not_false, decide_true, decide_false, decide_eq_true_eq, decide_eq_false_iff_not, Bool.false_eq_true, if_true, if_false, ite_true, ite_false, reduceCtorEq, true_and, and_true, Nat.reduceAdd, Nat.reduceLT, Nat.zero_add, ne_eq, not_false_eq_true, not_true_eq_false, List.cons.injEq, and_assoc, *])
def cl (z : Str) : List Nat := z.cps.toList
theorem cl_len {z : Str} : (cl z).length = z.length := Array.length_toList
theorem cl_add {a b : Str} : cl (a ++ b) = cl a ++ cl b := Array.toList_append
theorem cl_one {c : Nat} : cl (⟨#[c]⟩ : Str) = [c] := rfl
theorem cl_inj {a b : Str} (h : cl a = cl b) : a = b := by
  cases a with
  | mk x =>
    cases b with
    | mk y =>
      have : x = y := Array.ext' h
      rw [this]
def lettersS : Str := ("abcdefghijklmnopqrstuvwxyz" : Str)
def signsS : Str := ("abcdefghijklmnopqrstuvwxyz0123456789" : Str)
def nameS (z : Str) : Bool := decide (1 ≤ z.length) && decide (z.length ≤ 8) && (match z.cps.toList with
  | c :: _ => decide (c ∈ lettersS.cps.toList)
  | [] => false) && z.cps.toList.all fun c => decide (c ∈ signsS.cps.toList)
/-- a letter, then letters and digits -/
def WordOk (z : Str) : Prop := (∃ c t, cl z = c :: t ∧ c ∈ cl lettersS) ∧ ∀ c ∈ cl z, c ∈ cl signsS
theorem letter_sign {c : Nat} (h : c ∈ cl lettersS) : c ∈ cl signsS := by
  have e : ∀ c ∈ cl lettersS, c ∈ cl signsS := by decide +kernel
  exact e c h
theorem name_of {z : Str} (h : WordOk z) (l : z.length ≤ 8) : nameS z = true := by
  obtain ⟨⟨c, t, e, hc⟩, ha⟩ := h
  have l1 : 1 ≤ z.length := by rw [← cl_len, e]; simp
  unfold nameS
  have e' : z.cps.toList = c :: t := e
  have e3 : (z.cps.toList.all fun c => decide (c ∈ signsS.cps.toList)) = true := by
    rw [List.all_eq_true]
    exact fun d hd => decide_eq_true (ha d hd)
  rw [decide_eq_true l1, decide_eq_true l, e3, e']
  simp only [Bool.true_and, Bool.and_true]
  exact decide_eq_true hc
theorem txt_at {z : Str} {r : Int} {q : Nat → Prop} (h0 : 0 ≤ r) (h1 : r < (z.cps.size : Nat)) (k : ∀ c, (cl z)[r.toNat]? = some c → q c) : ∃ c, atI z.cps.toList r = some c ∧ q c := by
  obtain ⟨n, rfl⟩ : ∃ n : Nat, r = n := ⟨r.toNat, by omega⟩
  have hn : n < z.cps.toList.length := by rw [Array.length_toList]; omega
  have e : z.cps.toList[n]? = some z.cps.toList[n] := List.getElem?_eq_getElem hn
  exact ⟨z.cps.toList[n], atI_nat e, k _ e⟩
theorem str_len1 {c : Nat} : (⟨#[c]⟩ : Str).length = 1 := rfl
theorem str_len_add {a b : Str} : (a ++ b).length = a.length + b.length := by
  show (a.cps ++ b.cps).size = a.cps.size + b.cps.size
  exact Array.size_append
def sp_l_word (K : PySem.W.Frag) (C : CA) : Sp := fun vs H Q _ => ∃ (st : Addr) (n : Int), vs = [.ref st, .int n] ∧ StAt H st ∧ 1 ≤ n ∧ n ≤ 8 ∧ ∀ (z : Str) (H' : Hp), WordOk z → (z.length : Int) = n → Kp st H H' → StAt H' st → Q (.str z) H'
def rd_l_word (K : PySem.W.Frag) (C : CA) (E : XK) : TS :=
  (tSeq (tAsg (tC (.str ("abcdefghijklmnopqrstuvwxyz" : Str))) (gName 2)) (tSeq (tAsg (tOp fAdd (tVar 2) (tC (.str ("0123456789" : Str)))) (gName 3)) (tSeq (tAsg (tOp fIx (tVar 2) (tCallS (sp_l_take K C) (fun _ => E0) (tCons (tVar 0) (tCons (tC (.int 26)) tNil)))) (gName 4)) (tSeq (tFor (iRng1 (tCons (tCB fMin (tCons (tC (.int 7)) (tCons (tOp fSub (tVar 1) (tC (.int 1))) tNil))) tNil)) (gName 5) (tAsg (tOp fAdd (tVar 4) (tOp fIx (tVar 3) (tCallS (sp_l_take K C) (fun _ => E0) (tCons (tVar 0) (tCons (tC (.int 36)) tNil))))) (gName 4))) (tRet (tVar 4))))))
theorem pure_l_word {K : PySem.W.Frag} {C : CA} (vs : List V) (H : Hp) (Q : VK) (E : XK) (h : sp_l_word K C vs H Q E) : rd_l_word K C E { nx := fun _ H' => Q .non H', rt := Q } (start [("store" : Str), ("size" : Str), ("letters" : Str), ("signs" : Str), ("word" : Str), ("k" : Str)] vs) H := by
  obtain ⟨st, n, rfl, hs, hm, hn, q⟩ := h
  show rd_l_word K C E _ [some (.ref st), some (.int n), none, none, none, none] H
  unfold rd_l_word
  refine q_asg ?_
  walk_at "s"
  refine q_asg ?_
  walk_at "s"
  refine ⟨by decide +kernel, ?_⟩
  refine q_asg ?_
  walk_at "s"
  refine take_ok hs (by decide) fun r H1 r0 r1 k1 s1 => ?_
  walk_at "s"
  have e1 : (Str.ofString "abcdefghijklmnopqrstuvwxyz").cps.size = 26 := by decide +kernel
  have e2 : (Str.ofString "abcdefghijklmnopqrstuvwxyz" ++ Str.ofString "0123456789").cps.size = 36 := by decide +kernel
  have e3 : Str.ofString "abcdefghijklmnopqrstuvwxyz" ++ Str.ofString "0123456789" = signsS := by decide +kernel
  refine ⟨by decide +kernel, txt_at r0 (by omega) fun c hc => ?_⟩
  have hc1 : c ∈ cl lettersS := List.mem_of_getElem? hc
  rw [e3] at e2 ⊢
  generalize (Str.ofString "abcdefghijklmnopqrstuvwxyz") = lt at e1 ⊢
  refine q_for ?_
  walk_at "s"
  refine ⟨by omega, by omega, ?_⟩
  refine loop_range (fun i σ H2 => ∃ (z : Str) (v : Option V), σ = [some (.ref st), some (.int n), some (.str lt), some (.str signsS), some (.str z), v] ∧ WordOk z ∧ z.length = i + 1 ∧ Kp st H H2 ∧ StAt H2 st)
    ⟨_, _, rfl, ⟨⟨c, [], rfl, hc1⟩, fun d hd => by rw [cl_one, List.mem_singleton] at hd; rw [hd]; exact letter_sign hc1⟩, str_len1, k1, s1⟩ ?_ ?_
  · rintro i σ H2 hi ⟨z, v, rfl, wz, lz, k2, s2⟩
    walk_at "s"
    refine q_asg1 ?_
    walk_at "s"
    refine take_ok s2 (by decide) fun r H3 r0 r1 k3 s3 => ?_
    walk_at "s"
    refine ⟨by show signsS.cps.size ≤ 2 ^ 24; omega, txt_at r0 (by omega) fun d hd => ?_⟩
    have hd1 : d ∈ cl signsS := List.mem_of_getElem? hd
    refine ⟨by rw [str_len1]; show _ ≤ 2 ^ 24; omega, ?_⟩
    obtain ⟨⟨c, t, e, hc⟩, ha⟩ := wz
    refine ⟨⟨⟨c, t ++ [d], by rw [cl_add, e]; rfl, hc⟩, fun x hx => ?_⟩, by rw [str_len_add, str_len1]; omega, k2.trans k3, s3⟩
    rw [cl_add, List.mem_append, cl_one, List.mem_singleton] at hx
    rcases hx with hx | rfl
    · exact ha x hx
    · exact hd1
  · rintro σ H2 ⟨z, v, rfl, wz, lz, k2, s2⟩
    walk_at "s"
    exact q z H2 wz (by omega) k2 s2
theorem word_ok {K : PySem.W.Frag} {C : CA} {H : Hp} {Q : VK} {E : XK} {st : Addr} {n : Int} (hs : StAt H st) (h0 : 1 ≤ n) (h1 : n ≤ 8)
    (q : ∀ (z : Str) (H' : Hp), WordOk z → (z.length : Int) = n → Kp st H H' → StAt H' st → Q (.str z) H') : sp_l_word K C [.ref st, .int n] H Q E := ⟨_, _, rfl, hs, h0, h1, q⟩
theorem perm_move {α : Type} {ls ys xs : List α} {m : Nat} {x : α} (hx : ls[m]? = some x) (p : (ls ++ ys).Perm xs) : ((ls.take m ++ ls.drop (m + 1)) ++ (ys ++ [x])).Perm xs := by
  refine List.Perm.trans ?_ p
  have hm := (List.getElem?_eq_some_iff.mp hx).1
  have e : ls = ls.take m ++ x :: ls.drop (m + 1) := by
    have e1 := (List.getElem?_eq_some_iff.mp hx).2
    rw [← e1, List.getElem_cons_drop, List.take_append_drop]
  have p1 : (ls.take m ++ x :: ls.drop (m + 1)).Perm (x :: (ls.take m ++ ls.drop (m + 1))) := List.perm_middle
  have p2 : ((ls.take m ++ ls.drop (m + 1)) ++ (ys ++ [x])).Perm (x :: (ls.take m ++ ls.drop (m + 1)) ++ ys) := by
    have := List.perm_append_comm (l₁ := (ls.take m ++ ls.drop (m + 1)) ++ ys) (l₂ := [x])
    rw [List.append_assoc] at this
    simpa using this
  refine p2.trans ?_
  have p3 : (x :: (ls.take m ++ ls.drop (m + 1))).Perm ls := by
    refine List.Perm.trans p1.symm ?_
    rw [← e]
  exact p3.append_right ys
/-- drawn out of a list, in any order: a new list of its items -/
def sp_l_some (K : PySem.W.Frag) (C : CA) : Sp := fun vs H Q _ => ∃ (st p : Addr) (n : Int) (xs : List V), vs = [.ref st, .ref p, .int n] ∧ StAt H st ∧ asS (H p) = some xs ∧ p ≠ st ∧ xs.length ≤ 1000 ∧ -(2 ^ 60) ≤ n ∧
  ∀ (o : Addr) (ys : List V) (H' : Hp), H o = none → H' o = some (.lst ys) → ys.length = (min n (xs.length : Nat)).toNat → (∃ rest, (rest ++ ys).Perm xs) → Kp st H H' → StAt H' st → Q (.ref o) H'
def rd_l_some (K : PySem.W.Frag) (C : CA) (E : XK) : TS :=
  (tSeq (tAsg (tCB fList (tCons (tVar 1) tNil)) (gName 3)) (tSeq (tAsg (tLst tNil) (gName 4)) (tSeq (tFor (iRng1 (tCons (tCB fMin (tCons (tVar 2) (tCons (tCB fLen (tCons (tVar 1) tNil)) tNil))) tNil)) (gName 5) (tSeq (tAsg (tCallS (sp_l_take K C) (fun _ => E0) (tCons (tVar 0) (tCons (tCB fLen (tCons (tVar 3) tNil)) tNil))) (gName 6)) (tSeq (tDrop (tBMF "list" fAppend (tVar 4) (tCons (tOp fIx (tVar 3) (tVar 6)) tNil))) (tAsg (tOp fAdd (tSl fSl2 (tVar 3) tNoPart (tPart (tVar 6))) (tSl fSl2 (tVar 3) (tPart (tOp fAdd (tVar 6) (tC (.int 1)))) tNoPart)) (gName 3))))) (tRet (tVar 4)))))
theorem pure_l_some {K : PySem.W.Frag} {C : CA} (vs : List V) (H : Hp) (Q : VK) (E : XK) (h : sp_l_some K C vs H Q E) : rd_l_some K C E { nx := fun _ H' => Q .non H', rt := Q } (start [("store" : Str), ("row" : Str), ("many" : Str), ("left" : Str), ("found" : Str), ("k" : Str), ("at" : Str)] vs) H := by
  obtain ⟨st, p, n, xs, rfl, hs, hp, np, hl, hm, q⟩ := h
  show rd_l_some K C E _ [some (.ref st), some (.ref p), some (.int n), none, none, none, none] H
  unfold rd_l_some
  refine q_asg ?_
  walk_at "s"
  simp only [hp]
  refine fun o1 n1 => al n1 fun H1 t1 g1 => ?_
  refine q_asg ?_
  walk_at "s"
  refine ⟨by decide, fun o2 n2 => al n2 fun H2 t2 g2 => ?_⟩
  have s2 := hs.sm (sm_trans t1 t2)
  have n2' := sm_none t1 n2
  refine q_for ?_
  walk_at "s"
  simp only [sm_S t2 (sm_S t1 hp)]
  walk_at "s"
  refine ⟨by omega, by omega, ?_⟩
  refine loop_range (fun i σ H3 => ∃ (ol : Addr) (ls ys : List V) (v w : Option V), σ = [some (.ref st), some (.ref p), some (.int n), some (.ref ol), some (.ref o2), v, w] ∧ ol ≠ st ∧ ol ≠ o2 ∧ H3 ol = some (.lst ls) ∧ H3 o2 = some (.lst ys) ∧
    ls.length = xs.length - i ∧ ys.length = i ∧ (ls ++ ys).Perm xs ∧ Kp st H H3 ∧ StAt H3 st)
    ⟨o1, xs, [], _, _, rfl, hs.ne n1, ne_of_none g1 n2, t2 _ _ g1, g2, rfl, rfl, by rw [List.append_nil], kp_sm (sm_trans t1 t2), s2⟩ ?_ ?_
  · rintro i σ H3 hi ⟨ol, ls, ys, v, w, rfl, nl, nlo, gl, gy, ll, ly, pm, k3, s3⟩
    walk_at "s"
    refine q_asg ?_
    walk_at "s"
    simp only [asS_at gl]
    walk_at "s"
    refine take_ok s3 (by omega) fun r H4 r0 r1 k4 s4 => ?_
    have gl4 := k4.1 _ _ nl gl
    have gy4 := k4.1 _ _ (hs.ne n2') gy
    refine q_drop ?_
    walk_at "s"
    refine ⟨tyN_lst gy4, ?_⟩
    simp only [asS_at gl4]
    obtain ⟨m, rfl⟩ : ∃ m : Nat, r = m := ⟨r.toNat, by omega⟩
    have hm : m < ls.length := by omega
    refine at_nat (v := ls[m]) (by simp [hm]) ?_
    walk_at "s"
    simp only [gy4]
    refine ⟨by show _ < 2 ^ 24; omega, ?_⟩
    have k5 : Kp st H (upd H4 o2 (.lst (ys ++ [ls[m]]))) := (k3.trans k4).put' n2' (hs.ne n2')
    have s5 : StAt (upd H4 o2 (.lst (ys ++ [ls[m]]))) st := hs.put' n2' (k3.trans k4) s4
    have g5 : (upd H4 o2 (.lst (ys ++ [ls[m]]))) ol = some (.lst ls) := by rw [upd_ne nlo]; exact gl4
    have f5 : (upd H4 o2 (.lst (ys ++ [ls[m]]))) o2 = some (.lst (ys ++ [ls[m]])) := upd_same
    generalize upd H4 o2 (.lst (ys ++ [ls[m]])) = H5 at k5 s5 g5 f5 ⊢
    refine q_asg1 ?_
    walk_at "s"
    simp only [f_slR, f_sl, asL_at g5]
    refine fun pa na => al na fun H6 t6 g6 => ?_
    simp only [asL_at (t6 _ _ g5)]
    refine fun pb nb => al nb fun H7 t7 g7 => ?_
    rw [cut_to (by omega)] at g6
    rw [cut_from (by omega)] at g7
    have e1 : ((m : Nat) : Int).toNat = m := by omega
    have e2 : (((m : Nat) : Int) + 1).toNat = m + 1 := by omega
    rw [e1] at g6
    rw [e2] at g7
    simp only [f_addR, t7 _ _ g6, g7]
    refine ⟨by rw [List.length_take, List.length_drop]; show _ ≤ 2 ^ 24; omega, fun pc nc => ⟨pc, rfl, (s5.sm (sm_trans t6 t7)).ne nc, ?_, _, upd_same, ys ++ [ls[m]], ?_, ?_, ?_, ?_, (k5.trans (kp_sm (sm_trans t6 t7))).new nc, (s5.sm (sm_trans t6 t7)).new nc⟩⟩
    · exact (ne_of_none (t7 _ _ (t6 _ _ f5)) nc).symm
    · rw [upd_ne (ne_of_none (t7 _ _ (t6 _ _ f5)) nc)]
      exact t7 _ _ (t6 _ _ f5)
    · rw [List.length_append, List.length_take, List.length_drop]
      omega
    · rw [List.length_append, List.length_singleton, ly]
    · exact perm_move (by simp [hm]) pm
  · rintro σ H3 ⟨ol, ls, ys, v, w, rfl, nl, nlo, gl, gy, ll, ly, pm, k3, s3⟩
    walk_at "s"
    exact q o2 ys H3 n2' gy ly ⟨ls, pm⟩ k3 s3
theorem some_ok {K : PySem.W.Frag} {C : CA} {H : Hp} {Q : VK} {E : XK} {st p : Addr} {n : Int} {xs : List V} (hs : StAt H st) (hp : asS (H p) = some xs) (np : p ≠ st) (hl : xs.length ≤ 1000) (hn : -(2 ^ 60) ≤ n)
    (q : ∀ (o : Addr) (ys : List V) (H' : Hp), H o = none → H' o = some (.lst ys) → ys.length = (min n (xs.length : Nat)).toNat → (∃ rest, (rest ++ ys).Perm xs) → Kp st H H' → StAt H' st → Q (.ref o) H') : sp_l_some K C [.ref st, .ref p, .int n] H Q E := ⟨_, _, _, _, rfl, hs, hp, np, hl, hn, q⟩
def sp_l_turned (K : PySem.W.Frag) (C : CA) : Sp := fun vs H Q _ => ∃ (st p : Addr) (xs : List V), vs = [.ref st, .ref p] ∧ StAt H st ∧ asS (H p) = some xs ∧ p ≠ st ∧ xs.length ≤ 1000 ∧
  ∀ (o : Addr) (ys : List V) (H' : Hp), H o = none → H' o = some (.lst ys) → ys.Perm xs → Kp st H H' → StAt H' st → Q (.ref o) H'
def rd_l_turned (K : PySem.W.Frag) (C : CA) (E : XK) : TS :=
  (tRet (tCallS (sp_l_some K C) (fun _ => E0) (tCons (tVar 0) (tCons (tVar 1) (tCons (tCB fLen (tCons (tVar 1) tNil)) tNil)))))
theorem pure_l_turned {K : PySem.W.Frag} {C : CA} (vs : List V) (H : Hp) (Q : VK) (E : XK) (h : sp_l_turned K C vs H Q E) : rd_l_turned K C E { nx := fun _ H' => Q .non H', rt := Q } (start [("store" : Str), ("row" : Str)] vs) H := by
  obtain ⟨st, p, xs, rfl, hs, hp, np, hl, q⟩ := h
  show rd_l_turned K C E _ [some (.ref st), some (.ref p)] H
  unfold rd_l_turned
  refine q_ret ?_
  walk_at "s"
  simp only [hp]
  refine some_ok hs hp np hl (by omega) fun o ys H' no ho l m k s => q o ys H' no ho ?_ k s
  obtain ⟨rest, p⟩ := m
  have e := p.length_eq
  rw [List.length_append] at e
  have e0 : rest = [] := List.length_eq_zero_iff.1 (by omega)
  rw [e0] at p
  exact p
/-- names in a new list, all unlike -/
def Names (H : Hp) (o : Addr) (n : Nat) : Prop := ∃ zs : List Str, H o = some (.lst (zs.map V.str)) ∧ zs.length = n ∧ zs.Nodup ∧ ∀ z ∈ zs, nameS z = true
def unS : V → Str
  | .str z => z
  | _ => ⟨#[]⟩
theorem perm_strs {xs : List V} {zs : List Str} (h : xs.Perm (zs.map V.str)) : ∃ ws : List Str, xs = ws.map V.str ∧ ws.Perm zs := by
  have e : ∀ x ∈ xs, ∃ z : Str, x = V.str z := fun x hx => by
    obtain ⟨z, _, rfl⟩ := List.mem_map.1 (h.mem_iff.1 hx)
    exact ⟨z, rfl⟩
  have e2 : ∃ ws : List Str, xs = ws.map V.str := by
    clear h
    induction xs with
    | nil => exact ⟨[], rfl⟩
    | cons x xs ih =>
      obtain ⟨z, rfl⟩ := e x List.mem_cons_self
      obtain ⟨ws, rfl⟩ := ih fun y hy => e y (List.mem_cons_of_mem _ hy)
      exact ⟨z :: ws, rfl⟩
  obtain ⟨ws, rfl⟩ := e2
  refine ⟨ws, rfl, ?_⟩
  have this := h.map unS
  rw [List.map_map, List.map_map] at this
  have e : unS ∘ V.str = id := rfl
  rw [e, List.map_id, List.map_id] at this
  exact this
theorem sub_strs {xs : List V} {zs : List Str} (h : ∃ rest, (rest ++ xs).Perm (zs.map V.str)) : ∃ ws rs : List Str, xs = ws.map V.str ∧ (rs ++ ws).Perm zs := by
  obtain ⟨rest, p⟩ := h
  obtain ⟨us, e, p2⟩ := perm_strs p
  obtain ⟨rs, ws, rfl, rfl, rfl⟩ := List.append_eq_map_iff.1 e
  exact ⟨ws, rs, rfl, p2⟩
end XB

/-! Names drawn: all unlike. -/
namespace XB
open PySem L2
local macro_rules | `(tactic| walk_at "s") => `(tactic| try simp only [u_var, u_c, u_op, u_un, u_nil, u_cons, u_cb, u_call, u_callS, u_tup, u_lst, u_test, u_B, u_and, u_or, u_not, u_andV, u_orV, u_notV, u_ifE, u_chain, u_sl, u_noPart, u_part, u_bm, u_bm0, u_rev, u_lc, u_try, u_sui, u_sui0, u_unb_rt, u_unb_nx, u_xf, u_WE, w_nil, w_cons, u_raise, u_rng1, u_rng2, u_next, u_ret, u_gname, u_gnil, u_gcons, u_gsub, u_gtup,
  f_add, f_addS, f_addR, f_sub, f_mul, f_mulR, f_mod, f_div, f_pow, f_neg, f_cmp, f_eq, f_eqB, f_eqS, f_ne, f_neB, f_neS, f_isN, f_notN, f_isB, f_ix, f_ixS, f_int, f_intB, f_len, f_lenS, f_max, f_min, f_abs, f_list, f_tuple, f_all, f_sum, f_isi, f_isiT, f_append, f_insert, f_pop, f_sl, f_set,
  kitS, tys, List.isEmpty_cons, Option.map_some, kt_NoneType_int, kt_NoneType_bool, kt_NoneType_str, kt_NoneType_list, kt_NoneType_tuple, kt_NoneType_dict, kt_int_int, kt_int_bool, kt_int_str, kt_int_list, kt_int_tuple, kt_int_dict, kt_bool_int, kt_bool_bool, kt_bool_str, kt_bool_list, kt_bool_tuple, kt_bool_dict, kt_str_int, kt_str_bool, kt_str_str, kt_str_list, kt_str_tuple, kt_str_dict, kt_list_int, kt_list_bool, kt_list_str, kt_list_list, kt_list_tuple, kt_list_dict, kt_tuple_int, kt_tuple_bool, kt_tuple_str, kt_tuple_list, kt_tuple_tuple, kt_tuple_dict, kt_dict_int, kt_dict_bool, kt_dict_str, kt_dict_list, kt_dict_tuple, kt_dict_dict, asL_lst, asL_frz, asL_tup, asT_tup, asS_lst, asS_frz, asS_tup, tyN_non, tyN_bl, tyN_int, tyN_str, atV_lit, ixN_lit, upd_same, upd_ne, upd_ne',
  List.getElem?_cons_zero, List.getElem?_cons_succ, List.set_cons_zero, List.set_cons_succ, List.append_nil, List.length_cons, List.length_nil, Option.some.injEq, exists_eq_left', exists_eq_left, exists_and_left, V.bl.injEq, V.int.injEq, V.str.injEq, V.ref.injEq, Bool.not_eq_true, Bool.not_true, Bool.not_false, decide_true, decide_false, decide_eq_true_eq, decide_eq_false_iff_not, Bool.false_eq_true, if_true, if_false, ite_true, ite_false, reduceCtorEq, true_and, and_true, Nat.reduceAdd, Nat.reduceLT, Nat.zero_add, ne_eq, not_false_eq_true, not_true_eq_false, List.cons.injEq, and_assoc])
local macro_rules | `(tactic| walk_at "S") => `(tactic| try simp only [u_var, u_c, u_op, u_un, u_nil, u_cons, u_cb, u_call, u_callS, u_tup, u_lst, u_test, u_B, u_and, u_or, u_not, u_andV, u_orV, u_notV, u_ifE, u_chain, u_sl, u_noPart, u_part, u_bm, u_bm0, u_rev, u_lc, u_try, u_sui, u_sui0, u_unb_rt, u_unb_nx, u_xf, u_WE, w_nil, w_cons, u_raise, u_rng1, u_rng2, u_next, u_ret, u_gname, u_gnil, u_gcons, u_gsub, u_gtup,
  f_add, f_addS, f_addR, f_sub, f_mul, f_mulR, f_mod, f_div, f_pow, f_neg, f_cmp, f_eq, f_eqB, f_eqS, f_ne, f_neB, f_neS, f_isN, f_notN, f_isB, f_ix, f_ixS, f_int, f_intB, f_len, f_lenS, f_max, f_min, f_abs, f_list, f_tuple, f_all, f_sum, f_isi, f_isiT, f_append, f_insert, f_pop, f_sl, f_set,
  kitS, tys, List.isEmpty_cons, Option.map_some, kt_NoneType_int, kt_NoneType_bool, kt_NoneType_str, kt_NoneType_list, kt_NoneType_tuple, kt_NoneType_dict, kt_int_int, kt_int_bool, kt_int_str, kt_int_list, kt_int_tuple, kt_int_dict, kt_bool_int, kt_bool_bool, kt_bool_str, kt_bool_list, kt_bool_tuple, kt_bool_dict, kt_str_int, kt_str_bool, kt_str_str, kt_str_list, kt_str_tuple, kt_str_dict, kt_list_int, kt_list_bool, kt_list_str, kt_list_list, kt_list_tuple, kt_list_dict, kt_tuple_int, kt_tuple_bool, kt_tuple_str, kt_tuple_list, kt_tuple_tuple, kt_tuple_dict, kt_dict_int, kt_dict_bool, kt_dict_str, kt_dict_list, kt_dict_tuple, kt_dict_dict, asL_lst, asL_frz, asL_tup, asT_tup, asS_lst, asS_frz, asS_tup, tyN_non, tyN_bl, tyN_int, tyN_str, atV_lit, ixN_lit, upd_same, upd_ne, upd_ne',
  List.getElem?_cons_zero, List.getElem?_cons_succ, List.set_cons_zero, List.set_cons_succ, List.append_nil, List.length_cons, List.length_nil, Option.some.injEq, exists_eq_left', exists_eq_left, exists_and_left, V.bl.injEq, V.int.injEq, V.str.injEq, V.ref.injEq, Bool.not_eq_true, Bool.not_true, Bool.not_false, decide_true, decide_false, decide_eq_true_eq, decide_eq_false_iff_not, Bool.false_eq_true, if_true, if_false, ite_true, ite_false, reduceCtorEq, true_and, and_true, Nat.reduceAdd, Nat.reduceLT, Nat.zero_add, ne_eq, not_false_eq_true, not_true_eq_false, List.cons.injEq, and_assoc, *])
theorem slice_a {z : Str} {i : Int} (h : 0 ≤ i) : Txt.slice z none (some i) = ⟨(z.cps.toList.take i.toNat).toArray⟩ := SX.slice_to (a := z.cps.toList) h
theorem slice_b {z : Str} {i : Int} (h : 0 ≤ i) : Txt.slice z (some i) none = ⟨(z.cps.toList.drop i.toNat).toArray⟩ := SX.slice_from (a := z.cps.toList) h
theorem cl_take {z : Str} {i : Int} (h : 0 ≤ i) : cl (Txt.slice z none (some i)) = (cl z).take i.toNat := by rw [slice_a h]; rfl
theorem cl_drop {z : Str} {i : Int} (h : 0 ≤ i) : cl (Txt.slice z (some i) none) = (cl z).drop i.toNat := by rw [slice_b h]; rfl
theorem kp_none' {st p : Addr} {H H1 : Hp} (hs : StAt H st) (k : Kp st H H1) (h : H1 p = none) (s1 : StAt H1 st) : H p = none := by
  cases e : H p with
  | none => rfl
  | some o =>
    rw [k.1 p o (s1.ne h) e] at h
    cases h
theorem get_str {zs : List Str} {i : Nat} {x : V} (h : (zs.map V.str)[i]? = some x) : ∃ z, zs[i]? = some z ∧ x = V.str z := by
  rw [List.getElem?_map] at h
  cases e : zs[i]? with
  | none => rw [e] at h; cases h
  | some z => rw [e] at h; exact ⟨z, rfl, (Option.some.inj h).symm⟩
theorem word_take {z : Str} {i : Nat} (h : WordOk z) : WordOk (Txt.slice z none (some ((i : Nat) + 1))) := by
  obtain ⟨⟨c, t, e, hc⟩, ha⟩ := h
  have e2 : (((i : Nat) : Int) + 1).toNat = i + 1 := by omega
  refine ⟨⟨c, t.take i, by rw [cl_take (by omega), e2, e]; rfl, hc⟩, fun d hd => ?_⟩
  rw [cl_take (by omega)] at hd
  exact ha d (List.mem_of_mem_take hd)
def tenS : List Str := ["0", "1", "2", "9", "10", "11", "19", "20", "90", "99", "100", "101"]
def wordsS : List Str := ["and", "not", "at", "with", "over", "if", "end", "else", "each", "while", "until", "bring", "exchange", "towns", "way", "plan"]
theorem words_ok : wordsS.Nodup ∧ ∀ z ∈ wordsS, nameS z = true := by decide +kernel
theorem ten_ok : tenS.Nodup ∧ ∀ z ∈ tenS, z.length ≤ 3 ∧ ∀ c ∈ cl z, c ∈ cl signsS := by decide +kernel
theorem letters_nodup : (cl lettersS).Nodup ∧ (cl signsS).Nodup := by decide +kernel
theorem nodup_take_drop {α : Type} {l : List α} {m : Nat} {x : α} (h : l.Nodup) (hx : l[m]? = some x) : (l.take m ++ l.drop (m + 1)).Nodup ∧ x ∉ l.take m ++ l.drop (m + 1) ∧ ∀ y ∈ l.take m ++ l.drop (m + 1), y ∈ l := by
  have hm := (List.getElem?_eq_some_iff.mp hx).1
  have e : l = l.take m ++ x :: l.drop (m + 1) := by
    have e1 := (List.getElem?_eq_some_iff.mp hx).2
    rw [← e1, List.getElem_cons_drop, List.take_append_drop]
  have p : l.Perm (x :: (l.take m ++ l.drop (m + 1))) := by
    have := List.perm_middle (a := x) (l₁ := l.take m) (l₂ := l.drop (m + 1))
    rw [← e] at this
    exact this
  have hn := (p.nodup_iff).1 h
  rw [List.nodup_cons] at hn
  exact ⟨hn.2, hn.1, fun y hy => p.mem_iff.2 (List.mem_cons_of_mem _ hy)⟩
/-- the names told so far, and what is left of the letters -/
def Made1 (hd lt : Str) (zs : List Str) : Prop := zs.Nodup ∧ ∀ z ∈ zs, nameS z = true ∧ ∃ ch tl, cl z = cl hd ++ ch :: tl ∧ ch ∉ cl lt
def LtOk (hd lt : Str) : Prop := (cl lt).Nodup ∧ ((cl hd = [] ∧ ∀ c ∈ cl lt, c ∈ cl lettersS) ∨ (WordOk hd ∧ hd.length ≤ 7 ∧ ∀ c ∈ cl lt, c ∈ cl signsS))
theorem made1_step {hd lt tl : Str} {zs : List Str} {m : Nat} {ch : Nat} (h : Made1 hd lt zs) (l : LtOk hd lt) (hc : (cl lt)[m]? = some ch) (ht : ∀ c ∈ cl tl, c ∈ cl signsS) (hl : hd.length + 1 + tl.length ≤ 8) :
    let lt2 : Str := Txt.slice lt none (some (m : Int)) ++ Txt.slice lt (some ((m : Int) + 1)) none
    Made1 hd lt2 (zs ++ [hd ++ (⟨#[ch]⟩ : Str) ++ tl]) ∧ LtOk hd lt2 ∧ lt2.length + 1 = lt.length := by
  intro lt2
  obtain ⟨n1, n2, n3⟩ := nodup_take_drop l.1 hc
  have e2 : cl lt2 = (cl lt).take m ++ (cl lt).drop (m + 1) := by
    show cl (_ ++ _) = _
    rw [cl_add, cl_take (by omega), cl_drop (by omega)]
    have e1 : ((m : Nat) : Int).toNat = m := by omega
    have e3 : (((m : Nat) : Int) + 1).toNat = m + 1 := by omega
    rw [e1, e3]
  have hm := (List.getElem?_eq_some_iff.mp hc).1
  have ec : cl (hd ++ (⟨#[ch]⟩ : Str) ++ tl) = cl hd ++ ch :: cl tl := by rw [cl_add, cl_add, cl_one, List.append_assoc]; rfl
  have hch : ch ∈ cl lt := List.mem_of_getElem? hc
  have hn : nameS (hd ++ (⟨#[ch]⟩ : Str) ++ tl) = true := by
    refine name_of ⟨?_, fun c hcc => ?_⟩ (by rw [str_len_add, str_len_add, str_len1]; exact hl)
    · rcases l.2 with ⟨h1, h2⟩ | ⟨⟨⟨c, t, e, hc1⟩, _⟩, _, _⟩
      · exact ⟨ch, cl tl, by rw [ec, h1]; rfl, h2 ch hch⟩
      · exact ⟨c, t ++ ch :: cl tl, by rw [ec, e]; rfl, hc1⟩
    · rw [ec, List.mem_append, List.mem_cons] at hcc
      rcases hcc with hcc | rfl | hcc
      · rcases l.2 with ⟨h1, _⟩ | ⟨⟨_, ha⟩, _, _⟩
        · rw [h1] at hcc; cases hcc
        · exact ha c hcc
      · rcases l.2 with ⟨_, h2⟩ | ⟨_, _, h2⟩
        · exact letter_sign (h2 _ hch)
        · exact h2 _ hch
      · exact ht c hcc
  refine ⟨⟨?_, fun z hz => ?_⟩, ⟨?_, ?_⟩, ?_⟩
  · rw [List.nodup_append]
    refine ⟨h.1, by simp, fun a ha b hb => ?_⟩
    rw [List.mem_singleton] at hb
    intro e
    obtain ⟨_, c2, t2, e3, nc⟩ := h.2 a ha
    rw [e, hb, ec] at e3
    have e4 := List.append_cancel_left e3
    injection e4 with e4 _
    rw [← e4] at nc
    exact nc hch
  · rcases List.mem_append.1 hz with hz | hz
    · obtain ⟨h1, c2, t2, e3, nc⟩ := h.2 z hz
      refine ⟨h1, c2, t2, e3, fun y => nc ?_⟩
      rw [e2] at y
      exact n3 _ y
    · rw [List.mem_singleton] at hz
      rw [hz]
      exact ⟨hn, ch, cl tl, ec, by rw [e2]; exact n2⟩
  · rw [e2]; exact n1
  · rcases l.2 with ⟨h1, h2⟩ | ⟨h1, h2, h3⟩
    · exact .inl ⟨h1, fun c hc => h2 c (n3 c (by rw [← e2]; exact hc))⟩
    · exact .inr ⟨h1, h2, fun c hc => h3 c (n3 c (by rw [← e2]; exact hc))⟩
  · rw [← cl_len, e2, List.length_append, List.length_take, List.length_drop, ← cl_len (z := lt)]
    omega
/-- names, all unlike, in a new list -/
def sp_l_names (K : PySem.W.Frag) (C : CA) : Sp := fun vs H Q _ => ∃ (st : Addr) (n : Nat), vs = [.ref st, .int n] ∧ StAt H st ∧ n ≤ 12 ∧
  ∀ (o : Addr) (H' : Hp), H o = none → Names H' o n → Kp st H H' → StAt H' st → Q (.ref o) H'
def rd_l_names (K : PySem.W.Frag) (C : CA) (E : XK) : TS :=
  (tSeq (tAsg (tC (.str ("abcdefghijklmnopqrstuvwxyz" : Str))) (gName 2)) (tSeq (tAsg (tCallS (sp_l_take K C) (fun _ => E0) (tCons (tVar 0) (tCons (tC (.int 8)) tNil))) (gName 3)) (Evl.tCut (tIfS (tAnd (tTest (tOp (fEq K) (tVar 3) (tC (.int 0)))) (tTest (tOp fLe (tVar 1) (tC (.int 8))))) (tSeq (tAsg (tCallS (sp_l_word K C) (fun _ => E0) (tCons (tVar 0) (tCons (tC (.int 8)) tNil))) (gName 4)) (tRet (tCallS (sp_l_turned K C) (fun _ => E0) (tCons (tVar 0) (tCons (tLc (iRng1 (tCons (tVar 1) tNil)) (gName 5) tYes (tSl fSl2 (tVar 4) tNoPart (tPart (tOp fAdd (tVar 5) (tC (.int 1))))) [5]) tNil))))) tNext) (tSeq (tIfS (tTest (tOp (fEq K) (tVar 3) (tC (.int 1)))) (tSeq (tAsg (tLst (tCons (tC (.str ("and" : Str))) (tCons (tC (.str ("not" : Str))) (tCons (tC (.str ("at" : Str))) (tCons (tC (.str ("with" : Str))) (tCons (tC (.str ("over" : Str))) (tCons (tC (.str ("if" : Str))) (tCons (tC (.str ("end" : Str))) (tCons (tC (.str ("else" : Str))) (tCons (tC (.str ("each" : Str))) (tCons (tC (.str ("while" : Str))) (tCons (tC (.str ("until" : Str))) (tCons (tC (.str ("bring" : Str))) tNil))))))))))))) (gName 6)) (tRet (tCallS (sp_l_some K C) (fun _ => E0) (tCons (tVar 0) (tCons (tOp fAdd (tVar 6) (tLst (tCons (tC (.str ("exchange" : Str))) (tCons (tC (.str ("towns" : Str))) (tCons (tC (.str ("way" : Str))) (tCons (tC (.str ("plan" : Str))) tNil)))))) (tCons (tVar 1) tNil)))))) tNext) (tSeq (tIfS (tTest (tOp (fEq K) (tVar 3) (tC (.int 2)))) (tSeq (tAsg (tLst (tCons (tC (.str ("0" : Str))) (tCons (tC (.str ("1" : Str))) (tCons (tC (.str ("2" : Str))) (tCons (tC (.str ("9" : Str))) (tCons (tC (.str ("10" : Str))) (tCons (tC (.str ("11" : Str))) (tCons (tC (.str ("19" : Str))) (tCons (tC (.str ("20" : Str))) (tCons (tC (.str ("90" : Str))) (tCons (tC (.str ("99" : Str))) (tCons (tC (.str ("100" : Str))) (tCons (tC (.str ("101" : Str))) tNil))))))))))))) (gName 6)) (tSeq (tAsg (tOp fIx (tVar 2) (tCallS (sp_l_take K C) (fun _ => E0) (tCons (tVar 0) (tCons (tC (.int 26)) tNil)))) (gName 7)) (tRet (tLc (iList K (tCallS (sp_l_some K C) (fun _ => E0) (tCons (tVar 0) (tCons (tVar 6) (tCons (tVar 1) tNil))))) (gName 4) tYes (tOp fAdd (tVar 7) (tVar 4)) [4])))) tNext) (tSeq (tAsg (tC (.str ("" : Str))) (gName 8)) (Evl.tCut (tIfS (tTest (tOp fGt (tVar 3) (tC (.int 4)))) (tSeq (tAsg (tCallS (sp_l_word K C) (fun _ => E0) (tCons (tVar 0) (tCons (tOp fAdd (tC (.int 1)) (tCallS (sp_l_take K C) (fun _ => E0) (tCons (tVar 0) (tCons (tC (.int 7)) tNil)))) tNil))) (gName 8)) (tAsg (tOp fAdd (tVar 2) (tC (.str ("0123456789" : Str)))) (gName 2))) tNext) (tSeq (tAsg (tLst tNil) (gName 9)) (tSeq (tFor (iRng1 (tCons (tVar 1) tNil)) (gName 5) (tSeq (tAsg (tCallS (sp_l_take K C) (fun _ => E0) (tCons (tVar 0) (tCons (tCB fLen (tCons (tVar 2) tNil)) tNil))) (gName 10)) (tSeq (tAsg (tC (.str ("" : Str))) (gName 11)) (Evl.tCut (tIfS (tTest (tOp fGt (tVar 3) (tC (.int 5)))) (tAsg (tSl fSl2 (tCallS (sp_l_word K C) (fun _ => E0) (tCons (tVar 0) (tCons (tC (.int 8)) tNil))) tNoPart (tPart (tCallS (sp_l_take K C) (fun _ => E0) (tCons (tVar 0) (tCons (tOp fSub (tC (.int 8)) (tCB fLen (tCons (tVar 8) tNil))) tNil))))) (gName 11)) tNext) (tSeq (tDrop (tBMF "list" fAppend (tVar 9) (tCons (tOp fAdd (tOp fAdd (tVar 8) (tOp fIx (tVar 2) (tVar 10))) (tVar 11)) tNil))) (tAsg (tOp fAdd (tSl fSl2 (tVar 2) tNoPart (tPart (tVar 10))) (tSl fSl2 (tVar 2) (tPart (tOp fAdd (tVar 10) (tC (.int 1)))) tNoPart)) (gName 2))))))) (tRet (tVar 9)))))))))))
theorem pure_l_names {K : PySem.W.Frag} {C : CA} (vs : List V) (H : Hp) (Q : VK) (E : XK) (h : sp_l_names K C vs H Q E) : rd_l_names K C E { nx := fun _ H' => Q .non H', rt := Q } (start [("store" : Str), ("many" : Str), ("letters" : Str), ("form" : Str), ("word" : Str), ("k" : Str), ("row" : Str), ("stem" : Str), ("head" : Str), ("found" : Str), ("at" : Str), ("tail" : Str)] vs) H := by
  obtain ⟨st, n, rfl, hs, n12, q⟩ := h
  show rd_l_names K C E _ [some (.ref st), some (.int n), none, none, none, none, none, none, none, none, none, none] H
  unfold rd_l_names
  refine q_asg ?_
  walk_at "s"
  refine q_asg ?_
  walk_at "s"
  refine take_ok hs (by decide) fun form H1 f0 f1 k1 s1 => ?_
  have e26 : (Str.ofString "abcdefghijklmnopqrstuvwxyz").cps.size = 26 := by decide +kernel
  have eL : Str.ofString "abcdefghijklmnopqrstuvwxyz" = lettersS := rfl
  rw [eL] at e26 ⊢
  refine ⟨fun σ H' => σ = [some (.ref st), some (.int n), some (.str lettersS), some (.int form), none, none, none, none, none, none, none, none] ∧ H1 = H', q_if1 ?_, ?_⟩
  · walk_at "s"
    refine ite2 (fun c1 => ?_) fun c1 => by trivial
    refine ite2 (fun c8 => ?_) fun c8 => by trivial
    refine q_asg ?_
    walk_at "s"
    refine word_ok s1 (by decide) (by decide) fun wd H2 ww lw k2 s2 => ?_
    walk_at "s"
    refine ⟨by omega, by omega, fun Dd hD => ?_⟩
    have en : ((n : Nat) : Int).toNat = n := by omega
    rw [en]
    have lw8 : wd.length = 8 := by omega
    refine made_mapR (fun k => .str (Txt.slice wd none (some ((k : Nat) + 1)))) hD (by show _ < 2 ^ 24; omega) (fun _ => rfl) (fun i H3 Q1 hi t3 q1 => ?_) fun H3 t3 g3 => ?_
    · have e0 : (0 : Int) + (i : Nat) = (i : Nat) := Int.zero_add _
      walk_at "s"
      simp only [f_slS, e0]
      exact ⟨by show _ ≤ 2 ^ 24; omega, q1 H3 fun _ _ z => z⟩
    · refine ⟨st, Dd, _, rfl, s2.sm t3, asS_at g3, s2.ne hD, by rw [List.length_map, List.length_range]; omega, fun o ys H4 no ho pm k4 s4 => ?_⟩
      have kk := k1.trans (k2.trans ((kp_sm t3).trans k4))
      have em : (List.range n).map (fun k => V.str (Txt.slice wd none (some ((k : Nat) + 1)))) = ((List.range n).map fun k => Txt.slice wd none (some (((k : Nat) : Int) + 1))).map V.str := by rw [List.map_map]; rfl
      rw [em] at pm
      obtain ⟨zs, rfl, p2⟩ := perm_strs pm
      have lens : ∀ k, k < n → (Txt.slice wd none (some (((k : Nat) : Int) + 1))).length = k + 1 := fun k hk => by
        rw [← cl_len, cl_take (by omega), List.length_take, cl_len, lw8]
        omega
      refine q o H4 (kp_none' hs (k1.trans (k2.trans (kp_sm t3))) no (s2.sm t3)) ⟨zs, ho, by rw [p2.length_eq, List.length_map, List.length_range], (p2.nodup_iff).2 ?_, fun z hz => ?_⟩ kk s4
      · refine List.pairwise_map.2 (List.Pairwise.imp_of_mem (fun {a b} ha hb hab e => hab ?_) List.nodup_range)
        rw [List.mem_range] at ha hb
        have e1 := congrArg Str.length e
        rw [lens a ha, lens b hb] at e1
        omega
      · obtain ⟨k, hk, rfl⟩ := List.mem_map.1 (p2.mem_iff.1 hz)
        rw [List.mem_range] at hk
        exact name_of (word_take ww) (by rw [lens k hk]; omega)
  rintro σ H' ⟨rfl, rfl⟩
  refine q_if ?_
  walk_at "s"
  refine ite2 (fun c2 => ?_) fun c2 => ?_
  · refine q_asg ?_
    walk_at "s"
    refine ⟨by show 12 ≤ 2 ^ 24; decide, fun oa na => al na fun H2 t2 g2 => ?_⟩
    refine ⟨by show 4 ≤ 2 ^ 24; decide, fun ob nb => al nb fun H3 t3 g3 => ?_⟩
    simp only [t3 _ _ g2, g3]
    refine ⟨by show 12 + 4 ≤ 2 ^ 24; decide, fun oc nc => al nc fun H4 t4 g4 => ?_⟩
    have t14 := sm_trans t2 (sm_trans t3 t4)
    have g4' : H4 oc = some (.lst (wordsS.map V.str)) := g4
    refine some_ok (s1.sm t14) (asS_at g4') ((s1.sm (sm_trans t2 t3)).ne nc) (by show 16 ≤ 1000; decide) (by omega) fun o ys H5 no ho lo mo k5 s5 => ?_
    have kk := k1.trans ((kp_sm t14).trans k5)
    obtain ⟨zs, rs, rfl, pm⟩ := sub_strs mo
    rw [List.length_map, List.length_map] at lo
    have nn := (pm.nodup_iff).2 words_ok.1
    rw [List.nodup_append] at nn
    exact q o H5 (kp_none' hs (k1.trans (kp_sm t14)) no (s1.sm t14)) ⟨zs, ho, by rw [lo]; show (min (n : Int) 16).toNat = n; omega, nn.2.1, fun z hz => words_ok.2 z (pm.mem_iff.1 (List.mem_append_right _ hz))⟩ kk s5
  refine q_if ?_
  walk_at "s"
  refine ite2 (fun c3 => ?_) fun c3 => ?_
  · refine q_asg ?_
    walk_at "s"
    refine ⟨by show 12 ≤ 2 ^ 24; decide, fun oa na => al na fun H2 t2 g2 => ?_⟩
    refine q_asg ?_
    walk_at "s"
    refine take_ok (s1.sm t2) (by decide) fun r H3 r0 r1 k3 s3 => ?_
    walk_at "s"
    refine ⟨by show lettersS.cps.size ≤ 2 ^ 24; omega, txt_at r0 (by omega) fun ch hch => ?_⟩
    have hch := List.mem_of_getElem? hch
    rw [u_list]
    walk_at "s"
    have g23 : H3 oa = some (.lst (tenS.map V.str)) := k3.1 oa _ (s1.ne na) g2
    refine some_ok s3 (asS_at g23) (s1.ne na) (by show 12 ≤ 1000; decide) (by omega) fun o ys H5 no ho lo mo k5 s5 => ?_
    obtain ⟨zs, rs, rfl, pm⟩ := sub_strs mo
    rw [List.length_map, List.length_map] at lo
    have lz : zs.length = n := by rw [lo]; show (min (n : Int) 12).toNat = n; omega
    have nn := (pm.nodup_iff).2 ten_ok.1
    rw [List.nodup_append] at nn
    have hz : ∀ z ∈ zs, z.length ≤ 3 ∧ ∀ c ∈ cl z, c ∈ cl signsS := fun z hz => ten_ok.2 z (pm.mem_iff.1 (List.mem_append_right _ hz))
    refine ⟨_, rfl, ⟨_, asL_seq (asL_at ho)⟩, fun Dd hD => ?_⟩
    refine made_mapS (fun v => .str ((⟨#[ch]⟩ : Str) ++ unS v)) (fun H' s => asL_seq (asL_at (s _ _ ho))) hD (by rw [List.length_map]; show _ < 2 ^ 24; omega) (fun _ => rfl) (fun i x H6 Q1 hx t6 q1 => ?_) fun H6 t6 g6 => ?_
    · obtain ⟨z, hzz, rfl⟩ := get_str hx
      walk_at "s"
      have := (hz z (List.mem_of_getElem? hzz)).1
      exact ⟨by rw [str_len1]; show _ ≤ 2 ^ 24; omega, q1 H6 fun _ _ z => z⟩
    · have kk : Kp st H H5 := k1.trans ((kp_sm t2).trans (k3.trans k5))
      refine q Dd H6 (kp_none' hs kk hD s5) ⟨zs.map fun z => (⟨#[ch]⟩ : Str) ++ z, ?_, by rw [List.length_map]; exact lz, ?_, fun y hy => ?_⟩ (kk.trans (kp_sm t6)) (s5.sm t6)
      · rw [g6, List.map_map, List.map_map]
        rfl
      · refine List.pairwise_map.2 (List.Pairwise.imp (fun {a b} hab e => hab ?_) nn.2.1)
        have e1 := congrArg cl e
        rw [cl_add, cl_add] at e1
        exact cl_inj (List.append_cancel_left e1)
      · obtain ⟨z, hm, rfl⟩ := List.mem_map.1 hy
        obtain ⟨h3, h4⟩ := hz z hm
        refine name_of ⟨⟨ch, cl z, by rw [cl_add, cl_one]; rfl, hch⟩, fun c hc => ?_⟩ (by rw [str_len_add, str_len1]; omega)
        rw [cl_add, cl_one, List.mem_append, List.mem_singleton] at hc
        rcases hc with rfl | hc
        · exact letter_sign hch
        · exact h4 c hc
  refine q_asg ?_
  walk_at "s"
  refine ⟨fun σ H' => ∃ lt hd : Str, σ = [some (.ref st), some (.int n), some (.str lt), some (.int form), none, none, none, none, some (.str hd), none, none, none] ∧ 26 ≤ lt.length ∧ lt.length ≤ 36 ∧ hd.length ≤ 7 ∧ LtOk hd lt ∧ Kp st H H' ∧ StAt H' st, q_if1 ?_, ?_⟩
  · walk_at "s"
    refine ite2 (fun c4 => ?_) fun c4 => ?_
    · refine q_asg ?_
      walk_at "s"
      refine take_ok s1 (by decide) fun r H2 r0 r1 k2 s2 => ?_
      walk_at "s"
      refine word_ok s2 (by omega) (by omega) fun hd H3 wh lh k3 s3 => ?_
      refine q_asg1 ?_
      walk_at "s"
      have eS : lettersS ++ Str.ofString "0123456789" = signsS := by decide +kernel
      have l36 : signsS.length = 36 := by decide +kernel
      rw [eS, l36]
      exact ⟨by show _ ≤ 2 ^ 24; decide, by decide, by decide, by omega, ⟨letters_nodup.2, .inr ⟨wh, by omega, fun _ h => h⟩⟩, k1.trans (k2.trans k3), s3⟩
    · walk_at "s"
      have l26 : lettersS.length = 26 := e26
      exact ⟨by omega, by omega, by decide +kernel, ⟨letters_nodup.1, .inl ⟨rfl, fun _ h => h⟩⟩, k1, s1⟩
  · rintro σ H2 ⟨lt, hd, rfl, l1, l2, lh, lk, k2, s2⟩
    refine q_asg ?_
    walk_at "s"
    refine ⟨by decide, fun of nf => al nf fun H3 t3 g3 => ?_⟩
    have nf' := kp_none' hs k2 nf s2
    refine q_for ?_
    walk_at "s"
    refine ⟨by omega, by omega, ?_⟩
    have en : ((n : Nat) : Int).toNat = n := by omega
    rw [en]
    refine loop_range (fun i σ H4 => ∃ (lt : Str) (zs : List Str) (v5 v10 v11 : Option V), σ = [some (.ref st), some (.int n), some (.str lt), some (.int form), none, v5, none, none, some (.str hd), some (.ref of), v10, v11] ∧
      26 ≤ lt.length + i ∧ lt.length ≤ 36 ∧ H4 of = some (.lst (zs.map V.str)) ∧ zs.length = i ∧ Made1 hd lt zs ∧ LtOk hd lt ∧ Kp st H H4 ∧ StAt H4 st)
      ⟨lt, [], none, none, none, rfl, by omega, l2, g3, rfl, ⟨by simp, by simp⟩, lk, k2.trans (kp_sm t3), s2.sm t3⟩ ?_ ?_
    · rintro i σ H4 hi ⟨lt, zs, v5, v10, v11, rfl, m1, m2, gf, lz, mk, lk, k4, s4⟩
      walk_at "s"
      refine q_asg ?_
      walk_at "s"
      refine ⟨by show _ ≤ 2 ^ 24; omega, ?_⟩
      refine take_ok s4 (by omega) fun at_ H5 a0 a1 k5 s5 => ?_
      have gf5 := k5.1 _ _ (hs.ne nf') gf
      refine q_asg ?_
      walk_at "s"
      refine ⟨fun σ H' => ∃ tl : Str, σ = [some (.ref st), some (.int n), some (.str lt), some (.int form), none, some (.int (0 + (i : Nat))), none, none, some (.str hd), some (.ref of), some (.int at_), some (.str tl)] ∧ hd.length + 1 + tl.length ≤ 8 ∧ (∀ c ∈ cl tl, c ∈ cl signsS) ∧ Kp st H5 H' ∧ StAt H' st, q_if1 ?_, ?_⟩
      · walk_at "s"
        refine ite2 (fun c5 => ?_) fun c5 => ?_
        · refine q_asg1 ?_
          walk_at "s"
          refine word_ok s5 (by decide) (by decide) fun wd H6 ww lw k6 s6 => ?_
          walk_at "s"
          try refine And.intro (show hd.length ≤ 2 ^ 24 by omega) ?_
          refine take_ok s6 (by omega) fun r H7 r0 r1 k7 s7 => ?_
          simp only [f_slS]
          refine ⟨r, rfl, by show _ ≤ 2 ^ 24; omega, _, rfl, ?_, fun c hc => ?_, k6.trans k7, s7⟩
          · have : (Txt.slice wd none (some r)).length ≤ r.toNat := by
              rw [← cl_len, cl_take r0, List.length_take]
              omega
            omega
          · rw [cl_take r0] at hc
            exact ww.2 c (List.mem_of_mem_take hc)
        · walk_at "s"
          have e0 : (Str.ofString "").length = 0 := by decide +kernel
          exact ⟨by rw [e0]; omega, by decide +kernel, Kp.refl _ _, s5⟩
      · rintro σ H6 ⟨tl, rfl, ltl, ctl, k6, s6⟩
        have gf6 := k6.1 _ _ (hs.ne nf') gf5
        refine q_drop ?_
        walk_at "s"
        refine ⟨tyN_lst gf6, by show _ ≤ 2 ^ 24; omega, txt_at a0 (by show at_ < (lt.length : Nat); omega) fun ch hch => ?_⟩
        simp only [gf6]
        refine ⟨by rw [str_len1]; show _ ≤ 2 ^ 24; omega, by rw [str_len_add, str_len1]; show _ ≤ 2 ^ 24; omega, by rw [List.length_map]; show _ < 2 ^ 24; omega, ?_⟩
        obtain ⟨m, rfl⟩ : ∃ m : Nat, at_ = m := ⟨at_.toNat, by omega⟩
        have em : ((m : Nat) : Int).toNat = m := by omega
        rw [em] at hch
        obtain ⟨mk2, lk2, ll2⟩ := made1_step mk lk hch ctl ltl
        refine q_asg1 ?_
        walk_at "s"
        simp only [f_slS]
        refine ⟨by show _ ≤ 2 ^ 24; omega, by show _ ≤ 2 ^ 24; omega, ?_⟩
        walk_at "s"
        have keep : Kp st H H6 := (k4.trans k5).trans k6
        rw [str_len_add] at ll2
        refine ⟨by show _ ≤ 2 ^ 24; omega, ?_⟩
        rw [str_len_add]
        exact ⟨by omega, by omega, zs ++ [hd ++ (⟨#[ch]⟩ : Str) ++ tl], by rw [List.map_append]; rfl, by rw [List.length_append, lz]; rfl, mk2, lk2, keep.put' nf' (hs.ne nf'), hs.put' nf' keep s6⟩
    · rintro σ H4 ⟨lt, zs, v5, v10, v11, rfl, m1, m2, gf, lz, mk, lk, k4, s4⟩
      walk_at "s"
      exact q of H4 nf' ⟨zs, gf, lz, mk.1, fun z hz => (mk.2 z hz).1⟩ k4 s4
end XB

/-! A text that is none of a list's. -/
namespace XB
open PySem L2
local macro_rules | `(tactic| walk_at "s") => `(tactic| try simp only [u_var, u_c, u_op, u_un, u_nil, u_cons, u_cb, u_call, u_callS, u_tup, u_lst, u_test, u_B, u_and, u_or, u_not, u_andV, u_orV, u_notV, u_ifE, u_chain, u_sl, u_noPart, u_part, u_bm, u_bm0, u_rev, u_lc, u_try, u_sui, u_sui0, u_unb_rt, u_unb_nx, u_xf, u_WE, w_nil, w_cons, u_raise, u_rng1, u_rng2, u_next, u_ret, u_gname, u_gnil, u_gcons, u_gsub, u_gtup,
  f_add, f_addS, f_addR, f_sub, f_mul, f_mulR, f_mod, f_div, f_pow, f_neg, f_cmp, f_eq, f_eqB, f_eqS, f_ne, f_neB, f_neS, f_isN, f_notN, f_isB, f_ix, f_ixS, f_int, f_intB, f_len, f_lenS, f_max, f_min, f_abs, f_list, f_tuple, f_all, f_sum, f_isi, f_isiT, f_append, f_insert, f_pop, f_sl, f_set,
  kitS, tys, List.isEmpty_cons, Option.map_some, kt_NoneType_int, kt_NoneType_bool, kt_NoneType_str, kt_NoneType_list, kt_NoneType_tuple, kt_NoneType_dict, kt_int_int, kt_int_bool, kt_int_str, kt_int_list, kt_int_tuple, kt_int_dict, kt_bool_int, kt_bool_bool, kt_bool_str, kt_bool_list, kt_bool_tuple, kt_bool_dict, kt_str_int, kt_str_bool, kt_str_str, kt_str_list, kt_str_tuple, kt_str_dict, kt_list_int, kt_list_bool, kt_list_str, kt_list_list, kt_list_tuple, kt_list_dict, kt_tuple_int, kt_tuple_bool, kt_tuple_str, kt_tuple_list, kt_tuple_tuple, kt_tuple_dict, kt_dict_int, kt_dict_bool, kt_dict_str, kt_dict_list, kt_dict_tuple, kt_dict_dict, asL_lst, asL_frz, asL_tup, asT_tup, asS_lst, asS_frz, asS_tup, tyN_non, tyN_bl, tyN_int, tyN_str, atV_lit, ixN_lit, upd_same, upd_ne, upd_ne',
  List.getElem?_cons_zero, List.getElem?_cons_succ, List.set_cons_zero, List.set_cons_succ, List.append_nil, List.length_cons, List.length_nil, Option.some.injEq, exists_eq_left', exists_eq_left, exists_and_left, V.bl.injEq, V.int.injEq, V.str.injEq, V.ref.injEq, Bool.not_eq_true, Bool.not_true, Bool.not_false, decide_true, decide_false, decide_eq_true_eq, decide_eq_false_iff_not, Bool.false_eq_true, if_true, if_false, ite_true, ite_false, reduceCtorEq, true_and, and_true, Nat.reduceAdd, Nat.reduceLT, Nat.zero_add, ne_eq, not_false_eq_true, not_true_eq_false, List.cons.injEq, and_assoc])
local macro_rules | `(tactic| walk_at "S") => `(tactic| try simp only [u_var, u_c, u_op, u_un, u_nil, u_cons, u_cb, u_call, u_callS, u_tup, u_lst, u_test, u_B, u_and, u_or, u_not, u_andV, u_orV, u_notV, u_ifE, u_chain, u_sl, u_noPart, u_part, u_bm, u_bm0, u_rev, u_lc, u_try, u_sui, u_sui0, u_unb_rt, u_unb_nx, u_xf, u_WE, w_nil, w_cons, u_raise, u_rng1, u_rng2, u_next, u_ret, u_gname, u_gnil, u_gcons, u_gsub, u_gtup,
  f_add, f_addS, f_addR, f_sub, f_mul, f_mulR, f_mod, f_div, f_pow, f_neg, f_cmp, f_eq, f_eqB, f_eqS, f_ne, f_neB, f_neS, f_isN, f_notN, f_isB, f_ix, f_ixS, f_int, f_intB, f_len, f_lenS, f_max, f_min, f_abs, f_list, f_tuple, f_all, f_sum, f_isi, f_isiT, f_append, f_insert, f_pop, f_sl, f_set,
  kitS, tys, List.isEmpty_cons, Option.map_some, kt_NoneType_int, kt_NoneType_bool, kt_NoneType_str, kt_NoneType_list, kt_NoneType_tuple, kt_NoneType_dict, kt_int_int, kt_int_bool, kt_int_str, kt_int_list, kt_int_tuple, kt_int_dict, kt_bool_int, kt_bool_bool, kt_bool_str, kt_bool_list, kt_bool_tuple, kt_bool_dict, kt_str_int, kt_str_bool, kt_str_str, kt_str_list, kt_str_tuple, kt_str_dict, kt_list_int, kt_list_bool, kt_list_str, kt_list_list, kt_list_tuple, kt_list_dict, kt_tuple_int, kt_tuple_bool, kt_tuple_str, kt_tuple_list, kt_tuple_tuple, kt_tuple_dict, kt_dict_int, kt_dict_bool, kt_dict_str, kt_dict_list, kt_dict_tuple, kt_dict_dict, asL_lst, asL_frz, asL_tup, asT_tup, asS_lst, asS_frz, asS_tup, tyN_non, tyN_bl, tyN_int, tyN_str, atV_lit, ixN_lit, upd_same, upd_ne, upd_ne',
  List.getElem?_cons_zero, List.getElem?_cons_succ, List.set_cons_zero, List.set_cons_succ, List.append_nil, List.length_cons, List.length_nil, Option.some.injEq, exists_eq_left', exists_eq_left, exists_and_left, V.bl.injEq, V.int.injEq, V.str.injEq, V.ref.injEq, Bool.not_eq_true, Bool.not_true, Bool.not_false, decide_true, decide_false, decide_eq_true_eq, decide_eq_false_iff_not, Bool.false_eq_true, if_true, if_false, ite_true, ite_false, reduceCtorEq, true_and, and_true, Nat.reduceAdd, Nat.reduceLT, Nat.zero_add, ne_eq, not_false_eq_true, not_true_eq_false, List.cons.injEq, and_assoc, *])
theorem slice_seven {z : Str} : (Txt.slice z none (some 7)).length ≤ 7 := by
  rw [← cl_len, cl_take (by decide), List.length_take]
  have : (7 : Int).toNat = 7 := rfl
  omega
theorem flat_texts {zs : List Str} : (zs.map V.str).all flatV = true := by
  rw [List.all_eq_true]
  intro x hx
  obtain ⟨z, _, rfl⟩ := List.mem_map.1 hx
  rfl
theorem f_ninT {K : PySem.W.Frag} {H : Hp} {Q : VK} {z : Str} {p : Addr} {zs : List Str} (h : H p = some (.lst (zs.map V.str))) : fNin K (.str z) (.ref p) H Q = Q (.bl (!inV (.str z) (zs.map V.str))) H := by
  unfold fNin
  split
  · rename_i e1 e2
    cases e2
  · rename_i e
    cases e
    rw [asS_at h]
    show (flatV (.str z) = true ∧ (zs.map V.str).all flatV = true ∧ Q (.bl (!inV (.str z) (zs.map V.str))) H) = _
    rw [flat_texts]
    simp only [flatV, true_and]
  · rename_i n1 n2
    first | exact absurd rfl (n1 p) | exact (n1 p rfl).elim | exact (n2 _ rfl).elim | (simp at n1) | (simp at n2)
def sp_l_fresh (K : PySem.W.Frag) (C : CA) : Sp := fun vs H Q _ => ∃ (st p : Addr) (zs : List Str), vs = [.ref st, .ref p] ∧ StAt H st ∧ H p = some (.lst (zs.map V.str)) ∧ p ≠ st ∧ zs.length ≤ 100 ∧ (∀ z ∈ zs, z.length ≤ 100) ∧
  ∀ (z : Str) (H' : Hp), z.length ≤ 8 → Kp st H H' → StAt H' st → Q (.str z) H'
def rd_l_fresh (K : PySem.W.Frag) (C : CA) (E : XK) : TS :=
  (tSeq (tAsg (tCallS (sp_l_word K C) (fun _ => E0) (tCons (tVar 0) (tCons (tOp fAdd (tC (.int 1)) (tCallS (sp_l_take K C) (fun _ => E0) (tCons (tVar 0) (tCons (tC (.int 8)) tNil)))) tNil))) (gName 2)) (Evl.tCut (tIfS (tAnd (tTest (tOp fGt (tCB fLen (tCons (tVar 1) tNil)) (tC (.int 0)))) (tTest (tOp (fEq K) (tCallS (sp_l_take K C) (fun _ => E0) (tCons (tVar 0) (tCons (tC (.int 2)) tNil))) (tC (.int 0))))) (tAsg (tOp fAdd (tSl fSl2 (tCallS (sp_l_pick K C) (fun _ => E0) (tCons (tVar 0) (tCons (tVar 1) tNil))) tNoPart (tPart (tC (.int 7)))) (tOp fIx (tC (.str ("abz019" : Str))) (tCallS (sp_l_take K C) (fun _ => E0) (tCons (tVar 0) (tCons (tC (.int 6)) tNil))))) (gName 2)) tNext) (tSeq (tIfS (tTest (tOp (fNin K) (tVar 2) (tVar 1))) (tRet (tVar 2)) tNext) (tSeq (tFor (iStr (tC (.str ("abcdefghijklmnopqrstuvwxyz" : Str)))) (gName 3) (tIfS (tTest (tOp (fNin K) (tOp fAdd (tSl fSl2 (tVar 2) tNoPart (tPart (tC (.int 7)))) (tVar 3)) (tVar 1))) (tRet (tOp fAdd (tSl fSl2 (tVar 2) tNoPart (tPart (tC (.int 7)))) (tVar 3))) tNext)) (tRet (tVar 2))))))
theorem pure_l_fresh {K : PySem.W.Frag} {C : CA} (vs : List V) (H : Hp) (Q : VK) (E : XK) (h : sp_l_fresh K C vs H Q E) : rd_l_fresh K C E { nx := fun _ H' => Q .non H', rt := Q } (start [("store" : Str), ("row" : Str), ("word" : Str), ("letter" : Str)] vs) H := by
  obtain ⟨st, p, zs, rfl, hs, hp, np, hl, hz, q⟩ := h
  show rd_l_fresh K C E _ [some (.ref st), some (.ref p), none, none] H
  unfold rd_l_fresh
  refine q_asg ?_
  walk_at "s"
  refine take_ok hs (by decide) fun r H1 r0 r1 k1 s1 => ?_
  walk_at "s"
  refine word_ok s1 (by omega) (by omega) fun wd H2 ww lw k2 s2 => ?_
  refine ⟨fun σ H' => ∃ w : Str, σ = [some (.ref st), some (.ref p), some (.str w), none] ∧ w.length ≤ 8 ∧ Kp st H H' ∧ StAt H' st, q_if1 ?_, ?_⟩
  · have hp2 := (k1.trans k2).1 _ _ np hp
    walk_at "s"
    simp only [asS_at hp2]
    walk_at "s"
    rw [List.length_map]
    refine ite2 (fun c => ?_) fun c => ?_
    · walk_at "s"
      refine take_ok s2 (by decide) fun r2 H3 r0 r1 k3 s3 => ?_
      have hp3 := k3.1 _ _ np hp2
      walk_at "s"
      refine ite2 (fun c2 => ?_) fun c2 => ?_
      · refine q_asg1 ?_
        walk_at "s"
        refine pick_ok s3 (asS_at hp3) np (by rw [List.length_map]; omega) (by intro e; rw [List.map_eq_nil_iff] at e; rw [e] at c; simp at c) fun j v H4 hj k4 s4 => ?_
        obtain ⟨z, hzj, rfl⟩ := get_str hj
        have lz := hz z (List.mem_of_getElem? hzj)
        simp only [f_slS]
        refine ⟨by show _ ≤ 2 ^ 24; omega, ?_⟩
        refine take_ok s4 (by decide) fun r3 H5 q0 q1 k5 s5 => ?_
        walk_at "s"
        have e6 : (Str.ofString "abz019").cps.size = 6 := by decide +kernel
        have l7 := slice_seven (z := z)
        refine ⟨by decide +kernel, txt_at q0 (by omega) fun ch _ => ?_⟩
        refine ⟨by rw [str_len1]; show _ ≤ 2 ^ 24; omega, ?_⟩
        exact ⟨by rw [str_len_add, str_len1]; omega, (((k1.trans k2).trans k3).trans k4).trans k5, s5⟩
      · walk_at "s"
        exact ⟨by omega, (k1.trans k2).trans k3, s3⟩
    · walk_at "s"
      exact ⟨by omega, k1.trans k2, s2⟩
  · rintro σ H3 ⟨w, rfl, lw, k3, s3⟩
    have hp3 := k3.1 _ _ np hp
    refine q_if ?_
    walk_at "s"
    simp only [f_ninT hp3]
    walk_at "s"
    refine ite2 (fun _ => q w H3 lw k3 s3) fun _ => ?_
    refine q_for ?_
    rw [u_strI]
    walk_at "s"
    refine loop_str (fun i σ H4 => ∃ v : Option V, σ = [some (.ref st), some (.ref p), some (.str w), v] ∧ H4 = H3) ⟨_, rfl, rfl⟩ ?_ ?_
    · rintro i ch σ H4 hi ⟨v, rfl, rfl⟩
      have l7 := slice_seven (z := w)
      walk_at "s"
      refine q_if1 ?_
      walk_at "s"
      simp only [f_slS]
      refine ⟨by show _ ≤ 2 ^ 24; omega, ?_⟩
      walk_at "s"
      refine ⟨by rw [str_len1]; show _ ≤ 2 ^ 24; omega, ?_⟩
      simp only [f_ninT hp3]
      walk_at "s"
      refine ite2 (fun _ => ?_) fun _ => ?_
      · refine ⟨by show _ ≤ 2 ^ 24; omega, by rw [str_len1]; show _ ≤ 2 ^ 24; omega, q _ _ (by rw [str_len_add, str_len1]; omega) k3 s3⟩
      · first | trivial | exact ⟨_, rfl⟩
    · rintro σ H4 ⟨v, rfl, rfl⟩
      walk_at "s"
      exact q w _ lw k3 s3
end XB

/-! Texts in order, and the circuits of a table: no program here. -/
namespace XB
open PySem PyProof.Rows
def LtS (a b : Str) : Prop := a.cps.toList < b.cps.toList
theorem str_ext {a b : Str} (h : a.cps.toList = b.cps.toList) : a = b := by
  cases a with
  | mk x =>
    cases b with
    | mk y =>
      have : x = y := Array.ext' h
      rw [this]
theorem LtS.irrefl {a : Str} : ¬ LtS a a := fun h => List.lt_irrefl _ h
theorem LtS.trans {a b c : Str} (h : LtS a b) (k : LtS b c) : LtS a c := List.lt_trans h k
theorem LtS.antisymm {a b : Str} (h : ¬ LtS a b) (k : ¬ LtS b a) : a = b := str_ext (List.le_antisymm (List.not_lt.1 k) (List.not_lt.1 h))
theorem LtS.of_le_ne {a b : Str} (h : ¬ LtS b a) (k : a ≠ b) : LtS a b := by
  by_cases c : LtS a b
  · exact c
  · exact absurd (LtS.antisymm c h) k
theorem LtS.le_trans {a b c : Str} (h : ¬ LtS b a) (k : ¬ LtS c b) : ¬ LtS c a := fun e => by
  by_cases c1 : a = b
  · rw [c1] at e; exact k e
  · exact k (e.trans (LtS.of_le_ne h c1))
theorem risingS_pair : ∀ {r : List Str} {p : Str}, risingS p r = true → (p :: r).Pairwise fun a b => ¬ LtS b a
  | [], p, _ => by simp
  | x :: r, p, h => by
    simp only [risingS, Bool.and_eq_true, Bool.not_eq_true'] at h
    have ih := risingS_pair h.2
    have hx : ¬ LtS x p := by
      have e := h.1
      rw [ltCps_eq] at e
      have e2 : ¬ (x.cps.toList < p.cps.toList) := of_decide_eq_false e
      exact e2
    refine List.pairwise_cons.2 ⟨fun y hy => ?_, ih⟩
    rcases List.mem_cons.1 hy with rfl | hy
    · exact hx
    · exact LtS.le_trans hx ((List.pairwise_cons.1 ih).1 y hy)
theorem srt_pair {ys : List Str} (h : sortedS ys = true) : ys.Pairwise fun a b => ¬ LtS b a := by
  cases ys with
  | nil => simp
  | cons x r => exact risingS_pair h
theorem srt_unique {a b : List Str} (ha : sortedS a = true) (hb : sortedS b = true) (p : a.Perm b) : a = b :=
  List.Perm.eq_of_pairwise (fun x y _ _ h1 h2 => LtS.antisymm h2 h1) (srt_pair ha) (srt_pair hb) p
/-! ### circuits -/
variable {f : Str → Str} {ks : List Str}
/-- the images of a table's names -/
structure Tbl (f : Str → Str) (ks : List Str) : Prop where
  nd : ks.Nodup
  cl : ∀ x ∈ ks, f x ∈ ks
  inj : ∀ x ∈ ks, ∀ y ∈ ks, f x = f y → x = y
structure IsCyc (f : Str → Str) (ks row : List Str) : Prop where
  ne : row ≠ []
  nd : row.Nodup
  sub : ∀ x ∈ row, x ∈ ks
  nx : ∀ i x y, row[i]? = some x → row[i + 1]? = some y → f x = y
  back : ∀ x y, row[row.length - 1]? = some x → row[0]? = some y → f x = y
theorem IsCyc.fwd {row : List Str} (h : IsCyc f ks row) {x : Str} (hx : x ∈ row) : f x ∈ row := by
  obtain ⟨i, hi, rfl⟩ := List.mem_iff_getElem.1 hx
  by_cases c : i + 1 < row.length
  · rw [h.nx i row[i] row[i + 1] (by simp [hi]) (by simp [c])]
    exact List.getElem_mem c
  · have e : i = row.length - 1 := by omega
    have h0 : 0 < row.length := by omega
    subst e
    rw [h.back _ row[0] (by simp [hi]) (by simp [h0])]
    exact List.getElem_mem h0
theorem IsCyc.bwd (T : Tbl f ks) {row : List Str} (h : IsCyc f ks row) {x : Str} (hk : x ∈ ks) (hx : f x ∈ row) : x ∈ row := by
  obtain ⟨i, hi, e⟩ := List.mem_iff_getElem.1 hx
  cases i with
  | zero =>
    have hl : row.length - 1 < row.length := by omega
    have e1 := h.back row[row.length - 1] row[0] (by simp [hl]) (by simp [hi])
    rw [e] at e1
    rw [T.inj x hk _ (h.sub _ (List.getElem_mem hl)) e1.symm]
    exact List.getElem_mem hl
  | succ j =>
    have hj : j < row.length := by omega
    have e1 := h.nx j row[j] row[j + 1] (by simp [hj]) (by simp [hi])
    rw [e] at e1
    rw [T.inj x hk _ (h.sub _ (List.getElem_mem hj)) e1.symm]
    exact List.getElem_mem hj
/-- two circuits with one name in common have all in common -/
theorem IsCyc.sub_of {row r2 : List Str} (h : IsCyc f ks row) (k : IsCyc f ks r2) {x : Str} (h1 : x ∈ row) (h2 : x ∈ r2) : ∀ y ∈ row, y ∈ r2 := by
  obtain ⟨i, hi, rfl⟩ := List.mem_iff_getElem.1 h1
  have up : ∀ n, ∀ (hn : i + n < row.length), row[i + n] ∈ r2 := by
    intro n
    induction n with
    | zero => exact fun _ => h2
    | succ n ih =>
      intro hn
      have hn1 : i + n < row.length := by omega
      have e := h.nx (i + n) row[i + n] row[i + n + 1] (by simp [hn1]) (by rw [List.getElem?_eq_getElem])
      have := k.fwd (ih hn1)
      rw [e] at this
      exact this
  have h0 : 0 < row.length := by omega
  have hl : row.length - 1 < row.length := by omega
  have last : row[row.length - 1] ∈ r2 := by
    have := up (row.length - 1 - i) (by omega)
    have e : i + (row.length - 1 - i) = row.length - 1 := by omega
    simp only [e] at this
    exact this
  have head : row[0] ∈ r2 := by
    have := k.fwd last
    rw [h.back row[row.length - 1] row[0] (by simp [hl]) (by simp [h0])] at this
    exact this
  have all : ∀ n, ∀ (hn : n < row.length), row[n] ∈ r2 := by
    intro n
    induction n with
    | zero => exact fun _ => head
    | succ n ih =>
      intro hn
      have hn1 : n < row.length := by omega
      have e := h.nx n row[n] row[n + 1] (by simp [hn1]) (by simp [hn])
      have := k.fwd (ih hn1)
      rw [e] at this
      exact this
  intro y hy
  obtain ⟨n, hn, rfl⟩ := List.mem_iff_getElem.1 hy
  exact all n hn
/-- of one first name there is one circuit -/
theorem IsCyc.unique {row r2 : List Str} (h : IsCyc f ks row) (k : IsCyc f ks r2) (e : row[0]? = r2[0]?) : row = r2 := by
  have same : ∀ (a b : List Str), IsCyc f ks a → IsCyc f ks b → a[0]? = b[0]? → ∀ i, i < a.length → i < b.length → a[i]? = b[i]? := by
    intro a b ha hb e0 i
    induction i with
    | zero => exact fun _ _ => e0
    | succ i ih =>
      intro h1 h2
      have e1 := ih (by omega) (by omega)
      have i1 : i < a.length := by omega
      have i2 : i < b.length := by omega
      have x1 : a[i]? = some a[i] := by simp [i1]
      have x2 : b[i]? = some b[i] := by simp [i2]
      have y1 : a[i + 1]? = some a[i + 1] := by simp [h1]
      have y2 : b[i + 1]? = some b[i + 1] := by simp [h2]
      have n1 := ha.nx i _ _ x1 y1
      have n2 := hb.nx i _ _ x2 y2
      rw [x1, x2] at e1
      injection e1 with e1
      rw [y1, y2, ← n1, ← n2, e1]
  have len : ∀ (a b : List Str), IsCyc f ks a → IsCyc f ks b → a[0]? = b[0]? → ¬ a.length < b.length := by
    intro a b ha hb e0 lt
    have a0 : 0 < a.length := List.length_pos_iff.2 ha.ne
    have l1 : a.length - 1 < a.length := by omega
    have l2 : a.length - 1 < b.length := by omega
    have e1 := same a b ha hb e0 (a.length - 1) l1 l2
    have x1 : a[a.length - 1]? = some a[a.length - 1] := by simp [l1]
    have x2 : b[a.length - 1]? = some b[a.length - 1] := by simp [l2]
    have z1 : a[0]? = some a[0] := by simp [a0]
    have b0 : 0 < b.length := by omega
    have z2 : b[0]? = some b[0] := by simp [b0]
    have y2 : b[a.length - 1 + 1]? = some b[a.length] := by
      have e2 : a.length - 1 + 1 = a.length := by omega
      rw [e2]
      simp [lt]
    have n1 := ha.back _ _ x1 z1
    have n2 := hb.nx _ _ _ x2 y2
    rw [x1, x2] at e1
    injection e1 with e1
    rw [z1, z2] at e0
    injection e0 with e0
    rw [e1, n2, e0] at n1
    exact List.pairwise_iff_getElem.1 hb.nd 0 a.length b0 lt a0 n1.symm
  have l : row.length = r2.length := by
    have := len row r2 h k e
    have := len r2 row k h e.symm
    omega
  apply List.ext_getElem?
  intro i
  by_cases c : i < row.length
  · exact same row r2 h k e i c (by omega)
  · rw [List.getElem?_eq_none_iff.mpr (by omega), List.getElem?_eq_none_iff.mpr (by omega)]
/-- the circuits of a table -/
structure Circs (f : Str → Str) (ks : List Str) (rows : List (List Str)) : Prop where
  cyc : ∀ r ∈ rows, IsCyc f ks r
  least : ∀ r ∈ rows, ∀ h, r[0]? = some h → ∀ x ∈ r, ¬ LtS x h
  asc : rows.Pairwise fun a b => ∀ x y, a[0]? = some x → b[0]? = some y → LtS x y
  all : ∀ x ∈ ks, ∃ r ∈ rows, x ∈ r
theorem head_of {row : List Str} (h : row ≠ []) : ∃ x, row[0]? = some x ∧ x ∈ row := by
  cases row with
  | nil => exact absurd rfl h
  | cons x r => exact ⟨x, rfl, List.mem_cons_self⟩
theorem Circs.in_of {r1 r2 : List (List Str)} (h : Circs f ks r1) (k : Circs f ks r2) : ∀ r ∈ r1, r ∈ r2 := by
  intro r hr
  have cr := h.cyc r hr
  obtain ⟨x, hx, mx⟩ := head_of cr.ne
  obtain ⟨q, hq, mq⟩ := k.all x (cr.sub x mx)
  have cq := k.cyc q hq
  obtain ⟨y, hy, my⟩ := head_of cq.ne
  have m1 : y ∈ r := cq.sub_of cr mq mx y my
  have e : x = y := LtS.antisymm (k.least q hq y hy x mq) (h.least r hr x hx y m1)
  have e2 : r = q := cr.unique cq (by rw [hx, hy, e])
  rw [e2]
  exact hq
theorem Circs.unique {r1 r2 : List (List Str)} (h : Circs f ks r1) (k : Circs f ks r2) : r1 = r2 := by
  have nd : ∀ {rs : List (List Str)}, Circs f ks rs → rs.Nodup := fun {rs} c => by
    refine List.Pairwise.imp_of_mem (fun {a b} ha hb hab e => ?_) c.asc
    subst e
    obtain ⟨x, hx, _⟩ := head_of (c.cyc a ha).ne
    exact LtS.irrefl (hab x x hx hx)
  have p : r1.Perm r2 := (List.perm_ext_iff_of_nodup (nd h) (nd k)).2 fun r => ⟨h.in_of k r, k.in_of h r⟩
  refine List.Perm.eq_of_pairwise (le := fun a b => ∀ x y, a[0]? = some x → b[0]? = some y → LtS x y) (fun a b ha hb h1 h2 => ?_) h.asc k.asc p
  obtain ⟨x, hx, _⟩ := head_of (h.cyc a ha).ne
  obtain ⟨y, hy, _⟩ := head_of (k.cyc b hb).ne
  exact absurd ((h1 x y hx hy).trans (h2 y x hy hx)) LtS.irrefl
theorem Circs.flat {rows : List (List Str)} (T : Tbl f ks) (h : Circs f ks rows) : rows.flatten.Perm ks := by
  have nd : rows.flatten.Nodup := by
    refine List.pairwise_flatten.2 ⟨fun r hr => (h.cyc r hr).nd, List.Pairwise.imp_of_mem (fun {a b} ha hb hab x xa y xb e => ?_) h.asc⟩
    subst e
    obtain ⟨p, hp, mp⟩ := head_of (h.cyc a ha).ne
    obtain ⟨q, hq, mq⟩ := head_of (h.cyc b hb).ne
    exact h.least b hb q hq p ((h.cyc a ha).sub_of (h.cyc b hb) xa xb p mp) (hab p q hp hq)
  exact (List.perm_ext_iff_of_nodup nd T.nd).2 fun x => ⟨fun hx => by
    obtain ⟨r, hr, hm⟩ := List.mem_flatten.1 hx
    exact (h.cyc r hr).sub x hm, fun hx => by
    obtain ⟨r, hr, hm⟩ := h.all x hx
    exact List.mem_flatten.2 ⟨r, hr, hm⟩⟩
end XB

/-! Names. -/
namespace XB
open PySem L2
local macro_rules | `(tactic| walk_at "s") => `(tactic| try simp only [u_var, u_c, u_op, u_un, u_nil, u_cons, u_cb, u_call, u_callS, u_tup, u_lst, u_test, u_B, u_and, u_or, u_not, u_andV, u_orV, u_notV, u_ifE, u_chain, u_sl, u_noPart, u_part, u_bm, u_bm0, u_rev, u_lc, u_try, u_sui, u_sui0, u_unb_rt, u_unb_nx, u_xf, u_WE, w_nil, w_cons, u_raise, u_rng1, u_rng2, u_next, u_ret, u_gname, u_gnil, u_gcons, u_gsub, u_gtup,
  f_add, f_addS, f_addR, f_sub, f_mul, f_mulR, f_mod, f_div, f_pow, f_neg, f_cmp, f_eq, f_eqB, f_eqS, f_ne, f_neB, f_neS, f_isN, f_notN, f_isB, f_ix, f_ixS, f_int, f_intB, f_len, f_lenS, f_max, f_min, f_abs, f_list, f_tuple, f_all, f_sum, f_isi, f_isiT, f_append, f_insert, f_pop, f_sl, f_set,
  kitS, tys, List.isEmpty_cons, Option.map_some, kt_NoneType_int, kt_NoneType_bool, kt_NoneType_str, kt_NoneType_list, kt_NoneType_tuple, kt_NoneType_dict, kt_int_int, kt_int_bool, kt_int_str, kt_int_list, kt_int_tuple, kt_int_dict, kt_bool_int, kt_bool_bool, kt_bool_str, kt_bool_list, kt_bool_tuple, kt_bool_dict, kt_str_int, kt_str_bool, kt_str_str, kt_str_list, kt_str_tuple, kt_str_dict, kt_list_int, kt_list_bool, kt_list_str, kt_list_list, kt_list_tuple, kt_list_dict, kt_tuple_int, kt_tuple_bool, kt_tuple_str, kt_tuple_list, kt_tuple_tuple, kt_tuple_dict, kt_dict_int, kt_dict_bool, kt_dict_str, kt_dict_list, kt_dict_tuple, kt_dict_dict, asL_lst, asL_frz, asL_tup, asT_tup, asS_lst, asS_frz, asS_tup, tyN_non, tyN_bl, tyN_int, tyN_str, atV_lit, ixN_lit, upd_same, upd_ne, upd_ne',
  List.getElem?_cons_zero, List.getElem?_cons_succ, List.set_cons_zero, List.set_cons_succ, List.append_nil, List.length_cons, List.length_nil, Option.some.injEq, exists_eq_left', exists_eq_left, exists_and_left, V.bl.injEq, V.int.injEq, V.str.injEq, V.ref.injEq, Bool.not_eq_true, Bool.not_true, Bool.not_false, decide_true, decide_false, decide_eq_true_eq, decide_eq_false_iff_not, Bool.false_eq_true, if_true, if_false, ite_true, ite_false, reduceCtorEq, true_and, and_true, Nat.reduceAdd, Nat.reduceLT, Nat.zero_add, ne_eq, not_false_eq_true, not_true_eq_false, List.cons.injEq, and_assoc])
local macro_rules | `(tactic| walk_at "S") => `(tactic| try simp only [u_var, u_c, u_op, u_un, u_nil, u_cons, u_cb, u_call, u_callS, u_tup, u_lst, u_test, u_B, u_and, u_or, u_not, u_andV, u_orV, u_notV, u_ifE, u_chain, u_sl, u_noPart, u_part, u_bm, u_bm0, u_rev, u_lc, u_try, u_sui, u_sui0, u_unb_rt, u_unb_nx, u_xf, u_WE, w_nil, w_cons, u_raise, u_rng1, u_rng2, u_next, u_ret, u_gname, u_gnil, u_gcons, u_gsub, u_gtup,
  f_add, f_addS, f_addR, f_sub, f_mul, f_mulR, f_mod, f_div, f_pow, f_neg, f_cmp, f_eq, f_eqB, f_eqS, f_ne, f_neB, f_neS, f_isN, f_notN, f_isB, f_ix, f_ixS, f_int, f_intB, f_len, f_lenS, f_max, f_min, f_abs, f_list, f_tuple, f_all, f_sum, f_isi, f_isiT, f_append, f_insert, f_pop, f_sl, f_set,
  kitS, tys, List.isEmpty_cons, Option.map_some, kt_NoneType_int, kt_NoneType_bool, kt_NoneType_str, kt_NoneType_list, kt_NoneType_tuple, kt_NoneType_dict, kt_int_int, kt_int_bool, kt_int_str, kt_int_list, kt_int_tuple, kt_int_dict, kt_bool_int, kt_bool_bool, kt_bool_str, kt_bool_list, kt_bool_tuple, kt_bool_dict, kt_str_int, kt_str_bool, kt_str_str, kt_str_list, kt_str_tuple, kt_str_dict, kt_list_int, kt_list_bool, kt_list_str, kt_list_list, kt_list_tuple, kt_list_dict, kt_tuple_int, kt_tuple_bool, kt_tuple_str, kt_tuple_list, kt_tuple_tuple, kt_tuple_dict, kt_dict_int, kt_dict_bool, kt_dict_str, kt_dict_list, kt_dict_tuple, kt_dict_dict, asL_lst, asL_frz, asL_tup, asT_tup, asS_lst, asS_frz, asS_tup, tyN_non, tyN_bl, tyN_int, tyN_str, atV_lit, ixN_lit, upd_same, upd_ne, upd_ne',
  List.getElem?_cons_zero, List.getElem?_cons_succ, List.set_cons_zero, List.set_cons_succ, List.append_nil, List.length_cons, List.length_nil, Option.some.injEq, exists_eq_left', exists_eq_left, exists_and_left, V.bl.injEq, V.int.injEq, V.str.injEq, V.ref.injEq, Bool.not_eq_true, Bool.not_true, Bool.not_false, decide_true, decide_false, decide_eq_true_eq, decide_eq_false_iff_not, Bool.false_eq_true, if_true, if_false, ite_true, ite_false, reduceCtorEq, true_and, and_true, Nat.reduceAdd, Nat.reduceLT, Nat.zero_add, ne_eq, not_false_eq_true, not_true_eq_false, List.cons.injEq, and_assoc, *])
def nameV : V → Bool
  | .str z => nameS z
  | _ => false
/-- a value whose kind is known, no text too long -/
def Tz (v : V) (H : Hp) : Prop := Ty v H ∧ ∀ z, v = .str z → z.length ≤ 1000
theorem f_in1' {K : PySem.W.Frag} {H : Hp} {Q : VK} {c : Nat} {z : Str} : fIn K (.str ⟨#[c]⟩) (.str z) H Q = Q (.bl (decide (c ∈ z.cps.toList))) H := rfl
def sp_is_name (K : PySem.W.Frag) (C : CA) : Sp := fun vs H Q _ => ∃ v, vs = [v] ∧ Tz v H ∧ ∀ H', Sm H H' → Q (.bl (nameV v)) H'
def rd_is_name (K : PySem.W.Frag) (C : CA) (E : XK) : TS :=
  (tSeq (tIfS (tOr (tNot (tB (tCB fIsi (tCons (tVar 0) (tCons (tC (.ty "str")) tNil))))) (tNot (tTest (tChain fLe fLe (tC (.int 1)) (tCB fLen (tCons (tVar 0) tNil)) (tC (.int 8)))))) (tRet (tC (.bl false))) tNext) (tRet (tAndV (tOp (fIn K) (tOp fIx (tVar 0) (tC (.int 0))) (tC (.str ("abcdefghijklmnopqrstuvwxyz" : Str)))) (tCB fAll (tCons (tLc (iStr (tVar 0)) (gName 1) tYes (tOp (fIn K) (tVar 1) (tC (.str ("abcdefghijklmnopqrstuvwxyz0123456789" : Str)))) [1]) tNil)))))
theorem pure_is_name {K : PySem.W.Frag} {C : CA} (vs : List V) (H : Hp) (Q : VK) (E : XK) (h : sp_is_name K C vs H Q E) : rd_is_name K C E { nx := fun _ H' => Q .non H', rt := Q } (start [("value" : Str), ("sign" : Str)] vs) H := by
  obtain ⟨v, rfl, ⟨tv, lz⟩, q⟩ := h
  show rd_is_name K C E _ [some v, none] H
  unfold rd_is_name
  refine q_if ?_
  have no : nameV v = false → Q (.bl false) H := fun e => by
    have := q H fun _ _ z => z
    rw [e] at this
    exact this
  rcases ty_cases tv with rfl | ⟨b, rfl⟩ | ⟨i, rfl⟩ | ⟨z, rfl⟩ | ⟨p, rfl, h⟩
  · walk_at "s"
    exact no rfl
  · walk_at "s"
    exact no rfl
  · walk_at "s"
    exact no rfl
  · have l1 := lz z rfl
    walk_at "s"
    have noS : nameS z = false → Q (.bl false) H := no
    have hlen : z.cps.toList.length = z.length := Array.length_toList
    refine ⟨by show _ ≤ 2 ^ 24; omega, ite2 (fun c1 => ?_) fun c1 => noS ?_⟩
    · by_cases c2 : (z.length : Int) ≤ 8
      · simp only [c2, decide_true, Bool.not_true, Bool.false_eq_true, if_false]
        refine ⟨by show _ ≤ 2 ^ 24; omega, ?_⟩
        have a1 : decide (1 ≤ z.length) = true := decide_eq_true (by omega)
        have a2 : decide (z.length ≤ 8) = true := decide_eq_true (by omega)
        cases ez : z.cps.toList with
        | nil => rw [ez] at hlen; simp at hlen; omega
        | cons c0 t =>
          have q2 : ∀ H', Sm H H' → Q (.bl (decide (c0 ∈ lettersS.cps.toList) && (c0 :: t).all fun c => decide (c ∈ signsS.cps.toList))) H' := fun H' s => by
            have e := q H' s
            have e2 : nameV (.str z) = (decide (c0 ∈ lettersS.cps.toList) && (c0 :: t).all fun c => decide (c ∈ signsS.cps.toList)) := by
              show nameS z = _
              unfold nameS
              rw [a1, a2, ez]
              simp only [Bool.true_and]
            rw [← e2]
            exact e
          refine ⟨c0, (by exact atI_nat (xs := c0 :: t) (j := 0) rfl), ?_⟩
          rw [f_in1']
          refine ⟨_, rfl, ?_⟩
          by_cases c3 : c0 ∈ lettersS.cps.toList
          · rw [decide_eq_true c3] at q2
            have c3' : decide (c0 ∈ (Str.ofString "abcdefghijklmnopqrstuvwxyz").cps.toList) = true := decide_eq_true c3
            rw [if_pos c3', u_strI]
            walk_at "s"
            intro Dd hD
            refine made_mapStr (fun c => .bl (decide (c ∈ signsS.cps.toList))) hD (by show z.length < 2 ^ 24; omega) (fun _ => rfl) (fun i c H2 Q1 hc s1 q1 => ?_) fun H2 s2 g2 => ?_
            · walk_at "s"
              rw [f_in1']
              exact q1 H2 fun _ _ z => z
            · rw [g2]
              refine ⟨z.cps.toList.map fun c => decide (c ∈ signsS.cps.toList), by rw [List.map_map]; rfl, ?_⟩
              have e := q2 H2 s2
              rw [Bool.true_and] at e
              rw [ez, List.all_map]
              exact e
          · rw [decide_eq_false c3] at q2
            have c3' : ¬ decide (c0 ∈ (Str.ofString "abcdefghijklmnopqrstuvwxyz").cps.toList) = true := by
              rw [decide_eq_true_eq]
              exact c3
            rw [if_neg c3']
            exact q2 H fun _ _ z => z
      · simp only [c2, decide_false, Bool.not_false, if_true]
        refine noS ?_
        have a2 : decide (z.length ≤ 8) = false := decide_eq_false (by omega)
        unfold nameS
        rw [a2]
        simp
    · have a1 : decide (1 ≤ z.length) = false := decide_eq_false (by omega)
      unfold nameS
      rw [a1]
      simp
  · have e : ∃ t, tyN (.ref p) H = some t ∧ (t = "list" ∨ t = "tuple" ∨ t = "dict") := by
      rcases h with ⟨h, _⟩ | ⟨h, _⟩ | ⟨h, _⟩
      · exact ⟨_, h, .inl rfl⟩
      · exact ⟨_, h, .inr (.inl rfl)⟩
      · exact ⟨_, h, .inr (.inr rfl)⟩
    obtain ⟨t, e, rfl | rfl | rfl⟩ := e
    all_goals
      walk_at "s"
      simp only [e]
      walk_at "s"
      exact no rfl
end XB

/-! Tables of names. -/
namespace XB
open PySem L2
local macro_rules | `(tactic| walk_at "s") => `(tactic| try simp only [u_var, u_c, u_op, u_un, u_nil, u_cons, u_cb, u_call, u_callS, u_tup, u_lst, u_test, u_B, u_and, u_or, u_not, u_andV, u_orV, u_notV, u_ifE, u_chain, u_sl, u_noPart, u_part, u_bm, u_bm0, u_rev, u_lc, u_try, u_sui, u_sui0, u_unb_rt, u_unb_nx, u_xf, u_WE, w_nil, w_cons, u_raise, u_rng1, u_rng2, u_next, u_ret, u_gname, u_gnil, u_gcons, u_gsub, u_gtup,
  f_add, f_addS, f_addR, f_sub, f_mul, f_mulR, f_mod, f_div, f_pow, f_neg, f_cmp, f_eq, f_eqB, f_eqS, f_ne, f_neB, f_neS, f_isN, f_notN, f_isB, f_ix, f_ixS, f_int, f_intB, f_len, f_lenS, f_max, f_min, f_abs, f_list, f_tuple, f_all, f_sum, f_isi, f_isiT, f_append, f_insert, f_pop, f_sl, f_set,
  kitS, tys, List.isEmpty_cons, Option.map_some, kt_NoneType_int, kt_NoneType_bool, kt_NoneType_str, kt_NoneType_list, kt_NoneType_tuple, kt_NoneType_dict, kt_int_int, kt_int_bool, kt_int_str, kt_int_list, kt_int_tuple, kt_int_dict, kt_bool_int, kt_bool_bool, kt_bool_str, kt_bool_list, kt_bool_tuple, kt_bool_dict, kt_str_int, kt_str_bool, kt_str_str, kt_str_list, kt_str_tuple, kt_str_dict, kt_list_int, kt_list_bool, kt_list_str, kt_list_list, kt_list_tuple, kt_list_dict, kt_tuple_int, kt_tuple_bool, kt_tuple_str, kt_tuple_list, kt_tuple_tuple, kt_tuple_dict, kt_dict_int, kt_dict_bool, kt_dict_str, kt_dict_list, kt_dict_tuple, kt_dict_dict, asL_lst, asL_frz, asL_tup, asT_tup, asS_lst, asS_frz, asS_tup, tyN_non, tyN_bl, tyN_int, tyN_str, atV_lit, ixN_lit, upd_same, upd_ne, upd_ne',
  List.getElem?_cons_zero, List.getElem?_cons_succ, List.set_cons_zero, List.set_cons_succ, List.append_nil, List.length_cons, List.length_nil, Option.some.injEq, exists_eq_left', exists_eq_left, exists_and_left, V.bl.injEq, V.int.injEq, V.str.injEq, V.ref.injEq, Bool.not_eq_true, Bool.not_true, Bool.not_false, decide_true, decide_false, decide_eq_true_eq, decide_eq_false_iff_not, Bool.false_eq_true, if_true, if_false, ite_true, ite_false, reduceCtorEq, true_and, and_true, Nat.reduceAdd, Nat.reduceLT, Nat.zero_add, ne_eq, not_false_eq_true, not_true_eq_false, List.cons.injEq, and_assoc])
local macro_rules | `(tactic| walk_at "S") => `(tactic| try simp only [u_var, u_c, u_op, u_un, u_nil, u_cons, u_cb, u_call, u_callS, u_tup, u_lst, u_test, u_B, u_and, u_or, u_not, u_andV, u_orV, u_notV, u_ifE, u_chain, u_sl, u_noPart, u_part, u_bm, u_bm0, u_rev, u_lc, u_try, u_sui, u_sui0, u_unb_rt, u_unb_nx, u_xf, u_WE, w_nil, w_cons, u_raise, u_rng1, u_rng2, u_next, u_ret, u_gname, u_gnil, u_gcons, u_gsub, u_gtup,
  f_add, f_addS, f_addR, f_sub, f_mul, f_mulR, f_mod, f_div, f_pow, f_neg, f_cmp, f_eq, f_eqB, f_eqS, f_ne, f_neB, f_neS, f_isN, f_notN, f_isB, f_ix, f_ixS, f_int, f_intB, f_len, f_lenS, f_max, f_min, f_abs, f_list, f_tuple, f_all, f_sum, f_isi, f_isiT, f_append, f_insert, f_pop, f_sl, f_set,
  kitS, tys, List.isEmpty_cons, Option.map_some, kt_NoneType_int, kt_NoneType_bool, kt_NoneType_str, kt_NoneType_list, kt_NoneType_tuple, kt_NoneType_dict, kt_int_int, kt_int_bool, kt_int_str, kt_int_list, kt_int_tuple, kt_int_dict, kt_bool_int, kt_bool_bool, kt_bool_str, kt_bool_list, kt_bool_tuple, kt_bool_dict, kt_str_int, kt_str_bool, kt_str_str, kt_str_list, kt_str_tuple, kt_str_dict, kt_list_int, kt_list_bool, kt_list_str, kt_list_list, kt_list_tuple, kt_list_dict, kt_tuple_int, kt_tuple_bool, kt_tuple_str, kt_tuple_list, kt_tuple_tuple, kt_tuple_dict, kt_dict_int, kt_dict_bool, kt_dict_str, kt_dict_list, kt_dict_tuple, kt_dict_dict, asL_lst, asL_frz, asL_tup, asT_tup, asS_lst, asS_frz, asS_tup, tyN_non, tyN_bl, tyN_int, tyN_str, atV_lit, ixN_lit, upd_same, upd_ne, upd_ne',
  List.getElem?_cons_zero, List.getElem?_cons_succ, List.set_cons_zero, List.set_cons_succ, List.append_nil, List.length_cons, List.length_nil, Option.some.injEq, exists_eq_left', exists_eq_left, exists_and_left, V.bl.injEq, V.int.injEq, V.str.injEq, V.ref.injEq, Bool.not_eq_true, Bool.not_true, Bool.not_false, decide_true, decide_false, decide_eq_true_eq, decide_eq_false_iff_not, Bool.false_eq_true, if_true, if_false, ite_true, ite_false, reduceCtorEq, true_and, and_true, Nat.reduceAdd, Nat.reduceLT, Nat.zero_add, ne_eq, not_false_eq_true, not_true_eq_false, List.cons.injEq, and_assoc, *])
theorem tup_ty' {H : Hp} {p : Addr} {xs : List V} (h : asT (H p) = some xs) : tyN (.ref p) H = some "tuple" := tup_ty h
def isSeqV (v : V) (H : Hp) : Bool := match v with
  | .ref p => (asS (H p)).isSome
  | _ => false
def tupN (k : Int) (v : V) (H : Hp) : Bool := match v with
  | .ref p => (match asT (H p) with
    | some xs => decide ((xs.length : Int) = k)
    | none => false)
  | _ => false
def IsPairs (H : Hp) (v : V) (ps : List (Str × Str)) : Prop := ∃ p xs, v = .ref p ∧ asS (H p) = some xs ∧ xs.length = ps.length ∧ ∀ (i : Nat) (x : V) (pr : Str × Str), xs[i]? = some x → ps[i]? = some pr → ∃ q, x = .ref q ∧ asT (H q) = some [.str pr.1, .str pr.2]
/-- what a value that may be a table is like -/
def Tab (H : Hp) (v : V) : Prop := Ty v H ∧ ∀ p xs, v = .ref p → asS (H p) = some xs → xs.length ≤ 1000 ∧ ∀ x ∈ xs, Ty x H ∧ ∀ q ys, x = .ref q → asT (H q) = some ys → ys.length ≤ 1000 ∧ ∀ y ∈ ys, Tz y H
theorem Tz.mono {v : V} {H H' : Hp} (h : Tz v H) (s : Sm H H') : Tz v H' := ⟨h.1.mono s, h.2⟩
theorem back_S {H H' : Hp} {v : V} {p : Addr} {xs : List V} (s : Sm H H') (h : Ty v H) (e : v = .ref p) (hx : asS (H' p) = some xs) : asS (H p) = some xs := by
  subst e
  obtain ⟨t, h⟩ := h
  dsimp only [tyN] at h
  cases eo : H p with
  | none => rw [eo] at h; cases h
  | some o => rw [s p o eo] at hx; exact hx
theorem back_T {H H' : Hp} {v : V} {p : Addr} {xs : List V} (s : Sm H H') (h : Ty v H) (e : v = .ref p) (hx : asT (H' p) = some xs) : asT (H p) = some xs := by
  subst e
  obtain ⟨t, h⟩ := h
  dsimp only [tyN] at h
  cases eo : H p with
  | none => rw [eo] at h; cases h
  | some o => rw [s p o eo] at hx; exact hx
theorem Tab.mono {v : V} {H H' : Hp} (h : Tab H v) (s : Sm H H') : Tab H' v := ⟨h.1.mono s, fun p xs e hx => by
  obtain ⟨l, k⟩ := h.2 p xs e (back_S s h.1 e hx)
  refine ⟨l, fun x hm => ?_⟩
  obtain ⟨ty, k⟩ := k x hm
  refine ⟨ty.mono s, fun q ys e hy => ?_⟩
  obtain ⟨l2, k2⟩ := k q ys e (back_T s ty e hy)
  exact ⟨l2, fun y hm => (k2 y hm).mono s⟩⟩
theorem IsPairs.mono {v : V} {H H' : Hp} {ps : List (Str × Str)} (h : IsPairs H v ps) (s : Sm H H') : IsPairs H' v ps := by
  obtain ⟨p, xs, e, hx, l, k⟩ := h
  refine ⟨p, xs, e, sm_S s hx, l, fun i x pr h1 h2 => ?_⟩
  obtain ⟨q, e, hq⟩ := k i x pr h1 h2
  exact ⟨q, e, sm_T s hq⟩
theorem IsPairs.unique {v : V} {H : Hp} {ps qs : List (Str × Str)} (h : IsPairs H v ps) (k : IsPairs H v qs) : ps = qs := by
  obtain ⟨p, xs, e, hx, l, a⟩ := h
  obtain ⟨p', xs', e', hx', l', a'⟩ := k
  rw [e] at e'
  cases e'
  rw [hx] at hx'
  cases hx'
  apply List.ext_getElem?
  intro i
  by_cases c : i < xs.length
  · have h1 : xs[i]? = some xs[i] := by simp [c]
    have h2 : ps[i]? = some (ps[i]'(by omega)) := List.getElem?_eq_getElem _
    have h3 : qs[i]? = some (qs[i]'(by omega)) := List.getElem?_eq_getElem _
    obtain ⟨q, e1, hq⟩ := a i _ _ h1 h2
    obtain ⟨q', e2, hq'⟩ := a' i _ _ h1 h3
    rw [e1] at e2
    cases e2
    rw [hq] at hq'
    injection hq' with hq'
    injection hq' with z1 z2
    injection z2 with z2 _
    injection z1 with z1
    injection z2 with z2
    rw [h2, h3]
    congr 1
    exact Prod.ext z1 z2
  · rw [List.getElem?_eq_none_iff.mpr (by omega), List.getElem?_eq_none_iff.mpr (by omega)]
section
variable {K : PySem.W.Frag} {σ : L2.St} {H : Hp} {Q : VK} {n m : Nat}
/-- a list made over a list or tuple -/
theorem seq_made {p : Addr} {xs : List V} {te : TE} {vs : List Nat} {R : Addr → Hp → Prop} (f : V → V) (hσ : σ[n]? = some (some (.ref p))) (hp : asS (H p) = some xs) (hz : xs.length < sizeLine) (hw : ∀ x, wipe ((wipe σ vs).set m (some x)) vs = wipe σ vs)
    (he : ∀ (i : Nat) (x : V) (H' : Hp) (Q : VK), xs[i]? = some x → Sm H H' → (∀ H2, Sm H' H2 → Q (f x) H2) → te ((wipe σ vs).set m (some x)) H' Q) (hd : ∀ D H', H D = none → Sm H H' → H' D = some (.lst (xs.map f)) → R D H') :
    iSeq K n σ H fun J H1 => ∀ D, H1 D = none → Made J (gName m) tYes te vs σ D H1 (R D) := by
  rcases asS_or hp with e | e
  · refine .inl ?_
    rw [u_list]
    exact ⟨_, hσ, p, rfl, ⟨xs, asL_seq e⟩, fun D hD => made_map f e hD hz hw he fun H' s h => hd D H' hD s h⟩
  · refine .inr ?_
    rw [u_tupI]
    exact ⟨_, hσ, p, rfl, ⟨xs, asT_seq e⟩, fun D hD => made_mapT f e hD hz hw he fun H' s h => hd D H' hD s h⟩
/-- .. of pairs -/
theorem made_pairL {a b Dd : Addr} {i1 i2 : Nat} {xs : List V} {ps : List (Str × Str)} {te : TE} {vs : List Nat} {Qd : Hp → Prop} (f : Str × Str → V) (hl : asL (H a) = some xs) (hx : xs.length = ps.length)
    (hq : ∀ (i : Nat) (x : V) (pr : Str × Str), xs[i]? = some x → ps[i]? = some pr → ∃ q, x = .ref q ∧ asT (H q) = some [.str pr.1, .str pr.2]) (hD : H Dd = none) (hz : xs.length < sizeLine) (hw : ∀ x y, wipe (((wipe σ vs).set i1 (some x)).set i2 (some y)) vs = wipe σ vs)
    (he : ∀ (i : Nat) (pr : Str × Str) (H' : Hp) (Q : VK), ps[i]? = some pr → Sm H H' → (∀ H2, Sm H' H2 → Q (f pr) H2) → te (((wipe σ vs).set i1 (some (.str pr.1))).set i2 (some (.str pr.2))) H' Q)
    (hd : ∀ H', Sm H H' → H' Dd = some (.lst (ps.map f)) → Qd H') : Made (Itl K a) (gTupF 2 (gCons (gName i1) (gCons (gName i2) gNil))) tYes te vs σ Dd H Qd := by
  refine made_list (fun i H' => Sm H H' ∧ H' Dd = some (.lst ((ps.take i).map f))) ⟨sm_new (fun _ _ h => h) hD, upd_same⟩ (fun i H' _ p => sm_L p.1 hl) (fun i x H' hxi p => ?_) fun H' p => hd H' p.1 (by rw [← List.take_length (l := ps), ← hx]; exact p.2)
  have hi := (List.getElem?_eq_some_iff.mp hxi).1
  have hpi : ps[i]? = some (ps[i]'(by omega)) := List.getElem?_eq_getElem _
  obtain ⟨q, rfl, hq⟩ := hq i x _ hxi hpi
  rw [u_gtup, sm_T p.1 hq]
  refine ⟨rfl, _, _, rfl, _, _, rfl, rfl, hw _ _, ?_⟩
  refine iteT (B := Sm H H' ∧ H' Dd = some (.lst ((ps.take (i + 1)).map f))) ?_
  refine he i _ H' _ hpi p.1 fun H2 s2 => ⟨(ps.take i).map f, s2 _ _ p.2, ?_, ?_, ?_⟩
  · rw [List.length_map, List.length_take]; omega
  · exact sm_put (fun b o z => s2 b o (p.1 b o z)) hD
  · rw [upd_same, take_map_succ hpi]
theorem made_pairT {a Dd : Addr} {i1 i2 : Nat} {xs : List V} {ps : List (Str × Str)} {te : TE} {vs : List Nat} {Qd : Hp → Prop} (f : Str × Str → V) (hl : asT (H a) = some xs) (hx : xs.length = ps.length)
    (hq : ∀ (i : Nat) (x : V) (pr : Str × Str), xs[i]? = some x → ps[i]? = some pr → ∃ q, x = .ref q ∧ asT (H q) = some [.str pr.1, .str pr.2]) (hD : H Dd = none) (hz : xs.length < sizeLine) (hw : ∀ x y, wipe (((wipe σ vs).set i1 (some x)).set i2 (some y)) vs = wipe σ vs)
    (he : ∀ (i : Nat) (pr : Str × Str) (H' : Hp) (Q : VK), ps[i]? = some pr → Sm H H' → (∀ H2, Sm H' H2 → Q (f pr) H2) → te (((wipe σ vs).set i1 (some (.str pr.1))).set i2 (some (.str pr.2))) H' Q)
    (hd : ∀ H', Sm H H' → H' Dd = some (.lst (ps.map f)) → Qd H') : Made (Itt K a) (gTupF 2 (gCons (gName i1) (gCons (gName i2) gNil))) tYes te vs σ Dd H Qd := by
  refine lc_tup (K := K) (fun i H' => Sm H H' ∧ H' Dd = some (.lst ((ps.take i).map f))) ⟨sm_new (fun _ _ h => h) hD, upd_same⟩ (fun i H' _ p => asT_seq (sm_T p.1 hl)) (fun i x H' hxi p => ?_) fun H' p => hd H' p.1 (by rw [← List.take_length (l := ps), ← hx]; exact p.2)
  have hi := (List.getElem?_eq_some_iff.mp hxi).1
  have hpi : ps[i]? = some (ps[i]'(by omega)) := List.getElem?_eq_getElem _
  obtain ⟨q, rfl, hq⟩ := hq i x _ hxi hpi
  rw [u_gtup, sm_T p.1 hq]
  refine ⟨rfl, _, _, rfl, _, _, rfl, rfl, hw _ _, ?_⟩
  refine iteT (B := Sm H H' ∧ H' Dd = some (.lst ((ps.take (i + 1)).map f))) ?_
  refine he i _ H' _ hpi p.1 fun H2 s2 => ⟨(ps.take i).map f, s2 _ _ p.2, ?_, ?_, ?_⟩
  · rw [List.length_map, List.length_take]; omega
  · exact sm_put (fun b o z => s2 b o (p.1 b o z)) hD
  · rw [upd_same, take_map_succ hpi]
theorem seq_pairs {i1 i2 : Nat} {v : V} {ps : List (Str × Str)} {te : TE} {vs : List Nat} {R : Addr → Hp → Prop} (f : Str × Str → V) (hσ : σ[n]? = some (some v)) (hv : IsPairs H v ps) (hz : ps.length ≤ 1000) (hw : ∀ x y, wipe (((wipe σ vs).set i1 (some x)).set i2 (some y)) vs = wipe σ vs)
    (he : ∀ (i : Nat) (pr : Str × Str) (H' : Hp) (Q : VK), ps[i]? = some pr → Sm H H' → (∀ H2, Sm H' H2 → Q (f pr) H2) → te (((wipe σ vs).set i1 (some (.str pr.1))).set i2 (some (.str pr.2))) H' Q)
    (hd : ∀ D H', H D = none → Sm H H' → H' D = some (.lst (ps.map f)) → R D H') :
    iSeq K n σ H fun J H1 => ∀ D, H1 D = none → Made J (gTupF 2 (gCons (gName i1) (gCons (gName i2) gNil))) tYes te vs σ D H1 (R D) := by
  obtain ⟨p, xs, rfl, hp, hx, hq⟩ := hv
  have hz2 : xs.length < 2 ^ 24 := by omega
  rcases asS_or hp with e | e
  · refine .inl ?_
    rw [u_list]
    exact ⟨_, hσ, p, rfl, ⟨xs, asL_seq e⟩, fun D hD => made_pairL (b := p) f e hx hq hD hz2 hw he fun H' s h => hd D H' hD s h⟩
  · refine .inr ?_
    rw [u_tupI]
    exact ⟨_, hσ, p, rfl, ⟨xs, asT_seq e⟩, fun D hD => made_pairT f e hx hq hD hz2 hw he fun H' s h => hd D H' hD s h⟩
end
def sp_is_series (K : PySem.W.Frag) (C : CA) : Sp := fun vs H Q _ => ∃ v, vs = [v] ∧ Ty v H ∧ ∀ H', Sm H H' → Q (.bl (isSeqV v H)) H'
def rd_is_series (K : PySem.W.Frag) (C : CA) (E : XK) : TS :=
  (tRet (tCB fIsiT (tCons (tVar 0) (tCons (tTup (tCons (tC (.ty "list")) (tCons (tC (.ty "tuple")) tNil))) tNil))))
theorem pure_is_series {K : PySem.W.Frag} {C : CA} (vs : List V) (H : Hp) (Q : VK) (E : XK) (h : sp_is_series K C vs H Q E) : rd_is_series K C E { nx := fun _ H' => Q .non H', rt := Q } (start [("value" : Str)] vs) H := by
  obtain ⟨v, rfl, ty, q⟩ := h
  show rd_is_series K C E _ [some v] H
  unfold rd_is_series
  refine q_ret ?_
  walk_at "s"
  refine ⟨by decide, fun tp ht => al ht fun H1 s1 h1 => ?_⟩
  try simp only [h1]
  have q1 := q H1 s1
  rcases ty_cases ty with rfl | ⟨b, rfl⟩ | ⟨i, rfl⟩ | ⟨z, rfl⟩ | ⟨p, rfl, ⟨e, xs, hx⟩ | ⟨e, xs, hx, _⟩ | ⟨e, hx⟩⟩
  · walk_at "s"; exact q1
  · walk_at "s"; exact q1
  · walk_at "s"; exact q1
  · walk_at "s"; exact q1
  · rw [tyN_mono s1 e]
    walk_at "s"
    have e2 : isSeqV (.ref p) H = true := by show (asS (H p)).isSome = true; rw [asS_of_L hx]; rfl
    rw [e2] at q1
    exact q1
  · rw [tyN_mono s1 e]
    walk_at "s"
    have e2 : isSeqV (.ref p) H = true := by show (asS (H p)).isSome = true; rw [asS_of_T hx]; rfl
    rw [e2] at q1
    exact q1
  · rw [tyN_mono s1 e]
    walk_at "s"
    have e2 : isSeqV (.ref p) H = false := by show (asS (H p)).isSome = false; rw [hx]; rfl
    rw [e2] at q1
    exact q1
def sp_is_tuple_of (K : PySem.W.Frag) (C : CA) : Sp := fun vs H Q _ => ∃ v k, vs = [v, .int k] ∧ Ty v H ∧ Q (.bl (tupN k v H)) H
def rd_is_tuple_of (K : PySem.W.Frag) (C : CA) (E : XK) : TS :=
  (tRet (tAndV (tCB fIsi (tCons (tVar 0) (tCons (tC (.ty "tuple")) tNil))) (tOp (fEq K) (tCB fLen (tCons (tVar 0) tNil)) (tVar 1))))
theorem pure_is_tuple_of {K : PySem.W.Frag} {C : CA} (vs : List V) (H : Hp) (Q : VK) (E : XK) (h : sp_is_tuple_of K C vs H Q E) : rd_is_tuple_of K C E { nx := fun _ H' => Q .non H', rt := Q } (start [("value" : Str), ("parts" : Str)] vs) H := by
  obtain ⟨v, k, rfl, ty, q⟩ := h
  show rd_is_tuple_of K C E _ [some v, some (.int k)] H
  unfold rd_is_tuple_of
  refine q_ret ?_
  rcases ty_cases ty with rfl | ⟨b, rfl⟩ | ⟨i, rfl⟩ | ⟨z, rfl⟩ | ⟨p, rfl, ⟨e, xs, hx⟩ | ⟨e, xs, hx, _⟩ | ⟨e, hx⟩⟩
  · walk_at "s"; exact q
  · walk_at "s"; exact q
  · walk_at "s"; exact q
  · walk_at "s"; exact q
  · walk_at "s"
    rw [e]
    walk_at "s"
    have e2 : tupN k (.ref p) H = false := by
      unfold tupN
      dsimp only
      cases c : asT (H p) with
      | none => rfl
      | some ys => rw [tup_ty c] at e; exact absurd (Option.some.inj e) (by decide)
    rw [e2] at q
    exact q
  · walk_at "s"
    rw [e]
    walk_at "s"
    rw [asS_of_T hx]
    walk_at "s"
    unfold tupN at q
    dsimp only at q
    rw [hx] at q
    exact q
  · walk_at "s"
    rw [e]
    walk_at "s"
    have e2 : tupN k (.ref p) H = false := by
      unfold tupN
      dsimp only
      cases c : asT (H p) with
      | none => rfl
      | some ys => rw [asS_of_T c] at hx; cases hx
    rw [e2] at q
    exact q
def sp_are_names (K : PySem.W.Frag) (C : CA) : Sp := fun vs H Q _ => ∃ p xs, vs = [.ref p] ∧ asT (H p) = some xs ∧ xs.length ≤ 1000 ∧ (∀ x ∈ xs, Tz x H) ∧ ∀ H', Sm H H' → Q (.bl (xs.all nameV)) H'
def rd_are_names (K : PySem.W.Frag) (C : CA) (E : XK) : TS :=
  (tRet (tCB fAll (tCons (tLc (iTup K (tVar 0)) (gName 1) tYes (tCallS (sp_is_name K C) (fun _ => E0) (tCons (tVar 1) tNil)) [1]) tNil)))
theorem pure_are_names {K : PySem.W.Frag} {C : CA} (vs : List V) (H : Hp) (Q : VK) (E : XK) (h : sp_are_names K C vs H Q E) : rd_are_names K C E { nx := fun _ H' => Q .non H', rt := Q } (start [("values" : Str), ("value" : Str)] vs) H := by
  obtain ⟨p, xs, rfl, hp, hl, hx, q⟩ := h
  show rd_are_names K C E _ [some (.ref p), none] H
  unfold rd_are_names
  refine q_ret ?_
  walk_at "s"
  rw [u_tupI]
  walk_at "s"
  refine ⟨⟨_, asT_seq hp⟩, fun Dd hD => ?_⟩
  refine made_mapT (fun x => .bl (nameV x)) hp hD (by show _ < 2 ^ 24; omega) (fun _ => rfl) (fun i x H1 Q1 hxi s1 q1 => ?_) fun H1 s1 h1 => ?_
  · walk_at "s"
    exact ⟨x, rfl, (hx x (List.mem_of_getElem? hxi)).mono s1, q1⟩
  · rw [h1]
    walk_at "s"
    refine ⟨xs.map nameV, by rw [List.map_map]; rfl, ?_⟩
    have e := q H1 s1
    rw [List.all_map]
    exact e
/-- a pair of names -/
def pairB (H : Hp) (x : V) : Bool := match x with
  | .ref q => (match asT (H q) with
    | some [a, b] => nameV a && nameV b
    | _ => false)
  | _ => false
theorem nameV_str {a : V} (h : nameV a = true) : ∃ z, a = .str z ∧ nameS z = true := by
  cases a with
  | str z => exact ⟨z, rfl, h⟩
  | _ => cases h
theorem pairs_iff {H : Hp} {p : Addr} {xs : List V} (hp : asS (H p) = some xs) : xs.all (pairB H) = true ↔ ∃ ps, IsPairs H (.ref p) ps ∧ ∀ pr ∈ ps, nameS pr.1 = true ∧ nameS pr.2 = true := by
  constructor
  · intro h
    have e : ∃ ps : List (Str × Str), xs.length = ps.length ∧ (∀ (i : Nat) (x : V) (pr : Str × Str), xs[i]? = some x → ps[i]? = some pr → ∃ q, x = .ref q ∧ asT (H q) = some [.str pr.1, .str pr.2]) ∧ ∀ pr ∈ ps, nameS pr.1 = true ∧ nameS pr.2 = true := by
      clear hp
      induction xs with
      | nil => exact ⟨[], rfl, by simp, by simp⟩
      | cons x xs ih =>
        rw [List.all_cons, Bool.and_eq_true] at h
        obtain ⟨ps, l, k, n⟩ := ih h.2
        have hx := h.1
        unfold pairB at hx
        split at hx
        · rename_i q
          split at hx
          · rename_i a b e
            rw [Bool.and_eq_true] at hx
            obtain ⟨z, rfl, hz⟩ := nameV_str hx.1
            obtain ⟨w, rfl, hw⟩ := nameV_str hx.2
            refine ⟨(z, w) :: ps, by simp [l], fun i y pr hy hr => ?_, fun pr hm => ?_⟩
            · cases i with
              | zero => cases hy; cases hr; exact ⟨q, rfl, e⟩
              | succ i => exact k i y pr (by simpa using hy) (by simpa using hr)
            · rcases List.mem_cons.1 hm with rfl | hm
              · exact ⟨hz, hw⟩
              · exact n pr hm
          · cases hx
        · cases hx
    obtain ⟨ps, l, k, n⟩ := e
    exact ⟨ps, ⟨p, xs, rfl, hp, l, k⟩, n⟩
  · rintro ⟨ps, ⟨p', xs', e, hp', l, k⟩, n⟩
    cases e
    rw [hp] at hp'
    cases hp'
    rw [List.all_eq_true]
    intro x hx
    obtain ⟨i, hi, rfl⟩ := List.mem_iff_getElem.1 hx
    have hr : ps[i]? = some (ps[i]'(by omega)) := List.getElem?_eq_getElem _
    obtain ⟨q, e, hq⟩ := k i xs[i] _ (by simp [hi]) hr
    have := n _ (List.mem_of_getElem? hr)
    unfold pairB
    rw [e]
    dsimp only
    rw [hq]
    show (nameS _ && nameS _) = true
    rw [this.1, this.2]
    rfl
def sp_are_name_pairs (K : PySem.W.Frag) (C : CA) : Sp := fun vs H Q _ => ∃ v, vs = [v] ∧ Tab H v ∧ ∀ (b : Bool) (H' : Hp), Sm H H' → (b = true ↔ ∃ ps, IsPairs H v ps ∧ ∀ pr ∈ ps, nameS pr.1 = true ∧ nameS pr.2 = true) → Q (.bl b) H'
def rd_are_name_pairs (K : PySem.W.Frag) (C : CA) (E : XK) : TS :=
  (tRet (tAndV (tCallS (sp_is_series K C) (fun _ => E0) (tCons (tVar 0) tNil)) (tCB fAll (tCons (tLc (iSeq K 0) (gName 1) tYes (tAndV (tCallS (sp_is_tuple_of K C) (fun _ => E0) (tCons (tVar 1) (tCons (tC (.int 2)) tNil))) (tCallS (sp_are_names K C) (fun _ => E0) (tCons (tVar 1) tNil))) [1]) tNil))))
theorem pure_are_name_pairs {K : PySem.W.Frag} {C : CA} (vs : List V) (H : Hp) (Q : VK) (E : XK) (h : sp_are_name_pairs K C vs H Q E) : rd_are_name_pairs K C E { nx := fun _ H' => Q .non H', rt := Q } (start [("value" : Str), ("pair" : Str)] vs) H := by
  obtain ⟨v, rfl, tb, q⟩ := h
  show rd_are_name_pairs K C E _ [some v, none] H
  unfold rd_are_name_pairs
  refine q_ret ?_
  walk_at "s"
  refine ⟨v, rfl, tb.1, fun H1 s1 => ?_⟩
  walk_at "s"
  by_cases c : isSeqV v H = true
  · rw [c]
    simp only [if_true]
    obtain ⟨p, xs, rfl, hp⟩ : ∃ p xs, v = .ref p ∧ asS (H p) = some xs := by
      unfold isSeqV at c
      split at c
      · rename_i p
        cases e : asS (H p) with
        | none => rw [e] at c; cases c
        | some xs => exact ⟨p, xs, rfl, e⟩
      · cases c
    obtain ⟨hl, hx⟩ := tb.2 p xs rfl hp
    refine seq_made (fun x => .bl (pairB H x)) rfl (sm_S s1 hp) (by show _ < 2 ^ 24; omega) (fun _ => rfl) (fun i x H2 Q2 hxi s2 q2 => ?_) fun D H2 hD s2 h2 => ?_
    · have s02 := sm_trans s1 s2
      obtain ⟨tx, kx⟩ := hx x (List.mem_of_getElem? hxi)
      walk_at "s"
      refine ⟨x, 2, rfl, tx.mono s02, ?_⟩
      walk_at "s"
      have q20 := q2 H2 fun _ _ z => z
      by_cases c2 : tupN 2 x H2 = true
      · rw [c2]
        simp only [if_true]
        obtain ⟨r, ys, rfl, hr2⟩ : ∃ r ys, x = .ref r ∧ asT (H2 r) = some ys := by
          unfold tupN at c2
          split at c2
          · rename_i r
            split at c2
            · rename_i ys e
              exact ⟨r, ys, rfl, e⟩
            · cases c2
          · cases c2
        have hr := back_T s02 tx rfl hr2
        obtain ⟨ly, ky⟩ := kx r ys rfl hr
        refine ⟨r, ys, rfl, hr2, ly, fun y hy => (ky y hy).mono s02, fun H3 s3 => ?_⟩
        have e : pairB H (.ref r) = ys.all nameV := by
          have lc : (ys.length : Int) = 2 := by
            unfold tupN at c2
            dsimp only at c2
            rw [hr2] at c2
            exact of_decide_eq_true c2
          match ys, lc, hr with
          | [y1, y2], _, hr =>
            unfold pairB
            dsimp only
            rw [hr]
            simp
        have := q2 H3 s3
        rw [e] at this
        exact this
      · have c2 : tupN 2 x H2 = false := by simpa using c2
        rw [c2]
        simp only [Bool.false_eq_true, if_false]
        have e : pairB H x = false := by
          unfold pairB
          split
          · rename_i r
            split
            · rename_i y1 y2 e
              unfold tupN at c2
              dsimp only at c2
              rw [sm_T s02 e] at c2
              exact absurd c2 (by simp)
            · rfl
          · rfl
        rw [e] at q20
        exact q20
    · rw [h2]
      walk_at "s"
      refine ⟨xs.map (pairB H), by rw [List.map_map]; rfl, ?_⟩
      refine q _ H2 (sm_trans s1 s2) ?_
      rw [List.all_map]
      exact pairs_iff hp
  · have c : isSeqV v H = false := by simpa using c
    rw [c]
    simp only [Bool.false_eq_true, if_false]
    refine q false H1 s1 ⟨fun z => (by cases z), fun z => ?_⟩
    obtain ⟨ps, ⟨p, xs, rfl, hp, _⟩, _⟩ := z
    have e : isSeqV (.ref p) H = true := by show (asS (H p)).isSome = true; rw [hp]; rfl
    rw [e] at c
    cases c
end XB

/-! Circuits. -/
namespace XB
open PySem L2
local macro_rules | `(tactic| walk_at "s") => `(tactic| try simp only [u_var, u_c, u_op, u_un, u_nil, u_cons, u_cb, u_call, u_callS, u_tup, u_lst, u_test, u_B, u_and, u_or, u_not, u_andV, u_orV, u_notV, u_ifE, u_chain, u_sl, u_noPart, u_part, u_bm, u_bm0, u_rev, u_lc, u_try, u_sui, u_sui0, u_unb_rt, u_unb_nx, u_xf, u_WE, w_nil, w_cons, u_raise, u_rng1, u_rng2, u_next, u_ret, u_gname, u_gnil, u_gcons, u_gsub, u_gtup,
  f_add, f_addS, f_addR, f_sub, f_mul, f_mulR, f_mod, f_div, f_pow, f_neg, f_cmp, f_eq, f_eqB, f_eqS, f_ne, f_neB, f_neS, f_isN, f_notN, f_isB, f_ix, f_ixS, f_int, f_intB, f_len, f_lenS, f_max, f_min, f_abs, f_list, f_tuple, f_all, f_sum, f_isi, f_isiT, f_append, f_insert, f_pop, f_sl, f_set,
  kitS, tys, List.isEmpty_cons, Option.map_some, kt_NoneType_int, kt_NoneType_bool, kt_NoneType_str, kt_NoneType_list, kt_NoneType_tuple, kt_NoneType_dict, kt_int_int, kt_int_bool, kt_int_str, kt_int_list, kt_int_tuple, kt_int_dict, kt_bool_int, kt_bool_bool, kt_bool_str, kt_bool_list, kt_bool_tuple, kt_bool_dict, kt_str_int, kt_str_bool, kt_str_str, kt_str_list, kt_str_tuple, kt_str_dict, kt_list_int, kt_list_bool, kt_list_str, kt_list_list, kt_list_tuple, kt_list_dict, kt_tuple_int, kt_tuple_bool, kt_tuple_str, kt_tuple_list, kt_tuple_tuple, kt_tuple_dict, kt_dict_int, kt_dict_bool, kt_dict_str, kt_dict_list, kt_dict_tuple, kt_dict_dict, asL_lst, asL_frz, asL_tup, asT_tup, asS_lst, asS_frz, asS_tup, tyN_non, tyN_bl, tyN_int, tyN_str, atV_lit, ixN_lit, upd_same, upd_ne, upd_ne',
  List.getElem?_cons_zero, List.getElem?_cons_succ, List.set_cons_zero, List.set_cons_succ, List.append_nil, List.length_cons, List.length_nil, Option.some.injEq, exists_eq_left', exists_eq_left, exists_and_left, V.bl.injEq, V.int.injEq, V.str.injEq, V.ref.injEq, Bool.not_eq_true, Bool.not_true, Bool.not_false, decide_true, decide_false, decide_eq_true_eq, decide_eq_false_iff_not, Bool.false_eq_true, if_true, if_false, ite_true, ite_false, reduceCtorEq, true_and, and_true, Nat.reduceAdd, Nat.reduceLT, Nat.zero_add, ne_eq, not_false_eq_true, not_true_eq_false, List.cons.injEq, and_assoc])
local macro_rules | `(tactic| walk_at "S") => `(tactic| try simp only [u_var, u_c, u_op, u_un, u_nil, u_cons, u_cb, u_call, u_callS, u_tup, u_lst, u_test, u_B, u_and, u_or, u_not, u_andV, u_orV, u_notV, u_ifE, u_chain, u_sl, u_noPart, u_part, u_bm, u_bm0, u_rev, u_lc, u_try, u_sui, u_sui0, u_unb_rt, u_unb_nx, u_xf, u_WE, w_nil, w_cons, u_raise, u_rng1, u_rng2, u_next, u_ret, u_gname, u_gnil, u_gcons, u_gsub, u_gtup,
  f_add, f_addS, f_addR, f_sub, f_mul, f_mulR, f_mod, f_div, f_pow, f_neg, f_cmp, f_eq, f_eqB, f_eqS, f_ne, f_neB, f_neS, f_isN, f_notN, f_isB, f_ix, f_ixS, f_int, f_intB, f_len, f_lenS, f_max, f_min, f_abs, f_list, f_tuple, f_all, f_sum, f_isi, f_isiT, f_append, f_insert, f_pop, f_sl, f_set,
  kitS, tys, List.isEmpty_cons, Option.map_some, kt_NoneType_int, kt_NoneType_bool, kt_NoneType_str, kt_NoneType_list, kt_NoneType_tuple, kt_NoneType_dict, kt_int_int, kt_int_bool, kt_int_str, kt_int_list, kt_int_tuple, kt_int_dict, kt_bool_int, kt_bool_bool, kt_bool_str, kt_bool_list, kt_bool_tuple, kt_bool_dict, kt_str_int, kt_str_bool, kt_str_str, kt_str_list, kt_str_tuple, kt_str_dict, kt_list_int, kt_list_bool, kt_list_str, kt_list_list, kt_list_tuple, kt_list_dict, kt_tuple_int, kt_tuple_bool, kt_tuple_str, kt_tuple_list, kt_tuple_tuple, kt_tuple_dict, kt_dict_int, kt_dict_bool, kt_dict_str, kt_dict_list, kt_dict_tuple, kt_dict_dict, asL_lst, asL_frz, asL_tup, asT_tup, asS_lst, asS_frz, asS_tup, tyN_non, tyN_bl, tyN_int, tyN_str, atV_lit, ixN_lit, upd_same, upd_ne, upd_ne',
  List.getElem?_cons_zero, List.getElem?_cons_succ, List.set_cons_zero, List.set_cons_succ, List.append_nil, List.length_cons, List.length_nil, Option.some.injEq, exists_eq_left', exists_eq_left, exists_and_left, V.bl.injEq, V.int.injEq, V.str.injEq, V.ref.injEq, Bool.not_eq_true, Bool.not_true, Bool.not_false, decide_true, decide_false, decide_eq_true_eq, decide_eq_false_iff_not, Bool.false_eq_true, if_true, if_false, ite_true, ite_false, reduceCtorEq, true_and, and_true, Nat.reduceAdd, Nat.reduceLT, Nat.zero_add, ne_eq, not_false_eq_true, not_true_eq_false, List.cons.injEq, and_assoc, *])
section
variable {K : PySem.W.Frag} {σ : L2.St} {H : Hp} {Q : VK} {n : Nat}
theorem u_dget {td ty : TE} : tDGet td ty σ H Q = td σ H fun x H1 => ty σ H1 fun y H2 => ∃ a v, x = .ref a ∧ DGet H2 a y (some v) ∧ Q v H2 := rfl
theorem u_dnotin {td ty : TE} : tDNotIn ty td σ H Q = ty σ H fun y H1 => td σ H1 fun x H2 => ∃ a o, x = .ref a ∧ DGet H2 a y o ∧ Q (.bl (!o.isSome)) H2 := rfl
theorem u_dput {td ty tv : TE} {D : Ends} : sDPut td ty tv D σ H = tv σ H fun v H1 => td σ H1 fun x H2 => ty σ H2 fun y H3 => ∃ a H4, x = .ref a ∧ DPut H3 a y v H4 ∧ D.nx σ H4 := rfl
/-- a dict made, by what is walked -/
theorem dcW {J : It} {xs : List V} {g : TG} {tt : TT} {tk tv : TE} {vs : List Nat} {D : Addr} {Qd : Hp → Prop} (Pv : Nat → Hp → Prop) (h0 : Pv 0 (upd H D (.dK []))) (hgo : ∀ i H', i < xs.length → Pv i H' → J.go i H' ∧ ∀ x H2, J.yld i H' x H2 → H2 = H' ∧ xs[i]? = some x)
    (hstop : ∀ H', Pv xs.length H' → J.stop xs.length H')
    (hs : ∀ i x H, xs[i]? = some x → Pv i H → g x (wipe σ vs) H fun σ2 H2 => wipe σ2 vs = wipe σ vs ∧ tt σ2 H2 fun b H3 =>
      if b = true then tk σ2 H3 fun y H4 => tv σ2 H4 fun z H5 => ∃ kvs k, y = kV k ∧ H5 D = some (.dK kvs) ∧ kvs.length < sizeLine ∧ Pv (i + 1) (upd H5 D (.dK (putK kvs k z))) else Pv (i + 1) H3) (hd : ∀ H', Pv xs.length H' → Qd H') :
    ∃ W : Nat → Nat → Hp → Prop, (∃ m, W 0 m (upd H D (.dK []))) ∧ ∀ i m H, W i m H →
      (J.stop i H ∧ Qd H) ∨ (J.go i H ∧ ∃ Nx : Hp → Prop, (∀ H', Nx H' → ∃ m', m' < m ∧ W (i + 1) m' H') ∧ ∀ x H', J.yld i H x H' → g x (wipe σ vs) H' fun σ2 H2 => wipe σ2 vs = wipe σ vs ∧ tt σ2 H2 fun b H3 =>
        if b = true then tk σ2 H3 fun y H4 => tv σ2 H4 fun z H5 => ∃ kvs k, y = kV k ∧ H5 D = some (.dK kvs) ∧ kvs.length < sizeLine ∧ Nx (upd H5 D (.dK (putK kvs k z))) else Nx H3) := by
  refine ⟨fun i m H => m = xs.length - i ∧ i ≤ xs.length ∧ Pv i H, ⟨xs.length, rfl, Nat.zero_le _, h0⟩, ?_⟩
  rintro i m H' ⟨rfl, hi, p⟩
  by_cases c : i < xs.length
  · obtain ⟨k1, k2⟩ := hgo i H' c p
    refine .inr ⟨k1, Pv (i + 1), fun H2 p2 => ⟨xs.length - (i + 1), by omega, rfl, c, p2⟩, fun x H2 y => ?_⟩
    obtain ⟨rfl, hx⟩ := k2 x H2 y
    exact hs i x H2 hx p
  · have e : i = xs.length := by omega
    subst e
    exact .inl ⟨hstop H' p, hd H' p⟩
end
def look (ps : List (Str × Str)) (x : Str) : Str := ((ps.find? fun p => decide (p.1 = x)).map (·.2)).getD x
def firsts (ps : List (Str × Str)) : List Str := ps.map (·.1)
def kvsOf (ps : List (Str × Str)) : List (Key × V) := ps.map fun p => (Sum.inr p.1, V.str p.2)
structure TabP (ps : List (Str × Str)) : Prop where
  le : ps.length ≤ 12
  nm : ∀ pr ∈ ps, nameS pr.1 = true ∧ nameS pr.2 = true
  nd : (firsts ps).Nodup
  pm : (firsts ps).Perm (ps.map (·.2))
theorem look_at : ∀ {ps : List (Str × Str)} {a b : Str}, (firsts ps).Nodup → (a, b) ∈ ps → look ps a = b
  | [], _, _, _, h => by cases h
  | p :: ps, a, b, nd, h => by
    have nd' := List.nodup_cons.1 nd
    unfold look
    rw [List.find?_cons]
    rcases List.mem_cons.1 h with rfl | h
    · simp
    · have ne : ¬ p.1 = a := fun e => by
        have m : a ∈ firsts ps := List.mem_map.2 ⟨(a, b), h, rfl⟩
        rw [← e] at m
        exact nd'.1 m
      rw [decide_eq_false ne]
      exact look_at nd'.2 h
theorem look_mem {ps : List (Str × Str)} {x : Str} (nd : (firsts ps).Nodup) (hx : x ∈ firsts ps) : (x, look ps x) ∈ ps := by
  obtain ⟨p, hp, rfl⟩ := List.mem_map.1 hx
  rw [look_at (b := p.2) nd hp]
  exact hp
theorem TabP.tbl {ps : List (Str × Str)} (h : TabP ps) : Tbl (look ps) (firsts ps) where
  nd := h.nd
  cl := fun x hx => h.pm.mem_iff.2 (List.mem_map.2 ⟨_, look_mem h.nd hx, rfl⟩)
  inj := fun x hx y hy e => by
    have nd2 : (ps.map (·.2)).Nodup := (h.pm.nodup_iff).1 h.nd
    have hx := look_mem h.nd hx
    have hy := look_mem h.nd hy
    rw [e] at hx
    obtain ⟨i, hi, ei⟩ := List.mem_iff_getElem.1 hx
    obtain ⟨j, hj, ej⟩ := List.mem_iff_getElem.1 hy
    have : i = j := by
      have n1 := List.pairwise_iff_getElem.1 nd2
      rcases Nat.lt_trichotomy i j with c | c | c
      · have := n1 i j (by simpa using hi) (by simpa using hj) c
        simp [ei, ej] at this
      · exact c
      · have := n1 j i (by simpa using hj) (by simpa using hi) c
        simp [ei, ej] at this
    subst this
    rw [ei] at ej
    exact congrArg (·.1) ej
theorem valV_of : ∀ {ps : List (Str × Str)} {x : Str}, (firsts ps).Nodup → x ∈ firsts ps → valV (kvsOf ps) (Sum.inr x : Key) = some (.str (look ps x))
  | [], _, _, h => by cases h
  | p :: ps, x, nd, h => by
    have nd' := List.nodup_cons.1 nd
    by_cases e : p.1 = x
    · have e2 : look (p :: ps) x = p.2 := by
        unfold look
        rw [List.find?_cons, decide_eq_true e]
        rfl
      rw [e2]
      exact valV_pos (p := (Sum.inr p.1, V.str p.2)) (by rw [e])
    · have e2 : look (p :: ps) x = look ps x := by
        unfold look
        rw [List.find?_cons, decide_eq_false e]
      rw [e2]
      refine (valV_neg (p := (Sum.inr p.1, V.str p.2)) (fun z => e (Sum.inr.inj z))).trans (valV_of nd'.2 ?_)
      rcases List.mem_cons.1 h with rfl | h
      · exact absurd rfl e
      · exact h
theorem valV_no : ∀ {ps : List (Str × Str)} {x : Str}, x ∉ firsts ps → valV (kvsOf ps) (Sum.inr x : Key) = none
  | [], _, _ => rfl
  | p :: ps, x, h => by
    have h' : ¬ p.1 = x ∧ x ∉ firsts ps := ⟨fun e => h (by rw [← e]; exact List.mem_cons_self), fun z => h (List.mem_cons_of_mem _ z)⟩
    exact (valV_neg (p := (Sum.inr p.1, V.str p.2)) (fun z => h'.1 (Sum.inr.inj z))).trans (valV_no h'.2)
theorem put_new {kvs : List (Key × V)} {k : Key} {v : V} (h : valV kvs k = none) : putK kvs k v = kvs ++ [(k, v)] := by
  unfold putK
  rw [valV_any, h]
  rfl
theorem dp_strs {K : PySem.W.Frag} {H : Hp} : ∀ (zs : List Str), L2.DpAll K H (zs.map V.str) (zs.map PyData.str)
  | [] => .nil
  | z :: zs => .cons (.str z) (dp_strs zs)
theorem eqv_strs : ∀ {a b : List Str}, PyData.eqvAll (a.map PyData.str) (b.map PyData.str) = true ↔ a = b
  | [], [] => by simp [PyData.eqvAll]
  | x :: a, y :: b => by simp [PyData.eqvAll, PyData.eqv, eqv_strs (a := a) (b := b)]
  | [], _ :: _ => by simp [PyData.eqvAll]
  | _ :: _, [] => by simp [PyData.eqvAll]
theorem name_ok {z : Str} (h : nameS z = true) : PyData.strOk z = true := by
  have e : ∀ c ∈ signsS.cps.toList, c < 0x110000 := by decide +kernel
  unfold nameS at h
  rw [Bool.and_eq_true] at h
  have h2 := h.2
  rw [List.all_eq_true] at h2
  unfold PyData.strOk
  rw [Array.all_eq_true]
  intro i hi
  have hm : z.cps[i] ∈ z.cps.toList := by simp
  have := h2 _ hm
  exact decide_eq_true (e _ (of_decide_eq_true this))
theorem name_len {z : Str} (h : nameS z = true) : z.length ≤ 8 := by
  unfold nameS at h
  simp only [Bool.and_eq_true, decide_eq_true_eq] at h
  exact h.1.1.2
theorem lay_strs : ∀ {zs : List Str}, (∀ z ∈ zs, nameS z = true) → PyData.canLayAll0 (zs.map PyData.str) = true ∧ PyData.depthAll (zs.map PyData.str) = 0
  | [], _ => ⟨by simp [PyData.canLayAll0], by simp [PyData.depthAll]⟩
  | z :: zs, h => by
    have h2 := lay_strs (zs := zs) fun u hu => h u (List.mem_cons_of_mem _ hu)
    exact ⟨by simp [PyData.canLayAll0, PyData.canLay0, name_ok (h z List.mem_cons_self), h2.1], by simp [PyData.depthAll, PyData.depth, h2.2]⟩
theorem shaped_strs {zs : List Str} (h : ∀ z ∈ zs, nameS z = true) : SeqAt.shaped (.list (zs.map PyData.str)) = true := by
  have h1 := lay_strs h
  unfold SeqAt.shaped
  rw [Bool.and_eq_true]
  refine ⟨by simp only [PyData.canLay0]; exact h1.1, decide_eq_true ?_⟩
  simp only [PyData.depth]
  omega
def sp_first_repeated (K : PySem.W.Frag) (C : CA) : Sp := fun vs H Q _ => ∃ (p : Addr) (zs : List Str), vs = [.ref p] ∧ asL (H p) = some (zs.map V.str) ∧ zs.length ≤ 100 ∧ ∀ (v : V) (H' : Hp), Sm H H' → (v = V.non ↔ zs.Nodup) → Q v H'
def rd_first_repeated (P : Program) (w : World) (K : PySem.W.Frag) (C : CA) (E : XK) : TS :=
  (tSeq (tAsg (tCB (rSet0K P w) tNil) (gName 1)) (tSeq (tFor (iList K (tVar 0)) (gName 2) (tSeq (tIfS (tTest (tOp (rSInK P w false) (tVar 2) (tVar 1))) (tRet (tVar 2)) tNext) (tDrop (tSAddK P w (tVar 1) (tCons (tVar 2) tNil))))) (tRet (tC .non))))
theorem pure_first_repeated {P : Program} {w : World} {K : PySem.W.Frag} {C : CA} (vs : List V) (H : Hp) (Q : VK) (E : XK) (h : sp_first_repeated K C vs H Q E) : rd_first_repeated P w K C E { nx := fun _ H' => Q .non H', rt := Q } (start [("things" : Str), ("seen" : Str), ("thing" : Str)] vs) H := by
  obtain ⟨p, zs, rfl, hp, hl, q⟩ := h
  show rd_first_repeated P w K C E _ [some (.ref p), none, none] H
  unfold rd_first_repeated
  refine q_asg ?_
  refine ⟨rfl, fun ps ns => ?_⟩
  walk_at "s"
  refine q_for ?_
  rw [u_list]
  walk_at "s"
  have s0 : Sm H (upd H ps (SetK P w ps (fun _ => false) 0)) := sm_new (fun _ _ z => z) ns
  refine ⟨⟨_, asL_seq (sm_L s0 hp)⟩, ?_⟩
  refine loop_list (xs := zs.map V.str) (fun i σ H' => ∃ (x : Option V) (S : Key → Bool) (m : Nat), σ = [some (.ref p), some (.ref ps), x] ∧ Sm H H' ∧ H' ps = some (SetK P w ps S m) ∧ m ≤ i ∧ (zs.take i).Nodup ∧ ∀ z, S (Sum.inr z) = true ↔ z ∈ zs.take i)
    ⟨none, _, 0, rfl, s0, upd_same, Nat.le_refl _, by simp, by simp⟩ (fun i σ H' _ ⟨_, _, _, _, s, _⟩ => sm_L s hp) ?_ ?_
  · rintro i x σ H' hx ⟨u, S, m, rfl, s1, hs, hm, nd, mem⟩
    obtain ⟨z, hz, rfl⟩ := get_str hx
    have hi := (List.getElem?_eq_some_iff.mp hz).1
    walk_at "s"
    refine q_if ?_
    walk_at "s"
    refine ⟨Sum.inr z, ps, S, m, rfl, rfl, hs, ?_⟩
    simp only [Bool.false_eq_true, if_false]
    refine ⟨_, rfl, ?_⟩
    by_cases c : S (Sum.inr z) = true
    · rw [if_pos c]
      refine q _ H' s1 ⟨fun e => (by cases e), fun nz => ?_⟩
      have hin := (mem z).1 c
      obtain ⟨j, hj, ej⟩ := List.mem_iff_getElem.1 hin
      rw [List.length_take] at hj
      rw [List.getElem_take] at ej
      have := List.pairwise_iff_getElem.1 nz j i (by omega) hi (by omega)
      rw [ej] at this
      exact absurd (List.getElem?_eq_some_iff.mp hz).2.symm (by intro e; exact this e)
    · rw [if_neg c]
      refine q_drop1 ?_
      walk_at "s"
      refine ⟨_, rfl, ⟨ps, S, m, rfl, hs⟩, ?_⟩
      walk_at "s"
      refine ⟨ps, Sum.inr z, S, m, rfl, rfl, hs, by show _ < 4096; omega, ?_⟩
      refine ⟨sm_put s1 ns, _, _, upd_same, ?_, ?_, fun y => ?_⟩
      · rw [if_neg c]
        omega
      · rw [List.take_add_one, hz]
        refine List.nodup_append.2 ⟨nd, by simp, fun a ha b hb e => ?_⟩
        simp at hb
        subst hb
        subst e
        exact c ((mem a).2 ha)
      · rw [List.take_add_one, hz]
        simp only [Bool.or_eq_true, decide_eq_true_eq, List.mem_append, mem y]
        constructor
        · rintro (h | h)
          · exact .inl h
          · exact .inr (by simp [Sum.inr.inj h])
        · rintro (h | h)
          · exact .inl h
          · simp at h
            exact .inr (by rw [h])
  · rintro σ H' ⟨u, S, m, rfl, s1, hs, hm, nd, mem⟩
    walk_at "s"
    rw [List.length_map, List.take_length] at nd
    exact q _ H' s1 ⟨fun _ => nd, fun _ => rfl⟩
def sp_are_unlike (K : PySem.W.Frag) (C : CA) : Sp := fun vs H Q _ => ∃ (p : Addr) (zs : List Str), vs = [.ref p] ∧ asL (H p) = some (zs.map V.str) ∧ zs.length ≤ 100 ∧ ∀ (b : Bool) (H' : Hp), Sm H H' → (b = true ↔ zs.Nodup) → Q (.bl b) H'
def rd_are_unlike (K : PySem.W.Frag) (C : CA) (E : XK) : TS :=
  (tRet (tOp fIsN (tCallS (sp_first_repeated K C) (fun _ => E0) (tCons (tVar 0) tNil)) (tC .non)))
theorem pure_are_unlike {K : PySem.W.Frag} {C : CA} (vs : List V) (H : Hp) (Q : VK) (E : XK) (h : sp_are_unlike K C vs H Q E) : rd_are_unlike K C E { nx := fun _ H' => Q .non H', rt := Q } (start [("things" : Str)] vs) H := by
  obtain ⟨p, zs, rfl, hp, hl, q⟩ := h
  show rd_are_unlike K C E _ [some (.ref p)] H
  unfold rd_are_unlike
  refine q_ret ?_
  walk_at "s"
  refine ⟨p, zs, rfl, hp, hl, fun v H' s hv => ?_⟩
  walk_at "s"
  exact q _ H' s (by rw [decide_eq_true_iff]; exact hv)
end XB

/-! Circuits: the program. -/
namespace XB
open PySem L2
local macro_rules | `(tactic| walk_at "s") => `(tactic| try simp only [u_var, u_c, u_op, u_un, u_nil, u_cons, u_cb, u_call, u_callS, u_tup, u_lst, u_test, u_B, u_and, u_or, u_not, u_andV, u_orV, u_notV, u_ifE, u_chain, u_sl, u_noPart, u_part, u_bm, u_bm0, u_rev, u_lc, u_try, u_sui, u_sui0, u_unb_rt, u_unb_nx, u_xf, u_WE, w_nil, w_cons, u_raise, u_rng1, u_rng2, u_next, u_ret, u_gname, u_gnil, u_gcons, u_gsub, u_gtup,
  f_add, f_addS, f_addR, f_sub, f_mul, f_mulR, f_mod, f_div, f_pow, f_neg, f_cmp, f_eq, f_eqB, f_eqS, f_ne, f_neB, f_neS, f_isN, f_notN, f_isB, f_ix, f_ixS, f_int, f_intB, f_len, f_lenS, f_max, f_min, f_abs, f_list, f_tuple, f_all, f_sum, f_isi, f_isiT, f_append, f_insert, f_pop, f_sl, f_set,
  kitS, tys, List.isEmpty_cons, Option.map_some, kt_NoneType_int, kt_NoneType_bool, kt_NoneType_str, kt_NoneType_list, kt_NoneType_tuple, kt_NoneType_dict, kt_int_int, kt_int_bool, kt_int_str, kt_int_list, kt_int_tuple, kt_int_dict, kt_bool_int, kt_bool_bool, kt_bool_str, kt_bool_list, kt_bool_tuple, kt_bool_dict, kt_str_int, kt_str_bool, kt_str_str, kt_str_list, kt_str_tuple, kt_str_dict, kt_list_int, kt_list_bool, kt_list_str, kt_list_list, kt_list_tuple, kt_list_dict, kt_tuple_int, kt_tuple_bool, kt_tuple_str, kt_tuple_list, kt_tuple_tuple, kt_tuple_dict, kt_dict_int, kt_dict_bool, kt_dict_str, kt_dict_list, kt_dict_tuple, kt_dict_dict, asL_lst, asL_frz, asL_tup, asT_tup, asS_lst, asS_frz, asS_tup, tyN_non, tyN_bl, tyN_int, tyN_str, atV_lit, ixN_lit, upd_same, upd_ne, upd_ne',
  List.getElem?_cons_zero, List.getElem?_cons_succ, List.set_cons_zero, List.set_cons_succ, List.append_nil, List.length_cons, List.length_nil, Option.some.injEq, exists_eq_left', exists_eq_left, exists_and_left, V.bl.injEq, V.int.injEq, V.str.injEq, V.ref.injEq, Bool.not_eq_true, Bool.not_true, Bool.not_false, decide_true, decide_false, decide_eq_true_eq, decide_eq_false_iff_not, Bool.false_eq_true, if_true, if_false, ite_true, ite_false, reduceCtorEq, true_and, and_true, Nat.reduceAdd, Nat.reduceLT, Nat.zero_add, ne_eq, not_false_eq_true, not_true_eq_false, List.cons.injEq, and_assoc])
local macro_rules | `(tactic| walk_at "S") => `(tactic| try simp only [u_var, u_c, u_op, u_un, u_nil, u_cons, u_cb, u_call, u_callS, u_tup, u_lst, u_test, u_B, u_and, u_or, u_not, u_andV, u_orV, u_notV, u_ifE, u_chain, u_sl, u_noPart, u_part, u_bm, u_bm0, u_rev, u_lc, u_try, u_sui, u_sui0, u_unb_rt, u_unb_nx, u_xf, u_WE, w_nil, w_cons, u_raise, u_rng1, u_rng2, u_next, u_ret, u_gname, u_gnil, u_gcons, u_gsub, u_gtup,
  f_add, f_addS, f_addR, f_sub, f_mul, f_mulR, f_mod, f_div, f_pow, f_neg, f_cmp, f_eq, f_eqB, f_eqS, f_ne, f_neB, f_neS, f_isN, f_notN, f_isB, f_ix, f_ixS, f_int, f_intB, f_len, f_lenS, f_max, f_min, f_abs, f_list, f_tuple, f_all, f_sum, f_isi, f_isiT, f_append, f_insert, f_pop, f_sl, f_set,
  kitS, tys, List.isEmpty_cons, Option.map_some, kt_NoneType_int, kt_NoneType_bool, kt_NoneType_str, kt_NoneType_list, kt_NoneType_tuple, kt_NoneType_dict, kt_int_int, kt_int_bool, kt_int_str, kt_int_list, kt_int_tuple, kt_int_dict, kt_bool_int, kt_bool_bool, kt_bool_str, kt_bool_list, kt_bool_tuple, kt_bool_dict, kt_str_int, kt_str_bool, kt_str_str, kt_str_list, kt_str_tuple, kt_str_dict, kt_list_int, kt_list_bool, kt_list_str, kt_list_list, kt_list_tuple, kt_list_dict, kt_tuple_int, kt_tuple_bool, kt_tuple_str, kt_tuple_list, kt_tuple_tuple, kt_tuple_dict, kt_dict_int, kt_dict_bool, kt_dict_str, kt_dict_list, kt_dict_tuple, kt_dict_dict, asL_lst, asL_frz, asL_tup, asT_tup, asS_lst, asS_frz, asS_tup, tyN_non, tyN_bl, tyN_int, tyN_str, atV_lit, ixN_lit, upd_same, upd_ne, upd_ne',
  List.getElem?_cons_zero, List.getElem?_cons_succ, List.set_cons_zero, List.set_cons_succ, List.append_nil, List.length_cons, List.length_nil, Option.some.injEq, exists_eq_left', exists_eq_left, exists_and_left, V.bl.injEq, V.int.injEq, V.str.injEq, V.ref.injEq, Bool.not_eq_true, Bool.not_true, Bool.not_false, decide_true, decide_false, decide_eq_true_eq, decide_eq_false_iff_not, Bool.false_eq_true, if_true, if_false, ite_true, ite_false, reduceCtorEq, true_and, and_true, Nat.reduceAdd, Nat.reduceLT, Nat.zero_add, ne_eq, not_false_eq_true, not_true_eq_false, List.cons.injEq, and_assoc, *])
def MonV (te : TE) : Prop := ∀ (σ : L2.St) (H : Hp) (Q Q' : VK), (∀ v H1, Q v H1 → Q' v H1) → te σ H Q → te σ H Q'
theorem var_mono {n : Nat} : MonV (tVar n) := fun σ H Q Q' k ⟨v, e, q⟩ => ⟨v, e, k _ _ q⟩
theorem c_mono {v : V} : MonV (tC v) := fun σ H Q Q' k q => k _ _ q
theorem neg_mono {te : TE} (h : MonV te) : MonV (tUn fNeg te) := fun σ H Q Q' k q => h σ H _ _ (fun v H1 q => by
  unfold fNeg at q ⊢
  split at q
  · exact k _ _ q
  · exact q.elim) q
theorem ix_mono {ta tb : TE} (h1 : MonV ta) (h2 : MonV tb) : MonV (tOp fIx ta tb) := fun σ H Q Q' k q => h1 σ H _ _ (fun x H1 q => h2 σ H1 _ _ (fun y H2 q => by
  unfold fIx at q ⊢
  split at q
  · rename_i p i _
    cases e1 : asS (H2 p) with
    | none => simp only [e1] at q
    | some xs =>
      unfold atV at q ⊢
      cases e2 : atI xs i with
      | none => simp only [e1, e2] at q
      | some v =>
        simp only [e1, e2] at q ⊢
        exact k _ _ q
  · obtain ⟨l, c, e, q⟩ := q
    exact ⟨l, c, e, k _ _ q⟩
  · exact q.elim) q) q
theorem dget_mono {td ty : TE} (h1 : MonV td) (h2 : MonV ty) : MonV (tDGet td ty) := fun σ H Q Q' k q => h1 σ H _ _ (fun x H1 q => h2 σ H1 _ _ (fun y H2 ⟨a, v, e, g, q⟩ => ⟨a, v, e, g, k _ _ q⟩) q) q
theorem ne_mono {K : PySem.W.Frag} {ta tb : TE} (h1 : MonV ta) (h2 : MonV tb) {σ : L2.St} {H : Hp} {Q Q' : Bool → Hp → Prop} (k : ∀ b H1, Q b H1 → Q' b H1) (q : tTest (tOp (fNe K) ta tb) σ H Q) : tTest (tOp (fNe K) ta tb) σ H Q' := by
  refine h1 σ H _ _ (fun x H1 q => h2 σ H1 _ _ (fun y H2 q => ?_) q) q
  unfold fNe at q ⊢
  split at q
  · obtain ⟨b, e, q⟩ := q; exact ⟨b, e, k _ _ q⟩
  · obtain ⟨b, e, q⟩ := q; exact ⟨b, e, k _ _ q⟩
  · obtain ⟨b, e, q⟩ := q; exact ⟨b, e, k _ _ q⟩
  · obtain ⟨d, e, a1, a2, a3, a4, b, e2, q⟩ := q; exact ⟨d, e, a1, a2, a3, a4, b, e2, k _ _ q⟩
  · obtain ⟨a, b, e, q⟩ := q; exact ⟨a, b, e, k _ _ q⟩
def seconds (ps : List (Str × Str)) : List Str := ps.map (·.2)
def sp_is_table (K : PySem.W.Frag) (C : CA) : Sp := fun vs H Q _ => ∃ v, vs = [v] ∧ Tab H v ∧ ∀ (b : Bool) (H' : Hp), Sm H H' → (b = true ↔ ∃ ps, IsPairs H v ps ∧ TabP ps) → Q (.bl b) H'
def rd_is_table (K : PySem.W.Frag) (C : CA) (E : XK) : TS :=
  (tSeq (tIfS (tOr (tNot (tB (tCallS (sp_are_name_pairs K C) (fun _ => E0) (tCons (tVar 0) tNil)))) (tTest (tOp fGt (tCB fLen (tCons (tVar 0) tNil)) (tC (.int 12))))) (tRet (tC (.bl false))) tNext) (tSeq (tAsg (tLc (iSeq K 0) (gTupF 2 (gCons (gName 2) (gCons (gName 3) gNil))) tYes (tVar 2) [2, 3]) (gName 1)) (tRet (tAndV (tCallS (sp_are_unlike K C) (fun _ => E0) (tCons (tVar 1) tNil)) (tOp (fEq K) (tCB fSortS (tCons (tVar 1) tNil)) (tCB fSortS (tCons (tLc (iSeq K 0) (gTupF 2 (gCons (gName 3) (gCons (gName 4) gNil))) tYes (tVar 4) [3, 4]) tNil)))))))
theorem pure_is_table {K : PySem.W.Frag} {C : CA} (vs : List V) (H : Hp) (Q : VK) (E : XK) (h : sp_is_table K C vs H Q E) : rd_is_table K C E { nx := fun _ H' => Q .non H', rt := Q } (start [("value" : Str), ("names" : Str), ("name" : Str), ("_" : Str), ("image" : Str)] vs) H := by
  obtain ⟨v, rfl, tb, q⟩ := h
  show rd_is_table K C E _ [some v, none, none, none, none] H
  unfold rd_is_table
  refine q_if ?_
  walk_at "s"
  refine ⟨v, rfl, tb, fun b H1 s1 hb => ?_⟩
  walk_at "s"
  cases b with
  | false =>
    simp only [Bool.not_false, if_true]
    refine q false H1 s1 ⟨fun z => (by cases z), fun ⟨ps, h1, h2⟩ => ?_⟩
    have := hb.2 ⟨ps, h1, h2.nm⟩
    cases this
  | true =>
    obtain ⟨ps, hps, nm⟩ := hb.1 rfl
    simp only [Bool.not_true, Bool.false_eq_true, if_false]
    obtain ⟨p, xs, rfl, hp, lx, hq⟩ := id hps
    have hl := (tb.2 p xs rfl hp).1
    walk_at "s"
    rw [sm_S s1 hp]
    walk_at "s"
    refine ite2 (fun c1 => ?_) fun c1 => ?_
    · refine q false H1 s1 ⟨fun z => (by cases z), fun ⟨qs, h1, h2⟩ => ?_⟩
      rw [h1.unique hps] at h2
      have := h2.le
      omega
    · refine q_asg ?_
      walk_at "s"
      refine seq_pairs (fun pr => .str pr.1) rfl (hps.mono s1) (by omega) (fun _ _ => rfl) (fun i pr H2 Q2 hpr s2 q2 => ?_) fun D H2 hD s2 h2 => ?_
      · walk_at "s"
        exact q2 H2 fun _ _ z => z
      · have h2' : H2 D = some (.lst ((firsts ps).map V.str)) := by
          rw [h2]
          unfold firsts
          rw [List.map_map]
          rfl
        have s02 := sm_trans s1 s2
        walk_at "s"
        refine ⟨D, firsts ps, rfl, asL_at h2', by unfold firsts; rw [List.length_map]; omega, fun u H3 s3 hu => ?_⟩
        have s03 := sm_trans s02 s3
        walk_at "s"
        cases u with
        | false =>
          simp only [Bool.false_eq_true, if_false]
          refine q false H3 s03 ⟨fun z => (by cases z), fun ⟨qs, h1, h2⟩ => ?_⟩
          rw [h1.unique hps] at h2
          have := hu.2 h2.nd
          cases this
        | true =>
          simp only [if_true]
          have nd := hu.1 rfl
          show fSortS [.ref D] H3 _
          unfold fSortS
          dsimp only
          rw [s3 _ _ h2']
          refine ⟨firsts ps, rfl, by unfold firsts; rw [List.length_map]; omega, fun ys py pm1 so1 np => al np fun H4 s4 h4 => ?_⟩
          have s04 := sm_trans s03 s4
          refine seq_pairs (fun pr => .str pr.2) rfl (hps.mono s04) (by omega) (fun _ _ => rfl) (fun i pr H5 Q5 hpr s5 q5 => ?_) fun D5 H5 hD5 s5 h5 => ?_
          · walk_at "s"
            exact q5 H5 fun _ _ z => z
          · have h5' : H5 D5 = some (.lst ((seconds ps).map V.str)) := by
              rw [h5]
              unfold seconds
              rw [List.map_map]
              rfl
            have s05 := sm_trans s04 s5
            rw [h5']
            refine ⟨seconds ps, rfl, by unfold seconds; rw [List.length_map]; omega, fun zs pz pm2 so2 np2 => al np2 fun H6 s6 h6 => ?_⟩
            have s06 := sm_trans s05 s6
            show rEqD K (.ref py) (.ref pz) H6 _
            have n1 : ∀ z ∈ ys, nameS z = true := fun z hz => by
              obtain ⟨pr, hm, rfl⟩ := List.mem_map.1 (pm1.mem_iff.1 hz)
              exact (nm pr hm).1
            have n2 : ∀ z ∈ zs, nameS z = true := fun z hz => by
              obtain ⟨pr, hm, rfl⟩ := List.mem_map.1 (pm2.mem_iff.1 hz)
              exact (nm pr hm).2
            refine ⟨_, _, .lst (asL_seq (asL_at (sm_trans s5 s6 _ _ h4))) (dp_strs ys), .lst (asL_seq (asL_at h6)) (dp_strs zs), shaped_strs n1, shaped_strs n2, ?_⟩
            refine q _ H6 s06 ?_
            show PyData.eqvAll _ _ = true ↔ _
            rw [eqv_strs]
            constructor
            · intro e
              refine ⟨ps, hps, by omega, nm, nd, ?_⟩
              exact pm1.symm.trans (by rw [e]; exact pm2)
            · rintro ⟨qs, h1, h2⟩
              rw [h1.unique hps] at h2
              exact srt_unique so1 so2 (pm1.trans (h2.pm.trans pm2.symm))
def sp_circuit_from (K : PySem.W.Frag) (C : CA) : Sp := fun vs H Q _ => ∃ (d : Addr) (name : Str) (ps : List (Str × Str)), vs = [.str name, .ref d] ∧ H d = some (.dK (kvsOf ps)) ∧ TabP ps ∧ name ∈ firsts ps ∧
  ∀ (o : Addr) (row : List Str) (H' : Hp), Sm H H' → H o = none → H' o = some (.tup (row.map V.str)) → IsCyc (look ps) (firsts ps) row → row[0]? = some name → Q (.ref o) H'
def rd_circuit_from (K : PySem.W.Frag) (C : CA) (E : XK) : TS :=
  (tSeq (tAsg (tLst (tCons (tVar 0) tNil)) (gName 2)) (tSeq (tWhile (tTest (tOp (fNe K) (tDGet (tVar 1) (tOp fIx (tVar 2) (tUn fNeg (tC (.int 1))))) (tVar 0))) (tDrop (tBMF "list" fAppend (tVar 2) (tCons (tDGet (tVar 1) (tOp fIx (tVar 2) (tUn fNeg (tC (.int 1))))) tNil)))) (tRet (tCB fTuple (tCons (tVar 2) tNil)))))
theorem pure_circuit_from {K : PySem.W.Frag} {C : CA} (vs : List V) (H : Hp) (Q : VK) (E : XK) (h : sp_circuit_from K C vs H Q E) : rd_circuit_from K C E { nx := fun _ H' => Q .non H', rt := Q } (start [("name" : Str), ("images" : Str), ("row" : Str)] vs) H := by
  obtain ⟨d, name, ps, rfl, hd, tp, hm, q⟩ := h
  show rd_circuit_from K C E _ [some (.str name), some (.ref d), none] H
  unfold rd_circuit_from
  have T := tp.tbl
  refine q_asg ?_
  walk_at "s"
  refine ⟨by decide, fun pr nr => al nr fun H1 s1 h1 => ?_⟩
  refine q_seq ?_
  -- what the row is on the way
  let Ok : List Str → Prop := fun row => row ≠ [] ∧ row.Nodup ∧ (∀ x ∈ row, x ∈ firsts ps) ∧ (∀ (i : Nat) (x y : Str), row[i]? = some x → row[i + 1]? = some y → look ps x = y) ∧ row[0]? = some name
  refine while_by (fun σ H' => ∃ row : List Str, σ = [some (.str name), some (.ref d), some (.ref pr)] ∧ Sm H H' ∧ H' pr = some (.lst (row.map V.str)) ∧ Ok row) (fun σ H' => 20 - (match H' pr with
    | some (.lst xs) => xs.length
    | _ => 0)) ⟨[name], rfl, s1, h1, by simp, by simp, by simpa using hm, by intro i x y h1 h2; simp at h2, rfl⟩ ?_ ?_
  · rintro σ H' ⟨row, rfl, s, hr, ne, nd, sub, nx, h0⟩
    have hl : row.length - 1 < row.length := by have := List.length_pos_iff.2 ne; omega
    have elast : row[row.length - 1]? = some row[row.length - 1] := by simp [hl]
    have mlast := sub _ (List.getElem_mem hl)
    have hd' := s _ _ hd
    have ndk := tp.nd
    have ll : row.length ≤ 12 := by
      have e1 := List.Nodup.length_le_of_subset nd (fun x hx => sub x hx)
      unfold firsts at e1
      rw [List.length_map] at e1
      have := tp.le
      omega
    have eV : (row.map V.str)[(row.map V.str).length - 1]? = some (.str row[row.length - 1]) := by rw [List.length_map, List.getElem?_map, elast]; rfl
    walk_at "s"
    rw [u_dget]
    walk_at "s"
    simp only [asS_at hr]
    refine at_last eV ?_
    refine ⟨.str (look ps row[row.length - 1]), .inl ⟨_, Sum.inr row[row.length - 1], .inl hd', rfl, (valV_of ndk mlast).symm⟩, ?_⟩
    walk_at "s"
    refine ite2 (fun c => ?_) fun c => ?_
    · -- go on
      have c : ¬ look ps row[row.length - 1] = name := by simpa using c
      have notin : look ps row[row.length - 1] ∉ row := by
        intro hin
        obtain ⟨j, hj, ej⟩ := List.mem_iff_getElem.1 hin
        cases j with
        | zero =>
          have : row[0]? = some row[0] := by simp [hj]
          rw [this] at h0
          injection h0 with h0
          rw [← ej, h0] at c
          exact c rfl
        | succ j =>
          have hj1 : j < row.length := by omega
          have e1 := nx j row[j] row[j + 1] (by simp [hj1]) (by simp [hj])
          rw [ej] at e1
          have e2 := T.inj _ (sub _ (List.getElem_mem hj1)) _ mlast e1
          have := List.pairwise_iff_getElem.1 nd
          have := this j (row.length - 1) hj1 hl (by omega)
          exact this e2
      refine q_drop1 ?_
      walk_at "s"
      refine ⟨tyN_lst hr, ?_⟩
      rw [u_dget]
      walk_at "s"
      simp only [asS_at hr]
      refine at_last eV ?_
      refine ⟨.str (look ps row[row.length - 1]), .inl ⟨_, Sum.inr row[row.length - 1], .inl hd', rfl, (valV_of ndk mlast).symm⟩, ?_⟩
      walk_at "s"
      simp only [hr]
      refine ⟨by rw [List.length_map]; show _ < 2 ^ 24; omega, sm_put s nr, ⟨row ++ [look ps row[row.length - 1]], by rw [List.map_append]; rfl, ?_⟩, ?_⟩
      · refine ⟨by simp, List.nodup_append.2 ⟨nd, by simp, fun a ha b hb e => ?_⟩, fun x hx => ?_, fun i x y hx hy => ?_, ?_⟩
        · rw [List.mem_singleton] at hb
          rw [e, hb] at ha
          exact notin ha
        · rcases List.mem_append.1 hx with hx | hx
          · exact sub x hx
          · rw [List.mem_singleton] at hx
            rw [hx]
            exact T.cl _ mlast
        · by_cases c1 : i + 1 < row.length
          · rw [List.getElem?_append_left (by omega)] at hx hy
            exact nx i x y hx hy
          · have hi : i + 1 < (row ++ [look ps row[row.length - 1]]).length := (List.getElem?_eq_some_iff.mp hy).1
            rw [List.length_append, List.length_singleton] at hi
            have ei : i = row.length - 1 := by omega
            subst ei
            rw [List.getElem?_append_left hl, elast] at hx
            rw [List.getElem?_append_right (by omega)] at hy
            have e0 : row.length - 1 + 1 - row.length = 0 := by omega
            rw [e0] at hy
            cases hx
            cases hy
            trivial
        · rw [List.getElem?_append_left (by omega)]
          exact h0
      · rw [List.length_append, List.length_map, List.length_singleton]
        omega
    · -- back at the name
      have c : look ps row[row.length - 1] = name := by simpa using c
      walk_at "s"
      simp only [hr]
      walk_at "s"
      refine fun po no => al no fun H2 s2 h2 => ?_
      exact q po row H2 (sm_trans s s2) (sm_none s no) h2 ⟨ne, nd, sub, nx, fun x y hx hy => by
        rw [elast] at hx
        rw [h0] at hy
        cases hx
        cases hy
        exact c⟩ h0
  · intro σ H' Q1 Q2 k h
    exact ne_mono (dget_mono (var_mono) (ix_mono var_mono (neg_mono c_mono))) var_mono k h
end XB

/-! Circuits: all of a table. -/
namespace XB
open PySem L2
local macro_rules | `(tactic| walk_at "s") => `(tactic| try simp only [u_var, u_c, u_op, u_un, u_nil, u_cons, u_cb, u_call, u_callS, u_tup, u_lst, u_test, u_B, u_and, u_or, u_not, u_andV, u_orV, u_notV, u_ifE, u_chain, u_sl, u_noPart, u_part, u_bm, u_bm0, u_rev, u_lc, u_try, u_sui, u_sui0, u_unb_rt, u_unb_nx, u_xf, u_WE, w_nil, w_cons, u_raise, u_rng1, u_rng2, u_next, u_ret, u_gname, u_gnil, u_gcons, u_gsub, u_gtup,
  f_add, f_addS, f_addR, f_sub, f_mul, f_mulR, f_mod, f_div, f_pow, f_neg, f_cmp, f_eq, f_eqB, f_eqS, f_ne, f_neB, f_neS, f_isN, f_notN, f_isB, f_ix, f_ixS, f_int, f_intB, f_len, f_lenS, f_max, f_min, f_abs, f_list, f_tuple, f_all, f_sum, f_isi, f_isiT, f_append, f_insert, f_pop, f_sl, f_set,
  kitS, tys, List.isEmpty_cons, Option.map_some, kt_NoneType_int, kt_NoneType_bool, kt_NoneType_str, kt_NoneType_list, kt_NoneType_tuple, kt_NoneType_dict, kt_int_int, kt_int_bool, kt_int_str, kt_int_list, kt_int_tuple, kt_int_dict, kt_bool_int, kt_bool_bool, kt_bool_str, kt_bool_list, kt_bool_tuple, kt_bool_dict, kt_str_int, kt_str_bool, kt_str_str, kt_str_list, kt_str_tuple, kt_str_dict, kt_list_int, kt_list_bool, kt_list_str, kt_list_list, kt_list_tuple, kt_list_dict, kt_tuple_int, kt_tuple_bool, kt_tuple_str, kt_tuple_list, kt_tuple_tuple, kt_tuple_dict, kt_dict_int, kt_dict_bool, kt_dict_str, kt_dict_list, kt_dict_tuple, kt_dict_dict, asL_lst, asL_frz, asL_tup, asT_tup, asS_lst, asS_frz, asS_tup, tyN_non, tyN_bl, tyN_int, tyN_str, atV_lit, ixN_lit, upd_same, upd_ne, upd_ne',
  List.getElem?_cons_zero, List.getElem?_cons_succ, List.set_cons_zero, List.set_cons_succ, List.append_nil, List.length_cons, List.length_nil, Option.some.injEq, exists_eq_left', exists_eq_left, exists_and_left, V.bl.injEq, V.int.injEq, V.str.injEq, V.ref.injEq, Bool.not_eq_true, Bool.not_true, Bool.not_false, decide_true, decide_false, decide_eq_true_eq, decide_eq_false_iff_not, Bool.false_eq_true, if_true, if_false, ite_true, ite_false, reduceCtorEq, true_and, and_true, Nat.reduceAdd, Nat.reduceLT, Nat.zero_add, ne_eq, not_false_eq_true, not_true_eq_false, List.cons.injEq, and_assoc])
local macro_rules | `(tactic| walk_at "S") => `(tactic| try simp only [u_var, u_c, u_op, u_un, u_nil, u_cons, u_cb, u_call, u_callS, u_tup, u_lst, u_test, u_B, u_and, u_or, u_not, u_andV, u_orV, u_notV, u_ifE, u_chain, u_sl, u_noPart, u_part, u_bm, u_bm0, u_rev, u_lc, u_try, u_sui, u_sui0, u_unb_rt, u_unb_nx, u_xf, u_WE, w_nil, w_cons, u_raise, u_rng1, u_rng2, u_next, u_ret, u_gname, u_gnil, u_gcons, u_gsub, u_gtup,
  f_add, f_addS, f_addR, f_sub, f_mul, f_mulR, f_mod, f_div, f_pow, f_neg, f_cmp, f_eq, f_eqB, f_eqS, f_ne, f_neB, f_neS, f_isN, f_notN, f_isB, f_ix, f_ixS, f_int, f_intB, f_len, f_lenS, f_max, f_min, f_abs, f_list, f_tuple, f_all, f_sum, f_isi, f_isiT, f_append, f_insert, f_pop, f_sl, f_set,
  kitS, tys, List.isEmpty_cons, Option.map_some, kt_NoneType_int, kt_NoneType_bool, kt_NoneType_str, kt_NoneType_list, kt_NoneType_tuple, kt_NoneType_dict, kt_int_int, kt_int_bool, kt_int_str, kt_int_list, kt_int_tuple, kt_int_dict, kt_bool_int, kt_bool_bool, kt_bool_str, kt_bool_list, kt_bool_tuple, kt_bool_dict, kt_str_int, kt_str_bool, kt_str_str, kt_str_list, kt_str_tuple, kt_str_dict, kt_list_int, kt_list_bool, kt_list_str, kt_list_list, kt_list_tuple, kt_list_dict, kt_tuple_int, kt_tuple_bool, kt_tuple_str, kt_tuple_list, kt_tuple_tuple, kt_tuple_dict, kt_dict_int, kt_dict_bool, kt_dict_str, kt_dict_list, kt_dict_tuple, kt_dict_dict, asL_lst, asL_frz, asL_tup, asT_tup, asS_lst, asS_frz, asS_tup, tyN_non, tyN_bl, tyN_int, tyN_str, atV_lit, ixN_lit, upd_same, upd_ne, upd_ne',
  List.getElem?_cons_zero, List.getElem?_cons_succ, List.set_cons_zero, List.set_cons_succ, List.append_nil, List.length_cons, List.length_nil, Option.some.injEq, exists_eq_left', exists_eq_left, exists_and_left, V.bl.injEq, V.int.injEq, V.str.injEq, V.ref.injEq, Bool.not_eq_true, Bool.not_true, Bool.not_false, decide_true, decide_false, decide_eq_true_eq, decide_eq_false_iff_not, Bool.false_eq_true, if_true, if_false, ite_true, ite_false, reduceCtorEq, true_and, and_true, Nat.reduceAdd, Nat.reduceLT, Nat.zero_add, ne_eq, not_false_eq_true, not_true_eq_false, List.cons.injEq, and_assoc, *])
theorem inV_str {z : Str} : ∀ {zs : List Str}, inV (.str z) (zs.map V.str) = decide (z ∈ zs)
  | [] => by simp [inV]
  | w :: zs => by
    have ih := inV_str (z := z) (zs := zs)
    unfold inV at ih ⊢
    rw [List.map_cons, List.any_cons, ih]
    by_cases c : w = z
    · subst c
      simp [eqV]
    · have c2 : ¬ z = w := fun e => c e.symm
      simp [eqV, c, c2]
theorem f_ninS {K : PySem.W.Frag} {H : Hp} {Q : VK} {z : Str} {p : Addr} {zs : List Str} (h : asS (H p) = some (zs.map V.str)) : fNin K (.str z) (.ref p) H Q = Q (.bl (!decide (z ∈ zs))) H := by
  unfold fNin
  split
  · rename_i e1 e2
    cases e2
  · rename_i e
    cases e
    rw [h]
    show (flatV (.str z) = true ∧ (zs.map V.str).all flatV = true ∧ Q (.bl (!inV (.str z) (zs.map V.str))) H) = _
    rw [flat_texts, inV_str]
    simp only [flatV, true_and]
  · rename_i n1 n2
    first | exact absurd rfl (n1 p) | exact (n1 p rfl).elim | exact (n2 _ rfl).elim | (simp at n1) | (simp at n2)
/-- rows told in new tuples -/
def RowsAt (H H' : Hp) (us : List V) (rows : List (List Str)) : Prop := us.length = rows.length ∧ ∀ (i : Nat) (u : V) (r : List Str), us[i]? = some u → rows[i]? = some r → ∃ q, u = .ref q ∧ H q = none ∧ H' q = some (.tup (r.map V.str))
theorem RowsAt.sm {H H' H2 : Hp} {us : List V} {rows : List (List Str)} (h : RowsAt H H' us rows) (s : Sm H' H2) : RowsAt H H2 us rows := ⟨h.1, fun i u r h1 h2 => by
  obtain ⟨q, e, n, hq⟩ := h.2 i u r h1 h2
  exact ⟨q, e, n, s _ _ hq⟩⟩
theorem RowsAt.add {H H' : Hp} {us : List V} {rows : List (List Str)} {q : Addr} {r : List Str} (h : RowsAt H H' us rows) (n : H q = none) (hq : H' q = some (.tup (r.map V.str))) : RowsAt H H' (us ++ [.ref q]) (rows ++ [r]) := ⟨by rw [List.length_append, List.length_append, h.1]; rfl, fun i u w h1 h2 => by
  by_cases c : i < us.length
  · rw [List.getElem?_append_left c] at h1
    rw [List.getElem?_append_left (by rw [← h.1]; exact c)] at h2
    exact h.2 i u w h1 h2
  · rw [List.getElem?_append_right (by omega)] at h1
    rw [List.getElem?_append_right (by rw [← h.1]; omega), ← h.1] at h2
    have e0 : i - us.length = 0 := by
      have := (List.getElem?_eq_some_iff.mp h1).1
      simp at this
      omega
    rw [e0] at h1 h2
    cases h1
    cases h2
    exact ⟨q, rfl, n, hq⟩⟩
theorem kvs_take {ps : List (Str × Str)} {i : Nat} {pr : Str × Str} (nd : (firsts ps).Nodup) (h : ps[i]? = some pr) : putK (kvsOf (ps.take i)) (Sum.inr pr.1 : Key) (.str pr.2) = kvsOf (ps.take (i + 1)) := by
  have hi := (List.getElem?_eq_some_iff.mp h).1
  rw [put_new]
  · unfold kvsOf
    rw [take_map_succ h]
  · refine valV_no fun hm => ?_
    obtain ⟨p2, hp2, e⟩ := List.mem_map.1 hm
    obtain ⟨j, hj, ej⟩ := List.mem_iff_getElem.1 hp2
    rw [List.length_take] at hj
    rw [List.getElem_take] at ej
    have e3 := (List.getElem?_eq_some_iff.mp h).2
    have := List.pairwise_iff_getElem.1 nd j i (by unfold firsts; rw [List.length_map]; omega) (by unfold firsts; rw [List.length_map]; exact hi) (by omega)
    unfold firsts at this
    rw [List.getElem_map, List.getElem_map, ej, e3] at this
    exact this e
/-- the circuits found so far -/
structure Sofar (f : Str → Str) (ks srt : List Str) (i : Nat) (rows : List (List Str)) : Prop where
  cyc : ∀ r ∈ rows, IsCyc f ks r
  least : ∀ r ∈ rows, ∀ h, r[0]? = some h → ∀ x ∈ r, ¬ LtS x h
  asc : rows.Pairwise fun a b => ∀ x y, a[0]? = some x → b[0]? = some y → LtS x y
  heads : ∀ r ∈ rows, ∀ h, r[0]? = some h → h ∈ srt.take i
  all : ∀ x ∈ srt.take i, ∃ r ∈ rows, x ∈ r
  le : rows.length ≤ i
theorem Sofar.skip {f : Str → Str} {ks srt : List Str} {i : Nat} {rows : List (List Str)} {x : Str} (h : Sofar f ks srt i rows) (hx : srt[i]? = some x) (c : ∃ r ∈ rows, x ∈ r) : Sofar f ks srt (i + 1) rows where
  cyc := h.cyc
  least := h.least
  asc := h.asc
  heads := fun r hr y hy => by rw [List.take_add_one, List.mem_append]; exact .inl (h.heads r hr y hy)
  all := fun y hy => by
    rw [List.take_add_one, hx, List.mem_append] at hy
    rcases hy with hy | hy
    · exact h.all y hy
    · simp at hy
      rw [hy]
      exact c
  le := by have := h.le; omega
theorem Sofar.more {f : Str → Str} {ks srt : List Str} {i : Nat} {rows : List (List Str)} {x : Str} {r : List Str} (T : Tbl f ks) (so : PyProof.Rows.sortedS srt = true) (pm : srt.Perm ks) (h : Sofar f ks srt i rows) (hx : srt[i]? = some x) (c : ∀ r ∈ rows, x ∉ r)
    (hr : IsCyc f ks r) (h0 : r[0]? = some x) : Sofar f ks srt (i + 1) (rows ++ [r]) := by
  have hi := (List.getElem?_eq_some_iff.mp hx).1
  have ex := (List.getElem?_eq_some_iff.mp hx).2
  have mx : x ∈ r := by
    have := List.mem_of_getElem? h0
    exact this
  have lst : ∀ y ∈ r, ¬ LtS y x := by
    intro y hy
    have hy2 := pm.mem_iff.2 (hr.sub y hy)
    obtain ⟨j, hj, ej⟩ := List.mem_iff_getElem.1 hy2
    by_cases cj : j < i
    · have : y ∈ srt.take i := List.mem_iff_getElem.2 ⟨j, by rw [List.length_take]; omega, by rw [List.getElem_take]; exact ej⟩
      obtain ⟨r2, h2, m2⟩ := h.all y this
      exact absurd (hr.sub_of (h.cyc r2 h2) hy m2 x mx) (c r2 h2)
    · by_cases c2 : j = i
      · subst c2
        rw [ex] at ej
        rw [ej]
        exact LtS.irrefl
      · have := List.pairwise_iff_getElem.1 (srt_pair so) i j hi hj (by omega)
        rw [ex, ej] at this
        exact this
  constructor
  · intro w hw
    rcases List.mem_append.1 hw with hw | hw
    · exact h.cyc w hw
    · rw [List.mem_singleton] at hw; rw [hw]; exact hr
  · intro w hw y hy z hz
    rcases List.mem_append.1 hw with hw | hw
    · exact h.least w hw y hy z hz
    · rw [List.mem_singleton] at hw
      subst hw
      rw [h0] at hy
      cases hy
      exact lst z hz
  · refine List.pairwise_append.2 ⟨h.asc, by simp, fun a ha b hb y z hy hz => ?_⟩
    rw [List.mem_singleton] at hb
    subst hb
    rw [h0] at hz
    cases hz
    have hh := h.heads a ha y hy
    obtain ⟨j, hj, ej⟩ := List.mem_iff_getElem.1 hh
    rw [List.length_take] at hj
    rw [List.getElem_take] at ej
    have := List.pairwise_iff_getElem.1 (srt_pair so) j i (by omega) hi (by omega)
    rw [ex, ej] at this
    refine LtS.of_le_ne this fun e => ?_
    subst e
    exact c a ha (List.mem_of_getElem? hy)
  · intro w hw y hy
    rw [List.take_add_one, hx, List.mem_append]
    rcases List.mem_append.1 hw with hw | hw
    · exact .inl (h.heads w hw y hy)
    · rw [List.mem_singleton] at hw
      subst hw
      rw [h0] at hy
      cases hy
      exact .inr (by simp)
  · intro y hy
    rw [List.take_add_one, hx, List.mem_append] at hy
    rcases hy with hy | hy
    · obtain ⟨w, hw, m⟩ := h.all y hy
      exact ⟨w, List.mem_append_left _ hw, m⟩
    · simp at hy
      subst hy
      exact ⟨r, List.mem_append_right _ (by simp), mx⟩
  · have := h.le
    rw [List.length_append, List.length_singleton]
    omega
theorem Sofar.done {f : Str → Str} {ks srt : List Str} {rows : List (List Str)} (pm : srt.Perm ks) (h : Sofar f ks srt srt.length rows) : Circs f ks rows where
  cyc := h.cyc
  least := h.least
  asc := h.asc
  all := fun x hx => h.all x (by rw [List.take_length]; exact pm.mem_iff.2 hx)
def sp_circuits (K : PySem.W.Frag) (C : CA) : Sp := fun vs H Q E => ∃ v, vs = [v] ∧ Tab H v ∧ ((¬ ∃ ps, IsPairs H v ps ∧ TabP ps) → ∀ e H', ErrAt H H' e [(("parameter" : Str), V.str ("table" : Str))] → E (.ref C.BadShape) (some e) H') ∧
  ∀ ps, IsPairs H v ps → TabP ps → ∀ (o : Addr) (us : List V) (rows : List (List Str)) (H' : Hp), Sm H H' → H o = none → H' o = some (.lst us) → RowsAt H H' us rows → Circs (look ps) (firsts ps) rows → Q (.ref o) H'
def rd_circuits (K : PySem.W.Frag) (C : CA) (E : XK) : TS :=
  (tSeq (tDrop (tCallS (sp_check K C) (fun _ => E) (tCons (tCallS (sp_is_table K C) (fun _ => E0) (tCons (tVar 0) tNil)) (tCons (tC (.str ("table" : Str))) tNil)))) (tSeq (tAsg (tDc (iSeq K 0) (gTupF 2 (gCons (gName 1) (gCons (gName 4) gNil))) tYes (tVar 1) (tVar 4) [1, 4]) (gName 2)) (tSeq (tAsg (tLst tNil) (gName 3)) (tSeq (tFor (iList K (tCB fSortD (tCons (tVar 2) tNil))) (gName 1) (tIfS (tB (tCB fAll (tCons (tLc (iList K (tVar 3)) (gName 5) tYes (tOp (fNin K) (tVar 1) (tVar 5)) [5]) tNil))) (tDrop (tBMF "list" fAppend (tVar 3) (tCons (tCallS (sp_circuit_from K C) (fun _ => E0) (tCons (tVar 1) (tCons (tVar 2) tNil))) tNil))) tNext)) (tRet (tVar 3))))))
theorem pure_circuits {K : PySem.W.Frag} {C : CA} (vs : List V) (H : Hp) (Q : VK) (E : XK) (h : sp_circuits K C vs H Q E) : rd_circuits K C E { nx := fun _ H' => Q .non H', rt := Q } (start [("table" : Str), ("name" : Str), ("images" : Str), ("found" : Str), ("image" : Str), ("row" : Str)] vs) H := by
  obtain ⟨v, rfl, tb, qe, q⟩ := h
  show rd_circuits K C E _ [some v, none, none, none, none, none] H
  unfold rd_circuits
  refine q_drop ?_
  walk_at "s"
  refine ⟨v, rfl, tb, fun b H0 s0 hb => ⟨b, _, rfl, fun c => ?_, fun c e H' ne he s => qe (fun z => by rw [hb.2 z] at c; cases c) e H' ⟨sm_trans s0 s, he⟩⟩⟩
  obtain ⟨ps, hps, tp⟩ := hb.1 c
  have T := tp.tbl
  refine q_asg ?_
  obtain ⟨p, xs, rfl, hp, lx, hq⟩ := id hps
  have lps := tp.le
  have step : ∀ (D : Addr) (i : Nat) (x : V) (H' : Hp), H0 D = none → xs[i]? = some x → (Sm H0 H' ∧ H' D = some (.dK (kvsOf (ps.take i)))) → gTupF 2 (gCons (gName 1) (gCons (gName 4) gNil)) x (wipe [some (.ref p), none, none, none, none, none] [1, 4]) H' fun σ2 H2 => wipe σ2 [1, 4] = wipe [some (.ref p), none, none, none, none, none] [1, 4] ∧ tYes σ2 H2 fun b H3 =>
      if b = true then tVar 1 σ2 H3 fun y H4 => tVar 4 σ2 H4 fun z H5 => ∃ kvs k, y = kV k ∧ H5 D = some (.dK kvs) ∧ kvs.length < sizeLine ∧ (Sm H0 (upd H5 D (.dK (putK kvs k z))) ∧ (upd H5 D (.dK (putK kvs k z))) D = some (.dK (kvsOf (ps.take (i + 1))))) else (Sm H0 H3 ∧ H3 D = some (.dK (kvsOf (ps.take (i + 1))))) := by
    intro D i x H' hD hx ⟨s1, hd⟩
    have hi := (List.getElem?_eq_some_iff.mp hx).1
    have hpi : ps[i]? = some (ps[i]'(by omega)) := List.getElem?_eq_getElem _
    obtain ⟨r, rfl, hr⟩ := hq i x _ hx hpi
    rw [u_gtup, sm_T (sm_trans s0 s1) hr]
    refine ⟨rfl, _, _, rfl, _, _, rfl, rfl, rfl, ?_⟩
    refine iteT (B := Sm H0 H' ∧ H' D = some (.dK (kvsOf (ps.take (i + 1))))) ?_
    refine ⟨_, rfl, _, rfl, _, Sum.inr (ps[i]'(by omega)).1, rfl, hd, ?_, sm_put s1 hD, ?_⟩
    · unfold kvsOf
      rw [List.length_map, List.length_take]
      show _ < 2 ^ 24
      omega
    · rw [upd_same, kvs_take tp.nd hpi]
  have after : ∀ (D : Addr) (H1 : Hp), Sm H0 H1 → H0 D = none → H1 D = some (.dK (kvsOf ps)) → tSeq (tAsg (tLst tNil) (gName 3)) (tSeq (tFor (iList K (tCB fSortD (tCons (tVar 2) tNil))) (gName 1) (tIfS (tB (tCB fAll (tCons (tLc (iList K (tVar 3)) (gName 5) tYes (tOp (fNin K) (tVar 1) (tVar 5)) [5]) tNil))) (tDrop (tBMF "list" fAppend (tVar 3) (tCons (tCallS (sp_circuit_from K C) (fun _ => E0) (tCons (tVar 1) (tCons (tVar 2) tNil))) tNil))) tNext)) (tRet (tVar 3))) { nx := fun _ H' => Q .non H', rt := Q } [some (.ref p), none, some (.ref D), none, none, none] H1 := by
    intro D H1 s1 hD hd
    refine q_asg ?_
    walk_at "s"
    refine ⟨by decide, fun pf nf => al nf fun H2 t2 h2 => ?_⟩
    refine q_for ?_
    rw [u_list]
    walk_at "s"
    have hd2 := t2 _ _ hd
    show fSortD [.ref D] H2 _
    unfold fSortD
    dsimp only
    rw [hd2]
    refine ⟨firsts ps, by unfold kvsOf firsts; rw [List.map_map, List.map_map]; rfl, by unfold firsts; rw [List.length_map]; omega, fun srt po pm so npo => al npo fun H3 t3 h3 => ?_⟩
    have s03 := sm_trans s1 (sm_trans t2 t3)
    have nf0 : H0 pf = none := sm_none s1 nf
    have fne : pf ≠ po := ne_of_none (h2) npo
    have dne : D ≠ pf := ne_of_none hd nf
    have lsr : srt.length ≤ 12 := by
      have := pm.length_eq
      unfold firsts at this
      rw [List.length_map] at this
      omega
    refine ⟨po, rfl, ⟨_, asL_seq (asL_at h3)⟩, ?_⟩
    refine loop_list (xs := srt.map V.str) (fun i σ H' => ∃ (x y : Option V) (us : List V) (rows : List (List Str)), σ = [some (.ref p), x, some (.ref D), some (.ref pf), none, y] ∧ Sm H0 H' ∧ H' D = some (.dK (kvsOf ps)) ∧ H' po = some (.lst (srt.map V.str)) ∧ H' pf = some (.lst us) ∧ RowsAt H0 H' us rows ∧ Sofar (look ps) (firsts ps) srt i rows)
      ⟨none, none, [], [], rfl, s03, t3 _ _ hd2, h3, t3 _ _ h2, ⟨rfl, by simp⟩, ⟨by simp, by simp, by simp, by simp, by simp, by simp⟩⟩ (fun i σ H' _ ⟨_, _, _, _, _, _, _, h, _⟩ => asL_at h) ?_ ?_
    · rintro i x σ H' hx ⟨u, y, us, rows, rfl, s4, d4, o4, f4, ra, sf⟩
      obtain ⟨z, hz, rfl⟩ := get_str hx
      have hz2 : z ∈ firsts ps := pm.mem_iff.1 (List.mem_of_getElem? hz)
      have iz := (List.getElem?_eq_some_iff.mp hz).1
      walk_at "s"
      refine q_if1 ?_
      walk_at "s"
      rw [u_list]
      walk_at "s"
      refine ⟨⟨_, asL_seq (asL_at f4)⟩, fun Dc hDc => ?_⟩
      have lus := ra.1
      have lrw := sf.le
      let rowOf : V → List V := fun u => match u with
        | .ref q => (asS (H' q)).getD []
        | _ => []
      refine made_map (fun u => .bl (!inV (.str z) (rowOf u))) (asL_at f4) hDc (by show _ < 2 ^ 24; omega) (fun _ => rfl) (fun j w H5 Q5 hw s5 q5 => ?_) fun H5 s5 h5 => ?_
      · have hj := (List.getElem?_eq_some_iff.mp hw).1
        have hrj : rows[j]? = some (rows[j]'(by omega)) := List.getElem?_eq_getElem _
        obtain ⟨r, rfl, _, hr⟩ := ra.2 j w _ hw hrj
        walk_at "s"
        rw [f_ninS (zs := rows[j]'(by omega)) (by rw [s5 _ _ hr]; rfl)]
        have e : rowOf (.ref r) = (rows[j]'(by omega)).map V.str := by show (asS (H' r)).getD [] = _; rw [hr]; rfl
        have := q5 H5 fun _ _ z => z
        rw [e, inV_str] at this
        exact this
      · rw [h5]
        walk_at "s"
        have s45 := sm_trans s4 s5
        refine ⟨us.map fun u => !inV (.str z) (rowOf u), by rw [List.map_map]; rfl, ?_⟩
        have key : (us.map fun u => !inV (.str z) (rowOf u)).all id = true ↔ ∀ r ∈ rows, z ∉ r := by
          rw [List.all_map, List.all_eq_true]
          constructor
          · intro h r hr
            obtain ⟨j, hj, rfl⟩ := List.mem_iff_getElem.1 hr
            have hju : us[j]? = some (us[j]'(by omega)) := List.getElem?_eq_getElem _
            obtain ⟨w, ew, _, hw⟩ := ra.2 j _ rows[j] hju (by simp [hj])
            have := h _ (List.mem_of_getElem? hju)
            rw [ew] at this
            have e : rowOf (.ref w) = (rows[j]).map V.str := by show (asS (H' w)).getD [] = _; rw [hw]; rfl
            simp only [Function.comp, id, e, inV_str] at this
            simpa using this
          · intro h w hw
            obtain ⟨j, hj, rfl⟩ := List.mem_iff_getElem.1 hw
            have hrj : rows[j]? = some (rows[j]'(by omega)) := List.getElem?_eq_getElem _
            obtain ⟨r, er, _, hr⟩ := ra.2 j us[j] _ (by simp [hj]) hrj
            rw [er]
            have e : rowOf (.ref r) = (rows[j]'(by omega)).map V.str := by show (asS (H' r)).getD [] = _; rw [hr]; rfl
            simp only [Function.comp, id, e, inV_str]
            have := h _ (List.mem_of_getElem? hrj)
            simpa using this
        by_cases c : (us.map fun u => !inV (.str z) (rowOf u)).all id = true
        · rw [if_pos c]
          refine q_drop1 ?_
          walk_at "s"
          refine ⟨tyN_lst (s5 _ _ f4), D, z, ps, rfl, s5 _ _ d4, tp, hz2, fun oc row H6 s6 noc h6 hc h0 => ?_⟩
          have f6 := s6 _ _ (s5 _ _ f4)
          simp only [f6]
          have s06 := sm_trans s45 s6
          have noc0 : H0 oc = none := sm_none s45 noc
          have oc_ne : oc ≠ pf := (ne_of_none (s5 _ _ f4) noc).symm
          refine ⟨by show _ < 2 ^ 24; omega, sm_put s06 nf0, ?_, ?_, us ++ [.ref oc], ?_, rows ++ [row], ?_, sf.more T so pm hz (key.1 c) hc h0⟩
          · rw [upd_ne dne]; exact s6 _ _ (s5 _ _ d4)
          · rw [upd_ne fne.symm]; exact s6 _ _ (s5 _ _ o4)
          · first | rfl | exact upd_same
          · have ra6 : RowsAt H0 (upd H6 pf (.lst (us ++ [.ref oc]))) us rows := ⟨ra.1, fun j w r h1 h2 => by
              obtain ⟨t, e, n, ht⟩ := ra.2 j w r h1 h2
              refine ⟨t, e, n, ?_⟩
              have tne : t ≠ pf := fun z => by rw [z, f4] at ht; cases ht
              rw [upd_ne tne]
              exact s6 _ _ (s5 _ _ ht)⟩
            exact ra6.add noc0 (by rw [upd_ne oc_ne]; exact h6)
        · rw [if_neg c]
          walk_at "s"
          refine ⟨s45, s5 _ _ d4, s5 _ _ o4, us, s5 _ _ f4, rows, ra.sm s5, sf.skip hz ?_⟩
          by_cases e : ∃ r ∈ rows, z ∈ r
          · exact e
          · exact absurd (key.2 fun r hr hm => e ⟨r, hr, hm⟩) c
    · rintro σ H' ⟨u, y, us, rows, rfl, s4, d4, o4, f4, ra, sf⟩
      dsimp only
      walk_at "s"
      rw [List.length_map] at sf
      exact q ps hps tp pf us rows H' (sm_trans s0 s4) (sm_none s0 nf0) f4 ⟨ra.1, fun i u r h1 h2 => by
        obtain ⟨t, e, n, ht⟩ := ra.2 i u r h1 h2
        exact ⟨t, e, sm_none s0 n, ht⟩⟩ (sf.done pm)
  have fin : ∀ (D : Addr) (H1 : Hp), H0 D = none → (Sm H0 H1 ∧ H1 D = some (.dK (kvsOf (ps.take xs.length)))) → gName 2 (.ref D) [some (.ref p), none, none, none, none, none] H1 fun σ' H' => tSeq (tAsg (tLst tNil) (gName 3)) (tSeq (tFor (iList K (tCB fSortD (tCons (tVar 2) tNil))) (gName 1) (tIfS (tB (tCB fAll (tCons (tLc (iList K (tVar 3)) (gName 5) tYes (tOp (fNin K) (tVar 1) (tVar 5)) [5]) tNil))) (tDrop (tBMF "list" fAppend (tVar 3) (tCons (tCallS (sp_circuit_from K C) (fun _ => E0) (tCons (tVar 1) (tCons (tVar 2) tNil))) tNil))) tNext)) (tRet (tVar 3))) { nx := fun _ H' => Q .non H', rt := Q } σ' H' := by
    intro D H1 hD ⟨s1, h1⟩
    rw [lx, List.take_length] at h1
    exact after D H1 s1 hD h1
  rcases asS_or (sm_S s0 hp) with e | e
  · refine .inl ?_
    rw [u_list]
    refine ⟨_, rfl, p, rfl, ⟨xs, asL_seq e⟩, fun D hD => ?_⟩
    refine dcW (xs := xs) (fun i H' => Sm H0 H' ∧ H' D = some (.dK (kvsOf (ps.take i)))) ⟨sm_new (fun _ _ h => h) hD, upd_same⟩ (fun i H' hi pv => ?_) (fun H' pv => ⟨xs, asL_seq (sm_L pv.1 e), Nat.le_refl _⟩) (fun i x H' hx pv => step D i x H' hD hx pv) (fun H' pv => fin D H' hD pv)
    exact ⟨⟨xs, xs[i], asL_seq (sm_L pv.1 e), by simp [hi]⟩, fun x H2 y => ⟨y.1, y.2 xs (asL_seq (sm_L pv.1 e))⟩⟩
  · refine .inr ?_
    rw [u_tupI]
    refine ⟨_, rfl, p, rfl, ⟨xs, asT_seq e⟩, fun D hD => ?_⟩
    refine dcW (xs := xs) (fun i H' => Sm H0 H' ∧ H' D = some (.dK (kvsOf (ps.take i)))) ⟨sm_new (fun _ _ h => h) hD, upd_same⟩ (fun i H' hi pv => ?_) (fun H' pv => ⟨xs, asT_seq (sm_T pv.1 e), Nat.le_refl _⟩) (fun i x H' hx pv => step D i x H' hD hx pv) (fun H' pv => fin D H' hD pv)
    exact ⟨⟨xs, xs[i], asT_seq (sm_T pv.1 e), by simp [hi]⟩, fun x H2 y => ⟨y.1, y.2 xs (asT_seq (sm_T pv.1 e))⟩⟩
end XB

/-! Costs; what the law asks of circuits. -/
namespace XB
open PySem L2
local macro_rules | `(tactic| walk_at "s") => `(tactic| try simp only [u_var, u_c, u_op, u_un, u_nil, u_cons, u_cb, u_call, u_callS, u_tup, u_lst, u_test, u_B, u_and, u_or, u_not, u_andV, u_orV, u_notV, u_ifE, u_chain, u_sl, u_noPart, u_part, u_bm, u_bm0, u_rev, u_lc, u_try, u_sui, u_sui0, u_unb_rt, u_unb_nx, u_xf, u_WE, w_nil, w_cons, u_raise, u_rng1, u_rng2, u_next, u_ret, u_gname, u_gnil, u_gcons, u_gsub, u_gtup,
  f_add, f_addS, f_addR, f_sub, f_mul, f_mulR, f_mod, f_div, f_pow, f_neg, f_cmp, f_eq, f_eqB, f_eqS, f_ne, f_neB, f_neS, f_isN, f_notN, f_isB, f_ix, f_ixS, f_int, f_intB, f_len, f_lenS, f_max, f_min, f_abs, f_list, f_tuple, f_all, f_sum, f_isi, f_isiT, f_append, f_insert, f_pop, f_sl, f_set,
  kitS, tys, List.isEmpty_cons, Option.map_some, kt_NoneType_int, kt_NoneType_bool, kt_NoneType_str, kt_NoneType_list, kt_NoneType_tuple, kt_NoneType_dict, kt_int_int, kt_int_bool, kt_int_str, kt_int_list, kt_int_tuple, kt_int_dict, kt_bool_int, kt_bool_bool, kt_bool_str, kt_bool_list, kt_bool_tuple, kt_bool_dict, kt_str_int, kt_str_bool, kt_str_str, kt_str_list, kt_str_tuple, kt_str_dict, kt_list_int, kt_list_bool, kt_list_str, kt_list_list, kt_list_tuple, kt_list_dict, kt_tuple_int, kt_tuple_bool, kt_tuple_str, kt_tuple_list, kt_tuple_tuple, kt_tuple_dict, kt_dict_int, kt_dict_bool, kt_dict_str, kt_dict_list, kt_dict_tuple, kt_dict_dict, asL_lst, asL_frz, asL_tup, asT_tup, asS_lst, asS_frz, asS_tup, tyN_non, tyN_bl, tyN_int, tyN_str, atV_lit, ixN_lit, upd_same, upd_ne, upd_ne',
  List.getElem?_cons_zero, List.getElem?_cons_succ, List.set_cons_zero, List.set_cons_succ, List.append_nil, List.length_cons, List.length_nil, Option.some.injEq, exists_eq_left', exists_eq_left, exists_and_left, V.bl.injEq, V.int.injEq, V.str.injEq, V.ref.injEq, Bool.not_eq_true, Bool.not_true, Bool.not_false, decide_true, decide_false, decide_eq_true_eq, decide_eq_false_iff_not, Bool.false_eq_true, if_true, if_false, ite_true, ite_false, reduceCtorEq, true_and, and_true, Nat.reduceAdd, Nat.reduceLT, Nat.zero_add, ne_eq, not_false_eq_true, not_true_eq_false, List.cons.injEq, and_assoc])
local macro_rules | `(tactic| walk_at "S") => `(tactic| try simp only [u_var, u_c, u_op, u_un, u_nil, u_cons, u_cb, u_call, u_callS, u_tup, u_lst, u_test, u_B, u_and, u_or, u_not, u_andV, u_orV, u_notV, u_ifE, u_chain, u_sl, u_noPart, u_part, u_bm, u_bm0, u_rev, u_lc, u_try, u_sui, u_sui0, u_unb_rt, u_unb_nx, u_xf, u_WE, w_nil, w_cons, u_raise, u_rng1, u_rng2, u_next, u_ret, u_gname, u_gnil, u_gcons, u_gsub, u_gtup,
  f_add, f_addS, f_addR, f_sub, f_mul, f_mulR, f_mod, f_div, f_pow, f_neg, f_cmp, f_eq, f_eqB, f_eqS, f_ne, f_neB, f_neS, f_isN, f_notN, f_isB, f_ix, f_ixS, f_int, f_intB, f_len, f_lenS, f_max, f_min, f_abs, f_list, f_tuple, f_all, f_sum, f_isi, f_isiT, f_append, f_insert, f_pop, f_sl, f_set,
  kitS, tys, List.isEmpty_cons, Option.map_some, kt_NoneType_int, kt_NoneType_bool, kt_NoneType_str, kt_NoneType_list, kt_NoneType_tuple, kt_NoneType_dict, kt_int_int, kt_int_bool, kt_int_str, kt_int_list, kt_int_tuple, kt_int_dict, kt_bool_int, kt_bool_bool, kt_bool_str, kt_bool_list, kt_bool_tuple, kt_bool_dict, kt_str_int, kt_str_bool, kt_str_str, kt_str_list, kt_str_tuple, kt_str_dict, kt_list_int, kt_list_bool, kt_list_str, kt_list_list, kt_list_tuple, kt_list_dict, kt_tuple_int, kt_tuple_bool, kt_tuple_str, kt_tuple_list, kt_tuple_tuple, kt_tuple_dict, kt_dict_int, kt_dict_bool, kt_dict_str, kt_dict_list, kt_dict_tuple, kt_dict_dict, asL_lst, asL_frz, asL_tup, asT_tup, asS_lst, asS_frz, asS_tup, tyN_non, tyN_bl, tyN_int, tyN_str, atV_lit, ixN_lit, upd_same, upd_ne, upd_ne',
  List.getElem?_cons_zero, List.getElem?_cons_succ, List.set_cons_zero, List.set_cons_succ, List.append_nil, List.length_cons, List.length_nil, Option.some.injEq, exists_eq_left', exists_eq_left, exists_and_left, V.bl.injEq, V.int.injEq, V.str.injEq, V.ref.injEq, Bool.not_eq_true, Bool.not_true, Bool.not_false, decide_true, decide_false, decide_eq_true_eq, decide_eq_false_iff_not, Bool.false_eq_true, if_true, if_false, ite_true, ite_false, reduceCtorEq, true_and, and_true, Nat.reduceAdd, Nat.reduceLT, Nat.zero_add, ne_eq, not_false_eq_true, not_true_eq_false, List.cons.injEq, and_assoc, *])
theorem sum_less : ∀ (rows : List (List Str)), (rows.map fun r => ((r.length : Nat) : Int) - 1).sum = (rows.flatten.length : Nat) - (rows.length : Nat)
  | [] => rfl
  | r :: rows => by
    rw [List.map_cons, List.sum_cons, sum_less rows, List.flatten_cons, List.length_append, List.length_cons]
    omega
/-- rows that stand in tuples -/
def RowsIn (H : Hp) (us : List V) (rows : List (List Str)) : Prop := us.length = rows.length ∧ ∀ (i : Nat) (u : V) (r : List Str), us[i]? = some u → rows[i]? = some r → ∃ q, u = .ref q ∧ H q = some (.tup (r.map V.str))
theorem RowsAt.in_ {H H' : Hp} {us : List V} {rows : List (List Str)} (h : RowsAt H H' us rows) : RowsIn H' us rows := ⟨h.1, fun i u r h1 h2 => by
  obtain ⟨q, e, _, hq⟩ := h.2 i u r h1 h2
  exact ⟨q, e, hq⟩⟩
theorem RowsIn.sm {H H' : Hp} {us : List V} {rows : List (List Str)} (h : RowsIn H us rows) (s : Sm H H') : RowsIn H' us rows := ⟨h.1, fun i u r h1 h2 => by
  obtain ⟨q, e, hq⟩ := h.2 i u r h1 h2
  exact ⟨q, e, s _ _ hq⟩⟩
theorem Circs.rows_le {f : Str → Str} {ks : List Str} {rows : List (List Str)} (T : Tbl f ks) (h : Circs f ks rows) : rows.length ≤ ks.length := by
  have p := (h.flat T).length_eq
  have : ∀ (rs : List (List Str)), (∀ r ∈ rs, r ≠ []) → rs.length ≤ rs.flatten.length := by
    intro rs
    induction rs with
    | nil => simp
    | cons r rs ih =>
      intro hh
      have h1 := ih fun x hx => hh x (List.mem_cons_of_mem _ hx)
      have h2 := List.length_pos_iff.2 (hh r List.mem_cons_self)
      rw [List.flatten_cons, List.length_append, List.length_cons]
      omega
  have := this rows fun r hr => (h.cyc r hr).ne
  omega
def sp_cost (K : PySem.W.Frag) (C : CA) : Sp := fun vs H Q E => ∃ v, vs = [v] ∧ Tab H v ∧ ((¬ ∃ ps, IsPairs H v ps ∧ TabP ps) → ∀ e H', ErrAt H H' e [(("parameter" : Str), V.str ("table" : Str))] → E (.ref C.BadShape) (some e) H') ∧
  ∀ ps, IsPairs H v ps → TabP ps → ∀ (rows : List (List Str)) (H' : Hp), Sm H H' → Circs (look ps) (firsts ps) rows → Q (.int ((ps.length : Nat) - (rows.length : Nat))) H'
def rd_cost (K : PySem.W.Frag) (C : CA) (E : XK) : TS :=
  (tRet (tCB fSum (tCons (tLc (iList K (tCallS (sp_circuits K C) (fun _ => E) (tCons (tVar 0) tNil))) (gName 1) tYes (tOp fSub (tCB fLen (tCons (tVar 1) tNil)) (tC (.int 1))) [1]) tNil)))
theorem pure_cost {K : PySem.W.Frag} {C : CA} (vs : List V) (H : Hp) (Q : VK) (E : XK) (h : sp_cost K C vs H Q E) : rd_cost K C E { nx := fun _ H' => Q .non H', rt := Q } (start [("table" : Str), ("row" : Str)] vs) H := by
  obtain ⟨v, rfl, tb, qe, q⟩ := h
  show rd_cost K C E _ [some v, none] H
  unfold rd_cost
  refine q_ret ?_
  walk_at "s"
  rw [u_list]
  walk_at "s"
  refine ⟨v, rfl, tb, qe, fun ps hps tp o us rows H1 s1 no h1 ra ci => ?_⟩
  refine ⟨o, rfl, ⟨_, asL_seq (asL_at h1)⟩, fun Dd hD => ?_⟩
  have T := tp.tbl
  have lr := ci.rows_le T
  have lf : (firsts ps).length = ps.length := by unfold firsts; rw [List.length_map]
  have lp := tp.le
  have lu := ra.1
  let lenOf : V → Nat := fun u => match u with
    | .ref q => ((asS (H1 q)).getD []).length
    | _ => 0
  refine made_map (fun u => .int ((lenOf u : Nat) - 1)) (asL_at h1) hD (by show _ < 2 ^ 24; omega) (fun _ => rfl) (fun i x H2 Q2 hx s2 q2 => ?_) fun H2 s2 h2 => ?_
  · have hi := (List.getElem?_eq_some_iff.mp hx).1
    have hri : rows[i]? = some (rows[i]'(by omega)) := List.getElem?_eq_getElem _
    obtain ⟨r, rfl, _, hr⟩ := ra.2 i x _ hx hri
    walk_at "s"
    rw [s2 _ _ hr]
    walk_at "s"
    have e : lenOf (.ref r) = ((rows[i]'(by omega)).map V.str).length := by show ((asS (H1 r)).getD []).length = _; rw [hr]; rfl
    have := q2 H2 fun _ _ z => z
    rw [e] at this
    exact this
  · rw [h2]
    walk_at "s"
    refine ⟨us.map fun u => ((lenOf u : Nat) : Int) - 1, by rw [List.map_map]; rfl, ?_⟩
    have e : us.map (fun u => ((lenOf u : Nat) : Int) - 1) = rows.map fun r => ((r.length : Nat) : Int) - 1 := by
      apply List.ext_getElem?
      intro i
      rw [List.getElem?_map, List.getElem?_map]
      by_cases c : i < us.length
      · have h1 : us[i]? = some us[i] := by simp [c]
        have h2 : rows[i]? = some (rows[i]'(by omega)) := List.getElem?_eq_getElem _
        obtain ⟨r, er, _, hr⟩ := ra.2 i _ _ h1 h2
        rw [h1, h2, er]
        have e : lenOf (.ref r) = (rows[i]'(by omega)).length := by show ((asS (H1 r)).getD []).length = _; rw [hr]; show ((rows[i]'(by omega)).map V.str).length = _; rw [List.length_map]
        show some (((lenOf (.ref r) : Nat) : Int) - 1) = some _
        rw [e]
      · rw [List.getElem?_eq_none_iff.mpr (by omega), List.getElem?_eq_none_iff.mpr (by omega)]
        rfl
    rw [e, sum_less]
    have pf := (ci.flat T).length_eq
    have := q ps hps tp rows H2 (sm_trans s1 s2) ci
    rw [pf, lf]
    exact this
def sp_l_ascending (K : PySem.W.Frag) (C : CA) : Sp := fun vs H Q _ => ∃ (p : Addr) (us : List V) (rows : List (List Str)), vs = [.ref p] ∧ H p = some (.lst us) ∧ RowsIn H us rows ∧ us.length ≤ 100 ∧ (∀ r ∈ rows, r ≠ []) ∧ (rows.Pairwise fun a b => ∀ x y, a[0]? = some x → b[0]? = some y → LtS x y) ∧ Q (.bl true) H
def rd_l_ascending (K : PySem.W.Frag) (C : CA) (E : XK) : TS :=
  (tSeq (tFor (iRng2 (tCons (tC (.int 1)) (tCons (tCB fLen (tCons (tVar 0) tNil)) tNil))) (gName 1) (tIfS (tNot (tTest (tOp fLtX (tOp fIx (tVar 0) (tOp fSub (tVar 1) (tC (.int 1)))) (tOp fIx (tVar 0) (tVar 1))))) (tRet (tC (.bl false))) tNext)) (tRet (tC (.bl true))))
theorem pure_l_ascending {K : PySem.W.Frag} {C : CA} (vs : List V) (H : Hp) (Q : VK) (E : XK) (h : sp_l_ascending K C vs H Q E) : rd_l_ascending K C E { nx := fun _ H' => Q .non H', rt := Q } (start [("row" : Str), ("k" : Str)] vs) H := by
  obtain ⟨p, us, rows, rfl, hp, ri, hl, ne, asc, q⟩ := h
  show rd_l_ascending K C E _ [some (.ref p), none] H
  unfold rd_l_ascending
  refine q_for ?_
  walk_at "s"
  simp only [asS_at hp]
  walk_at "s"
  refine ⟨by decide, by decide, by omega, by omega, ?_⟩
  refine loop_range (fun i σ H' => ∃ w : Option V, σ = [some (.ref p), w] ∧ H' = H) ⟨_, rfl, rfl⟩ ?_ ?_
  · rintro i σ H' hi ⟨w, rfl, rfl⟩
    walk_at "s"
    refine q_if1 ?_
    walk_at "s"
    have lu := ri.1
    have hi1 : i + 1 < us.length := by omega
    simp only [asS_at hp]
    have e1 : (1 : Int) + (i : Nat) - 1 = (i : Nat) := by omega
    have e2 : (1 : Int) + (i : Nat) = ((i + 1 : Nat) : Int) := by omega
    rw [e1, e2]
    have u1 : us[i]? = some (us[i]'(by omega)) := List.getElem?_eq_getElem _
    have u2 : us[i + 1]? = some (us[i + 1]'(by omega)) := List.getElem?_eq_getElem _
    have r1 : rows[i]? = some (rows[i]'(by omega)) := List.getElem?_eq_getElem _
    have r2 : rows[i + 1]? = some (rows[i + 1]'(by omega)) := List.getElem?_eq_getElem _
    obtain ⟨q1, eq1, h1⟩ := ri.2 i _ _ u1 r1
    obtain ⟨q2, eq2, h2⟩ := ri.2 (i + 1) _ _ u2 r2
    refine at_nat u1 (at_nat u2 ?_)
    rw [eq1, eq2]
    obtain ⟨x, hx, _⟩ := head_of (ne _ (List.mem_of_getElem? r1))
    obtain ⟨y, hy, _⟩ := head_of (ne _ (List.mem_of_getElem? r2))
    have lt := List.pairwise_iff_getElem.1 asc i (i + 1) (by omega) (by omega) (by omega) x y hx hy
    have xne : x ≠ y := fun e => LtS.irrefl (e ▸ lt)
    have c1 : ∃ t, (rows[i]'(by omega)).map V.str = .str x :: t := by
      cases c : (rows[i]'(by omega)) with
      | nil => rw [c] at hx; cases hx
      | cons a t => rw [c] at hx; cases hx; exact ⟨t.map V.str, rfl⟩
    have c2 : ∃ t, (rows[i + 1]'(by omega)).map V.str = .str y :: t := by
      cases c : (rows[i + 1]'(by omega)) with
      | nil => rw [c] at hy; cases hy
      | cons a t => rw [c] at hy; cases hy; exact ⟨t.map V.str, rfl⟩
    obtain ⟨t1, c1⟩ := c1
    obtain ⟨t2, c2⟩ := c2
    show fLtX (.ref q1) (.ref q2) H' _
    unfold fLtX
    dsimp only
    rw [h1, h2, c1, c2]
    refine ⟨xne, ?_⟩
    have e3 : ltS x y = true := decide_eq_true lt
    rw [e3]
    walk_at "s"
  · rintro σ H' ⟨w, rfl, rfl⟩
    walk_at "s"
    exact q
end XB

/-! What the law asks of circuits. -/
namespace XB
open PySem L2
local macro_rules | `(tactic| walk_at "s") => `(tactic| try simp only [u_var, u_c, u_op, u_un, u_nil, u_cons, u_cb, u_call, u_callS, u_tup, u_lst, u_test, u_B, u_and, u_or, u_not, u_andV, u_orV, u_notV, u_ifE, u_chain, u_sl, u_noPart, u_part, u_bm, u_bm0, u_rev, u_lc, u_try, u_sui, u_sui0, u_unb_rt, u_unb_nx, u_xf, u_WE, w_nil, w_cons, u_raise, u_rng1, u_rng2, u_next, u_ret, u_gname, u_gnil, u_gcons, u_gsub, u_gtup,
  f_add, f_addS, f_addR, f_sub, f_mul, f_mulR, f_mod, f_div, f_pow, f_neg, f_cmp, f_eq, f_eqB, f_eqS, f_ne, f_neB, f_neS, f_isN, f_notN, f_isB, f_ix, f_ixS, f_int, f_intB, f_len, f_lenS, f_max, f_min, f_abs, f_list, f_tuple, f_all, f_sum, f_isi, f_isiT, f_append, f_insert, f_pop, f_sl, f_set,
  kitS, tys, List.isEmpty_cons, Option.map_some, kt_NoneType_int, kt_NoneType_bool, kt_NoneType_str, kt_NoneType_list, kt_NoneType_tuple, kt_NoneType_dict, kt_int_int, kt_int_bool, kt_int_str, kt_int_list, kt_int_tuple, kt_int_dict, kt_bool_int, kt_bool_bool, kt_bool_str, kt_bool_list, kt_bool_tuple, kt_bool_dict, kt_str_int, kt_str_bool, kt_str_str, kt_str_list, kt_str_tuple, kt_str_dict, kt_list_int, kt_list_bool, kt_list_str, kt_list_list, kt_list_tuple, kt_list_dict, kt_tuple_int, kt_tuple_bool, kt_tuple_str, kt_tuple_list, kt_tuple_tuple, kt_tuple_dict, kt_dict_int, kt_dict_bool, kt_dict_str, kt_dict_list, kt_dict_tuple, kt_dict_dict, asL_lst, asL_frz, asL_tup, asT_tup, asS_lst, asS_frz, asS_tup, tyN_non, tyN_bl, tyN_int, tyN_str, atV_lit, ixN_lit, upd_same, upd_ne, upd_ne',
  List.getElem?_cons_zero, List.getElem?_cons_succ, List.set_cons_zero, List.set_cons_succ, List.append_nil, List.length_cons, List.length_nil, Option.some.injEq, exists_eq_left', exists_eq_left, exists_and_left, V.bl.injEq, V.int.injEq, V.str.injEq, V.ref.injEq, Bool.not_eq_true, Bool.not_true, Bool.not_false, decide_true, decide_false, decide_eq_true_eq, decide_eq_false_iff_not, Bool.false_eq_true, if_true, if_false, ite_true, ite_false, reduceCtorEq, true_and, and_true, Nat.reduceAdd, Nat.reduceLT, Nat.zero_add, ne_eq, not_false_eq_true, not_true_eq_false, List.cons.injEq, and_assoc])
local macro_rules | `(tactic| walk_at "S") => `(tactic| try simp only [u_var, u_c, u_op, u_un, u_nil, u_cons, u_cb, u_call, u_callS, u_tup, u_lst, u_test, u_B, u_and, u_or, u_not, u_andV, u_orV, u_notV, u_ifE, u_chain, u_sl, u_noPart, u_part, u_bm, u_bm0, u_rev, u_lc, u_try, u_sui, u_sui0, u_unb_rt, u_unb_nx, u_xf, u_WE, w_nil, w_cons, u_raise, u_rng1, u_rng2, u_next, u_ret, u_gname, u_gnil, u_gcons, u_gsub, u_gtup,
  f_add, f_addS, f_addR, f_sub, f_mul, f_mulR, f_mod, f_div, f_pow, f_neg, f_cmp, f_eq, f_eqB, f_eqS, f_ne, f_neB, f_neS, f_isN, f_notN, f_isB, f_ix, f_ixS, f_int, f_intB, f_len, f_lenS, f_max, f_min, f_abs, f_list, f_tuple, f_all, f_sum, f_isi, f_isiT, f_append, f_insert, f_pop, f_sl, f_set,
  kitS, tys, List.isEmpty_cons, Option.map_some, kt_NoneType_int, kt_NoneType_bool, kt_NoneType_str, kt_NoneType_list, kt_NoneType_tuple, kt_NoneType_dict, kt_int_int, kt_int_bool, kt_int_str, kt_int_list, kt_int_tuple, kt_int_dict, kt_bool_int, kt_bool_bool, kt_bool_str, kt_bool_list, kt_bool_tuple, kt_bool_dict, kt_str_int, kt_str_bool, kt_str_str, kt_str_list, kt_str_tuple, kt_str_dict, kt_list_int, kt_list_bool, kt_list_str, kt_list_list, kt_list_tuple, kt_list_dict, kt_tuple_int, kt_tuple_bool, kt_tuple_str, kt_tuple_list, kt_tuple_tuple, kt_tuple_dict, kt_dict_int, kt_dict_bool, kt_dict_str, kt_dict_list, kt_dict_tuple, kt_dict_dict, asL_lst, asL_frz, asL_tup, asT_tup, asS_lst, asS_frz, asS_tup, tyN_non, tyN_bl, tyN_int, tyN_str, atV_lit, ixN_lit, upd_same, upd_ne, upd_ne',
  List.getElem?_cons_zero, List.getElem?_cons_succ, List.set_cons_zero, List.set_cons_succ, List.append_nil, List.length_cons, List.length_nil, Option.some.injEq, exists_eq_left', exists_eq_left, exists_and_left, V.bl.injEq, V.int.injEq, V.str.injEq, V.ref.injEq, Bool.not_eq_true, Bool.not_true, Bool.not_false, decide_true, decide_false, decide_eq_true_eq, decide_eq_false_iff_not, Bool.false_eq_true, if_true, if_false, ite_true, ite_false, reduceCtorEq, true_and, and_true, Nat.reduceAdd, Nat.reduceLT, Nat.zero_add, ne_eq, not_false_eq_true, not_true_eq_false, List.cons.injEq, and_assoc, *])
section
variable {K : PySem.W.Frag} {σ : L2.St} {H : Hp} {Q : VK} {n : Nat}
theorem u_dnew : tDNewK σ H Q = ∀ p, H p = none → Q (.ref p) (upd H p (.dK [])) := rfl
/-- xs[1:] + xs[:1] -/
theorem turned_ok {a : Addr} {xs : List V} (hσ : σ[n]? = some (some (.ref a))) (ha : H a = some (.tup xs)) (ne : xs ≠ []) (hl : xs.length ≤ 1000) (q : ∀ f H', Sm H H' → asT (H' f) = some (xs.drop 1 ++ xs.take 1) → Q (.ref f) H') :
    tOp fAddA (tSl fSlA (tVar n) (tPart (tC (.int 1))) tNoPart) (tSl fSlA (tVar n) tNoPart (tPart (tC (.int 1)))) σ H Q := by
  have l0 : 0 < xs.length := List.length_pos_iff.2 ne
  have s0 : ∀ d, HT.sIx xs.length d (some (1 : Int)) = 1 := fun d => by
    have := HT.sIx_nat xs.length d 1
    rw [show ((1 : Nat) : Int) = (1 : Int) from rfl] at this
    rw [this]
    omega
  have second : ∀ (b : Addr) (H1 : Hp), Sm H H1 → H1 b = some (.tup (xs.drop 1)) → (tSl fSlA (tVar n) tNoPart (tPart (tC (.int 1)))) σ H1 fun y H2 => fAddA (.ref b) y H2 Q := by
    intro b H1 s1 hb
    rw [u_sl]
    refine ⟨_, hσ, ?_⟩
    dsimp only
    rw [u_noPart, u_part]
    refine ⟨1, rfl, ?_⟩
    unfold fSlA
    dsimp only
    rw [s1 _ _ ha]
    show (_ → _) ∧ (_ → _)
    have add : ∀ (c : Addr) (H2 : Hp), Sm H1 H2 → H2 c = some (.tup (xs.take 1)) → fAddA (.ref b) (.ref c) H2 Q := by
      intro c H2 s2 hc
      unfold fAddA
      dsimp only
      rw [hc, s2 _ _ hb]
      refine ⟨by rw [List.length_drop, List.length_take]; show _ ≤ 2 ^ 24; omega, fun e => ?_, fun e1 e2 => ?_, fun e1 e2 p np => ?_⟩
      · refine q c H2 (sm_trans s1 s2) ?_
        rw [hc, e]
        rfl
      · exfalso
        have := congrArg List.length e2
        rw [List.length_take] at this
        have e0 : min 1 xs.length = 0 := this
        omega
      · refine q p _ (sm_new (sm_trans s1 s2) np) ?_
        rw [upd_same]
        rfl
    refine ⟨fun ⟨_, e⟩ => ?_, fun _ p np => ?_⟩
    · rw [s0] at e
      refine add a H1 (fun _ _ z => z) ?_
      rw [s1 _ _ ha, List.take_of_length_le (by omega)]
    · refine add p _ (sm_new (fun _ _ z => z) np) ?_
      rw [upd_same, cut_to (by decide)]
      rfl
  show (tSl fSlA (tVar n) (tPart (tC (.int 1))) tNoPart) σ H fun x H1 => (tSl fSlA (tVar n) tNoPart (tPart (tC (.int 1)))) σ H1 fun y H2 => fAddA x y H2 Q
  rw [u_sl]
  refine ⟨_, hσ, ?_⟩
  dsimp only
  rw [u_part]
  refine ⟨1, rfl, ?_⟩
  rw [u_noPart]
  unfold fSlA
  dsimp only
  rw [ha]
  show (_ → _) ∧ (_ → _)
  refine ⟨fun ⟨e, _⟩ => ?_, fun _ p np => ?_⟩
  · rw [s0] at e
    cases e
  · refine second p _ (sm_new (fun _ _ z => z) np) ?_
    rw [upd_same, cut_from (by decide)]
    rfl
end
def sp_l_rounds (K : PySem.W.Frag) (C : CA) : Sp := fun vs H Q _ => ∃ (o p : Addr) (us xs : List V) (rows : List (List Str)) (ps : List (Str × Str)), vs = [.ref o, .ref p] ∧ H o = some (.lst us) ∧ RowsIn H us rows ∧ H p = some (.lst xs) ∧ IsPairs H (.ref p) ps ∧ TabP ps ∧ Circs (look ps) (firsts ps) rows ∧
  ∀ H', Sm H H' → Q (.bl true) H'
def rd_l_rounds (K : PySem.W.Frag) (C : CA) (E : XK) : TS :=
  (tSeq (tAsg tDNewK (gName 2)) (tSeq (tFor (iList K (tVar 1)) (gName 3) (sDPut (tVar 2) (tOp fIx (tVar 3) (tC (.int 0))) (tOp fIx (tVar 3) (tC (.int 1))))) (tSeq (tIfS (tOr (tNot (tB (tCB fIsi (tCons (tVar 0) (tCons (tC (.ty "list")) tNil))))) (tNot (tB (tCallS (sp_l_ascending K C) (fun _ => E0) (tCons (tVar 0) tNil))))) (tRet (tC (.bl false))) tNext) (tSeq (tAsg (tLst tNil) (gName 4)) (tSeq (tFor (iList K (tVar 0)) (gName 5) (tSeq (tIfS (tOr (tNot (tB (tCB fIsi (tCons (tVar 5) (tCons (tC (.ty "tuple")) tNil))))) (tTest (tOp (fEq K) (tCB fLen (tCons (tVar 5) tNil)) (tC (.int 0))))) (tRet (tC (.bl false))) tNext) (tSeq (tAsg (tOp fAddA (tSl fSlA (tVar 5) (tPart (tC (.int 1))) tNoPart) (tSl fSlA (tVar 5) tNoPart (tPart (tC (.int 1))))) (gName 6)) (tFor (iRng1 (tCons (tCB fLen (tCons (tVar 5) tNil)) tNil)) (gName 7) (tSeq (tIfS (tOr (tB (tDNotIn (tOp fIx (tVar 5) (tVar 7)) (tVar 2))) (tOr (tTest (tOp (fNe K) (tDGet (tVar 2) (tOp fIx (tVar 5) (tVar 7))) (tOp fIx (tVar 6) (tVar 7)))) (tTest (tOp fLtX (tOp fIx (tVar 5) (tVar 7)) (tOp fIx (tVar 5) (tC (.int 0))))))) (tRet (tC (.bl false))) tNext) (tDrop (tBMF "list" fAppend (tVar 4) (tCons (tOp fIx (tVar 5) (tVar 7)) tNil)))))))) (tRet (tOp (fEq K) (tCB fSortS (tCons (tVar 4) tNil)) (tCB fSortD (tCons (tVar 2) tNil)))))))))
theorem pure_l_rounds {K : PySem.W.Frag} {C : CA} (vs : List V) (H : Hp) (Q : VK) (E : XK) (h : sp_l_rounds K C vs H Q E) : rd_l_rounds K C E { nx := fun _ H' => Q .non H', rt := Q } (start [("told" : Str), ("pairs" : Str), ("image" : Str), ("pair" : Str), ("seen" : Str), ("circuit" : Str), ("following" : Str), ("k" : Str)] vs) H := by
  obtain ⟨o, p, us, xs, rows, ps, rfl, ho, ri, hp, hps, tp, ci, q⟩ := h
  show rd_l_rounds K C E _ [some (.ref o), some (.ref p), none, none, none, none, none, none] H
  unfold rd_l_rounds
  have T := tp.tbl
  obtain ⟨p', xs', e, hp', lx, hq⟩ := id hps
  cases e
  rw [asS_at hp] at hp'
  cases hp'
  have lps := tp.le
  have lrs := ci.rows_le T
  have lf : (firsts ps).length = ps.length := by unfold firsts; rw [List.length_map]
  have lu := ri.1
  refine q_asg ?_
  rw [u_dnew]
  refine fun D hD => al hD fun H1 s1 h1 => ?_
  walk_at "s"
  refine q_for ?_
  rw [u_list]
  walk_at "s"
  refine ⟨⟨xs, asL_seq (asL_at (s1 _ _ hp))⟩, ?_⟩
  refine loop_list (xs := xs) (fun i σ H' => ∃ v, σ = [some (.ref o), some (.ref p), some (.ref D), v, none, none, none, none] ∧ Sm H H' ∧ H' D = some (.dK (kvsOf (ps.take i)))) ⟨none, rfl, s1, h1⟩ (fun i σ H' _ ⟨_, _, s, _⟩ => asL_at (s _ _ hp)) ?_ ?_
  · rintro i x σ H' hx ⟨v, rfl, s2, h2⟩
    have hi := (List.getElem?_eq_some_iff.mp hx).1
    have hpi : ps[i]? = some (ps[i]'(by omega)) := List.getElem?_eq_getElem _
    obtain ⟨r, rfl, hr⟩ := hq i x _ hx hpi
    have hr2 := sm_T s2 hr
    walk_at "s"
    rw [u_dput]
    walk_at "s"
    simp only [asS_of_T hr2]
    walk_at "s"
    refine ⟨_, .inl ⟨_, Sum.inr (ps[i]'(by omega)).1, h2, rfl, ?_, rfl⟩, sm_put s2 hD, ?_⟩
    · unfold kvsOf
      rw [List.length_map, List.length_take]
      show _ < 2 ^ 24
      omega
    · rw [upd_same, kvs_take tp.nd hpi]
  · rintro σ H2 ⟨v, rfl, s2, h2⟩
    rw [lx, List.take_length] at h2
    dsimp only
    refine q_if ?_
    walk_at "s"
    simp only [tyN_lst (s2 _ _ ho)]
    walk_at "s"
    refine ⟨o, us, rows, rfl, s2 _ _ ho, ri.sm s2, by omega, fun r hr => (ci.cyc r hr).ne, ci.asc, ?_⟩
    walk_at "s"
    refine q_asg ?_
    walk_at "s"
    refine ⟨by decide, fun sn nsn => al nsn fun H3 s3 h3 => ?_⟩
    have s03 := sm_trans s2 s3
    have dsn : D ≠ sn := ne_of_none h2 nsn
    have nsn0 : H sn = none := sm_none s2 nsn
    refine q_for ?_
    rw [u_list]
    walk_at "s"
    refine ⟨⟨us, asL_seq (asL_at (s03 _ _ ho))⟩, ?_⟩
    have flen : ∀ i, (rows.take i).flatten.length ≤ 12 := fun i => by
      have e1 := (ci.flat T).length_eq
      have e2 : rows.flatten = (rows.take i).flatten ++ (rows.drop i).flatten := by rw [← List.flatten_append, List.take_append_drop]
      rw [e2, List.length_append] at e1
      omega
    refine loop_list (xs := us) (fun i σ H' => ∃ v f k1 k2, σ = [some (.ref o), some (.ref p), some (.ref D), v, some (.ref sn), k1, f, k2] ∧ Sm H H' ∧ H' D = some (.dK (kvsOf ps)) ∧ H' sn = some (.lst ((rows.take i).flatten.map V.str))) ⟨_, none, none, none, rfl, s03, s3 _ _ h2, h3⟩ (fun i σ H' _ ⟨_, _, _, _, _, s, _⟩ => asL_at (s _ _ ho)) ?_ ?_
    · rintro i x σ H4 hx ⟨v, f, k1, k2, rfl, s4, d4, h4⟩
      have hi := (List.getElem?_eq_some_iff.mp hx).1
      have hri : rows[i]? = some (rows[i]'(by omega)) := List.getElem?_eq_getElem _
      generalize hrow : (rows[i]'(by omega)) = row at hri
      obtain ⟨r, rfl, hr⟩ := ri.2 i x _ hx hri
      have mr : row ∈ rows := List.mem_of_getElem? hri
      have cy := ci.cyc row mr
      have l0 : 0 < row.length := List.length_pos_iff.2 cy.ne
      have lr : row.length ≤ 12 := by
        have := flen (i + 1)
        rw [List.take_succ, hri] at this
        simp at this
        omega
      have hr4 := s4 _ _ hr
      walk_at "s"
      refine q_if ?_
      walk_at "s"
      simp only [tup_ty (show asT (H4 r) = some (row.map V.str) by rw [hr4]; rfl)]
      walk_at "s"
      rw [hr4]
      walk_at "s"
      have c0 : ¬ ((row.map V.str).length : Int) = 0 := by rw [List.length_map]; omega
      simp only [c0, decide_false, Bool.false_eq_true, if_false]
      refine q_asg ?_
      refine turned_ok rfl hr4 (fun e => by rw [e] at c0; exact c0 rfl) (by rw [List.length_map]; omega) fun fo H5 s5 h5 => ?_
      walk_at "s"
      refine q_for1 ?_
      have s05 := sm_trans s4 s5
      have hr5 := s5 _ _ hr4
      walk_at "s"
      rw [hr5]
      walk_at "s"
      refine ⟨by rw [List.length_map]; omega, by rw [List.length_map]; omega, ?_⟩
      refine loop_range (fun k σ H' => ∃ w, σ = [some (.ref o), some (.ref p), some (.ref D), v, some (.ref sn), some (.ref r), some (.ref fo), w] ∧ Sm H H' ∧ (∀ b u, b ≠ sn → H5 b = some u → H' b = some u) ∧ H' D = some (.dK (kvsOf ps)) ∧ H' sn = some (.lst (((rows.take i).flatten ++ row.take k).map V.str))) ⟨_, rfl, s05, fun _ _ _ z => z, s5 _ _ d4, by rw [List.take_zero, List.append_nil]; exact s5 _ _ h4⟩ ?_ ?_
      · rintro k σ H6 hk ⟨w, rfl, s6, s56, d6, h6⟩
        rw [List.length_map] at hk
        have hx : row[k]? = some row[k] := by simp [hk]
        have hx0 : row[0]? = some row[0] := by simp [l0]
        have rne : r ≠ sn := fun z => by rw [z, h4] at hr4; cases hr4
        have fne : fo ≠ sn := fun z => by rw [z, s5 _ _ h4] at h5; cases h5
        have hr6 := s56 _ _ rne hr5
        have hf6 : asT (H6 fo) = some (row.map V.str |>.drop 1 |>.append (row.map V.str |>.take 1)) := by
          cases e : H5 fo with
          | none => rw [e] at h5; cases h5
          | some u => rw [s56 _ _ fne e, ← e]; exact h5
        have mx : row[k] ∈ firsts ps := cy.sub _ (List.getElem_mem hk)
        have hf : ((row.map V.str).drop 1 ++ (row.map V.str).take 1)[k]? = some (.str (look ps row[k])) := by
          by_cases c : k + 1 < row.length
          · rw [List.getElem?_append_left (by rw [List.length_drop, List.length_map]; omega), List.getElem?_drop, List.getElem?_map]
            have e1 : row[1 + k]? = some row[k + 1] := by rw [Nat.add_comm]; simp [c]
            rw [e1, cy.nx k _ _ hx (show row[k + 1]? = some row[k + 1] by simp [c])]
            rfl
          · have ek : k = row.length - 1 := by omega
            rw [List.getElem?_append_right (by rw [List.length_drop, List.length_map]; omega), List.length_drop, List.length_map]
            have e0 : k - (row.length - 1) = 0 := by omega
            rw [e0, List.getElem?_take_of_lt (by decide), List.getElem?_map, hx0]
            have hx' := hx
            rw [show row[k]? = row[row.length - 1]? by rw [ek]] at hx'
            rw [cy.back _ _ hx' hx0]
            rfl
        have ek : (0 : Int) + (k : Nat) = (k : Nat) := Int.zero_add _
        have exk : (row.map V.str)[k]? = some (.str row[k]) := by rw [List.getElem?_map, hx]; rfl
        have ex0 : (row.map V.str)[0]? = some (.str row[0]) := by rw [List.getElem?_map, hx0]; rfl
        walk_at "s"
        refine q_if ?_
        walk_at "s"
        rw [u_dnotin]
        walk_at "s"
        rw [hr6, ek]
        walk_at "s"
        refine at_nat exk ?_
        walk_at "s"
        refine ⟨some (.str (look ps row[k])), .inl ⟨_, Sum.inr row[k], .inl d6, rfl, (valV_of tp.nd mx).symm⟩, ?_⟩
        walk_at "s"
        rw [u_dget]
        walk_at "s"
        rw [hr6]
        walk_at "s"
        refine at_nat exk ?_
        walk_at "s"
        refine ⟨.str (look ps row[k]), .inl ⟨_, Sum.inr row[k], .inl d6, rfl, (valV_of tp.nd mx).symm⟩, ?_⟩
        walk_at "s"
        rw [asS_of_T hf6]
        walk_at "s"
        refine at_nat hf ?_
        walk_at "s"
        have nlt : ltS row[k] row[0] = false := decide_eq_false (ci.least row mr _ hx0 _ (List.getElem_mem hk))
        rw [hr6]
        walk_at "s"
        refine at_nat exk ?_
        simp only [ex0]
        show fLtX (.str _) (.str _) H6 _
        unfold fLtX
        dsimp only
        rw [nlt]
        walk_at "s"
        refine q_drop1 ?_
        walk_at "s"
        refine ⟨tyN_lst h6, ?_⟩
        rw [hr6]
        walk_at "s"
        refine at_nat exk ?_
        walk_at "s"
        simp only [h6]
        have fl := flen i
        refine ⟨by rw [List.length_map, List.length_append, List.length_take]; show _ < 2 ^ 24; omega, ?_⟩
        have e1 : row.take (k + 1) = row.take k ++ [row[k]] := by rw [List.take_succ, hx]; rfl
        refine ⟨sm_put s6 nsn0, fun b u nb hb => by rw [upd_ne nb]; exact s56 _ _ nb hb, by rw [upd_ne dsn]; exact d6, ?_⟩
        rw [e1, ← List.append_assoc, List.map_append (l₁ := (rows.take i).flatten ++ row.take k)]
        first | rfl | exact upd_same
      · rintro σ H6 ⟨w, rfl, s6, s56, d6, h6⟩
        dsimp only
        refine ⟨_, _, _, _, rfl, s6, d6, ?_⟩
        have en : ((row.map V.str).length : Int).toNat = row.length := by rw [List.length_map]; omega
        rw [h6, en, List.take_length, List.take_succ, hri]
        simp
    · rintro σ H4 ⟨v, f, k1, k2, rfl, s4, d4, h4⟩
      rw [lu, List.take_length] at h4
      dsimp only
      walk_at "s"
      show fSortS [.ref sn] H4 _
      unfold fSortS
      dsimp only
      rw [h4]
      have pf := ci.flat T
      refine ⟨rows.flatten, rfl, by have := pf.length_eq; omega, fun ys py pm1 so1 np => al np fun H5 s5 h5 => ?_⟩
      show fSortD [.ref D] H5 _
      unfold fSortD
      dsimp only
      rw [s5 _ _ d4]
      refine ⟨firsts ps, by unfold kvsOf firsts; rw [List.map_map, List.map_map]; rfl, by omega, fun zs pz pm2 so2 np2 => al np2 fun H6 s6 h6 => ?_⟩
      show rEqD K (.ref py) (.ref pz) H6 _
      have e : ys = zs := srt_unique so1 so2 (pm1.trans (pf.trans pm2.symm))
      subst e
      have n1 : ∀ z ∈ ys, nameS z = true := fun z hz => by
        obtain ⟨pr, hm, rfl⟩ := List.mem_map.1 (pm2.mem_iff.1 hz)
        exact (tp.nm pr hm).1
      refine ⟨_, _, .lst (asL_seq (asL_at (s6 _ _ h5))) (dp_strs ys), .lst (asL_seq (asL_at h6)) (dp_strs ys), shaped_strs n1, shaped_strs n1, ?_⟩
      have eb : PyData.eqv (PyData.list (ys.map PyData.str)) (PyData.list (ys.map PyData.str)) = true := by
        show PyData.eqvAll _ _ = true
        rw [eqv_strs]
      rw [eb]
      exact q H6 (sm_trans s4 (sm_trans s5 s6))
end XB

/-! Tables drawn. -/
namespace XB
open PySem L2
local macro_rules | `(tactic| walk_at "s") => `(tactic| try simp only [u_var, u_c, u_op, u_un, u_nil, u_cons, u_cb, u_call, u_callS, u_tup, u_lst, u_test, u_B, u_and, u_or, u_not, u_andV, u_orV, u_notV, u_ifE, u_chain, u_sl, u_noPart, u_part, u_bm, u_bm0, u_rev, u_lc, u_try, u_sui, u_sui0, u_unb_rt, u_unb_nx, u_xf, u_WE, w_nil, w_cons, u_raise, u_rng1, u_rng2, u_next, u_ret, u_gname, u_gnil, u_gcons, u_gsub, u_gtup,
  f_add, f_addS, f_addR, f_sub, f_mul, f_mulR, f_mod, f_div, f_pow, f_neg, f_cmp, f_eq, f_eqB, f_eqS, f_ne, f_neB, f_neS, f_isN, f_notN, f_isB, f_ix, f_ixS, f_int, f_intB, f_len, f_lenS, f_max, f_min, f_abs, f_list, f_tuple, f_all, f_sum, f_isi, f_isiT, f_append, f_insert, f_pop, f_sl, f_set,
  kitS, tys, List.isEmpty_cons, Option.map_some, kt_NoneType_int, kt_NoneType_bool, kt_NoneType_str, kt_NoneType_list, kt_NoneType_tuple, kt_NoneType_dict, kt_int_int, kt_int_bool, kt_int_str, kt_int_list, kt_int_tuple, kt_int_dict, kt_bool_int, kt_bool_bool, kt_bool_str, kt_bool_list, kt_bool_tuple, kt_bool_dict, kt_str_int, kt_str_bool, kt_str_str, kt_str_list, kt_str_tuple, kt_str_dict, kt_list_int, kt_list_bool, kt_list_str, kt_list_list, kt_list_tuple, kt_list_dict, kt_tuple_int, kt_tuple_bool, kt_tuple_str, kt_tuple_list, kt_tuple_tuple, kt_tuple_dict, kt_dict_int, kt_dict_bool, kt_dict_str, kt_dict_list, kt_dict_tuple, kt_dict_dict, asL_lst, asL_frz, asL_tup, asT_tup, asS_lst, asS_frz, asS_tup, tyN_non, tyN_bl, tyN_int, tyN_str, atV_lit, ixN_lit, upd_same, upd_ne, upd_ne',
  List.getElem?_cons_zero, List.getElem?_cons_succ, List.set_cons_zero, List.set_cons_succ, List.append_nil, List.length_cons, List.length_nil, Option.some.injEq, exists_eq_left', exists_eq_left, exists_and_left, V.bl.injEq, V.int.injEq, V.str.injEq, V.ref.injEq, Bool.not_eq_true, Bool.not_true, Bool.not_false, decide_true, decide_false, decide_eq_true_eq, decide_eq_false_iff_not, Bool.false_eq_true, if_true, if_false, ite_true, ite_false, reduceCtorEq, true_and, and_true, Nat.reduceAdd, Nat.reduceLT, Nat.zero_add, ne_eq, not_false_eq_true, not_true_eq_false, List.cons.injEq, and_assoc])
local macro_rules | `(tactic| walk_at "S") => `(tactic| try simp only [u_var, u_c, u_op, u_un, u_nil, u_cons, u_cb, u_call, u_callS, u_tup, u_lst, u_test, u_B, u_and, u_or, u_not, u_andV, u_orV, u_notV, u_ifE, u_chain, u_sl, u_noPart, u_part, u_bm, u_bm0, u_rev, u_lc, u_try, u_sui, u_sui0, u_unb_rt, u_unb_nx, u_xf, u_WE, w_nil, w_cons, u_raise, u_rng1, u_rng2, u_next, u_ret, u_gname, u_gnil, u_gcons, u_gsub, u_gtup,
  f_add, f_addS, f_addR, f_sub, f_mul, f_mulR, f_mod, f_div, f_pow, f_neg, f_cmp, f_eq, f_eqB, f_eqS, f_ne, f_neB, f_neS, f_isN, f_notN, f_isB, f_ix, f_ixS, f_int, f_intB, f_len, f_lenS, f_max, f_min, f_abs, f_list, f_tuple, f_all, f_sum, f_isi, f_isiT, f_append, f_insert, f_pop, f_sl, f_set,
  kitS, tys, List.isEmpty_cons, Option.map_some, kt_NoneType_int, kt_NoneType_bool, kt_NoneType_str, kt_NoneType_list, kt_NoneType_tuple, kt_NoneType_dict, kt_int_int, kt_int_bool, kt_int_str, kt_int_list, kt_int_tuple, kt_int_dict, kt_bool_int, kt_bool_bool, kt_bool_str, kt_bool_list, kt_bool_tuple, kt_bool_dict, kt_str_int, kt_str_bool, kt_str_str, kt_str_list, kt_str_tuple, kt_str_dict, kt_list_int, kt_list_bool, kt_list_str, kt_list_list, kt_list_tuple, kt_list_dict, kt_tuple_int, kt_tuple_bool, kt_tuple_str, kt_tuple_list, kt_tuple_tuple, kt_tuple_dict, kt_dict_int, kt_dict_bool, kt_dict_str, kt_dict_list, kt_dict_tuple, kt_dict_dict, asL_lst, asL_frz, asL_tup, asT_tup, asS_lst, asS_frz, asS_tup, tyN_non, tyN_bl, tyN_int, tyN_str, atV_lit, ixN_lit, upd_same, upd_ne, upd_ne',
  List.getElem?_cons_zero, List.getElem?_cons_succ, List.set_cons_zero, List.set_cons_succ, List.append_nil, List.length_cons, List.length_nil, Option.some.injEq, exists_eq_left', exists_eq_left, exists_and_left, V.bl.injEq, V.int.injEq, V.str.injEq, V.ref.injEq, Bool.not_eq_true, Bool.not_true, Bool.not_false, decide_true, decide_false, decide_eq_true_eq, decide_eq_false_iff_not, Bool.false_eq_true, if_true, if_false, ite_true, ite_false, reduceCtorEq, true_and, and_true, Nat.reduceAdd, Nat.reduceLT, Nat.zero_add, ne_eq, not_false_eq_true, not_true_eq_false, List.cons.injEq, and_assoc, *])
theorem perm_map_inv {α β : Type} {f : α → β} {ys zs : List β} (h : ys.Perm zs) : ∀ {l : List α}, zs = l.map f → ∃ l' : List α, ys = l'.map f ∧ l'.Perm l := by
  induction h with
  | nil => exact fun {l} e => ⟨[], rfl, by cases l with | nil => exact List.Perm.refl _ | cons a l => cases e⟩
  | cons x _ ih =>
    intro l e
    cases l with
    | nil => cases e
    | cons a l =>
      injection e with e1 e2
      obtain ⟨l', e3, p⟩ := ih e2
      exact ⟨a :: l', by rw [List.map_cons, e1, e3], p.cons a⟩
  | swap x y t =>
    intro l e
    cases l with
    | nil => cases e
    | cons a l =>
      cases l with
      | nil => cases e
      | cons b l =>
        injection e with e1 e2
        injection e2 with e2 e3
        exact ⟨b :: a :: l, by rw [List.map_cons, List.map_cons, e1, e2, e3], List.Perm.swap _ _ _⟩
  | trans _ _ ih1 ih2 =>
    intro l e
    obtain ⟨l2, e2, p2⟩ := ih2 e
    obtain ⟨l3, e3, p3⟩ := ih1 e2
    exact ⟨l3, e3, p3.trans p2⟩
/-- pairs in tuples, none of them at st -/
def PairsSt (st : Addr) (H : Hp) (xs : List V) (ps : List (Str × Str)) : Prop := xs.length = ps.length ∧ ∀ (i : Nat) (x : V) (pr : Str × Str), xs[i]? = some x → ps[i]? = some pr → ∃ q, x = .ref q ∧ q ≠ st ∧ H q = some (.tup [.str pr.1, .str pr.2])
theorem PairsSt.kp {st : Addr} {H H' : Hp} {xs : List V} {ps : List (Str × Str)} (h : PairsSt st H xs ps) (k : Kp st H H') : PairsSt st H' xs ps := ⟨h.1, fun i x pr h1 h2 => by
  obtain ⟨q, e, n, hq⟩ := h.2 i x pr h1 h2
  exact ⟨q, e, n, k.1 _ _ n hq⟩⟩
theorem PairsSt.is {st p : Addr} {H : Hp} {xs : List V} {ps : List (Str × Str)} (h : PairsSt st H xs ps) (hp : asS (H p) = some xs) : IsPairs H (.ref p) ps := ⟨p, xs, rfl, hp, h.1, fun i x pr h1 h2 => by
  obtain ⟨q, e, n, hq⟩ := h.2 i x pr h1 h2
  exact ⟨q, e, by rw [hq]; rfl⟩⟩
theorem PairsSt.perm {st : Addr} {H : Hp} {xs ys : List V} {ps : List (Str × Str)} (h : PairsSt st H xs ps) (p : ys.Perm xs) : ∃ qs : List (Str × Str), PairsSt st H ys qs ∧ qs.Perm ps := by
  have e : xs = (xs.zip ps).map Prod.fst := by rw [List.map_fst_zip]; rw [h.1]; exact Nat.le_refl _
  have e2 : ps = (xs.zip ps).map Prod.snd := by rw [List.map_snd_zip]; rw [h.1]; exact Nat.le_refl _
  obtain ⟨l, e3, pl⟩ := perm_map_inv p e
  refine ⟨l.map Prod.snd, ⟨by rw [e3, List.length_map, List.length_map], fun i x pr h1 h2 => ?_⟩, by rw [e2]; exact pl.map _⟩
  rw [e3, List.getElem?_map] at h1
  rw [List.getElem?_map] at h2
  cases ei : l[i]? with
  | none => rw [ei] at h1; cases h1
  | some a =>
    rw [ei] at h1 h2
    cases h1
    cases h2
    have m := pl.mem_iff.1 (List.mem_of_getElem? ei)
    obtain ⟨j, hj, ej⟩ := List.mem_iff_getElem.1 m
    rw [List.length_zip] at hj
    rw [List.getElem_zip] at ej
    have j1 : j < xs.length := by omega
    have j2 : j < ps.length := by omega
    rw [← ej]
    exact h.2 j _ _ (by simp [j1]) (by simp [j2])
theorem TabP.perm {ps qs : List (Str × Str)} (h : TabP ps) (p : qs.Perm ps) : TabP qs where
  le := by rw [p.length_eq]; exact h.le
  nm := fun pr hm => h.nm pr (p.mem_iff.1 hm)
  nd := (p.map _).nodup_iff.2 h.nd
  pm := (p.map _).trans (h.pm.trans (p.map _).symm)
theorem PairsSt.tab {st p : Addr} {H : Hp} {xs : List V} {ps : List (Str × Str)} (h : PairsSt st H xs ps) (hp : H p = some (.lst xs) ∨ H p = some (.tup xs)) (tp : TabP ps) : Tab H (.ref p) := by
  have hs : asS (H p) = some xs := by rcases hp with e | e <;> rw [e] <;> rfl
  refine ⟨?_, fun p' xs' e hx => ?_⟩
  · rcases hp with e | e
    · exact ⟨_, lst_ty (asL_at e)⟩
    · exact ⟨_, tup_ty (show asT (H p) = some xs by rw [e]; rfl)⟩
  · cases e
    rw [hs] at hx
    cases hx
    refine ⟨by have := tp.le; have := h.1; omega, fun x hm => ?_⟩
    obtain ⟨i, hi, rfl⟩ := List.mem_iff_getElem.1 hm
    have hpi : ps[i]? = some (ps[i]'(by have := h.1; omega)) := List.getElem?_eq_getElem _
    obtain ⟨q, e, _, hq⟩ := h.2 i _ _ (show xs[i]? = some xs[i] by simp [hi]) hpi
    rw [e]
    have hq2 : asT (H q) = some [.str (ps[i]'(by have := h.1; omega)).1, .str (ps[i]'(by have := h.1; omega)).2] := by rw [hq]; rfl
    refine ⟨⟨_, tup_ty hq2⟩, fun q' ys e hy => ?_⟩
    cases e
    rw [hq2] at hy
    cases hy
    have nm := tp.nm _ (List.mem_of_getElem? hpi)
    refine ⟨by show 2 ≤ 1000; decide, fun y hy => ?_⟩
    rcases List.mem_cons.1 hy with rfl | hy
    · exact ⟨⟨_, rfl⟩, fun z ez => by cases ez; exact Nat.le_trans (name_len nm.1) (by decide)⟩
    · rw [List.mem_singleton] at hy
      rw [hy]
      exact ⟨⟨_, rfl⟩, fun z ez => by cases ez; exact Nat.le_trans (name_len nm.2) (by decide)⟩
def sp_l_table (K : PySem.W.Frag) (C : CA) : Sp := fun vs H Q _ => ∃ (st : Addr) (n : Nat), vs = [.ref st, .int n] ∧ StAt H st ∧ n ≤ 12 ∧
  ∀ (o : Addr) (xs : List V) (ps : List (Str × Str)) (H' : Hp), H o = none → H' o = some (.lst xs) → PairsSt st H' xs ps → TabP ps → Kp st H H' → StAt H' st → Q (.ref o) H'
def rd_l_table (K : PySem.W.Frag) (C : CA) (E : XK) : TS :=
  (tSeq (tAsg (tCallS (sp_l_names K C) (fun _ => E0) (tCons (tVar 0) (tCons (tVar 1) tNil))) (gName 2)) (tSeq (tAsg (tCallS (sp_l_take K C) (fun _ => E0) (tCons (tVar 0) (tCons (tC (.int 6)) tNil))) (gName 3)) (tSeq (tAsg (tCallS (sp_l_turned K C) (fun _ => E0) (tCons (tVar 0) (tCons (tVar 2) tNil))) (gName 4)) (Evl.tCut (tIfS (tTest (tOp (fEq K) (tVar 3) (tC (.int 0)))) (tAsg (tCB fList (tCons (tVar 2) tNil)) (gName 4)) tNext) (Evl.tCut (tIfS (tTest (tOp (fEq K) (tVar 3) (tC (.int 1)))) (tAsg (tOp fAdd (tSl fSl2 (tVar 2) (tPart (tC (.int 1))) tNoPart) (tSl fSl2 (tVar 2) tNoPart (tPart (tC (.int 1))))) (gName 4)) tNext) (Evl.tCut (tIfS (tAnd (tTest (tOp (fEq K) (tVar 3) (tC (.int 2)))) (tTest (tOp fGt (tVar 1) (tC (.int 1))))) (tAsg (tOp fAdd (tLst (tCons (tOp fIx (tVar 2) (tC (.int 1))) (tCons (tOp fIx (tVar 2) (tC (.int 0))) tNil))) (tSl fSl2 (tVar 2) (tPart (tC (.int 2))) tNoPart)) (gName 4)) tNext) (tSeq (tAsg (tLc (iRng1 (tCons (tCB fLen (tCons (tVar 2) tNil)) tNil)) (gName 6) tYes (tTup (tCons (tOp fIx (tVar 2) (tVar 6)) (tCons (tOp fIx (tVar 4) (tVar 6)) tNil))) [6]) (gName 5)) (tRet (tCallS (sp_l_turned K C) (fun _ => E0) (tCons (tVar 0) (tCons (tVar 5) tNil)))))))))))
theorem pure_l_table {K : PySem.W.Frag} {C : CA} (vs : List V) (H : Hp) (Q : VK) (E : XK) (h : sp_l_table K C vs H Q E) : rd_l_table K C E { nx := fun _ H' => Q .non H', rt := Q } (start [("store" : Str), ("many" : Str), ("firsts" : Str), ("form" : Str), ("images" : Str), ("pairs" : Str), ("k" : Str)] vs) H := by
  obtain ⟨st, n, rfl, hs, n12, q⟩ := h
  show rd_l_table K C E _ [some (.ref st), some (.int n), none, none, none, none, none] H
  unfold rd_l_table
  refine q_asg ?_
  walk_at "s"
  refine ⟨st, n, rfl, hs, n12, fun of H1 nof nmf k1 s1 => ?_⟩
  obtain ⟨zs, hof, lz, nd, nz⟩ := nmf
  have of_st : of ≠ st := hs.ne nof
  refine q_asg ?_
  walk_at "s"
  refine take_ok s1 (by decide) fun form H2 f0 f1 k2 s2 => ?_
  refine q_asg ?_
  walk_at "s"
  have h2 := k2.1 _ _ of_st hof
  refine ⟨st, of, zs.map V.str, rfl, s2, asS_at h2, of_st, by rw [List.length_map]; omega, fun im ys H3 nim him pm k3 s3 => ?_⟩
  obtain ⟨ws, rfl, pw⟩ := perm_strs pm
  have im_st : im ≠ st := s2.ne nim
  have h3 := k3.1 _ _ of_st h2
  have k13 := (k1.trans k2).trans k3
  walk_at "s"
  let W : L2.St → Hp → Prop := fun σ' H' => ∃ (im : Addr) (ws : List Str), σ' = [some (.ref st), some (.int n), some (.ref of), some (.int form), some (.ref im), none, none] ∧ Kp st H H' ∧ StAt H' st ∧ H' im = some (.lst (ws.map V.str)) ∧ ws.Perm zs ∧ im ≠ st ∧ H' of = some (.lst (zs.map V.str))
  refine ⟨W, q_if1 ?_, ?_⟩
  · walk_at "s"
    refine ite2 (fun c => ?_) fun c => ?_
    · refine q_asg1 ?_
      walk_at "s"
      simp only [asS_at h3]
      refine fun l nl => al nl fun H4 t4 h4 => ?_
      walk_at "s"
      exact ⟨l, zs, rfl, k13.trans (kp_sm t4), s3.sm t4, h4, .refl _, s3.ne nl, t4 _ _ h3⟩
    · exact ⟨im, ws, rfl, k13, s3, him, pw, im_st, h3⟩
  clear him pm pw h3 k13 s3 nim im_st k3
  rintro σ H3 ⟨im, ws, rfl, k13, s3, him, pw, im_st, h3⟩
  refine ⟨W, q_if1 ?_, ?_⟩
  · walk_at "s"
    refine ite2 (fun c => ?_) fun c => ?_
    · refine q_asg1 ?_
      walk_at "s"
      simp only [f_slR, f_sl, asL_at h3]
      rw [cut_from (by decide)]
      refine fun l1 n1 => al n1 fun H4 t4 h4 => ?_
      have h34 := t4 _ _ h3
      walk_at "s"
      simp only [f_slR, f_sl, asL_at h34]
      rw [cut_to (by decide)]
      refine fun l2 n2 => al n2 fun H5 t5 h5 => ?_
      have h45 := t5 _ _ h4
      simp only [f_addR, h45, h5]
      refine ⟨by rw [List.length_drop, List.length_take, List.length_map]; show _ ≤ 2 ^ 24; omega, fun l3 n3 => al n3 fun H6 t6 h6 => ?_⟩
      walk_at "s"
      have t46 := sm_trans t4 (sm_trans t5 t6)
      refine ⟨l3, zs.drop 1 ++ zs.take 1, rfl, k13.trans (kp_sm t46), s3.sm t46, ?_, ?_, ((s3.sm t4).sm t5).ne n3, t46 _ _ h3⟩
      · rw [h6, List.map_append, List.map_drop, List.map_take]
        rfl
      · have := List.perm_append_comm (l₁ := zs.drop 1) (l₂ := zs.take 1)
        rwa [List.take_append_drop] at this
    · exact ⟨im, ws, rfl, k13, s3, him, pw, im_st, h3⟩
  clear him pw k13 s3 im_st h3
  rintro σ H3 ⟨im, ws, rfl, k13, s3, him, pw, im_st, h3⟩
  refine ⟨W, q_if1 ?_, ?_⟩
  · walk_at "s"
    have keep : W [some (.ref st), some (.int n), some (.ref of), some (.int form), some (.ref im), none, none] H3 := ⟨im, ws, rfl, k13, s3, him, pw, im_st, h3⟩
    by_cases c : form = 2
    · rw [if_pos c]
      by_cases c2 : (1 : Int) < n
      · rw [if_pos c2]
        obtain ⟨a, b, t, rfl⟩ : ∃ a b t, zs = a :: b :: t := by
          cases zs with
          | nil => simp at lz; omega
          | cons a zs =>
            cases zs with
            | nil => simp at lz; omega
            | cons b t => exact ⟨a, b, t, rfl⟩
        refine q_asg1 ?_
        walk_at "s"
        simp only [asS_at h3, List.map_cons]
        walk_at "s"
        refine ⟨by decide, fun l1 n1 => al n1 fun H4 t4 h4 => ?_⟩
        have h34 := t4 _ _ h3
        simp only [f_slR, f_sl, asL_at h34]
        rw [cut_from (by decide)]
        refine fun l2 n2 => al n2 fun H5 t5 h5 => ?_
        have h45 := t5 _ _ h4
        simp only [f_addR, h45, h5]
        rw [List.length_cons, List.length_cons] at lz
        refine ⟨by simp; show _ ≤ 2 ^ 24; omega, fun l3 n3 => al n3 fun H6 t6 h6 => ?_⟩
        walk_at "s"
        have t46 := sm_trans t4 (sm_trans t5 t6)
        exact ⟨l3, b :: a :: t, rfl, k13.trans (kp_sm t46), s3.sm t46, h6, List.Perm.swap _ _ _, ((s3.sm t4).sm t5).ne n3, t46 _ _ h3⟩
      · rw [if_neg c2]
        exact keep
    · rw [if_neg c]
      exact keep
  clear him pw k13 s3 im_st h3
  rintro σ H3 ⟨im, ws, rfl, k13, s3, him, pw, im_st, h3⟩
  refine q_asg ?_
  walk_at "s"
  simp only [asS_at h3]
  walk_at "s"
  rw [List.length_map]
  have lw := pw.length_eq
  refine ⟨by omega, by omega, fun D hD => ?_⟩
  have D_st : D ≠ st := s3.ne hD
  refine made_range (fun i H' => Kp st H3 H' ∧ StAt H' st ∧ ∃ xs : List V, H' D = some (.lst xs) ∧ PairsSt st H' xs ((zs.zip ws).take i)) ⟨(Kp.refl st H3).new hD, s3.new hD, [], upd_same, rfl, by simp⟩ (fun i H' hi p => ⟨rfl, ?_⟩) fun H' p => ?_
  · obtain ⟨k4, s4, xs, h4, pa⟩ := p
    have hi2 : i < zs.length := by omega
    have hz : zs[i]? = some zs[i] := by simp [hi2]
    have hw : ws[i]? = some (ws[i]'(by omega)) := List.getElem?_eq_getElem _
    have e : (if true = true then (tTup (tCons (tOp fIx (tVar 2) (tVar 6)) (tCons (tOp fIx (tVar 4) (tVar 6)) tNil))) ((wipe [some (.ref st), some (.int n), some (.ref of), some (.int form), some (.ref im), none, none] [6]).set 6 (some (.int (0 + (i : Nat))))) H' fun y H4 => ∃ acc, H4 D = some (.lst acc) ∧ acc.length < sizeLine ∧ (Kp st H3 (upd H4 D (.lst (acc ++ [y]))) ∧ StAt (upd H4 D (.lst (acc ++ [y]))) st ∧ ∃ xs : List V, (upd H4 D (.lst (acc ++ [y]))) D = some (.lst xs) ∧ PairsSt st (upd H4 D (.lst (acc ++ [y]))) xs ((zs.zip ws).take (i + 1))) else True) := by
      rw [if_pos rfl]
      show tTup _ [some (.ref st), some (.int n), some (.ref of), some (.int form), some (.ref im), none, some (.int (0 + (i : Nat)))] H' _
      have ek : (0 : Int) + (i : Nat) = (i : Nat) := Int.zero_add _
      rw [ek]
      walk_at "s"
      simp only [asS_at (k4.1 _ _ of_st h3), asS_at (k4.1 _ _ im_st him)]
      refine at_nat (v := .str zs[i]) (by rw [List.getElem?_map, hz]; rfl) (at_nat (v := .str (ws[i]'(by omega))) (by rw [List.getElem?_map, hw]; rfl) ?_)
      refine ⟨by decide, fun tp ntp => al ntp fun H5 t5 h5 => ?_⟩
      have h45 := t5 _ _ h4
      have lx := pa.1
      have lxz : xs.length = i := by rw [lx, List.length_take, List.length_zip]; omega
      refine ⟨xs, h45, by show _ < 2 ^ 24; omega, (k4.trans (kp_sm t5)).put' hD D_st, s3.put' hD (k4.trans (kp_sm t5)) (s4.sm t5), xs ++ [V.ref tp], by first | rfl | exact upd_same, ?_, fun j x pr h1 h2 => ?_⟩
      · rw [List.length_append, lxz, List.length_take, List.length_zip]
        simp
        omega
      · have tpD : tp ≠ D := (ne_of_none h4 ntp).symm
        by_cases c : j < i
        · rw [List.getElem?_append_left (by omega)] at h1
          have h2' : ((zs.zip ws).take i)[j]? = some pr := by
            rw [List.getElem?_take_of_lt c]
            rwa [List.getElem?_take_of_lt (by omega)] at h2
          obtain ⟨q, eq, nq, hq⟩ := pa.2 j x pr h1 h2'
          refine ⟨q, eq, nq, ?_⟩
          have qD : q ≠ D := fun z => by rw [z, h4] at hq; cases hq
          rw [upd_ne qD]
          exact t5 _ _ hq
        · have hj := (List.getElem?_eq_some_iff.mp h1).1
          rw [List.length_append, List.length_singleton, lxz] at hj
          have ej : j = i := by omega
          subst ej
          rw [List.getElem?_append_right (by omega), lxz, Nat.sub_self] at h1
          cases h1
          rw [List.getElem?_take_of_lt (by omega)] at h2
          have hzw : (zs.zip ws)[j]? = some (zs[j], ws[j]'(by omega)) := by
            rw [List.getElem?_eq_getElem (by rw [List.length_zip]; omega), List.getElem_zip]
          rw [hzw] at h2
          cases h2
          exact ⟨tp, rfl, s4.ne ntp, by rw [upd_ne tpD]; exact h5⟩
    rw [if_pos rfl] at e
    exact e
  · obtain ⟨k4, s4, xs, h4, pa⟩ := p
    have el : (zs.zip ws).take ((zs.length : Int)).toNat = zs.zip ws := List.take_of_length_le (by rw [List.length_zip]; omega)
    rw [el] at pa
    have z1 : (zs.zip ws).map Prod.fst = zs := List.map_fst_zip (by omega)
    have z2 : (zs.zip ws).map Prod.snd = ws := List.map_snd_zip (by omega)
    have tp : TabP (zs.zip ws) := {
      le := by rw [List.length_zip]; omega
      nm := fun pr hm => by
        have m1 : pr.1 ∈ zs := by rw [← z1]; exact List.mem_map.2 ⟨pr, hm, rfl⟩
        have m2 : pr.2 ∈ ws := by rw [← z2]; exact List.mem_map.2 ⟨pr, hm, rfl⟩
        exact ⟨nz _ m1, nz _ (pw.mem_iff.1 m2)⟩
      nd := by show ((zs.zip ws).map Prod.fst).Nodup; rw [z1]; exact nd
      pm := by show ((zs.zip ws).map Prod.fst).Perm ((zs.zip ws).map Prod.snd); rw [z1, z2]; exact pw.symm }
    refine ⟨st, D, xs, rfl, s4, asS_at h4, D_st, by have := pa.1; have := tp.le; omega, fun o ys H5 no ho pm k5 s5 => ?_⟩
    obtain ⟨qs, pq, pp⟩ := (pa.kp k5).perm pm
    have k15 := (k13.trans k4).trans k5
    exact q o ys qs H5 (kp_none' hs (k13.trans k4) no s4) ho pq (tp.perm pp) k15 s5
end XB

/-! What is no table. -/
namespace XB
open PySem L2
local macro_rules | `(tactic| walk_at "s") => `(tactic| try simp only [u_var, u_c, u_op, u_un, u_nil, u_cons, u_cb, u_call, u_callS, u_tup, u_lst, u_test, u_B, u_and, u_or, u_not, u_andV, u_orV, u_notV, u_ifE, u_chain, u_sl, u_noPart, u_part, u_bm, u_bm0, u_rev, u_lc, u_try, u_sui, u_sui0, u_unb_rt, u_unb_nx, u_xf, u_WE, w_nil, w_cons, u_raise, u_rng1, u_rng2, u_next, u_ret, u_gname, u_gnil, u_gcons, u_gsub, u_gtup,
  f_add, f_addS, f_addR, f_sub, f_mul, f_mulR, f_mod, f_div, f_pow, f_neg, f_cmp, f_eq, f_eqB, f_eqS, f_ne, f_neB, f_neS, f_isN, f_notN, f_isB, f_ix, f_ixS, f_int, f_intB, f_len, f_lenS, f_max, f_min, f_abs, f_list, f_tuple, f_all, f_sum, f_isi, f_isiT, f_append, f_insert, f_pop, f_sl, f_set,
  kitS, tys, List.isEmpty_cons, Option.map_some, kt_NoneType_int, kt_NoneType_bool, kt_NoneType_str, kt_NoneType_list, kt_NoneType_tuple, kt_NoneType_dict, kt_int_int, kt_int_bool, kt_int_str, kt_int_list, kt_int_tuple, kt_int_dict, kt_bool_int, kt_bool_bool, kt_bool_str, kt_bool_list, kt_bool_tuple, kt_bool_dict, kt_str_int, kt_str_bool, kt_str_str, kt_str_list, kt_str_tuple, kt_str_dict, kt_list_int, kt_list_bool, kt_list_str, kt_list_list, kt_list_tuple, kt_list_dict, kt_tuple_int, kt_tuple_bool, kt_tuple_str, kt_tuple_list, kt_tuple_tuple, kt_tuple_dict, kt_dict_int, kt_dict_bool, kt_dict_str, kt_dict_list, kt_dict_tuple, kt_dict_dict, asL_lst, asL_frz, asL_tup, asT_tup, asS_lst, asS_frz, asS_tup, tyN_non, tyN_bl, tyN_int, tyN_str, atV_lit, ixN_lit, upd_same, upd_ne, upd_ne',
  List.getElem?_cons_zero, List.getElem?_cons_succ, List.set_cons_zero, List.set_cons_succ, List.append_nil, List.length_cons, List.length_nil, Option.some.injEq, exists_eq_left', exists_eq_left, exists_and_left, V.bl.injEq, V.int.injEq, V.str.injEq, V.ref.injEq, Bool.not_eq_true, Bool.not_true, Bool.not_false, decide_true, decide_false, decide_eq_true_eq, decide_eq_false_iff_not, Bool.false_eq_true, if_true, if_false, ite_true, ite_false, reduceCtorEq, true_and, and_true, Nat.reduceAdd, Nat.reduceLT, Nat.zero_add, ne_eq, not_false_eq_true, not_true_eq_false, List.cons.injEq, and_assoc])
local macro_rules | `(tactic| walk_at "S") => `(tactic| try simp only [u_var, u_c, u_op, u_un, u_nil, u_cons, u_cb, u_call, u_callS, u_tup, u_lst, u_test, u_B, u_and, u_or, u_not, u_andV, u_orV, u_notV, u_ifE, u_chain, u_sl, u_noPart, u_part, u_bm, u_bm0, u_rev, u_lc, u_try, u_sui, u_sui0, u_unb_rt, u_unb_nx, u_xf, u_WE, w_nil, w_cons, u_raise, u_rng1, u_rng2, u_next, u_ret, u_gname, u_gnil, u_gcons, u_gsub, u_gtup,
  f_add, f_addS, f_addR, f_sub, f_mul, f_mulR, f_mod, f_div, f_pow, f_neg, f_cmp, f_eq, f_eqB, f_eqS, f_ne, f_neB, f_neS, f_isN, f_notN, f_isB, f_ix, f_ixS, f_int, f_intB, f_len, f_lenS, f_max, f_min, f_abs, f_list, f_tuple, f_all, f_sum, f_isi, f_isiT, f_append, f_insert, f_pop, f_sl, f_set,
  kitS, tys, List.isEmpty_cons, Option.map_some, kt_NoneType_int, kt_NoneType_bool, kt_NoneType_str, kt_NoneType_list, kt_NoneType_tuple, kt_NoneType_dict, kt_int_int, kt_int_bool, kt_int_str, kt_int_list, kt_int_tuple, kt_int_dict, kt_bool_int, kt_bool_bool, kt_bool_str, kt_bool_list, kt_bool_tuple, kt_bool_dict, kt_str_int, kt_str_bool, kt_str_str, kt_str_list, kt_str_tuple, kt_str_dict, kt_list_int, kt_list_bool, kt_list_str, kt_list_list, kt_list_tuple, kt_list_dict, kt_tuple_int, kt_tuple_bool, kt_tuple_str, kt_tuple_list, kt_tuple_tuple, kt_tuple_dict, kt_dict_int, kt_dict_bool, kt_dict_str, kt_dict_list, kt_dict_tuple, kt_dict_dict, asL_lst, asL_frz, asL_tup, asT_tup, asS_lst, asS_frz, asS_tup, tyN_non, tyN_bl, tyN_int, tyN_str, atV_lit, ixN_lit, upd_same, upd_ne, upd_ne',
  List.getElem?_cons_zero, List.getElem?_cons_succ, List.set_cons_zero, List.set_cons_succ, List.append_nil, List.length_cons, List.length_nil, Option.some.injEq, exists_eq_left', exists_eq_left, exists_and_left, V.bl.injEq, V.int.injEq, V.str.injEq, V.ref.injEq, Bool.not_eq_true, Bool.not_true, Bool.not_false, decide_true, decide_false, decide_eq_true_eq, decide_eq_false_iff_not, Bool.false_eq_true, if_true, if_false, ite_true, ite_false, reduceCtorEq, true_and, and_true, Nat.reduceAdd, Nat.reduceLT, Nat.zero_add, ne_eq, not_false_eq_true, not_true_eq_false, List.cons.injEq, and_assoc, *])
theorem disp_one {σ : L2.St} {H : Hp} {Q : VK} {a b : Str} (q : ∀ p H' kvs, H p = none → Sm H H' → H' p = some (.dK kvs) → Q (.ref p) H') : tDisp [((tC (.str a)), (tC (.str b)))] σ H Q := by
  intro p np
  show (upd H p (.dK [])) p = some (.dK []) ∧ _
  refine ⟨upd_same, [(Sum.inr a, V.str b)], rfl, by show 1 ≤ 15; decide, ?_⟩
  exact q p _ _ np (sm_put (sm_new (fun _ _ z => z) np) np) upd_same
/-- a value that is not at st -/
def Tk (st : Addr) (H : Hp) (v : V) : Prop := Tz v H ∧ v ≠ .ref st
theorem Ty.kp {st : Addr} {v : V} {H H' : Hp} (h : Ty v H) (n : v ≠ .ref st) (k : Kp st H H') : Ty v H' := by
  obtain ⟨t, h⟩ := h
  refine ⟨t, ?_⟩
  cases v with
  | ref p =>
    have np : p ≠ st := fun e => n (by rw [e])
    dsimp only [tyN] at h ⊢
    cases e : H p with
    | none => rw [e] at h; cases h
    | some o => rw [e] at h; rw [k.1 p o np e]; exact h
  | _ => exact h
theorem Tk.kp {st : Addr} {v : V} {H H' : Hp} (h : Tk st H v) (k : Kp st H H') : Tk st H' v := ⟨⟨h.1.1.kp h.2 k, h.1.2⟩, h.2⟩
theorem kp_backT {st q : Addr} {H H' : Hp} {ys : List V} (h : Ty (.ref q) H) (n : q ≠ st) (k : Kp st H H') (e : asT (H' q) = some ys) : asT (H q) = some ys := by
  obtain ⟨t, h⟩ := h
  dsimp only [tyN] at h
  cases eo : H q with
  | none => rw [eo] at h; cases h
  | some o => rw [k.1 q o n eo] at e; exact e
/-- what may be a pair -/
def PairK (st : Addr) (H : Hp) (x : V) : Prop := Ty x H ∧ x ≠ .ref st ∧ ∀ q ys, x = .ref q → asT (H q) = some ys → ys.length ≤ 1000 ∧ ∀ y ∈ ys, Tk st H y
theorem PairK.kp {st : Addr} {H H' : Hp} {x : V} (h : PairK st H x) (k : Kp st H H') : PairK st H' x := ⟨h.1.kp h.2.1 k, h.2.1, fun q ys e hy => by
  subst e
  obtain ⟨l, t⟩ := h.2.2 q ys rfl (kp_backT h.1 (fun e => h.2.1 (by rw [e])) k hy)
  exact ⟨l, fun y hm => (t y hm).kp k⟩⟩
def RowK (st : Addr) (H : Hp) (xs : List V) : Prop := ∀ x ∈ xs, PairK st H x
theorem RowK.kp {st : Addr} {H H' : Hp} {xs : List V} (h : RowK st H xs) (k : Kp st H H') : RowK st H' xs := fun x hx => (h x hx).kp k
theorem RowK.tab {st p : Addr} {H : Hp} {xs : List V} (h : RowK st H xs) (hp : H p = some (.lst xs) ∨ H p = some (.tup xs)) (hl : xs.length ≤ 1000) : Tab H (.ref p) := by
  have hs : asS (H p) = some xs := by rcases hp with e | e <;> rw [e] <;> rfl
  refine ⟨?_, fun p' xs' e hx => ?_⟩
  · rcases hp with e | e
    · exact ⟨_, lst_ty (asL_at e)⟩
    · exact ⟨_, tup_ty (show asT (H p) = some xs by rw [e]; rfl)⟩
  · cases e
    rw [hs] at hx
    cases hx
    refine ⟨hl, fun x hm => ⟨(h x hm).1, fun q ys e hy => ?_⟩⟩
    obtain ⟨l, t⟩ := (h x hm).2.2 q ys e hy
    exact ⟨l, fun y hm => (t y hm).1⟩
/-- pairs of texts in tuples -/
def PairsIn (H : Hp) : List V → List (Str × Str) → Prop
  | [], [] => True
  | x :: xs, p :: ps => (∃ q, x = .ref q ∧ asT (H q) = some [.str p.1, .str p.2]) ∧ PairsIn H xs ps
  | _, _ => False
theorem pairs_in {H : Hp} : ∀ {xs : List V} {ps : List (Str × Str)}, xs.length = ps.length → (∀ (i : Nat) (x : V) (pr : Str × Str), xs[i]? = some x → ps[i]? = some pr → ∃ q, x = .ref q ∧ asT (H q) = some [.str pr.1, .str pr.2]) → PairsIn H xs ps
  | [], [], _, _ => trivial
  | x :: xs, p :: ps, l, h => ⟨h 0 x p rfl rfl, pairs_in (by simpa using l) fun i y pr h1 h2 => h (i + 1) y pr h1 h2⟩
  | [], _ :: _, l, _ => by simp at l
  | _ :: _, [], l, _ => by simp at l
theorem IsPairs.in_ {H : Hp} {v : V} {ps : List (Str × Str)} (h : IsPairs H v ps) : ∃ p xs, v = .ref p ∧ asS (H p) = some xs ∧ PairsIn H xs ps := by
  obtain ⟨p, xs, e, hp, l, k⟩ := h
  exact ⟨p, xs, e, hp, pairs_in l k⟩
theorem PairsSt.in_ {st : Addr} {H : Hp} {xs : List V} {ps : List (Str × Str)} (h : PairsSt st H xs ps) : PairsIn H xs ps := pairs_in h.1 fun i x pr h1 h2 => by
  obtain ⟨q, e, _, hq⟩ := h.2 i x pr h1 h2
  exact ⟨q, e, by rw [hq]; rfl⟩
theorem PairsIn.unique {H : Hp} : ∀ {xs : List V} {a b : List (Str × Str)}, PairsIn H xs a → PairsIn H xs b → a = b
  | [], [], [], _, _ => rfl
  | x :: xs, p :: ps, r :: rs, h, k => by
    obtain ⟨⟨q, e, hq⟩, h⟩ := h
    obtain ⟨⟨q', e', hq'⟩, k⟩ := k
    rw [e] at e'
    cases e'
    rw [hq] at hq'
    injection hq' with hq'
    injection hq' with z1 z2
    injection z2 with z2 _
    injection z1 with z1
    injection z2 with z2
    rw [PairsIn.unique h k, Prod.ext z1 z2]
theorem PairsIn.split {H : Hp} : ∀ {xs ys : List V} {qs : List (Str × Str)}, PairsIn H (xs ++ ys) qs → ∃ q1 q2, qs = q1 ++ q2 ∧ PairsIn H xs q1 ∧ PairsIn H ys q2
  | [], ys, qs, h => ⟨[], qs, rfl, trivial, h⟩
  | x :: xs, ys, [], h => h.elim
  | x :: xs, ys, q :: qs, h => by
    obtain ⟨q1, q2, e, h1, h2⟩ := PairsIn.split (xs := xs) (ys := ys) (qs := qs) h.2
    exact ⟨q :: q1, q2, by rw [e]; rfl, ⟨h.1, h1⟩, h2⟩
theorem PairsIn.join {H : Hp} : ∀ {xs ys : List V} {q1 q2 : List (Str × Str)}, PairsIn H xs q1 → PairsIn H ys q2 → PairsIn H (xs ++ ys) (q1 ++ q2)
  | [], ys, [], q2, _, h => h
  | x :: xs, ys, q :: qs, q2, h, k => ⟨h.1, PairsIn.join h.2 k⟩
  | x :: xs, ys, [], q2, h, _ => h.elim
  | [], ys, q :: qs, q2, h, _ => h.elim
/-- one put among them -/
theorem PairsIn.put {H : Hp} {xs : List V} {ps qs : List (Str × Str)} {n : Nat} {v : V} (h : PairsIn H xs ps) (k : PairsIn H (xs.take n ++ [v] ++ xs.drop n) qs) : ∃ pr, (∃ q, v = .ref q ∧ asT (H q) = some [.str pr.1, .str pr.2]) ∧ (pr :: ps).Perm qs := by
  obtain ⟨q12, q3, rfl, k1, k3⟩ := k.split
  obtain ⟨q1, q2, rfl, k1, k2⟩ := k1.split
  have e : q1 ++ q3 = ps := by
    refine PairsIn.unique (xs := xs) ?_ h
    have := k1.join k3
    rwa [List.take_append_drop] at this
  cases q2 with
  | nil => exact k2.elim
  | cons pr t =>
    cases t with
    | cons _ _ => exact k2.2.elim
    | nil =>
      refine ⟨pr, k2.1, ?_⟩
      rw [← e]
      have : (pr :: (q1 ++ q3)).Perm (q1 ++ pr :: q3) := List.perm_middle.symm
      simpa using this
/-- no table, whatever is drawn -/
def Bad (st : Addr) (H : Hp) (ys : List V) : Prop := ∀ H', Kp st H H' → ∀ qs, PairsIn H' ys qs → ¬ TabP qs
theorem Bad.at {st p : Addr} {H : Hp} {ys : List V} (h : Bad st H ys) (hp : asS (H p) = some ys) : ¬ ∃ qs, IsPairs H (.ref p) qs ∧ TabP qs := fun ⟨qs, h1, h2⟩ => by
  obtain ⟨p', xs, e, hx, k⟩ := h1.in_
  cases e
  rw [hp] at hx
  cases hx
  exact h H (Kp.refl st H) qs k h2
theorem Bad.kp {st : Addr} {H H1 : Hp} {ys : List V} (h : Bad st H ys) (k : Kp st H H1) : Bad st H1 ys := fun H' k' => h H' (k.trans k')
theorem no_mono {v : V} {H H' : Hp} (tb : Tab H v) (n : ¬ ∃ qs, IsPairs H v qs ∧ TabP qs) (s : Sm H H') : ¬ ∃ qs, IsPairs H' v qs ∧ TabP qs := fun ⟨qs, ⟨p, xs, e, hp, l, k⟩, tp⟩ => by
  have hp1 := back_S s tb.1 e hp
  have t := tb.2 p xs e hp1
  refine n ⟨qs, ⟨p, xs, e, hp1, l, fun i x pr h1 h2 => ?_⟩, tp⟩
  obtain ⟨q, eq, hq⟩ := k i x pr h1 h2
  exact ⟨q, eq, back_T s (t.2 x (List.mem_of_getElem? h1)).1 eq hq⟩
def sp_l_no_name (K : PySem.W.Frag) (C : CA) : Sp := fun vs H Q _ => ∃ (st : Addr), vs = [.ref st] ∧ StAt H st ∧ ∀ (v : V) (H' : Hp), Tk st H' v → nameV v = false → Kp st H H' → StAt H' st → Q v H'
def rd_l_no_name (K : PySem.W.Frag) (C : CA) (E : XK) : TS :=
  (tSeq (tAsg (tLst (tCons (tC (.str ("" : Str))) (tCons (tC (.str ("A" : Str))) (tCons (tC (.str ("1" : Str))) (tCons (tC (.str ("1a" : Str))) (tCons (tC (.str ("-" : Str))) (tCons (tC (.str ("a-" : Str))) (tCons (tC (.str ("a b" : Str))) (tCons (tC (.str (" a" : Str))) (tCons (tC (.str ("a " : Str))) (tCons (tC (.str ("a\n" : Str))) (tCons (tC (.str ("abcdefghi" : Str))) (tCons (tC (.str ("aB" : Str))) (tCons (tC (.str ("a_b" : Str))) (tCons (tC (.str ("$a" : Str))) tNil))))))))))))))) (gName 1)) (tSeq (tAsg (tOp fAdd (tVar 1) (tLst (tCons (tC .non) (tCons (tC (.bl true)) (tCons (tC (.int 0)) (tCons (tC (.int 7)) (tCons (tTup (tCons (tC (.str ("a" : Str))) tNil)) (tCons (tLst (tCons (tC (.str ("a" : Str))) tNil)) (tCons (tDisp (((tC (.str ("a" : Str))), (tC (.str ("a" : Str)))) :: [])) tNil))))))))) (gName 1)) (tRet (tOp fIx (tVar 1) (tCallS (sp_l_take K C) (fun _ => E0) (tCons (tVar 0) (tCons (tCB fLen (tCons (tVar 1) tNil)) tNil)))))))
theorem pure_l_no_name {K : PySem.W.Frag} {C : CA} (vs : List V) (H : Hp) (Q : VK) (E : XK) (h : sp_l_no_name K C vs H Q E) : rd_l_no_name K C E { nx := fun _ H' => Q .non H', rt := Q } (start [("store" : Str), ("row" : Str)] vs) H := by
  obtain ⟨st, rfl, hs, q⟩ := h
  show rd_l_no_name K C E _ [some (.ref st), none] H
  unfold rd_l_no_name
  refine q_asg ?_
  walk_at "s"
  refine ⟨by decide, fun pa na => al na fun H1 t1 h1 => ?_⟩
  refine q_asg ?_
  walk_at "s"
  refine ⟨by decide, fun pb nb => al nb fun H2 t2 h2 => ⟨by decide, fun pc nc => al nc fun H3 t3 h3 => ?_⟩⟩
  refine disp_one fun pd H4 kvs nd t4 h4 => ?_
  walk_at "s"
  refine ⟨by decide, fun pe ne => al ne fun H5 t5 h5 => ?_⟩
  have t15 := sm_trans t2 (sm_trans t3 (sm_trans t4 t5))
  have h15 := t15 _ _ h1
  simp only [f_addR, h15, h5]
  refine ⟨by show 21 ≤ 2 ^ 24; decide, fun pr nr => al nr fun H6 t6 h6 => ?_⟩
  have t16 := sm_trans t15 t6
  have t06 := sm_trans t1 t16
  have s1 := hs.sm t1
  have s2 := s1.sm t2
  have s3 := s2.sm t3
  have s5 := s1.sm t15
  have s6 := s1.sm t16
  walk_at "s"
  refine take_ok s6 (by show (21 : Int) < 2 ^ 64; decide) fun r H7 r0 r1 k7 s7 => ?_
  have gb := k7.1 _ _ (s1.ne nb) (sm_trans t3 (sm_trans t4 (sm_trans t5 t6)) _ _ h2)
  have gc := k7.1 _ _ (s2.ne nc) (sm_trans t4 (sm_trans t5 t6) _ _ h3)
  have gd := k7.1 _ _ (s3.ne nd) (sm_trans t5 t6 _ _ h4)
  have gr := k7.1 _ _ (s5.ne nr) h6
  have kk : Kp st H H7 := (kp_sm t06).trans k7
  have eb := s1.ne nb
  have ec := s2.ne nc
  have ed := s3.ne nd
  have r2 : r < 21 := by
    rcases r1 with r1 | r1
    · exact r1
    · omega
  obtain ⟨n, rfl⟩ : ∃ n : Nat, r = n := ⟨r.toNat, by omega⟩
  have n2 : n < 21 := by omega
  clear r1 r2 r0 h15 h6 h5 h1 h2 h3 h4
  show fIx (.ref pr) (.int (n : Nat)) H7 Q
  unfold fIx
  dsimp only
  rw [asS_at gr]
  dsimp only
  generalize hL : [V.str ("" : Str), V.str ("A" : Str), V.str ("1" : Str), V.str ("1a" : Str), V.str ("-" : Str), V.str ("a-" : Str), V.str ("a b" : Str), V.str (" a" : Str), V.str ("a " : Str), V.str ("a\n" : Str), V.str ("abcdefghi" : Str), V.str ("aB" : Str), V.str ("a_b" : Str), V.str ("$a" : Str)] ++ [V.non, V.bl true, V.int 0, V.int 7, V.ref pb, V.ref pc, V.ref pd] = L at gr ⊢
  have all : ∀ v ∈ L, Tk st H7 v ∧ nameV v = false := by
    subst hL
    intro v hv
    simp only [List.cons_append, List.nil_append, List.mem_cons, List.not_mem_nil, or_false] at hv
    rcases hv with rfl | rfl | rfl | rfl | rfl | rfl | rfl | rfl | rfl | rfl | rfl | rfl | rfl | rfl | rfl | rfl | rfl | rfl | rfl | rfl | rfl
    all_goals first
      | exact ⟨⟨⟨⟨_, rfl⟩, fun z e => by cases e; decide +kernel⟩, fun e => by cases e⟩, by decide +kernel⟩
      | exact ⟨⟨⟨⟨_, rfl⟩, fun z e => by cases e⟩, fun e => by cases e⟩, rfl⟩
      | exact ⟨⟨⟨⟨_, tup_ty (show asT (H7 pb) = some _ by rw [gb]; rfl)⟩, fun z e => by cases e⟩, fun e => by cases e; exact eb rfl⟩, rfl⟩
      | exact ⟨⟨⟨⟨_, lst_ty (asL_at gc)⟩, fun z e => by cases e⟩, fun e => by cases e; exact ec rfl⟩, rfl⟩
      | exact ⟨⟨⟨⟨_, tyN_dK gd⟩, fun z e => by cases e⟩, fun e => by cases e; exact ed rfl⟩, rfl⟩
  have lL : L.length = 21 := by subst hL; rfl
  have hn : L[n]? = some (L[n]'(by omega)) := List.getElem?_eq_getElem _
  refine at_nat hn ?_
  have := all _ (List.mem_of_getElem? hn)
  exact q _ _ this.1 this.2 kk s7
end XB

/-! What is no table, drawn. -/
namespace XB
open PySem L2
local macro_rules | `(tactic| walk_at "s") => `(tactic| try simp only [u_var, u_c, u_op, u_un, u_nil, u_cons, u_cb, u_call, u_callS, u_tup, u_lst, u_test, u_B, u_and, u_or, u_not, u_andV, u_orV, u_notV, u_ifE, u_chain, u_sl, u_noPart, u_part, u_bm, u_bm0, u_rev, u_lc, u_try, u_sui, u_sui0, u_unb_rt, u_unb_nx, u_xf, u_WE, w_nil, w_cons, u_raise, u_rng1, u_rng2, u_next, u_ret, u_gname, u_gnil, u_gcons, u_gsub, u_gtup,
  f_add, f_addS, f_addR, f_sub, f_mul, f_mulR, f_mod, f_div, f_pow, f_neg, f_cmp, f_eq, f_eqB, f_eqS, f_ne, f_neB, f_neS, f_isN, f_notN, f_isB, f_ix, f_ixS, f_int, f_intB, f_len, f_lenS, f_max, f_min, f_abs, f_list, f_tuple, f_all, f_sum, f_isi, f_isiT, f_append, f_insert, f_pop, f_sl, f_set,
  kitS, tys, List.isEmpty_cons, Option.map_some, kt_NoneType_int, kt_NoneType_bool, kt_NoneType_str, kt_NoneType_list, kt_NoneType_tuple, kt_NoneType_dict, kt_int_int, kt_int_bool, kt_int_str, kt_int_list, kt_int_tuple, kt_int_dict, kt_bool_int, kt_bool_bool, kt_bool_str, kt_bool_list, kt_bool_tuple, kt_bool_dict, kt_str_int, kt_str_bool, kt_str_str, kt_str_list, kt_str_tuple, kt_str_dict, kt_list_int, kt_list_bool, kt_list_str, kt_list_list, kt_list_tuple, kt_list_dict, kt_tuple_int, kt_tuple_bool, kt_tuple_str, kt_tuple_list, kt_tuple_tuple, kt_tuple_dict, kt_dict_int, kt_dict_bool, kt_dict_str, kt_dict_list, kt_dict_tuple, kt_dict_dict, asL_lst, asL_frz, asL_tup, asT_tup, asS_lst, asS_frz, asS_tup, tyN_non, tyN_bl, tyN_int, tyN_str, atV_lit, ixN_lit, upd_same, upd_ne, upd_ne',
  List.getElem?_cons_zero, List.getElem?_cons_succ, List.set_cons_zero, List.set_cons_succ, List.append_nil, List.length_cons, List.length_nil, Option.some.injEq, exists_eq_left', exists_eq_left, exists_and_left, V.bl.injEq, V.int.injEq, V.str.injEq, V.ref.injEq, Bool.not_eq_true, Bool.not_true, Bool.not_false, decide_true, decide_false, decide_eq_true_eq, decide_eq_false_iff_not, Bool.false_eq_true, if_true, if_false, ite_true, ite_false, reduceCtorEq, true_and, and_true, Nat.reduceAdd, Nat.reduceLT, Nat.zero_add, ne_eq, not_false_eq_true, not_true_eq_false, List.cons.injEq, and_assoc])
local macro_rules | `(tactic| walk_at "S") => `(tactic| try simp only [u_var, u_c, u_op, u_un, u_nil, u_cons, u_cb, u_call, u_callS, u_tup, u_lst, u_test, u_B, u_and, u_or, u_not, u_andV, u_orV, u_notV, u_ifE, u_chain, u_sl, u_noPart, u_part, u_bm, u_bm0, u_rev, u_lc, u_try, u_sui, u_sui0, u_unb_rt, u_unb_nx, u_xf, u_WE, w_nil, w_cons, u_raise, u_rng1, u_rng2, u_next, u_ret, u_gname, u_gnil, u_gcons, u_gsub, u_gtup,
  f_add, f_addS, f_addR, f_sub, f_mul, f_mulR, f_mod, f_div, f_pow, f_neg, f_cmp, f_eq, f_eqB, f_eqS, f_ne, f_neB, f_neS, f_isN, f_notN, f_isB, f_ix, f_ixS, f_int, f_intB, f_len, f_lenS, f_max, f_min, f_abs, f_list, f_tuple, f_all, f_sum, f_isi, f_isiT, f_append, f_insert, f_pop, f_sl, f_set,
  kitS, tys, List.isEmpty_cons, Option.map_some, kt_NoneType_int, kt_NoneType_bool, kt_NoneType_str, kt_NoneType_list, kt_NoneType_tuple, kt_NoneType_dict, kt_int_int, kt_int_bool, kt_int_str, kt_int_list, kt_int_tuple, kt_int_dict, kt_bool_int, kt_bool_bool, kt_bool_str, kt_bool_list, kt_bool_tuple, kt_bool_dict, kt_str_int, kt_str_bool, kt_str_str, kt_str_list, kt_str_tuple, kt_str_dict, kt_list_int, kt_list_bool, kt_list_str, kt_list_list, kt_list_tuple, kt_list_dict, kt_tuple_int, kt_tuple_bool, kt_tuple_str, kt_tuple_list, kt_tuple_tuple, kt_tuple_dict, kt_dict_int, kt_dict_bool, kt_dict_str, kt_dict_list, kt_dict_tuple, kt_dict_dict, asL_lst, asL_frz, asL_tup, asT_tup, asS_lst, asS_frz, asS_tup, tyN_non, tyN_bl, tyN_int, tyN_str, atV_lit, ixN_lit, upd_same, upd_ne, upd_ne',
  List.getElem?_cons_zero, List.getElem?_cons_succ, List.set_cons_zero, List.set_cons_succ, List.append_nil, List.length_cons, List.length_nil, Option.some.injEq, exists_eq_left', exists_eq_left, exists_and_left, V.bl.injEq, V.int.injEq, V.str.injEq, V.ref.injEq, Bool.not_eq_true, Bool.not_true, Bool.not_false, decide_true, decide_false, decide_eq_true_eq, decide_eq_false_iff_not, Bool.false_eq_true, if_true, if_false, ite_true, ite_false, reduceCtorEq, true_and, and_true, Nat.reduceAdd, Nat.reduceLT, Nat.zero_add, ne_eq, not_false_eq_true, not_true_eq_false, List.cons.injEq, and_assoc, *])
theorem if_two {p q : Prop} [Decidable p] [Decidable q] {A R : Prop} (h1 : p → q → A) (h2 : (¬ p ∨ ¬ q) → R) : if p then (if q then A else R) else R := by
  by_cases c : p
  · rw [if_pos c]
    by_cases d : q
    · rw [if_pos d]; exact h1 c d
    · rw [if_neg d]; exact h2 (.inr d)
  · rw [if_neg c]; exact h2 (.inl c)
theorem PairsSt.row' {st : Addr} {H : Hp} {xs : List V} {ps : List (Str × Str)} (h : PairsSt st H xs ps) (tp : ∀ pr ∈ ps, pr.1.length ≤ 1000 ∧ pr.2.length ≤ 1000) : RowK st H xs := fun x hm => by
  obtain ⟨i, hi, rfl⟩ := List.mem_iff_getElem.1 hm
  have hpi : ps[i]? = some (ps[i]'(by have := h.1; omega)) := List.getElem?_eq_getElem _
  obtain ⟨q, e, nq, hq⟩ := h.2 i _ _ (show xs[i]? = some xs[i] by simp [hi]) hpi
  rw [e]
  have hq2 : asT (H q) = some [.str (ps[i]'(by have := h.1; omega)).1, .str (ps[i]'(by have := h.1; omega)).2] := by rw [hq]; rfl
  refine ⟨⟨_, tup_ty hq2⟩, fun e => (by cases e; exact nq rfl), fun q' ys e hy => ?_⟩
  cases e
  rw [hq2] at hy
  cases hy
  have nm := tp _ (List.mem_of_getElem? hpi)
  refine ⟨by show 2 ≤ 1000; decide, fun y hy => ?_⟩
  rcases List.mem_cons.1 hy with rfl | hy
  · exact ⟨⟨⟨_, rfl⟩, fun z ez => by cases ez; exact nm.1⟩, fun e => by cases e⟩
  · rw [List.mem_singleton] at hy
    rw [hy]
    exact ⟨⟨⟨_, rfl⟩, fun z ez => by cases ez; exact nm.2⟩, fun e => by cases e⟩
theorem PairsSt.row {st : Addr} {H : Hp} {xs : List V} {ps : List (Str × Str)} (h : PairsSt st H xs ps) (tp : TabP ps) : RowK st H xs := h.row' fun pr hm => ⟨Nat.le_trans (name_len (tp.nm pr hm).1) (by decide), Nat.le_trans (name_len (tp.nm pr hm).2) (by decide)⟩
theorem Ty.lst {v : V} {H : Hp} {p : Addr} {ys : List V} (h : Ty v H) : Ty v (upd H p (.lst ys)) := by
  cases v with
  | ref q =>
    by_cases e : q = p
    · subst e
      exact ⟨_, lst_ty (show asL ((upd H q (.lst ys)) q) = some ys by rw [upd_same]; rfl)⟩
    · obtain ⟨t, h⟩ := h
      refine ⟨t, ?_⟩
      dsimp only [tyN] at h ⊢
      rw [upd_ne e]
      exact h
  | _ => exact h
theorem PairsIn.len {H : Hp} : ∀ {xs : List V} {qs : List (Str × Str)}, PairsIn H xs qs → xs.length = qs.length
  | [], [], _ => rfl
  | x :: xs, q :: qs, h => by rw [List.length_cons, List.length_cons, PairsIn.len h.2]
  | [], _ :: _, h => h.elim
  | _ :: _, [], h => h.elim
theorem nine_log : ∀ i : Nat, i < 13 → ((0 : Int) + (i : Nat)).natAbs.log2 < 1920 := by decide +kernel
theorem nine_ok : ∀ i : Nat, i < 13 → (toString ((0 : Int) + (i : Nat)) : Str).length ≤ 20 := by decide +kernel
theorem Tk.txt {st : Addr} {H : Hp} {z : Str} (h : z.length ≤ 1000) : Tk st H (.str z) := ⟨⟨⟨_, rfl⟩, fun w e => by cases e; exact h⟩, fun e => by cases e⟩
theorem PairK.tup {st t : Addr} {H : Hp} {ys : List V} (h : H t = some (.tup ys)) (n : t ≠ st) (l : ys.length ≤ 1000) (k : ∀ y ∈ ys, Tk st H y) : PairK st H (.ref t) :=
  ⟨⟨_, tup_ty (show asT (H t) = some ys by rw [h]; rfl)⟩, fun e => (by cases e; exact n rfl), fun q zs e hy => by
    cases e
    rw [h] at hy
    cases hy
    exact ⟨l, k⟩⟩
theorem RowK.put {st : Addr} {H : Hp} {xs : List V} {n : Nat} {v : V} (h : RowK st H xs) (k : PairK st H v) : RowK st H (xs.take n ++ [v] ++ xs.drop n) := fun x hx => by
  rcases List.mem_append.1 hx with hx | hx
  · rcases List.mem_append.1 hx with hx | hx
    · exact h x (List.mem_of_mem_take hx)
    · rw [List.mem_singleton] at hx
      rw [hx]
      exact k
  · exact h x (List.mem_of_mem_drop hx)
/-- a pair too many -/
theorem bad_more {st : Addr} {H : Hp} {xs : List V} {ps : List (Str × Str)} {n : Nat} {v : V} (h : PairsSt st H xs ps) (k : ∀ H', Kp st H H' → ∀ pr : Str × Str, (∃ q, v = .ref q ∧ asT (H' q) = some [.str pr.1, .str pr.2]) → ¬ TabP (pr :: ps)) : Bad st H (xs.take n ++ [v] ++ xs.drop n) := fun H' kk qs hq tq => by
  obtain ⟨pr, e, pm⟩ := PairsIn.put (h.kp kk).in_ hq
  exact k H' kk pr e (tq.perm pm)
theorem not_twice {ps : List (Str × Str)} {pr : Str × Str} (h : pr.1 ∈ firsts ps) : ¬ TabP (pr :: ps) := fun t => (List.nodup_cons.1 t.nd).1 h
theorem not_skew {ps : List (Str × Str)} {pr : Str × Str} (tp : TabP ps) (h : pr.1 ≠ pr.2) : ¬ TabP (pr :: ps) := fun t => by
  have e := t.pm.count_eq pr.1
  have e2 := tp.pm.count_eq pr.1
  have e3 : firsts (pr :: ps) = pr.1 :: firsts ps := rfl
  have e4 : (pr :: ps).map (·.2) = pr.2 :: ps.map (·.2) := rfl
  rw [e3, e4, List.count_cons_self, List.count_cons_of_ne (Ne.symm h)] at e
  omega
def sp_l_no_table (K : PySem.W.Frag) (C : CA) : Sp := fun vs H Q _ => ∃ (st p : Addr) (xs : List V) (ps : List (Str × Str)), vs = [.ref st, .ref p] ∧ StAt H st ∧ H p = some (.lst xs) ∧ p ≠ st ∧ PairsSt st H xs ps ∧ TabP ps ∧
  ∀ (v : V) (H' : Hp), Tab H' v → (¬ ∃ qs, IsPairs H' v qs ∧ TabP qs) → Kp st H H' → StAt H' st → Q v H'
def rd_l_no_table (K : PySem.W.Frag) (C : CA) (E : XK) : TS :=
  (tSeq (tAsg (tLc (iList K (tVar 1)) (gName 7) tYes (tOp fIx (tVar 7) (tC (.int 0))) [7]) (gName 2)) (tSeq (tAsg (tCallS (sp_l_fresh K C) (fun _ => E0) (tCons (tVar 0) (tCons (tVar 2) tNil))) (gName 3)) (tSeq (tAsg (tCallS (sp_l_take K C) (fun _ => E0) (tCons (tVar 0) (tCons (tC (.int 8)) tNil))) (gName 4)) (tSeq (tAsg (tCB fList (tCons (tVar 1) tNil)) (gName 5)) (tSeq (tAsg (tCallS (sp_l_take K C) (fun _ => E0) (tCons (tVar 0) (tCons (tOp fAdd (tCB fLen (tCons (tVar 5) tNil)) (tC (.int 1))) tNil))) (gName 6)) (Evl.tCut (tIfS (tAnd (tTest (tOp (fEq K) (tVar 4) (tC (.int 0)))) (tTest (tOp fGt (tCB fLen (tCons (tVar 5) tNil)) (tC (.int 1))))) (tAsg (tTup (tCons (tOp fIx (tOp fIx (tVar 5) (tC (.int 0))) (tC (.int 0))) (tCons (tOp fIx (tOp fIx (tVar 5) (tC (.int 1))) (tC (.int 1))) tNil))) (gSub (tVar 5) (tC (.int 0)) fSet)) (tIfS (tAnd (tTest (tOp (fEq K) (tVar 4) (tC (.int 1)))) (tTest (tOp fGt (tCB fLen (tCons (tVar 5) tNil)) (tC (.int 0))))) (tDrop (tBMF "list" fInsert (tVar 5) (tCons (tVar 6) (tCons (tOp fIx (tVar 5) (tCallS (sp_l_take K C) (fun _ => E0) (tCons (tVar 0) (tCons (tCB fLen (tCons (tVar 5) tNil)) tNil)))) tNil)))) (tIfS (tTest (tOp (fEq K) (tVar 4) (tC (.int 2)))) (tDrop (tBMF "list" fInsert (tVar 5) (tCons (tVar 6) (tCons (tIf (tTest (tOp (fNe K) (tVar 3) (tC (.str ("q0" : Str))))) (tTup (tCons (tVar 3) (tCons (tC (.str ("q0" : Str))) tNil))) (tTup (tCons (tVar 3) (tCons (tC (.str ("q1" : Str))) tNil)))) tNil)))) (tIfS (tTest (tOp (fEq K) (tVar 4) (tC (.int 3)))) (tDrop (tBMF "list" fInsert (tVar 5) (tCons (tVar 6) (tCons (tLst (tCons (tVar 3) (tCons (tVar 3) tNil))) tNil)))) (tIfS (tTest (tOp (fEq K) (tVar 4) (tC (.int 4)))) (tDrop (tBMF "list" fInsert (tVar 5) (tCons (tVar 6) (tCons (tTup (tCons (tVar 3) (tCons (tVar 3) (tCons (tVar 3) tNil)))) tNil)))) (tIfS (tTest (tOp (fEq K) (tVar 4) (tC (.int 5)))) (tDrop (tBMF "list" fInsert (tVar 5) (tCons (tVar 6) (tCons (tTup (tCons (tCallS (sp_l_no_name K C) (fun _ => E0) (tCons (tVar 0) tNil)) (tCons (tVar 3) tNil))) tNil)))) (tIfS (tTest (tOp (fEq K) (tVar 4) (tC (.int 6)))) (tAsg (tLc (iRng1 (tCons (tC (.int 13)) tNil)) (gName 8) tYes (tTup (tCons (tOp fAdd (tC (.str ("n" : Str))) (tCB fStrI (tCons (tVar 8) tNil))) (tCons (tOp fAdd (tC (.str ("n" : Str))) (tCB fStrI (tCons (tVar 8) tNil))) tNil))) [8]) (gName 5)) (tRet (tCallS (sp_l_pick K C) (fun _ => E0) (tCons (tVar 0) (tCons (tLst (tCons (tC .non) (tCons (tC (.str ("" : Str))) (tCons (tC (.str ("ab" : Str))) (tCons tDNewK (tCons (tC (.int 0)) (tCons (tC (.bl true)) (tCons (tTup (tCons (tTup (tCons (tC (.str ("a" : Str))) (tCons (tC (.str ("b" : Str))) tNil))) tNil)) (tCons (tLst (tCons (tTup (tCons (tC (.str ("a" : Str))) (tCons (tC (.str ("b" : Str))) tNil))) tNil)) tNil))))))))) tNil))))))))))) (tSeq (tIfS (tTest (tOp (fEq K) (tCallS (sp_l_take K C) (fun _ => E0) (tCons (tVar 0) (tCons (tC (.int 2)) tNil))) (tC (.int 0)))) (tRet (tCB fTuple (tCons (tVar 5) tNil))) tNext) (tRet (tVar 5)))))))))
theorem pure_l_no_table {K : PySem.W.Frag} {C : CA} (vs : List V) (H : Hp) (Q : VK) (E : XK) (h : sp_l_no_table K C vs H Q E) : rd_l_no_table K C E { nx := fun _ H' => Q .non H', rt := Q } (start [("store" : Str), ("pairs" : Str), ("names" : Str), ("strange" : Str), ("form" : Str), ("row" : Str), ("at" : Str), ("pair" : Str), ("k" : Str)] vs) H := by
  obtain ⟨st, p, xs, ps, rfl, hs, hp, np, pa, tp, q⟩ := h
  show rd_l_no_table K C E _ [some (.ref st), some (.ref p), none, none, none, none, none, none, none] H
  unfold rd_l_no_table
  have lx := pa.1
  have l12 := tp.le
  refine q_asg ?_
  rw [u_lc, u_list]
  walk_at "s"
  refine ⟨⟨xs, asL_seq (asL_at hp)⟩, fun D hD => ?_⟩
  let f : V → V := fun u => match u with
    | .ref q => ((asS (H q)).getD [])[0]?.getD .non
    | _ => .non
  refine made_map f (asL_at hp) hD (by show _ < 2 ^ 24; omega) (fun _ => rfl) (fun i x H1 Q1 hx s1 q1 => ?_) fun H1 t1 h1 => ?_
  · have hi := (List.getElem?_eq_some_iff.mp hx).1
    have hpi : ps[i]? = some (ps[i]'(by omega)) := List.getElem?_eq_getElem _
    obtain ⟨r, rfl, _, hr⟩ := pa.2 i x _ hx hpi
    walk_at "s"
    rw [s1 _ _ hr]
    walk_at "s"
    have := q1 H1 fun _ _ z => z
    have e : f (.ref r) = .str (ps[i]'(by omega)).1 := by show ((asS (H r)).getD [])[0]?.getD .non = _; rw [hr]; rfl
    rw [e] at this
    exact this
  have ef : xs.map f = (firsts ps).map V.str := by
    apply List.ext_getElem?
    intro i
    by_cases c : i < xs.length
    · have h1 : xs[i]? = some xs[i] := by simp [c]
      have h2 : ps[i]? = some (ps[i]'(by omega)) := List.getElem?_eq_getElem _
      obtain ⟨r, er, _, hr⟩ := pa.2 i _ _ h1 h2
      unfold firsts
      rw [List.getElem?_map, List.map_map, List.getElem?_map, h1, h2, er]
      show some (((asS (H r)).getD [])[0]?.getD .non) = _
      rw [hr]
      rfl
    · rw [List.getElem?_eq_none_iff.mpr (by rw [List.length_map]; omega), List.getElem?_eq_none_iff.mpr (by unfold firsts; rw [List.length_map, List.length_map]; omega)]
  rw [ef] at h1
  have s1 := hs.sm t1
  walk_at "s"
  refine q_asg ?_
  walk_at "s"
  refine ⟨st, D, firsts ps, rfl, s1, h1, hs.ne hD, by unfold firsts; rw [List.length_map]; omega, fun z hz => ?_, fun z H2 lz k2 s2 => ?_⟩
  · obtain ⟨pr, hm, rfl⟩ := List.mem_map.1 hz
    exact Nat.le_trans (name_len (tp.nm pr hm).1) (by decide)
  refine q_asg ?_
  walk_at "s"
  refine take_ok s2 (by decide) fun form H3 f0 f1 k3 s3 => ?_
  have f8 : form < 8 := by omega
  have k13 := ((kp_sm (st := st) t1).trans k2).trans k3
  refine q_asg ?_
  walk_at "s"
  rw [k13.1 _ _ np hp]
  walk_at "s"
  refine fun pr npr => al npr fun H4 t4 h4 => ?_
  have s4 := s3.sm t4
  have pr_st := s3.ne npr
  refine q_asg ?_
  walk_at "s"
  simp only [h4]
  walk_at "s"
  refine take_ok s4 (by omega) fun at_ H5 a0 a1 k5 s5 => ?_
  have k15 := (k13.trans (kp_sm t4)).trans k5
  have h5 := k5.1 _ _ pr_st h4
  have npr0 : H pr = none := kp_none' hs k13 npr s3
  have pa5 := pa.kp k15
  have at_le : at_.toNat ≤ xs.length := by omega
  have put : ∀ (v : V) (H6 : Hp), Kp st H5 H6 → StAt H6 st → PairK st (upd H6 pr (.lst (xs.take at_.toNat ++ [v] ++ xs.drop at_.toNat))) v → (∀ H', Kp st (upd H6 pr (.lst (xs.take at_.toNat ++ [v] ++ xs.drop at_.toNat))) H' → ∀ rp : Str × Str, (∃ q, v = .ref q ∧ asT (H' q) = some [.str rp.1, .str rp.2]) → ¬ TabP (rp :: ps)) →
      Kp st H (upd H6 pr (.lst (xs.take at_.toNat ++ [v] ++ xs.drop at_.toNat))) ∧ StAt (upd H6 pr (.lst (xs.take at_.toNat ++ [v] ++ xs.drop at_.toNat))) st ∧ ∃ x, HO.lst (xs.take at_.toNat ++ [v] ++ xs.drop at_.toNat) = HO.lst x ∧ ¬ pr = st ∧ RowK st (upd H6 pr (.lst (xs.take at_.toNat ++ [v] ++ xs.drop at_.toNat))) x ∧ Bad st (upd H6 pr (.lst (xs.take at_.toNat ++ [v] ++ xs.drop at_.toNat))) x ∧ x.length ≤ 20 := by
    intro v H6 k6 s6 pk bd
    have k16 := k15.trans k6
    have k8 : Kp st H (upd H6 pr (.lst (xs.take at_.toNat ++ [v] ++ xs.drop at_.toNat))) := k16.put' npr0 pr_st
    have pa8 := pa.kp k8
    refine ⟨k8, hs.put' npr0 k16 s6, _, rfl, pr_st, (pa8.row tp).put pk, bad_more pa8 bd, ?_⟩
    rw [List.length_append, List.length_append, List.length_take, List.length_drop, List.length_singleton]
    omega
  have tin : ∀ (tq : Addr) (Ha H6 : Hp) (o : HO), Kp st H5 Ha → StAt Ha st → Ha tq = none → Sm Ha H6 → H6 tq = some o → (upd H6 pr (.lst (xs.take at_.toNat ++ [.ref tq] ++ xs.drop at_.toNat))) tq = some o ∧ tq ≠ st ∧ StAt H6 st ∧ Kp st H5 H6 ∧ H6 pr = some (.lst xs) := by
    intro tq Ha H6 o ka sa nt t6 h6
    have hpr := ka.1 _ _ pr_st h5
    have ne : tq ≠ pr := (ne_of_none hpr nt).symm
    exact ⟨by rw [upd_ne ne]; exact h6, sa.ne nt, sa.sm t6, ka.trans (kp_sm t6), t6 _ _ hpr⟩
  walk_at "s"
  refine ⟨fun σ' H' => ∃ (pr : Addr) (ys : List V) (v7 v8 : Option V), σ' = [some (.ref st), some (.ref p), some (.ref D), some (.str z), some (.int form), some (.ref pr), some (.int at_), v7, v8] ∧ Kp st H H' ∧ StAt H' st ∧ H' pr = some (.lst ys) ∧ pr ≠ st ∧ RowK st H' ys ∧ Bad st H' ys ∧ ys.length ≤ 20, ?_, ?_⟩
  · refine q_if1 ?_
    walk_at "s"
    simp only [asS_at h5]
    refine if_two (fun c1 c2 => ?_) fun c => ?_
    · obtain ⟨x0, x1, xt, rfl⟩ : ∃ a b t, xs = a :: b :: t := by
        cases xs with
        | nil => simp at c2
        | cons a xs =>
          cases xs with
          | nil => simp at c2
          | cons b t => exact ⟨a, b, t, rfl⟩
      obtain ⟨p0, p1, pt, rfl⟩ : ∃ a b t, ps = a :: b :: t := by
        cases ps with
        | nil => simp at lx
        | cons a ps =>
          cases ps with
          | nil => simp at lx
          | cons b t => exact ⟨a, b, t, rfl⟩
      obtain ⟨r0, rfl, n0, hr0⟩ := pa5.2 0 x0 p0 rfl rfl
      obtain ⟨r1, rfl, n1, hr1⟩ := pa5.2 1 x1 p1 rfl rfl
      refine q_asg1 ?_
      walk_at "s"
      simp only [asS_at h5, hr0, hr1]
      walk_at "s"
      try simp only [asS_at h5, hr0, hr1]
      walk_at "s"
      try simp only [asS_at h5, hr0, hr1]
      walk_at "s"
      refine ⟨by decide, fun tq ntq => al ntq fun H6 t6 h6 => ?_⟩
      have h56 := t6 _ _ h5
      walk_at "s"
      simp only [h56]
      have l0 : 0 < (V.ref r0 :: V.ref r1 :: xt).length := by rw [List.length_cons]; omega
      rw [if_pos l0]
      have k16 := k15.trans (kp_sm t6)
      have k8 : Kp st H (upd H6 pr (.lst (.ref tq :: .ref r1 :: xt))) := k16.put' npr0 pr_st
      have tq_pr : tq ≠ pr := (ne_of_none h5 ntq).symm
      have hq8 : (upd H6 pr (.lst (.ref tq :: .ref r1 :: xt))) tq = some (.tup [.str p0.1, .str p1.2]) := by rw [upd_ne tq_pr]; exact h6
      have pa8 := pa.kp k8
      have rk8 := pa8.row tp
      have nm0 := tp.nm p0 List.mem_cons_self
      have nm1 := tp.nm p1 (List.mem_cons_of_mem _ List.mem_cons_self)
      refine ⟨k8, hs.put' npr0 k16 (s5.sm t6), _, rfl, pr_st, fun x hx => ?_, fun H' kk qs hq tq' => ?_, by show _ ≤ 20; rw [List.length_cons, List.length_cons] at lx l12; simp at lx l12 ⊢; omega⟩
      · rcases List.mem_cons.1 hx with rfl | hx
        · refine .tup hq8 (s5.ne ntq) (by show 2 ≤ 1000; decide) fun y hy => ?_
          rcases List.mem_cons.1 hy with rfl | hy
          · exact .txt (Nat.le_trans (name_len nm0.1) (by decide))
          · rw [List.mem_singleton] at hy
            rw [hy]
            exact .txt (Nat.le_trans (name_len nm1.2) (by decide))
        · exact rk8 x (List.mem_cons_of_mem _ hx)
      · have pin := (pa8.kp kk).in_
        have e1 : PairsIn H' (.ref tq :: .ref r1 :: xt) ((p0.1, p1.2) :: p1 :: pt) := ⟨⟨tq, rfl, by rw [kk.1 _ _ (s5.ne ntq) hq8]; rfl⟩, pin.2⟩
        have e2 := hq.unique e1
        subst e2
        have nd2 := (tq'.pm.nodup_iff).1 tq'.nd
        exact (List.nodup_cons.1 nd2).1 List.mem_cons_self
    refine q_if1 ?_
    walk_at "s"
    simp only [asS_at h5]
    refine if_two (fun c1 c2 => ?_) fun c' => ?_
    · refine q_drop1 ?_
      walk_at "s"
      refine ⟨tyN_lst h5, ?_⟩
      simp only [asS_at h5]
      refine take_ok s5 (by omega) fun j H6 j0 j1 k6 s6 => ?_
      have h6 := k6.1 _ _ pr_st h5
      walk_at "s"
      simp only [asS_at h6]
      obtain ⟨j, rfl⟩ : ∃ n : Nat, j = n := ⟨j.toNat, by omega⟩
      have hj : j < xs.length := by omega
      have hxj : xs[j]? = some xs[j] := by simp [hj]
      refine at_nat hxj ?_
      simp only [h6]
      refine ⟨by show _ < 2 ^ 24; omega, a0, by omega, ?_⟩
      refine put _ H6 k6 s6 ?_ fun H' kk rp ⟨q', eq', hq'⟩ => ?_
      · exact (pa.kp ((k15.trans k6).put' npr0 pr_st)).row tp _ (List.getElem_mem hj)
      · have hpj : ps[j]? = some (ps[j]'(by omega)) := List.getElem?_eq_getElem _
        obtain ⟨q2, e2, n2, h2⟩ := (pa.kp (((k15.trans k6).put' npr0 pr_st).trans kk)).2 j _ _ hxj hpj
        rw [eq'] at e2
        cases e2
        rw [h2] at hq'
        injection hq' with hq'
        injection hq' with z1 z2
        injection z1 with z1
        refine not_twice ?_
        rw [← z1]
        exact List.mem_map.2 ⟨_, List.getElem_mem _, rfl⟩
    refine q_if1 ?_
    walk_at "s"
    refine ite2 (fun c2 => ?_) fun c2 => ?_
    · refine q_drop1 ?_
      walk_at "s"
      refine ⟨tyN_lst h5, ?_⟩
      by_cases e : z = ("q0" : Str)
      · rw [if_neg (by simp [e])]
        subst e
        refine ⟨by decide, fun tq ntq => al ntq fun H6 t6 h6 => ?_⟩
        obtain ⟨g1, g2, g3, g4, g5⟩ := tin tq H5 H6 _ (Kp.refl _ _) s5 ntq t6 h6
        simp only [g5]
        refine ⟨by show _ < 2 ^ 24; omega, a0, by omega, ?_⟩
        refine put _ H6 g4 g3 (.tup g1 g2 (by show 2 ≤ 1000; decide) fun y hy => ?_) fun H' kk rp ⟨q', eq', hq'⟩ => ?_
        · rcases List.mem_cons.1 hy with rfl | hy
          · exact .txt (by omega)
          · rw [List.mem_singleton] at hy
            rw [hy]
            exact .txt (by decide +kernel)
        · cases eq'
          rw [kk.1 _ _ g2 g1] at hq'
          injection hq' with hq'
          injection hq' with z1 z2
          injection z2 with z2 _
          injection z1 with z1
          injection z2 with z2
          refine not_skew tp ?_
          rw [← z1, ← z2]
          exact by decide +kernel
      · rw [if_pos (by simp [e])]
        refine ⟨by decide, fun tq ntq => al ntq fun H6 t6 h6 => ?_⟩
        obtain ⟨g1, g2, g3, g4, g5⟩ := tin tq H5 H6 _ (Kp.refl _ _) s5 ntq t6 h6
        simp only [g5]
        refine ⟨by show _ < 2 ^ 24; omega, a0, by omega, ?_⟩
        refine put _ H6 g4 g3 (.tup g1 g2 (by show 2 ≤ 1000; decide) fun y hy => ?_) fun H' kk rp ⟨q', eq', hq'⟩ => ?_
        · rcases List.mem_cons.1 hy with rfl | hy
          · exact .txt (by omega)
          · rw [List.mem_singleton] at hy
            rw [hy]
            exact .txt (by decide +kernel)
        · cases eq'
          rw [kk.1 _ _ g2 g1] at hq'
          injection hq' with hq'
          injection hq' with z1 z2
          injection z2 with z2 _
          injection z1 with z1
          injection z2 with z2
          refine not_skew tp ?_
          rw [← z1, ← z2]
          exact e
    refine q_if1 ?_
    walk_at "s"
    refine ite2 (fun c3 => ?_) fun c3 => ?_
    · refine q_drop1 ?_
      walk_at "s"
      refine ⟨tyN_lst h5, ?_⟩
      refine ⟨by decide, fun tq ntq => al ntq fun H6 t6 h6 => ?_⟩
      obtain ⟨g1, g2, g3, g4, g5⟩ := tin tq H5 H6 _ (Kp.refl _ _) s5 ntq t6 h6
      simp only [g5]
      refine ⟨by show _ < 2 ^ 24; omega, a0, by omega, ?_⟩
      refine put _ H6 g4 g3 ⟨⟨_, lst_ty (asL_at g1)⟩, fun e => (by cases e; exact g2 rfl), fun q' ys e hy => ?_⟩ fun H' kk rp ⟨q', eq', hq'⟩ => ?_
      · cases e
        rw [g1] at hy
        cases hy
      · cases eq'
        rw [kk.1 _ _ g2 g1] at hq'
        cases hq'
    refine q_if1 ?_
    walk_at "s"
    refine ite2 (fun c4 => ?_) fun c4 => ?_
    · refine q_drop1 ?_
      walk_at "s"
      refine ⟨tyN_lst h5, ?_⟩
      refine ⟨by decide, fun tq ntq => al ntq fun H6 t6 h6 => ?_⟩
      obtain ⟨g1, g2, g3, g4, g5⟩ := tin tq H5 H6 _ (Kp.refl _ _) s5 ntq t6 h6
      simp only [g5]
      refine ⟨by show _ < 2 ^ 24; omega, a0, by omega, ?_⟩
      refine put _ H6 g4 g3 (.tup g1 g2 (by show 3 ≤ 1000; decide) fun y hy => ?_) fun H' kk rp ⟨q', eq', hq'⟩ => ?_
      · have ey : y = .str z := by simpa using hy
        rw [ey]
        exact .txt (by omega)
      · cases eq'
        rw [kk.1 _ _ g2 g1] at hq'
        injection hq' with hq'
        injection hq' with _ hq'
        injection hq' with _ hq'
        cases hq'
    refine q_if1 ?_
    walk_at "s"
    refine ite2 (fun c5 => ?_) fun c5 => ?_
    · refine q_drop1 ?_
      walk_at "s"
      refine ⟨tyN_lst h5, ?_⟩
      refine ⟨st, rfl, s5, fun nv Ha tv nn ka sa => ⟨by decide, fun tq ntq => al ntq fun H6 t6 h6 => ?_⟩⟩
      obtain ⟨g1, g2, g3, g4, g5⟩ := tin tq Ha H6 _ ka sa ntq t6 h6
      simp only [g5]
      refine ⟨by show _ < 2 ^ 24; omega, a0, by omega, ?_⟩
      refine put _ H6 g4 g3 (.tup g1 g2 (by show 2 ≤ 1000; decide) fun y hy => ?_) fun H' kk rp ⟨q', eq', hq'⟩ => ?_
      · rcases List.mem_cons.1 hy with rfl | hy
        · exact ⟨⟨(tv.1.1.mono t6).lst, tv.1.2⟩, tv.2⟩
        · rw [List.mem_singleton] at hy
          rw [hy]
          exact .txt (by omega)
      · cases eq'
        rw [kk.1 _ _ g2 g1] at hq'
        injection hq' with hq'
        injection hq' with z1 z2
        intro tt
        rw [z1] at nn
        have := (tt.nm rp List.mem_cons_self).1
        have nn2 : nameS rp.1 = false := nn
        rw [nn2] at this
        cases this
    refine q_if1 ?_
    walk_at "s"
    refine ite2 (fun c6 => ?_) fun c6 => ?_
    · refine q_asg1 ?_
      walk_at "s"
      refine ⟨by decide, by decide, fun D1 hD1 => ?_⟩
      have D1_st : D1 ≠ st := s5.ne hD1
      have D10 : H D1 = none := kp_none' hs k15 hD1 s5
      refine made_range (fun i H' => Kp st H5 H' ∧ StAt H' st ∧ ∃ (xs : List V) (qs : List (Str × Str)), H' D1 = some (.lst xs) ∧ xs.length = i ∧ PairsSt st H' xs qs ∧ ∀ pr ∈ qs, pr.1.length ≤ 1000 ∧ pr.2.length ≤ 1000) ⟨(Kp.refl st H5).new hD1, s5.new hD1, [], [], upd_same, rfl, ⟨rfl, by simp⟩, by simp⟩ (fun i H' hi pv => ⟨rfl, ?_⟩) fun H' pv => ?_
      · obtain ⟨k6, s6, ys, qs, h6, ly, pq, lq⟩ := pv
        have hi : i < 13 := hi
        have e : (if true = true then (tTup (tCons (tOp fAdd (tC (V.str ("n" : Str))) (tCB fStrI (tCons (tVar 8) tNil))) (tCons (tOp fAdd (tC (V.str ("n" : Str))) (tCB fStrI (tCons (tVar 8) tNil))) tNil))) ((wipe [some (.ref st), some (.ref p), some (.ref D), some (.str z), some (.int form), some (.ref pr), some (.int at_), none, none] [8]).set 8 (some (.int (0 + (i : Nat))))) H' fun y H4 => ∃ acc, H4 D1 = some (.lst acc) ∧ acc.length < sizeLine ∧ (Kp st H5 (upd H4 D1 (.lst (acc ++ [y]))) ∧ StAt (upd H4 D1 (.lst (acc ++ [y]))) st ∧ ∃ (xs : List V) (qs : List (Str × Str)), (upd H4 D1 (.lst (acc ++ [y]))) D1 = some (.lst xs) ∧ xs.length = i + 1 ∧ PairsSt st (upd H4 D1 (.lst (acc ++ [y]))) xs qs ∧ ∀ pr ∈ qs, pr.1.length ≤ 1000 ∧ pr.2.length ≤ 1000) else True) := by
          rw [if_pos rfl]
          show tTup _ [some (.ref st), some (.ref p), some (.ref D), some (.str z), some (.int form), some (.ref pr), some (.int at_), none, some (.int (0 + (i : Nat)))] H' _
          have l20 := nine_ok i hi
          have ln : ("n" : Str).length = 1 := by decide +kernel
          have llog := nine_log i hi
          walk_at "s"
          simp only [f_strI]
          refine ⟨llog, ?_⟩
          walk_at "s"
          refine ⟨by show _ ≤ 2 ^ 24; omega, llog, by show _ ≤ 2 ^ 24; omega, by decide, fun tq ntq => al ntq fun H7 t7 h7 => ?_⟩
          have h67 := t7 _ _ h6
          have lx := pq.1
          have tqD : tq ≠ D1 := (ne_of_none h6 ntq).symm
          refine ⟨ys, h67, by show _ < 2 ^ 24; omega, (k6.trans (kp_sm t7)).put' hD1 D1_st, s5.put' hD1 (k6.trans (kp_sm t7)) (s6.sm t7), ys ++ [.ref tq], by first | rfl | exact upd_same, by rw [List.length_append, ly]; rfl, qs ++ [(("n" : Str) ++ (toString ((0 : Int) + (i : Nat)) : Str), ("n" : Str) ++ (toString ((0 : Int) + (i : Nat)) : Str))], ⟨by rw [List.length_append, List.length_append, lx]; rfl, fun j x pr h1 h2 => ?_⟩, fun pr hm => ?_⟩
          · by_cases c : j < ys.length
            · rw [List.getElem?_append_left (by omega)] at h1
              rw [List.getElem?_append_left (by omega)] at h2
              obtain ⟨q, eq, nq, hq⟩ := pq.2 j x pr h1 h2
              refine ⟨q, eq, nq, ?_⟩
              have qD : q ≠ D1 := fun z => by rw [z, h6] at hq; cases hq
              rw [upd_ne qD]
              exact t7 _ _ hq
            · have hj := (List.getElem?_eq_some_iff.mp h1).1
              rw [List.length_append, List.length_singleton] at hj
              have ej : j = ys.length := by omega
              subst ej
              rw [List.getElem?_append_right (by omega), Nat.sub_self] at h1
              rw [List.getElem?_append_right (by omega), ← lx, Nat.sub_self] at h2
              cases h1
              cases h2
              exact ⟨tq, rfl, s6.ne ntq, by rw [upd_ne tqD]; exact h7⟩
          · rcases List.mem_append.1 hm with hm | hm
            · exact lq pr hm
            · rw [List.mem_singleton] at hm
              subst hm
              have : (("n" : Str) ++ (toString ((0 : Int) + (i : Nat)) : Str)).length ≤ 1000 := by rw [str_len_add]; omega
              exact ⟨this, this⟩
        rw [if_pos rfl] at e
        exact e
      · obtain ⟨k6, s6, ys, qs, h6, ly, pq, lq⟩ := pv
        have ly : ys.length = 13 := ly
        refine ⟨k15.trans k6, s6, ys, h6, D1_st, pq.row' lq, fun H'' kk rs hr tr => ?_, by omega⟩
        have := hr.len
        have := tr.le
        omega
    rw [u_dnew]
    refine fun pd npd => al npd fun H6 t6 h6 => ⟨by decide, fun pa1 na => al na fun H7 t7 h7 => ⟨by decide, fun pb nb => al nb fun H8 t8 h8 => ⟨by decide, fun pc nc => al nc fun H9 t9 h9 => ⟨by decide, fun pe ne => al ne fun H10 t10 h10 => ⟨by decide, fun pf nf => al nf fun H11 t11 h11 => ?_⟩⟩⟩⟩⟩
    have s6 := s5.sm t6
    have s7 := s6.sm t7
    have s8 := s7.sm t8
    have s9 := s8.sm t9
    have s10 := s9.sm t10
    have s11 := s10.sm t11
    have t511 : Sm H5 H11 := sm_trans t6 (sm_trans t7 (sm_trans t8 (sm_trans t9 (sm_trans t10 t11))))
    refine pick_ok s11 (asS_at h11) (s10.ne nf) (by show 8 < 2 ^ 60; decide) (by intro z; cases z) fun j v H12 hj k12 s12 => ?_
    have k1 := (k15.trans (kp_sm t511)).trans k12
    have gd := k12.1 _ _ (s5.ne npd) (sm_trans t7 (sm_trans t8 (sm_trans t9 (sm_trans t10 t11))) _ _ h6)
    have ga := k12.1 _ _ (s6.ne na) (sm_trans t8 (sm_trans t9 (sm_trans t10 t11)) _ _ h7)
    have gb := k12.1 _ _ (s7.ne nb) (sm_trans t9 (sm_trans t10 t11) _ _ h8)
    have gc := k12.1 _ _ (s8.ne nc) (sm_trans t10 t11 _ _ h9)
    have ge := k12.1 _ _ (s9.ne ne) (t11 _ _ h10)
    have flat : ∀ v, flatV v = true → Ty v H12 → Tab H12 v ∧ ¬ ∃ qs, IsPairs H12 v qs ∧ TabP qs := by
      intro v hv tv
      refine ⟨⟨tv, fun p xs e _ => ?_⟩, fun ⟨qs, ⟨p, xs, e, _⟩, _⟩ => ?_⟩ <;> (subst e; cases hv)
    have ab : ∀ (t : Addr), t ≠ st → H12 t = some (.tup [V.str ("a" : Str), V.str ("b" : Str)]) → PairsSt st H12 [.ref t] [(("a" : Str), ("b" : Str))] := by
      intro t nt ht
      refine ⟨rfl, fun i x pr h1 h2 => ?_⟩
      cases i with
      | zero => cases h1; cases h2; exact ⟨t, rfl, nt, ht⟩
      | succ i => cases h1
    have abt : ¬ TabP [(("a" : Str), ("b" : Str))] := fun t => by
      have := t.pm.mem_iff (a := ("a" : Str))
      have h2 := this.1 List.mem_cons_self
      have h3 : ("a" : Str) ∈ [("b" : Str)] := h2
      rw [List.mem_singleton] at h3
      revert h3
      decide +kernel
    have abl : ∀ pr ∈ [(("a" : Str), ("b" : Str))], pr.1.length ≤ 1000 ∧ pr.2.length ≤ 1000 := by decide +kernel
    have one : ∀ (o t : Addr), t ≠ st → H12 t = some (.tup [V.str ("a" : Str), V.str ("b" : Str)]) → (H12 o = some (.lst [.ref t]) ∨ H12 o = some (.tup [.ref t])) → Tab H12 (.ref o) ∧ ¬ ∃ qs, IsPairs H12 (.ref o) qs ∧ TabP qs := by
      intro o t nt ht ho
      have p1 := ab t nt ht
      refine ⟨(p1.row' abl).tab ho (by show 1 ≤ 1000; decide), fun ⟨qs, h1, h2⟩ => ?_⟩
      have hs : asS (H12 o) = some [.ref t] := by rcases ho with e | e <;> rw [e] <;> rfl
      rw [h1.unique (p1.is hs)] at h2
      exact abt h2
    have hj8 : j < 8 := (List.getElem?_eq_some_iff.mp hj).1
    have fin : Tab H12 v ∧ ¬ ∃ qs, IsPairs H12 v qs ∧ TabP qs := by
      match j, hj8, hj with
      | 0, _, hj => cases hj; exact flat _ rfl ⟨_, rfl⟩
      | 1, _, hj => cases hj; exact flat _ rfl ⟨_, rfl⟩
      | 2, _, hj => cases hj; exact flat _ rfl ⟨_, rfl⟩
      | 3, _, hj =>
        cases hj
        refine ⟨⟨⟨_, tyN_dK gd⟩, fun p xs e hx => ?_⟩, fun ⟨qs, ⟨p, xs, e, hx, _⟩, _⟩ => ?_⟩ <;> (cases e; rw [gd] at hx; cases hx)
      | 4, _, hj => cases hj; exact flat _ rfl ⟨_, rfl⟩
      | 5, _, hj => cases hj; exact flat _ rfl ⟨_, rfl⟩
      | 6, _, hj => cases hj; exact one _ _ (s6.ne na) ga (.inr gb)
      | 7, _, hj => cases hj; exact one _ _ (s8.ne nc) gc (.inl ge)
    exact q v H12 fin.1 fin.2 k1 s12
  · rintro σ H6 ⟨pr, ys, v7, v8, rfl, k6, s6, h6, np6, rk, bd, ly⟩
    refine q_if ?_
    walk_at "s"
    refine take_ok s6 (by decide) fun r H7 r0 r1 k7 s7 => ?_
    have h7 := k7.1 _ _ np6 h6
    have k17 := k6.trans k7
    walk_at "s"
    refine ite2 (fun c => ?_) fun c => ?_
    · simp only [asL_at h7]
      refine fun t nt => al nt fun H8 t8 h8 => ?_
      exact q _ H8 (((rk.kp k7).kp (kp_sm t8)).tab (.inr h8) (by omega)) (((bd.kp k7).kp (kp_sm t8)).at (by rw [h8]; rfl)) (k17.trans (kp_sm t8)) (s7.sm t8)
    · exact q _ H7 ((rk.kp k7).tab (.inl h7) (by omega)) ((bd.kp k7).at (asS_at h7)) k17 s7
end XB

/-! The exchanges of a table: no program here. -/
namespace XB
open PySem PyProof.Rows
def it (f : Str → Str) : Nat → Str → Str
  | 0, u => u
  | j + 1, u => it f j (f u)
theorem it_add {f : Str → Str} : ∀ {j k : Nat} {u : Str}, it f (j + k) u = it f k (it f j u)
  | 0, k, u => by rw [Nat.zero_add]; rfl
  | j + 1, k, u => by rw [show j + 1 + k = (j + k) + 1 by omega]; exact it_add (j := j)
/-- the values of two names exchanged -/
def sw (p : Str → Str) (x y : Str) : Str → Str := fun z => if z = x then p y else if z = y then p x else p z
theorem sw_x {p : Str → Str} {x y : Str} : sw p x y x = p y := if_pos rfl
theorem sw_y {p : Str → Str} {x y : Str} (h : y ≠ x) : sw p x y y = p x := by unfold sw; rw [if_neg h, if_pos rfl]
theorem sw_z {p : Str → Str} {x y z : Str} (h : z ≠ x) (k : z ≠ y) : sw p x y z = p z := by unfold sw; rw [if_neg h, if_neg k]
theorem sw_sw {p : Str → Str} {x y : Str} : sw (sw p x y) x y = p := by
  funext z
  by_cases h : z = x
  · subst h
    rw [sw_x]
    by_cases k : y = z
    · rw [k, sw_x]
    · rw [sw_y k]
  · by_cases k : z = y
    · subst k
      rw [sw_y h, sw_x]
    · rw [sw_z h k, sw_z h k]
structure Ex (f : Str → Str) (ks a : List Str) (p : Str → Str) : Prop where
  cl : ∀ x ∈ ks, p x ∈ ks
  inj : ∀ x ∈ ks, ∀ y ∈ ks, p x = p y → x = y
  ok : ∀ z ∈ a, p z = f z
  reach : ∀ w ∈ ks, w ∉ a → ∃ j, it f j (p w) = w ∧ ∀ i, i < j → it f i (p w) ∈ a
variable {f : Str → Str} {ks : List Str}
theorem Ex.start : Ex f ks [] id := ⟨fun _ h => h, fun _ _ _ _ h => h, fun _ h => by simp at h, fun w _ _ => ⟨0, rfl, fun i h => by omega⟩⟩
theorem Ex.skip {a : List Str} {p : Str → Str} {x : Str} (h : Ex f ks a p) (e : p x = f x) : Ex f ks (a ++ [x]) p := ⟨h.cl, h.inj, fun z hz => by
  rcases List.mem_append.1 hz with hz | hz
  · exact h.ok z hz
  · rw [List.mem_singleton] at hz
    rw [hz, e], fun w hw nw => by
  obtain ⟨j, h1, h2⟩ := h.reach w hw fun m => nw (List.mem_append_left _ m)
  exact ⟨j, h1, fun i hi => List.mem_append_left _ (h2 i hi)⟩⟩
theorem Ex.swap {a : List Str} {p : Str → Str} {x y : Str} (T : Tbl f ks) (h : Ex f ks a p) (sub : ∀ z ∈ a, z ∈ ks) (hx : x ∈ ks) (nx : x ∉ a) (hy : y ∈ ks) (e : p y = f x) (ne : y ≠ x) : y ∉ a ∧ Ex f ks (a ++ [x]) (sw p x y) := by
  have ny : y ∉ a := fun m => by
    have := h.ok y m
    rw [e] at this
    exact ne (T.inj x hx y hy this).symm
  refine ⟨ny, ⟨fun z hz => ?_, fun z hz w hw ezw => ?_, fun z hz => ?_, fun w hw nw => ?_⟩⟩
  · by_cases c : z = x
    · rw [c, sw_x]; exact h.cl y hy
    · by_cases d : z = y
      · rw [d, sw_y ne]; exact h.cl x hx
      · rw [sw_z c d]; exact h.cl z hz
  · have tw : ∀ z ∈ ks, ∃ z' ∈ ks, sw p x y z = p z' ∧ ((z = x ∧ z' = y) ∨ (z = y ∧ z' = x) ∨ (z ≠ x ∧ z ≠ y ∧ z' = z)) := fun z hz => by
      by_cases c : z = x
      · exact ⟨y, hy, by rw [c, sw_x], .inl ⟨c, rfl⟩⟩
      · by_cases d : z = y
        · exact ⟨x, hx, by rw [d, sw_y ne], .inr (.inl ⟨d, rfl⟩)⟩
        · exact ⟨z, hz, sw_z c d, .inr (.inr ⟨c, d, rfl⟩)⟩
    obtain ⟨z', hz', e1, c1⟩ := tw z hz
    obtain ⟨w', hw', e2, c2⟩ := tw w hw
    rw [e1, e2] at ezw
    have e3 := h.inj z' hz' w' hw' ezw
    rcases c1 with ⟨a1, a2⟩ | ⟨a1, a2⟩ | ⟨a1, a2, a3⟩ <;> rcases c2 with ⟨b1, b2⟩ | ⟨b1, b2⟩ | ⟨b1, b2, b3⟩
    · rw [a1, b1]
    · exact absurd (a2.symm.trans (e3.trans b2)) ne
    · exact absurd (b3.symm.trans (e3.symm.trans a2)) b2
    · exact absurd (b2.symm.trans (e3.symm.trans a2)) ne
    · rw [a1, b1]
    · exact absurd (b3.symm.trans (e3.symm.trans a2)) b1
    · exact absurd (a3.symm.trans (e3.trans b2)) a2
    · exact absurd (a3.symm.trans (e3.trans b2)) a1
    · exact a3.symm.trans (e3.trans b3)
  · rcases List.mem_append.1 hz with hz | hz
    · have c : z ≠ x := fun c => nx (c ▸ hz)
      have d : z ≠ y := fun d => ny (d ▸ hz)
      rw [sw_z c d]
      exact h.ok z hz
    · rw [List.mem_singleton] at hz
      rw [hz, sw_x, e]
  · have c : w ≠ x := fun c => nw (List.mem_append_right _ (by rw [c]; exact List.mem_singleton.2 rfl))
    have nwa : w ∉ a := fun m => nw (List.mem_append_left _ m)
    by_cases d : w = y
    · subst d
      rw [sw_y ne]
      obtain ⟨j, j1, j2⟩ := h.reach x hx nx
      obtain ⟨k, k1, k2⟩ := h.reach w hw nwa
      rw [e] at k1 k2
      refine ⟨j + (k + 1), ?_, fun i hi => ?_⟩
      · rw [it_add, j1]
        exact k1
      · by_cases c1 : i < j
        · exact List.mem_append_left _ (j2 i c1)
        · obtain ⟨m, rfl⟩ : ∃ m, i = j + m := ⟨i - j, by omega⟩
          rw [it_add, j1]
          cases m with
          | zero => exact List.mem_append_right _ (List.mem_singleton.2 rfl)
          | succ m => exact List.mem_append_left _ (k2 m (by omega))
    · rw [sw_z c d]
      obtain ⟨j, h1, h2⟩ := h.reach w hw nwa
      exact ⟨j, h1, fun i hi => List.mem_append_left _ (h2 i hi)⟩
/-- each name has a holder -/
theorem Ex.holder {a : List Str} {p : Str → Str} (nd : ks.Nodup) (h : Ex f ks a p) {v : Str} (hv : v ∈ ks) : ∃ y ∈ ks, p y = v := by
  have n1 : (ks.map p).Nodup := List.pairwise_map.2 (List.Pairwise.imp_of_mem (fun {a b} ha hb hab e => hab (h.inj a ha b hb e)) nd)
  have s1 : ∀ z ∈ ks.map p, z ∈ ks := fun z hz => by
    obtain ⟨w, hw, rfl⟩ := List.mem_map.1 hz
    exact h.cl w hw
  by_cases c : v ∈ ks.map p
  · obtain ⟨y, hy, e⟩ := List.mem_map.1 c
    exact ⟨y, hy, e⟩
  · have := List.Nodup.length_le_of_subset (List.nodup_cons.2 ⟨c, n1⟩) (fun z hz => by
      rcases List.mem_cons.1 hz with rfl | hz
      · exact hv
      · exact s1 z hz)
    rw [List.length_cons, List.length_map] at this
    omega
/-- a list of exchanges that leads from p to f: each the least name that is wrong, and the holder of its image -/
inductive Leads (f : Str → Str) (ks srt : List Str) : (Str → Str) → List (Str × Str) → Prop
  | done {p} : (∀ x ∈ srt, p x = f x) → Leads f ks srt p []
  | step {p x y r} : x ∈ ks → y ∈ ks → y ≠ x → p y = f x → (∃ t, (srt.filter fun z => !decide (p z = f z)) = x :: t) → Leads f ks srt (sw p x y) r → Leads f ks srt p ((x, y) :: r)
/-- the exchanges behind a state: relation of what is still to be gone through -/
inductive Runs (f : Str → Str) (ks : List Str) : List Str → (Str → Str) → List (Str × Str) → Prop
  | nil {p} : Runs f ks [] p []
  | same {p x r n} : p x = f x → Runs f ks r p n → Runs f ks (x :: r) p n
  | swap {p x y r n} : p x ≠ f x → y ∈ ks → p y = f x → Runs f ks r (sw p x y) n → Runs f ks (x :: r) p ((x, y) :: n)

theorem Runs.leads {srt : List Str} (T : Tbl f ks) (sub : ∀ z ∈ srt, z ∈ ks) (nd : srt.Nodup) : ∀ {r : List Str} {p : Str → Str} {n : List (Str × Str)} {a : List Str}, Runs f ks r p n → srt = a ++ r → Ex f ks a p → Leads f ks srt p n
  | [], p, _, a, .nil, e, h => .done fun x hx => h.ok x (by rw [e, List.append_nil] at hx; exact hx)
  | x :: r, p, n, a, .same e1 k, e, h => by
    refine Runs.leads T sub nd k (a := a ++ [x]) (by rw [e, List.append_assoc]; rfl) (h.skip e1)
  | x :: r, p, _, a, .swap (y := y) (n := n) ne hy e1 k, e, h => by
    have hx : x ∈ ks := sub x (by rw [e]; exact List.mem_append_right _ List.mem_cons_self)
    have yx : y ≠ x := fun z => by rw [z] at e1; exact ne e1
    have nx : x ∉ a := fun m => by
      rw [e] at nd
      exact (List.nodup_append.1 nd).2.2 x m x List.mem_cons_self rfl
    have sa : ∀ z ∈ a, z ∈ ks := fun z hz => sub z (by rw [e]; exact List.mem_append_left _ hz)
    refine .step hx hy yx e1 ?_ (Runs.leads T sub nd k (a := a ++ [x]) (by rw [e, List.append_assoc]; rfl) (h.swap T sa hx nx hy e1 yx).2)
    refine ⟨r.filter fun z => !decide (p z = f z), ?_⟩
    rw [e, List.filter_append, List.filter_cons]
    have f0 : a.filter (fun z => !decide (p z = f z)) = [] := List.filter_eq_nil_iff.2 fun z hz => by simp [h.ok z hz]
    rw [f0]
    simp [ne]
theorem Runs.unique {srt : List Str} (T : Tbl f ks) (sub : ∀ z ∈ srt, z ∈ ks) (nd : srt.Nodup) : ∀ {r : List Str} {p : Str → Str} {n m : List (Str × Str)} {a : List Str}, Runs f ks r p n → Runs f ks r p m → srt = a ++ r → Ex f ks a p → n = m
  | [], p, _, _, a, .nil, .nil, e, h => rfl
  | x :: r, p, n, m, a, .same e1 k, .same e2 l, e, h => Runs.unique T sub nd k l (a := a ++ [x]) (by rw [e, List.append_assoc]; rfl) (h.skip e1)
  | x :: r, p, _, _, a, .same e1 k, .swap ne hy e2 l, e, h => absurd e1 ne
  | x :: r, p, _, _, a, .swap ne hy e1 k, .same e2 l, e, h => absurd e2 ne
  | x :: r, p, _, _, a, .swap (y := y) (n := n) ne hy e1 k, .swap (y := z) (n := m) ne2 hz e2 l, e, h => by
    have yz : y = z := h.inj y hy z hz (e1.trans e2.symm)
    subst yz
    have hx : x ∈ ks := sub x (by rw [e]; exact List.mem_append_right _ List.mem_cons_self)
    have yx : y ≠ x := fun z => by rw [z] at e1; exact ne e1
    have nx : x ∉ a := fun m => by
      rw [e] at nd
      exact (List.nodup_append.1 nd).2.2 x m x List.mem_cons_self rfl
    have sa : ∀ z ∈ a, z ∈ ks := fun z hz => sub z (by rw [e]; exact List.mem_append_left _ hz)
    rw [Runs.unique T sub nd k l (a := a ++ [x]) (by rw [e, List.append_assoc]; rfl) (h.swap T sa hx nx hy e1 yx).2]
theorem IsCyc.it_mem {row : List Str} (c : IsCyc f ks row) : ∀ {j : Nat} {u : Str}, u ∈ row → it f j u ∈ row
  | 0, _, h => h
  | j + 1, u, h => IsCyc.it_mem c (j := j) (c.fwd h)
theorem it_succ {j : Nat} {u : Str} : it f (j + 1) u = f (it f j u) := by
  rw [it_add]
  rfl
/-- going on from a name one comes to each name of its circuit -/
theorem IsCyc.goes {row : List Str} (c : IsCyc f ks row) {u v : Str} (hu : u ∈ row) (hv : v ∈ row) : ∃ j, it f j u = v := by
  have l0 : 0 < row.length := List.length_pos_iff.2 c.ne
  have g0 : row[0]? = some row[0] := by simp [l0]
  have up : ∀ i, ∀ (hi : i < row.length), it f i row[0] = row[i] := by
    intro i
    induction i with
    | zero => exact fun _ => rfl
    | succ i ih =>
      intro hi
      have hi1 : i < row.length := by omega
      rw [it_succ, ih hi1]
      exact c.nx i _ _ (by simp [hi1]) (by simp [hi])
  obtain ⟨i, hi, rfl⟩ := List.mem_iff_getElem.1 hu
  obtain ⟨j, hj, rfl⟩ := List.mem_iff_getElem.1 hv
  have hl : row.length - 1 < row.length := by omega
  have wrap : it f (row.length - i) row[i] = row[0] := by
    have e1 : it f row.length row[0] = row[0] := by
      have e2 := up (row.length - 1) hl
      have e3 : row.length = row.length - 1 + 1 := by omega
      rw [e3, it_succ, e2]
      exact c.back _ _ (by simp [hl]) g0
    rw [← up i hi, ← it_add, show i + (row.length - i) = row.length by omega]
    exact e1
  exact ⟨row.length - i + j, by rw [it_add, wrap, up j hj]⟩
/-- the one that is changed has a mate that is still to come; the one that is not has none -/
theorem Ex.mate {a : List Str} {p : Str → Str} {x y : Str} {row : List Str} (T : Tbl f ks) (h : Ex f ks a p) (c : IsCyc f ks row) (hx : x ∈ row) (nx : x ∉ a) (hy : y ∈ ks) (ny : y ∉ a) (e : p y = f x) : y ∈ row := by
  obtain ⟨j, h1, h2⟩ := h.reach y hy ny
  rw [e] at h1
  rw [← h1]
  exact c.it_mem (c.fwd hx)
theorem Ex.alone {a : List Str} {p : Str → Str} {x z : Str} {row : List Str} (h : Ex f ks a p) (c : IsCyc f ks row) (hx : x ∈ row) (nx : x ∉ a) (e : p x = f x) (hz : z ∈ row) (nz : z ≠ x) : z ∈ a := by
  obtain ⟨j, h1, h2⟩ := h.reach x (c.sub x hx) nx
  rw [e] at h1 h2
  obtain ⟨k, hk⟩ := c.goes (c.fwd hx) hz
  -- within the first turn
  have per : ∀ m, it f (m * (j + 1)) (f x) = f x := by
    intro m
    induction m with
    | zero => rw [Nat.zero_mul]; rfl
    | succ m ih =>
      rw [Nat.succ_mul, it_add, ih, it_succ, h1]
  have hk2 : it f (k % (j + 1)) (f x) = z := by
    have e1 := Nat.div_add_mod k (j + 1)
    rw [← hk]
    conv => rhs; rw [← e1, Nat.mul_comm, it_add, per]
  have hm : k % (j + 1) < j + 1 := Nat.mod_lt _ (by omega)
  by_cases c1 : k % (j + 1) = j
  · rw [c1, h1] at hk2
    exact absurd hk2.symm nz
  · rw [← hk2]
    exact h2 _ (by omega)
def alive (r : List Str) (row : List Str) : Bool := row.any fun z => decide (z ∈ r)
theorem alive_iff {r row : List Str} : alive r row = true ↔ ∃ z ∈ row, z ∈ r := by
  unfold alive
  rw [List.any_eq_true]
  exact ⟨fun ⟨z, h1, h2⟩ => ⟨z, h1, of_decide_eq_true h2⟩, fun ⟨z, h1, h2⟩ => ⟨z, h1, decide_eq_true h2⟩⟩
theorem Circs.apart {rows : List (List Str)} (h : Circs f ks rows) {r1 r2 : List Str} {x : Str} (h1 : r1 ∈ rows) (h2 : r2 ∈ rows) (x1 : x ∈ r1) (x2 : x ∈ r2) : r1 = r2 := by
  have c1 := h.cyc r1 h1
  have c2 := h.cyc r2 h2
  obtain ⟨u, hu, mu⟩ := head_of c1.ne
  obtain ⟨v, hv, mv⟩ := head_of c2.ne
  have e : u = v := LtS.antisymm (h.least r2 h2 v hv u (c1.sub_of c2 x1 x2 u mu)) (h.least r1 h1 u hu v (c2.sub_of c1 x2 x1 v mv))
  exact c1.unique c2 (by rw [hu, hv, e])
theorem Circs.nodup {rows : List (List Str)} (h : Circs f ks rows) : rows.Nodup := by
  refine List.Pairwise.imp_of_mem (fun {a b} ha hb hab e => ?_) h.asc
  subst e
  obtain ⟨x, hx, _⟩ := head_of (h.cyc a ha).ne
  exact LtS.irrefl (hab x x hx hx)
/-- one of an unlike list changes its mind -/
theorem count_one {α : Type} [BEq α] [LawfulBEq α] {l : List α} {p q : α → Bool} {a : α} (nd : l.Nodup) (ha : a ∈ l) (pa : p a = true) (qa : q a = false) (e : ∀ b ∈ l, b ≠ a → p b = q b) : l.countP p = l.countP q + 1 := by
  obtain ⟨s, t, rfl⟩ := List.append_of_mem ha
  have n1 := List.nodup_append.1 nd
  have n2 := List.nodup_cons.1 n1.2.1
  have es : s.countP p = s.countP q := List.countP_congr fun b hb => by
    rw [e b (List.mem_append_left _ hb) fun z => n1.2.2 b hb a List.mem_cons_self z]
  have et : t.countP p = t.countP q := List.countP_congr fun b hb => by
    rw [e b (List.mem_append_right _ (List.mem_cons_of_mem _ hb)) fun z => n2.1 (z ▸ hb)]
  rw [List.countP_append, List.countP_append, List.countP_cons, List.countP_cons, es, et, pa, qa]
  simp
  omega
theorem Runs.count {srt : List Str} {rows : List (List Str)} (T : Tbl f ks) (ci : Circs f ks rows) (sub : ∀ z ∈ srt, z ∈ ks) (all : ∀ z ∈ ks, z ∈ srt) (nd : srt.Nodup) : ∀ {r : List Str} {p : Str → Str} {n : List (Str × Str)} {a : List Str}, Runs f ks r p n → srt = a ++ r → Ex f ks a p → n.length + rows.countP (alive r) = r.length
  | [], p, _, a, .nil, e, h => by
    have : rows.countP (alive []) = 0 := List.countP_eq_zero.2 fun row hr c => by
      obtain ⟨z, _, m⟩ := alive_iff.1 c
      cases m
    rw [this]
    rfl
  | x :: r, p, n, a, .same e1 k, e, h => by
    have ih := Runs.count T ci sub all nd k (a := a ++ [x]) (by rw [e, List.append_assoc]; rfl) (h.skip e1)
    have hx : x ∈ ks := sub x (by rw [e]; exact List.mem_append_right _ List.mem_cons_self)
    rw [e] at nd
    have n1 := List.nodup_append.1 nd
    have nx : x ∉ a := fun m => n1.2.2 x m x List.mem_cons_self rfl
    have nxr : x ∉ r := (List.nodup_cons.1 n1.2.1).1
    obtain ⟨row, hr, xr⟩ := ci.all x hx
    have c := ci.cyc row hr
    have := count_one (p := alive (x :: r)) (q := alive r) ci.nodup hr (alive_iff.2 ⟨x, xr, List.mem_cons_self⟩) (by
      cases d : alive r row with
      | false => rfl
      | true =>
        obtain ⟨z, zr, zm⟩ := alive_iff.1 d
        have := h.alone c xr nx e1 zr fun q => nxr (q ▸ zm)
        exact absurd rfl (n1.2.2 z this z (List.mem_cons_of_mem _ zm))) (fun b hb ne => by
      have nb : x ∉ b := fun m => ne (ci.apart hb hr m xr)
      have : (alive (x :: r) b = true ↔ alive r b = true) := by
        rw [alive_iff, alive_iff]
        exact ⟨fun ⟨z, z1, z2⟩ => ⟨z, z1, by
          rcases List.mem_cons.1 z2 with q | q
          · exact absurd (q ▸ z1) nb
          · exact q⟩, fun ⟨z, z1, z2⟩ => ⟨z, z1, List.mem_cons_of_mem _ z2⟩⟩
      exact Bool.eq_iff_iff.2 this)
    rw [this, List.length_cons]
    omega
  | x :: r, p, _, a, .swap (y := y) (n := n) ne hy e1 k, e, h => by
    have hx : x ∈ ks := sub x (by rw [e]; exact List.mem_append_right _ List.mem_cons_self)
    have yx : y ≠ x := fun z => by rw [z] at e1; exact ne e1
    have nd0 := nd
    rw [e] at nd
    have n1 := List.nodup_append.1 nd
    have nx : x ∉ a := fun m => n1.2.2 x m x List.mem_cons_self rfl
    have sa : ∀ z ∈ a, z ∈ ks := fun z hz => sub z (by rw [e]; exact List.mem_append_left _ hz)
    obtain ⟨ny, hsw⟩ := h.swap T sa hx nx hy e1 yx
    have ih := Runs.count T ci sub all nd0 k (a := a ++ [x]) (by rw [e, List.append_assoc]; rfl) hsw
    have yr : y ∈ r := by
      have := all y hy
      rw [e] at this
      rcases List.mem_append.1 this with m | m
      · exact absurd m ny
      · rcases List.mem_cons.1 m with q | q
        · exact absurd q yx
        · exact q
    have ec : rows.countP (alive (x :: r)) = rows.countP (alive r) := List.countP_congr fun b hb => by
      rw [alive_iff, alive_iff]
      refine ⟨fun ⟨z, z1, z2⟩ => ?_, fun ⟨z, z1, z2⟩ => ⟨z, z1, List.mem_cons_of_mem _ z2⟩⟩
      rcases List.mem_cons.1 z2 with q | q
      · exact ⟨y, h.mate T (ci.cyc b hb) (q ▸ z1) nx hy ny e1, yr⟩
      · exact ⟨z, z1, q⟩
    rw [ec, List.length_cons, List.length_cons]
    omega
/-- the exchanges of a table -/
structure ExOf (f : Str → Str) (ks : List Str) (n : List (Str × Str)) : Prop where
  run : ∃ srt, sortedS srt = true ∧ srt.Perm ks ∧ Runs f ks srt id n
theorem ExOf.count {n : List (Str × Str)} {rows : List (List Str)} (T : Tbl f ks) (ci : Circs f ks rows) (h : ExOf f ks n) : n.length + rows.length = ks.length := by
  obtain ⟨srt, so, pm, r⟩ := h.run
  have := r.count T ci (fun z => pm.mem_iff.1) (fun z => pm.mem_iff.2) (pm.nodup_iff.2 T.nd) (a := []) rfl Ex.start
  rw [List.countP_eq_length.2 fun row hr => by
    obtain ⟨x, _, m⟩ := head_of (ci.cyc row hr).ne
    exact alive_iff.2 ⟨x, m, pm.mem_iff.2 ((ci.cyc row hr).sub x m)⟩] at this
  rw [this, pm.length_eq]
theorem ExOf.unique {n m : List (Str × Str)} (T : Tbl f ks) (h : ExOf f ks n) (k : ExOf f ks m) : n = m := by
  obtain ⟨s1, so1, p1, r1⟩ := h.run
  obtain ⟨s2, so2, p2, r2⟩ := k.run
  have e := srt_unique so1 so2 (p1.trans p2.symm)
  subst e
  exact r1.unique T (fun z => p1.mem_iff.1) (p1.nodup_iff.2 T.nd) r2 (a := []) rfl Ex.start
theorem ExOf.leads {n : List (Str × Str)} {srt : List Str} (T : Tbl f ks) (h : ExOf f ks n) (so : sortedS srt = true) (pm : srt.Perm ks) : Leads f ks srt id n := by
  obtain ⟨s2, so2, p2, r2⟩ := h.run
  have e := srt_unique so so2 (pm.trans p2.symm)
  subst e
  exact r2.leads T (fun z => pm.mem_iff.1) (pm.nodup_iff.2 T.nd) (a := []) rfl Ex.start
def app (p : Str → Str) (n : List (Str × Str)) : Str → Str := n.foldl (fun p q => sw p q.1 q.2) p
theorem Leads.end_ {srt : List Str} : ∀ {n : List (Str × Str)} {p : Str → Str}, Leads f ks srt p n → ∀ x ∈ srt, app p n x = f x
  | [], p, .done h => h
  | (x, y) :: r, p, .step _ _ _ _ _ k => fun z hz => Leads.end_ (n := r) (p := sw p x y) k z hz
theorem Leads.mem {srt : List Str} : ∀ {n : List (Str × Str)} {p : Str → Str}, Leads f ks srt p n → ∀ q ∈ n, q.1 ∈ ks ∧ q.2 ∈ ks ∧ q.2 ≠ q.1
  | [], p, _ => fun q hq => by cases hq
  | (x, y) :: r, p, .step h1 h2 h3 _ _ k => fun q hq => by
    rcases List.mem_cons.1 hq with rfl | hq
    · exact ⟨h1, h2, h3⟩
    · exact Leads.mem k q hq
theorem app_snoc {p : Str → Str} {n : List (Str × Str)} {i : Nat} {q : Str × Str} (h : n[i]? = some q) : app p (n.take (i + 1)) = sw (app p (n.take i)) q.1 q.2 := by
  unfold app
  rw [List.take_succ, h, List.foldl_append]
  rfl
end XB

/-! The exchanges of a table: the program. -/
namespace XB
open PySem L2
local macro_rules | `(tactic| walk_at "s") => `(tactic| try simp only [u_var, u_c, u_op, u_un, u_nil, u_cons, u_cb, u_call, u_callS, u_tup, u_lst, u_test, u_B, u_and, u_or, u_not, u_andV, u_orV, u_notV, u_ifE, u_chain, u_sl, u_noPart, u_part, u_bm, u_bm0, u_rev, u_lc, u_try, u_sui, u_sui0, u_unb_rt, u_unb_nx, u_xf, u_WE, w_nil, w_cons, u_raise, u_rng1, u_rng2, u_next, u_ret, u_gname, u_gnil, u_gcons, u_gsub, u_gtup,
  f_add, f_addS, f_addR, f_sub, f_mul, f_mulR, f_mod, f_div, f_pow, f_neg, f_cmp, f_eq, f_eqB, f_eqS, f_ne, f_neB, f_neS, f_isN, f_notN, f_isB, f_ix, f_ixS, f_int, f_intB, f_len, f_lenS, f_max, f_min, f_abs, f_list, f_tuple, f_all, f_sum, f_isi, f_isiT, f_append, f_insert, f_pop, f_sl, f_set,
  kitS, tys, List.isEmpty_cons, Option.map_some, kt_NoneType_int, kt_NoneType_bool, kt_NoneType_str, kt_NoneType_list, kt_NoneType_tuple, kt_NoneType_dict, kt_int_int, kt_int_bool, kt_int_str, kt_int_list, kt_int_tuple, kt_int_dict, kt_bool_int, kt_bool_bool, kt_bool_str, kt_bool_list, kt_bool_tuple, kt_bool_dict, kt_str_int, kt_str_bool, kt_str_str, kt_str_list, kt_str_tuple, kt_str_dict, kt_list_int, kt_list_bool, kt_list_str, kt_list_list, kt_list_tuple, kt_list_dict, kt_tuple_int, kt_tuple_bool, kt_tuple_str, kt_tuple_list, kt_tuple_tuple, kt_tuple_dict, kt_dict_int, kt_dict_bool, kt_dict_str, kt_dict_list, kt_dict_tuple, kt_dict_dict, asL_lst, asL_frz, asL_tup, asT_tup, asS_lst, asS_frz, asS_tup, tyN_non, tyN_bl, tyN_int, tyN_str, atV_lit, ixN_lit, upd_same, upd_ne, upd_ne',
  List.getElem?_cons_zero, List.getElem?_cons_succ, List.set_cons_zero, List.set_cons_succ, List.append_nil, List.length_cons, List.length_nil, Option.some.injEq, exists_eq_left', exists_eq_left, exists_and_left, V.bl.injEq, V.int.injEq, V.str.injEq, V.ref.injEq, Bool.not_eq_true, Bool.not_true, Bool.not_false, decide_true, decide_false, decide_eq_true_eq, decide_eq_false_iff_not, Bool.false_eq_true, if_true, if_false, ite_true, ite_false, reduceCtorEq, true_and, and_true, Nat.reduceAdd, Nat.reduceLT, Nat.zero_add, ne_eq, not_false_eq_true, not_true_eq_false, List.cons.injEq, and_assoc])
local macro_rules | `(tactic| walk_at "S") => `(tactic| try simp only [u_var, u_c, u_op, u_un, u_nil, u_cons, u_cb, u_call, u_callS, u_tup, u_lst, u_test, u_B, u_and, u_or, u_not, u_andV, u_orV, u_notV, u_ifE, u_chain, u_sl, u_noPart, u_part, u_bm, u_bm0, u_rev, u_lc, u_try, u_sui, u_sui0, u_unb_rt, u_unb_nx, u_xf, u_WE, w_nil, w_cons, u_raise, u_rng1, u_rng2, u_next, u_ret, u_gname, u_gnil, u_gcons, u_gsub, u_gtup,
  f_add, f_addS, f_addR, f_sub, f_mul, f_mulR, f_mod, f_div, f_pow, f_neg, f_cmp, f_eq, f_eqB, f_eqS, f_ne, f_neB, f_neS, f_isN, f_notN, f_isB, f_ix, f_ixS, f_int, f_intB, f_len, f_lenS, f_max, f_min, f_abs, f_list, f_tuple, f_all, f_sum, f_isi, f_isiT, f_append, f_insert, f_pop, f_sl, f_set,
  kitS, tys, List.isEmpty_cons, Option.map_some, kt_NoneType_int, kt_NoneType_bool, kt_NoneType_str, kt_NoneType_list, kt_NoneType_tuple, kt_NoneType_dict, kt_int_int, kt_int_bool, kt_int_str, kt_int_list, kt_int_tuple, kt_int_dict, kt_bool_int, kt_bool_bool, kt_bool_str, kt_bool_list, kt_bool_tuple, kt_bool_dict, kt_str_int, kt_str_bool, kt_str_str, kt_str_list, kt_str_tuple, kt_str_dict, kt_list_int, kt_list_bool, kt_list_str, kt_list_list, kt_list_tuple, kt_list_dict, kt_tuple_int, kt_tuple_bool, kt_tuple_str, kt_tuple_list, kt_tuple_tuple, kt_tuple_dict, kt_dict_int, kt_dict_bool, kt_dict_str, kt_dict_list, kt_dict_tuple, kt_dict_dict, asL_lst, asL_frz, asL_tup, asT_tup, asS_lst, asS_frz, asS_tup, tyN_non, tyN_bl, tyN_int, tyN_str, atV_lit, ixN_lit, upd_same, upd_ne, upd_ne',
  List.getElem?_cons_zero, List.getElem?_cons_succ, List.set_cons_zero, List.set_cons_succ, List.append_nil, List.length_cons, List.length_nil, Option.some.injEq, exists_eq_left', exists_eq_left, exists_and_left, V.bl.injEq, V.int.injEq, V.str.injEq, V.ref.injEq, Bool.not_eq_true, Bool.not_true, Bool.not_false, decide_true, decide_false, decide_eq_true_eq, decide_eq_false_iff_not, Bool.false_eq_true, if_true, if_false, ite_true, ite_false, reduceCtorEq, true_and, and_true, Nat.reduceAdd, Nat.reduceLT, Nat.zero_add, ne_eq, not_false_eq_true, not_true_eq_false, List.cons.injEq, and_assoc, *])
/-- all stands but what stood at d, and d is free again -/
theorem free_sm {H H' : Hp} {d : Addr} {u : HO} (h : H d = some u) (k : ∀ b o, b ≠ d → H b = some o → H' b = some o) : Sm H (upd H' d u) := fun b o e => by
  by_cases c : b = d
  · subst c
    rw [h] at e
    cases e
    exact upd_same
  · rw [upd_ne c]
    exact k b o c e
theorem kvs_at {ps : List (Str × Str)} {i : Nat} : (kvsOf ps)[i]? = (ps[i]?).map fun p => ((Sum.inr p.1 : Key), V.str p.2) := by unfold kvsOf; rw [List.getElem?_map]
theorem lock_filter {σ : L2.St} {H : Hp} {Q : VK} {nd nx : Nat} {d : Addr} {ps : List (Str × Str)} {tt : TT} (good : Str → Bool) (hσ : σ[nd]? = some (some (.ref d))) (hd : H d = some (.dK (kvsOf ps))) (hl : ps.length ≤ 100)
    (hw : ∀ x, wipe ((wipe σ [nx]).set nx (some x)) [nx] = wipe σ [nx]) (hx : ∀ x, ((wipe σ [nx]).set nx (some x))[nx]? = some (some x))
    (ht : ∀ (z : Str) (H' : Hp) (R : Bool → Hp → Prop), z ∈ firsts ps → (∀ b o, b ≠ d → H b = some o → H' b = some o) → (∃ od, H' d = some (.frz od (.dK (kvsOf ps)))) → R (good z) H' → tt ((wipe σ [nx]).set nx (some (.str z))) H' R)
    (q : ∀ D H', H D = none → Sm H H' → H' D = some (.lst (((firsts ps).filter good).map V.str)) → Q (.ref D) H') : tLockE (tLc (iKeys (tVar nd)) (gName nx) tt (tVar nx) [nx]) σ H Q := by
  refine ⟨d, _, hd, trivial, fun od => ?_⟩
  rw [u_lc]
  refine ⟨_, hσ, d, od, rfl, .inl ⟨_, upd_same, fun D hD => ?_⟩⟩
  have Dd : D ≠ d := fun e => by rw [e, upd_same] at hD; cases hD
  have hD0 : H D = none := by rw [upd_ne Dd] at hD; exact hD
  refine lc_it walk_keys (fun i H' => (∀ b o, b ≠ d → H b = some o → H' b = some o) ∧ H' d = some (.frz od (.dK (kvsOf ps))) ∧ H' D = some (.lst ((((firsts ps).take i).filter good).map V.str))) ⟨fun b o n e => ?_, ?_, upd_same⟩ (fun i H' _ p => p.2.1) (fun i x H1 H2 hi p y => ?_) fun H' p => ?_
  · rw [upd_ne (ne_of_none e hD0), upd_ne n]
    exact e
  · rw [upd_ne Dd.symm, upd_same]
  · obtain ⟨rfl, k, v, hk, rfl⟩ := y
    obtain ⟨p1, p2, p3⟩ := p
    rw [kvs_at] at hk
    have hi2 : i < ps.length := by unfold kvsOf at hi; rwa [List.length_map] at hi
    have hpi : ps[i]? = some ps[i] := by simp [hi2]
    rw [hpi] at hk
    cases hk
    have hz : (firsts ps)[i]? = some ps[i].1 := by unfold firsts; rw [List.getElem?_map, hpi]; rfl
    refine ⟨hw _, ?_⟩
    refine ht ps[i].1 _ _ (List.mem_of_getElem? hz) p1 ⟨od, p2⟩ ?_
    have et : (firsts ps).take (i + 1) = (firsts ps).take i ++ [ps[i].1] := by rw [List.take_succ, hz]; rfl
    cases c : good ps[i].1 with
    | false =>
      simp only [Bool.false_eq_true, if_false]
      refine ⟨p1, p2, ?_⟩
      rw [p3, et, List.filter_append, List.filter_cons, c]
      simp
    | true =>
      simp only [if_true]
      refine ⟨_, hx _, _, p3, ?_, fun b o n e => ?_, ?_, ?_⟩
      · have l1 := List.length_filter_le good ((firsts ps).take i)
        rw [List.length_take] at l1
        unfold firsts at l1
        rw [List.length_map] at l1
        unfold firsts
        rw [List.length_map]
        show _ < 2 ^ 24
        omega
      · rw [upd_ne (ne_of_none e hD0)]
        exact p1 b o n e
      · rw [upd_ne Dd.symm]
        exact p2
      · rw [upd_same, et, List.filter_append, List.filter_cons, c]
        simp
        rfl
  · obtain ⟨p1, p2, p3⟩ := p
    have el : (firsts ps).take (kvsOf ps).length = firsts ps := List.take_of_length_le (by unfold firsts kvsOf; rw [List.length_map, List.length_map]; exact Nat.le_refl _)
    rw [el] at p3
    exact ⟨p2, q D _ hD0 (free_sm hd p1) (by rw [upd_ne Dd]; exact p3)⟩
/-- the pairs of names and what they have at present -/
def pl (ks : List Str) (p : Str → Str) : List (Str × Str) := ks.map fun x => (x, p x)
theorem firsts_pl {ks : List Str} {p : Str → Str} : firsts (pl ks p) = ks := by
  unfold firsts pl
  rw [List.map_map]
  exact List.map_id' ks
theorem look_pl {ks : List Str} {p : Str → Str} (nd : ks.Nodup) {x : Str} (hx : x ∈ ks) : look (pl ks p) x = p x := look_at (by rw [firsts_pl]; exact nd) (List.mem_map.2 ⟨x, hx, rfl⟩)
theorem val_pl {ks : List Str} {p : Str → Str} (nd : ks.Nodup) {x : Str} (hx : x ∈ ks) : valV (kvsOf (pl ks p)) (Sum.inr x : Key) = some (.str (p x)) := by
  rw [valV_of (by rw [firsts_pl]; exact nd) (by rw [firsts_pl]; exact hx), look_pl nd hx]
theorem put_pl {ks : List Str} {p : Str → Str} (nd : ks.Nodup) {x v : Str} (hx : x ∈ ks) : putK (kvsOf (pl ks p)) (Sum.inr x : Key) (.str v) = kvsOf (pl ks fun z => if z = x then v else p z) := by
  unfold putK
  rw [valV_any, val_pl nd hx]
  unfold kvsOf pl
  simp only [Option.isSome_some, if_true, List.map_map]
  refine List.map_congr_left fun z _ => ?_
  by_cases c : z = x
  · subst c; simp
  · have : ¬ (Sum.inr z : Key) = Sum.inr x := fun e => c (Sum.inr.inj e)
    simp [c, this]
theorem two_puts {ks : List Str} {p : Str → Str} {x y v : Str} (h : p y = v) (n : y ≠ x) : pl ks (fun z => if z = x then v else (if z = y then p x else p z)) = pl ks (sw p x y) := by
  unfold pl sw
  rw [h]
theorem pl_look {ps : List (Str × Str)} (nd : (firsts ps).Nodup) : pl (firsts ps) (look ps) = ps := by
  unfold pl
  apply List.ext_getElem?
  intro i
  rw [List.getElem?_map]
  unfold firsts
  rw [List.getElem?_map]
  cases e : ps[i]? with
  | none => rfl
  | some q =>
    have := look_at (a := q.1) (b := q.2) nd (List.mem_of_getElem? e)
    show some (q.1, look ps q.1) = some q
    rw [this]
end XB

/-! The exchanges of a table: the program. -/
namespace XB
open PySem L2
local macro_rules | `(tactic| walk_at "s") => `(tactic| try simp only [u_var, u_c, u_op, u_un, u_nil, u_cons, u_cb, u_call, u_callS, u_tup, u_lst, u_test, u_B, u_and, u_or, u_not, u_andV, u_orV, u_notV, u_ifE, u_chain, u_sl, u_noPart, u_part, u_bm, u_bm0, u_rev, u_lc, u_try, u_sui, u_sui0, u_unb_rt, u_unb_nx, u_xf, u_WE, w_nil, w_cons, u_raise, u_rng1, u_rng2, u_next, u_ret, u_gname, u_gnil, u_gcons, u_gsub, u_gtup,
  f_add, f_addS, f_addR, f_sub, f_mul, f_mulR, f_mod, f_div, f_pow, f_neg, f_cmp, f_eq, f_eqB, f_eqS, f_ne, f_neB, f_neS, f_isN, f_notN, f_isB, f_ix, f_ixS, f_int, f_intB, f_len, f_lenS, f_max, f_min, f_abs, f_list, f_tuple, f_all, f_sum, f_isi, f_isiT, f_append, f_insert, f_pop, f_sl, f_set,
  kitS, tys, List.isEmpty_cons, Option.map_some, kt_NoneType_int, kt_NoneType_bool, kt_NoneType_str, kt_NoneType_list, kt_NoneType_tuple, kt_NoneType_dict, kt_int_int, kt_int_bool, kt_int_str, kt_int_list, kt_int_tuple, kt_int_dict, kt_bool_int, kt_bool_bool, kt_bool_str, kt_bool_list, kt_bool_tuple, kt_bool_dict, kt_str_int, kt_str_bool, kt_str_str, kt_str_list, kt_str_tuple, kt_str_dict, kt_list_int, kt_list_bool, kt_list_str, kt_list_list, kt_list_tuple, kt_list_dict, kt_tuple_int, kt_tuple_bool, kt_tuple_str, kt_tuple_list, kt_tuple_tuple, kt_tuple_dict, kt_dict_int, kt_dict_bool, kt_dict_str, kt_dict_list, kt_dict_tuple, kt_dict_dict, asL_lst, asL_frz, asL_tup, asT_tup, asS_lst, asS_frz, asS_tup, tyN_non, tyN_bl, tyN_int, tyN_str, atV_lit, ixN_lit, upd_same, upd_ne, upd_ne',
  List.getElem?_cons_zero, List.getElem?_cons_succ, List.set_cons_zero, List.set_cons_succ, List.append_nil, List.length_cons, List.length_nil, Option.some.injEq, exists_eq_left', exists_eq_left, exists_and_left, V.bl.injEq, V.int.injEq, V.str.injEq, V.ref.injEq, Bool.not_eq_true, Bool.not_true, Bool.not_false, decide_true, decide_false, decide_eq_true_eq, decide_eq_false_iff_not, Bool.false_eq_true, if_true, if_false, ite_true, ite_false, reduceCtorEq, true_and, and_true, Nat.reduceAdd, Nat.reduceLT, Nat.zero_add, ne_eq, not_false_eq_true, not_true_eq_false, List.cons.injEq, and_assoc])
local macro_rules | `(tactic| walk_at "S") => `(tactic| try simp only [u_var, u_c, u_op, u_un, u_nil, u_cons, u_cb, u_call, u_callS, u_tup, u_lst, u_test, u_B, u_and, u_or, u_not, u_andV, u_orV, u_notV, u_ifE, u_chain, u_sl, u_noPart, u_part, u_bm, u_bm0, u_rev, u_lc, u_try, u_sui, u_sui0, u_unb_rt, u_unb_nx, u_xf, u_WE, w_nil, w_cons, u_raise, u_rng1, u_rng2, u_next, u_ret, u_gname, u_gnil, u_gcons, u_gsub, u_gtup,
  f_add, f_addS, f_addR, f_sub, f_mul, f_mulR, f_mod, f_div, f_pow, f_neg, f_cmp, f_eq, f_eqB, f_eqS, f_ne, f_neB, f_neS, f_isN, f_notN, f_isB, f_ix, f_ixS, f_int, f_intB, f_len, f_lenS, f_max, f_min, f_abs, f_list, f_tuple, f_all, f_sum, f_isi, f_isiT, f_append, f_insert, f_pop, f_sl, f_set,
  kitS, tys, List.isEmpty_cons, Option.map_some, kt_NoneType_int, kt_NoneType_bool, kt_NoneType_str, kt_NoneType_list, kt_NoneType_tuple, kt_NoneType_dict, kt_int_int, kt_int_bool, kt_int_str, kt_int_list, kt_int_tuple, kt_int_dict, kt_bool_int, kt_bool_bool, kt_bool_str, kt_bool_list, kt_bool_tuple, kt_bool_dict, kt_str_int, kt_str_bool, kt_str_str, kt_str_list, kt_str_tuple, kt_str_dict, kt_list_int, kt_list_bool, kt_list_str, kt_list_list, kt_list_tuple, kt_list_dict, kt_tuple_int, kt_tuple_bool, kt_tuple_str, kt_tuple_list, kt_tuple_tuple, kt_tuple_dict, kt_dict_int, kt_dict_bool, kt_dict_str, kt_dict_list, kt_dict_tuple, kt_dict_dict, asL_lst, asL_frz, asL_tup, asT_tup, asS_lst, asS_frz, asS_tup, tyN_non, tyN_bl, tyN_int, tyN_str, atV_lit, ixN_lit, upd_same, upd_ne, upd_ne',
  List.getElem?_cons_zero, List.getElem?_cons_succ, List.set_cons_zero, List.set_cons_succ, List.append_nil, List.length_cons, List.length_nil, Option.some.injEq, exists_eq_left', exists_eq_left, exists_and_left, V.bl.injEq, V.int.injEq, V.str.injEq, V.ref.injEq, Bool.not_eq_true, Bool.not_true, Bool.not_false, decide_true, decide_false, decide_eq_true_eq, decide_eq_false_iff_not, Bool.false_eq_true, if_true, if_false, ite_true, ite_false, reduceCtorEq, true_and, and_true, Nat.reduceAdd, Nat.reduceLT, Nat.zero_add, ne_eq, not_false_eq_true, not_true_eq_false, List.cons.injEq, and_assoc, *])
def prs (n : List (Str × Str)) : List (List Str) := n.map fun q => [q.1, q.2]
def sp_exchanges (K : PySem.W.Frag) (C : CA) : Sp := fun vs H Q E => ∃ v, vs = [v] ∧ Tab H v ∧ ((¬ ∃ ps, IsPairs H v ps ∧ TabP ps) → ∀ e H', ErrAt H H' e [(("parameter" : Str), V.str ("table" : Str))] → E (.ref C.BadShape) (some e) H') ∧
  ∀ ps, IsPairs H v ps → TabP ps → ∀ (o : Addr) (us : List V) (n : List (Str × Str)) (H' : Hp), Sm H H' → H o = none → H' o = some (.lst us) → RowsAt H H' us (prs n) → ExOf (look ps) (firsts ps) n → Q (.ref o) H'
def rd_exchanges (K : PySem.W.Frag) (C : CA) (E : XK) : TS :=
  (tSeq (tDrop (tCallS (sp_check K C) (fun _ => E) (tCons (tCallS (sp_is_table K C) (fun _ => E0) (tCons (tVar 0) tNil)) (tCons (tC (.str ("table" : Str))) tNil)))) (tSeq (tAsg (tDc (iSeq K 0) (gTupF 2 (gCons (gName 1) (gCons (gName 2) gNil))) tYes (tVar 1) (tVar 2) [1, 2]) (gName 3)) (tSeq (tLock (tAsg (tDc (iKeys (tVar 3)) (gName 1) tYes (tVar 1) (tVar 1) [1]) (gName 4))) (tSeq (tAsg (tLst tNil) (gName 5)) (tSeq (tFor (iList K (tCB fSortD (tCons (tVar 3) tNil))) (gName 1) (tSeq (tAsg (tDGet (tVar 3) (tVar 1)) (gName 2)) (tIfS (tTest (tOp (fNe K) (tDGet (tVar 4) (tVar 1)) (tVar 2))) (tSeq (tAsg (tOp fIx (tLockE (tLc (iKeys (tVar 4)) (gName 7) (tTest (tOp (fEq K) (tDGet (tVar 4) (tVar 7)) (tVar 2))) (tVar 7) [7])) (tC (.int 0))) (gName 6)) (tSeq (sDPut (tVar 4) (tVar 6) (tDGet (tVar 4) (tVar 1))) (tSeq (sDPut (tVar 4) (tVar 1) (tVar 2)) (tDrop (tBMF "list" fAppend (tVar 5) (tCons (tTup (tCons (tVar 1) (tCons (tVar 6) tNil))) tNil)))))) tNext))) (tRet (tVar 5)))))))
theorem pure_exchanges {K : PySem.W.Frag} {C : CA} (vs : List V) (H : Hp) (Q : VK) (E : XK) (h : sp_exchanges K C vs H Q E) : rd_exchanges K C E { nx := fun _ H' => Q .non H', rt := Q } (start [("table" : Str), ("name" : Str), ("image" : Str), ("images" : Str), ("present" : Str), ("noted" : Str), ("other" : Str), ("holder" : Str)] vs) H := by
  obtain ⟨v, rfl, tb, qe, q⟩ := h
  show rd_exchanges K C E _ [some v, none, none, none, none, none, none, none] H
  unfold rd_exchanges
  refine q_drop ?_
  walk_at "s"
  refine ⟨v, rfl, tb, fun b H0 s0 hb => ⟨b, _, rfl, fun c => ?_, fun c e H' ne he s => qe (fun z => by rw [hb.2 z] at c; cases c) e H' ⟨sm_trans s0 s, he⟩⟩⟩
  obtain ⟨ps, hps, tp⟩ := hb.1 c
  have T := tp.tbl
  refine q_asg ?_
  obtain ⟨p, xs, rfl, hp, lx, hq⟩ := id hps
  have lps := tp.le
  have lf : (firsts ps).length = ps.length := by unfold firsts; rw [List.length_map]
  have step : ∀ (D : Addr) (i : Nat) (x : V) (H' : Hp), H0 D = none → xs[i]? = some x → (Sm H0 H' ∧ H' D = some (.dK (kvsOf (ps.take i)))) → gTupF 2 (gCons (gName 1) (gCons (gName 2) gNil)) x (wipe [some (.ref p), none, none, none, none, none, none, none] [1, 2]) H' fun σ2 H2 => wipe σ2 [1, 2] = wipe [some (.ref p), none, none, none, none, none, none, none] [1, 2] ∧ tYes σ2 H2 fun b H3 =>
      if b = true then tVar 1 σ2 H3 fun y H4 => tVar 2 σ2 H4 fun z H5 => ∃ kvs k, y = kV k ∧ H5 D = some (.dK kvs) ∧ kvs.length < sizeLine ∧ (Sm H0 (upd H5 D (.dK (putK kvs k z))) ∧ (upd H5 D (.dK (putK kvs k z))) D = some (.dK (kvsOf (ps.take (i + 1))))) else (Sm H0 H3 ∧ H3 D = some (.dK (kvsOf (ps.take (i + 1))))) := by
    intro D i x H' hD hx ⟨s1, hd⟩
    have hi := (List.getElem?_eq_some_iff.mp hx).1
    have hpi : ps[i]? = some (ps[i]'(by omega)) := List.getElem?_eq_getElem _
    obtain ⟨r, rfl, hr⟩ := hq i x _ hx hpi
    rw [u_gtup, sm_T (sm_trans s0 s1) hr]
    refine ⟨rfl, _, _, rfl, _, _, rfl, rfl, rfl, ?_⟩
    refine iteT (B := Sm H0 H' ∧ H' D = some (.dK (kvsOf (ps.take (i + 1))))) ?_
    refine ⟨_, rfl, _, rfl, _, Sum.inr (ps[i]'(by omega)).1, rfl, hd, ?_, sm_put s1 hD, ?_⟩
    · unfold kvsOf
      rw [List.length_map, List.length_take]
      show _ < 2 ^ 24
      omega
    · rw [upd_same, kvs_take tp.nd hpi]
  let REST : TS := tSeq (tLock (tAsg (tDc (iKeys (tVar 3)) (gName 1) tYes (tVar 1) (tVar 1) [1]) (gName 4))) (tSeq (tAsg (tLst tNil) (gName 5)) (tSeq (tFor (iList K (tCB fSortD (tCons (tVar 3) tNil))) (gName 1) (tSeq (tAsg (tDGet (tVar 3) (tVar 1)) (gName 2)) (tIfS (tTest (tOp (fNe K) (tDGet (tVar 4) (tVar 1)) (tVar 2))) (tSeq (tAsg (tOp fIx (tLockE (tLc (iKeys (tVar 4)) (gName 7) (tTest (tOp (fEq K) (tDGet (tVar 4) (tVar 7)) (tVar 2))) (tVar 7) [7])) (tC (.int 0))) (gName 6)) (tSeq (sDPut (tVar 4) (tVar 6) (tDGet (tVar 4) (tVar 1))) (tSeq (sDPut (tVar 4) (tVar 1) (tVar 2)) (tDrop (tBMF "list" fAppend (tVar 5) (tCons (tTup (tCons (tVar 1) (tCons (tVar 6) tNil))) tNil)))))) tNext))) (tRet (tVar 5))))
  have after : ∀ (D : Addr) (H1 : Hp), Sm H0 H1 → H0 D = none → H1 D = some (.dK (kvsOf ps)) → REST { nx := fun _ H' => Q .non H', rt := Q } [some (.ref p), none, none, some (.ref D), none, none, none, none] H1 := by
    intro D H1 s1 hD hd
    show tSeq _ _ _ _ _
    refine q_seq ?_
    refine ⟨D, _, hd, trivial, fun od => ?_⟩
    refine q_asg1 ?_
    refine ⟨_, rfl, D, od, rfl, .inl ⟨_, upd_same, fun D2 hD2 => ?_⟩⟩
    have DD : D2 ≠ D := fun e => by rw [e, upd_same] at hD2; cases hD2
    have hD20 : H1 D2 = none := by rw [upd_ne DD] at hD2; exact hD2
    have eid : ∀ i, kvsOf (((firsts ps).take i).map fun x => (x, x)) = kvsOf (((firsts ps).take i).map fun x => (x, id x)) := fun _ => rfl
    refine dcW (xs := (firsts ps).map V.str) (fun i H' => (∀ b o, b ≠ D → H1 b = some o → H' b = some o) ∧ H' D = some (.frz od (.dK (kvsOf ps))) ∧ H' D2 = some (.dK (kvsOf (((firsts ps).take i).map fun x => (x, x))))) ⟨fun b o n e => ?_, ?_, upd_same⟩ (fun i H' hi pv => ?_) (fun H' pv => ?_) (fun i x H' hx pv => ?_) (fun H' pv => ?_)
    · rw [upd_ne (ne_of_none e hD20), upd_ne n]
      exact e
    · rw [upd_ne DD.symm, upd_same]
    · have w := walk_keys (d := D) (o := od) (kvs := kvsOf ps)
      have lk : (kvsOf ps).length = ps.length := by unfold kvsOf; rw [List.length_map]
      rw [List.length_map, lf] at hi
      refine ⟨w.goes i H' (by omega) pv.2.1, fun x H2 y => ?_⟩
      obtain ⟨e, k, v, hk, rfl⟩ := w.yields i H' x H2 (by omega) pv.2.1 y
      refine ⟨e, ?_⟩
      rw [kvs_at] at hk
      have hpi : ps[i]? = some ps[i] := by simp [hi]
      rw [hpi] at hk
      cases hk
      unfold firsts
      rw [List.getElem?_map, List.getElem?_map, hpi]
      rfl
    · have w := walk_keys (d := D) (o := od) (kvs := kvsOf ps)
      have lk : (kvsOf ps).length = ((firsts ps).map V.str).length := by unfold kvsOf; rw [List.length_map, List.length_map, lf]
      have := w.stops H' pv.2.1
      rw [lk] at this
      exact this
    · obtain ⟨z, hz, rfl⟩ := get_str hx
      obtain ⟨p1, p2, p3⟩ := pv
      refine ⟨rfl, ?_⟩
      refine iteT (B := True) ?_
      refine ⟨_, rfl, _, rfl, _, Sum.inr z, rfl, p3, ?_, fun b o n e => ?_, ?_, ?_⟩
      · unfold kvsOf
        rw [List.length_map, List.length_map, List.length_take]
        show _ < 2 ^ 24
        omega
      · rw [upd_ne (ne_of_none e hD20)]
        exact p1 b o n e
      · rw [upd_ne DD.symm]
        exact p2
      · rw [upd_same]
        have e1 : (firsts ps).take (i + 1) = (firsts ps).take i ++ [z] := by rw [List.take_succ, hz]; rfl
        have nd := tp.nd
        have nz : z ∉ (firsts ps).take i := fun m => by
          have nd2 := nd
          rw [← List.take_append_drop (i + 1) (firsts ps), e1, List.append_assoc] at nd2
          exact (List.nodup_append.1 nd2).2.2 z m z List.mem_cons_self rfl
        rw [put_new (valV_no (by unfold firsts; rw [List.map_map]; intro m; obtain ⟨w, hw, ew⟩ := List.mem_map.1 m; exact nz (by rw [← ew]; exact hw))), e1, List.map_append]
        unfold kvsOf
        rw [List.map_append]
        rfl
    · obtain ⟨p1, p2, p3⟩ := pv
      have el : (firsts ps).take ((firsts ps).map V.str).length = firsts ps := List.take_of_length_le (by rw [List.length_map]; exact Nat.le_refl _)
      rw [el] at p3
      refine ⟨p2, ?_⟩
      have s2 : Sm H1 (upd H' D (.dK (kvsOf ps))) := free_sm hd p1
      have h2 : (upd H' D (.dK (kvsOf ps))) D2 = some (.dK (kvsOf (pl (firsts ps) id))) := by rw [upd_ne DD]; exact p3
      have hd2 := s2 _ _ hd
      generalize upd H' D (.dK (kvsOf ps)) = H2 at s2 h2 hd2
      have s02 := sm_trans s1 s2
      have hD2n : H0 D2 = none := sm_none s1 hD20
      have ndk := tp.nd
      dsimp only
      refine q_asg ?_
      walk_at "s"
      refine ⟨by decide, fun pf nf => al nf fun H3 t3 h3 => ?_⟩
      refine q_for ?_
      rw [u_list]
      walk_at "s"
      show fSortD [.ref D] H3 _
      unfold fSortD
      dsimp only
      rw [t3 _ _ hd2]
      refine ⟨firsts ps, by unfold kvsOf firsts; rw [List.map_map, List.map_map]; rfl, by omega, fun srt po pm so npo => al npo fun H4 t4 h4 => ?_⟩
      have s04 := sm_trans s02 (sm_trans t3 t4)
      have nf0 : H0 pf = none := sm_none s02 nf
      have fne : pf ≠ po := ne_of_none h3 npo
      have dne : D ≠ pf := ne_of_none hd2 nf
      have d2ne : D2 ≠ pf := ne_of_none h2 nf
      have d2po : D2 ≠ po := ne_of_none (t3 _ _ h2) npo
      have lsr : srt.length ≤ 12 := by have := pm.length_eq; omega
      have ns := (pm.nodup_iff).2 ndk
      refine ⟨po, rfl, ⟨_, asL_seq (asL_at h4)⟩, ?_⟩
      refine loop_list (xs := srt.map V.str) (fun i σ H' => ∃ (v1 v2 v6 : Option V) (us : List V) (n : List (Str × Str)) (pr : Str → Str), σ = [some (.ref p), v1, v2, some (.ref D), some (.ref D2), some (.ref pf), v6, none] ∧ Sm H0 H' ∧ H' D = some (.dK (kvsOf ps)) ∧ H' D2 = some (.dK (kvsOf (pl (firsts ps) pr))) ∧ H' po = some (.lst (srt.map V.str)) ∧ H' pf = some (.lst us) ∧ RowsAt H0 H' us (prs n) ∧ n.length ≤ i ∧ Ex (look ps) (firsts ps) (srt.take i) pr ∧ ∀ r, Runs (look ps) (firsts ps) (srt.drop i) pr r → Runs (look ps) (firsts ps) srt id (n ++ r))
        ⟨_, _, _, [], [], id, rfl, s04, t4 _ _ (t3 _ _ hd2), t4 _ _ (t3 _ _ h2), h4, t4 _ _ h3, ⟨rfl, by simp⟩, Nat.le_refl _, Ex.start, fun r h => h⟩ (fun i σ H' _ ⟨_, _, _, _, _, _, _, _, _, _, h, _⟩ => asL_at h) ?_ ?_
      · rintro i x σ H5 hx ⟨v1, v2, v6, us, n, pr, rfl, s5, d5, e5, o5, f5, ra, ln, ex, rn⟩
        obtain ⟨z, hz, rfl⟩ := get_str hx
        have hi := (List.getElem?_eq_some_iff.mp hz).1
        have hz2 : z ∈ firsts ps := pm.mem_iff.1 (List.mem_of_getElem? hz)
        have et : srt.take (i + 1) = srt.take i ++ [z] := by rw [List.take_succ, hz]; rfl
        have ed : srt.drop i = z :: srt.drop (i + 1) := by
          rw [List.drop_eq_getElem_cons hi]
          have : srt[i] = z := by
            have e1 : srt[i]? = some srt[i] := by simp [hi]
            rw [hz] at e1
            exact (Option.some.inj e1).symm
          rw [this]
        have nz : z ∉ srt.take i := fun m => by
          have nd2 := ns
          rw [← List.take_append_drop (i + 1) srt, et, List.append_assoc] at nd2
          exact (List.nodup_append.1 nd2).2.2 z m z List.mem_cons_self rfl
        have vz : valV (kvsOf ps) (Sum.inr z : Key) = some (.str (look ps z)) := valV_of ndk hz2
        have vp : valV (kvsOf (pl (firsts ps) pr)) (Sum.inr z : Key) = some (.str (pr z)) := val_pl ndk hz2
        walk_at "s"
        refine q_asg ?_
        rw [u_dget]
        walk_at "s"
        refine ⟨.str (look ps z), .inl ⟨_, Sum.inr z, .inl d5, rfl, vz.symm⟩, ?_⟩
        walk_at "s"
        refine q_if1 ?_
        walk_at "s"
        rw [u_dget]
        walk_at "s"
        refine ⟨.str (pr z), .inl ⟨_, Sum.inr z, .inl e5, rfl, vp.symm⟩, ?_⟩
        walk_at "s"
        by_cases c : pr z = look ps z
        · simp only [c, decide_true, Bool.not_true, Bool.false_eq_true, if_false]
          walk_at "s"
          exact ⟨s5, d5, us, n, pr, e5, o5, f5, ra, by omega, by rw [et]; exact ex.skip c, fun r hr => rn r (by rw [ed]; exact .same c hr)⟩
        · simp only [c, decide_false, Bool.not_false, if_true]
          refine q_asg ?_
          walk_at "s"
          have lpl : (pl (firsts ps) pr).length = ps.length := by unfold pl; rw [List.length_map, lf]
          refine lock_filter (fun w => decide (pr w = look ps z)) rfl e5 (by omega) (fun _ => rfl) (fun _ => rfl) (fun w H' R hw k ⟨od, ho⟩ r => ?_) fun Dl H6 nDl s6 h6 => ?_
          · rw [firsts_pl] at hw
            walk_at "s"
            rw [u_dget]
            walk_at "s"
            refine ⟨.str (pr w), .inl ⟨_, Sum.inr w, .inr ⟨od, ho⟩, rfl, (val_pl ndk hw).symm⟩, ?_⟩
            walk_at "s"
            exact r
          · rw [firsts_pl] at h6
            obtain ⟨y1, hy1, ey1⟩ := ex.holder ndk (T.cl z hz2)
            have m1 : y1 ∈ (firsts ps).filter fun w => decide (pr w = look ps z) := List.mem_filter.2 ⟨hy1, decide_eq_true ey1⟩
            cases ef : (firsts ps).filter fun w => decide (pr w = look ps z) with
            | nil => rw [ef] at m1; cases m1
            | cons y t =>
              have my : y ∈ (firsts ps).filter fun w => decide (pr w = look ps z) := by rw [ef]; exact List.mem_cons_self
              obtain ⟨hy, ey⟩ := List.mem_filter.1 my
              have ey : pr y = look ps z := of_decide_eq_true ey
              have yz : y ≠ z := fun e => by rw [e] at ey; exact c ey
              rw [ef] at h6
              walk_at "s"
              simp only [asS_at h6, List.map_cons]
              walk_at "s"
              have e6 := s6 _ _ e5
              have f6 := s6 _ _ f5
              have d6 := s6 _ _ d5
              have o6 := s6 _ _ o5
              have lk : ∀ g : Str → Str, (kvsOf (pl (firsts ps) g)).length < sizeLine := fun g => by unfold kvsOf pl; rw [List.length_map, List.length_map, lf]; show _ < 2 ^ 24; omega
              refine q_seq ?_
              rw [u_dput]
              walk_at "s"
              rw [u_dget]
              walk_at "s"
              refine ⟨.str (pr z), .inl ⟨_, Sum.inr z, .inl e6, rfl, vp.symm⟩, ?_⟩
              walk_at "s"
              refine ⟨_, .inl ⟨_, Sum.inr y, e6, rfl, lk pr, rfl⟩, ?_⟩
              rw [put_pl ndk hy]
              refine q_seq ?_
              rw [u_dput]
              walk_at "s"
              refine ⟨_, .inl ⟨_, Sum.inr z, upd_same, rfl, lk _, rfl⟩, ?_⟩
              rw [put_pl ndk hz2, upd_upd, two_puts ey yz]
              have s7 : Sm H0 (upd H6 D2 (.dK (kvsOf (pl (firsts ps) (sw pr z y))))) := sm_put (sm_trans s5 s6) hD2n
              have e7 : (upd H6 D2 (.dK (kvsOf (pl (firsts ps) (sw pr z y))))) D2 = some (.dK (kvsOf (pl (firsts ps) (sw pr z y)))) := upd_same
              have D_2 : D ≠ D2 := fun e => by rw [e, hD20] at hd; cases hd
              have d7 : (upd H6 D2 (.dK (kvsOf (pl (firsts ps) (sw pr z y))))) D = some (.dK (kvsOf ps)) := by rw [upd_ne D_2]; exact d6
              have f7 : (upd H6 D2 (.dK (kvsOf (pl (firsts ps) (sw pr z y))))) pf = some (.lst us) := by rw [upd_ne d2ne.symm]; exact f6
              have o7 : (upd H6 D2 (.dK (kvsOf (pl (firsts ps) (sw pr z y))))) po = some (.lst (srt.map V.str)) := by rw [upd_ne d2po.symm]; exact o6
              have ra7 : RowsAt H0 (upd H6 D2 (.dK (kvsOf (pl (firsts ps) (sw pr z y))))) us (prs n) := ⟨ra.1, fun j w r h1 h2 => by
                obtain ⟨t, e, nn, ht⟩ := ra.2 j w r h1 h2
                refine ⟨t, e, nn, ?_⟩
                have tn : t ≠ D2 := fun q => by rw [q, e5] at ht; cases ht
                rw [upd_ne tn]
                exact s6 _ _ ht⟩
              generalize upd H6 D2 (.dK (kvsOf (pl (firsts ps) (sw pr z y)))) = H7 at s7 e7 d7 f7 o7 ra7
              refine q_drop1 ?_
              walk_at "s"
              refine ⟨tyN_lst f7, by decide, fun tq ntq => al ntq fun H8 s8 h8 => ?_⟩
              have f8 := s8 _ _ f7
              simp only [f8]
              have lus : us.length = n.length := by rw [ra.1]; unfold prs; rw [List.length_map]
              have tq_pf : tq ≠ pf := (ne_of_none f7 ntq).symm
              refine ⟨by show _ < 2 ^ 24; omega, sm_put (sm_trans s7 s8) nf0, ?_, us ++ [.ref tq], n ++ [(z, y)], sw pr z y, ?_, ?_, ?_, ?_, ?_, ?_, fun r hr => ?_⟩
              · rw [upd_ne dne]; exact s8 _ _ d7
              · rw [upd_ne d2ne]; exact s8 _ _ e7
              · rw [upd_ne fne.symm]; exact s8 _ _ o7
              · first | rfl | exact upd_same
              · have ra8 : RowsAt H0 (upd H8 pf (.lst (us ++ [.ref tq]))) us (prs n) := ⟨ra7.1, fun j w r h1 h2 => by
                  obtain ⟨t, e, nn, ht⟩ := ra7.2 j w r h1 h2
                  refine ⟨t, e, nn, ?_⟩
                  have tn : t ≠ pf := fun q => by rw [q, f7] at ht; cases ht
                  rw [upd_ne tn]
                  exact s8 _ _ ht⟩
                have ep : prs (n ++ [(z, y)]) = prs n ++ [[z, y]] := by unfold prs; rw [List.map_append]; rfl
                rw [ep]
                exact ra8.add (sm_none s7 ntq) (by rw [upd_ne tq_pf]; exact h8)
              · rw [List.length_append]
                exact Nat.succ_le_succ ln
              · rw [et]
                exact (ex.swap T (fun w hw => pm.mem_iff.1 (List.mem_of_mem_take hw)) hz2 nz hy ey yz).2
              · rw [List.append_assoc]
                exact rn _ (by rw [ed]; exact .swap c hy ey hr)
      · rintro σ H5 ⟨v1, v2, v6, us, n, pr, rfl, s5, d5, e5, o5, f5, ra, ln, ex, rn⟩
        dsimp only
        walk_at "s"
        have r := rn [] (by rw [List.length_map, List.drop_length]; exact .nil)
        rw [List.append_nil] at r
        exact q ps hps tp pf us n H5 (sm_trans s0 s5) (sm_none s0 nf0) f5 ⟨ra.1, fun i u r h1 h2 => by
          obtain ⟨t, e, n, ht⟩ := ra.2 i u r h1 h2
          exact ⟨t, e, sm_none s0 n, ht⟩⟩ ⟨srt, so, pm, r⟩
  have fin : ∀ (D : Addr) (H1 : Hp), H0 D = none → (Sm H0 H1 ∧ H1 D = some (.dK (kvsOf (ps.take xs.length)))) → gName 3 (.ref D) [some (.ref p), none, none, none, none, none, none, none] H1 fun σ' H' => REST { nx := fun _ H' => Q .non H', rt := Q } σ' H' := by
    intro D H1 hD ⟨s1, h1⟩
    rw [lx, List.take_length] at h1
    exact after D H1 s1 hD h1
  rcases asS_or (sm_S s0 hp) with e | e
  · refine .inl ?_
    rw [u_list]
    refine ⟨_, rfl, p, rfl, ⟨xs, asL_seq e⟩, fun D hD => ?_⟩
    refine dcW (xs := xs) (fun i H' => Sm H0 H' ∧ H' D = some (.dK (kvsOf (ps.take i)))) ⟨sm_new (fun _ _ h => h) hD, upd_same⟩ (fun i H' hi pv => ?_) (fun H' pv => ⟨xs, asL_seq (sm_L pv.1 e), Nat.le_refl _⟩) (fun i x H' hx pv => step D i x H' hD hx pv) (fun H' pv => fin D H' hD pv)
    exact ⟨⟨xs, xs[i], asL_seq (sm_L pv.1 e), by simp [hi]⟩, fun x H2 y => ⟨y.1, y.2 xs (asL_seq (sm_L pv.1 e))⟩⟩
  · refine .inr ?_
    rw [u_tupI]
    refine ⟨_, rfl, p, rfl, ⟨xs, asT_seq e⟩, fun D hD => ?_⟩
    refine dcW (xs := xs) (fun i H' => Sm H0 H' ∧ H' D = some (.dK (kvsOf (ps.take i)))) ⟨sm_new (fun _ _ h => h) hD, upd_same⟩ (fun i H' hi pv => ?_) (fun H' pv => ⟨xs, asT_seq (sm_T pv.1 e), Nat.le_refl _⟩) (fun i x H' hx pv => step D i x H' hD hx pv) (fun H' pv => fin D H' hD pv)
    exact ⟨⟨xs, xs[i], asT_seq (sm_T pv.1 e), by simp [hi]⟩, fun x H2 y => ⟨y.1, y.2 xs (asT_seq (sm_T pv.1 e))⟩⟩
end XB

/-! What the law asks of exchanges. -/
namespace XB
open PySem L2
local macro_rules | `(tactic| walk_at "s") => `(tactic| try simp only [u_var, u_c, u_op, u_un, u_nil, u_cons, u_cb, u_call, u_callS, u_tup, u_lst, u_test, u_B, u_and, u_or, u_not, u_andV, u_orV, u_notV, u_ifE, u_chain, u_sl, u_noPart, u_part, u_bm, u_bm0, u_rev, u_lc, u_try, u_sui, u_sui0, u_unb_rt, u_unb_nx, u_xf, u_WE, w_nil, w_cons, u_raise, u_rng1, u_rng2, u_next, u_ret, u_gname, u_gnil, u_gcons, u_gsub, u_gtup,
  f_add, f_addS, f_addR, f_sub, f_mul, f_mulR, f_mod, f_div, f_pow, f_neg, f_cmp, f_eq, f_eqB, f_eqS, f_ne, f_neB, f_neS, f_isN, f_notN, f_isB, f_ix, f_ixS, f_int, f_intB, f_len, f_lenS, f_max, f_min, f_abs, f_list, f_tuple, f_all, f_sum, f_isi, f_isiT, f_append, f_insert, f_pop, f_sl, f_set,
  kitS, tys, List.isEmpty_cons, Option.map_some, kt_NoneType_int, kt_NoneType_bool, kt_NoneType_str, kt_NoneType_list, kt_NoneType_tuple, kt_NoneType_dict, kt_int_int, kt_int_bool, kt_int_str, kt_int_list, kt_int_tuple, kt_int_dict, kt_bool_int, kt_bool_bool, kt_bool_str, kt_bool_list, kt_bool_tuple, kt_bool_dict, kt_str_int, kt_str_bool, kt_str_str, kt_str_list, kt_str_tuple, kt_str_dict, kt_list_int, kt_list_bool, kt_list_str, kt_list_list, kt_list_tuple, kt_list_dict, kt_tuple_int, kt_tuple_bool, kt_tuple_str, kt_tuple_list, kt_tuple_tuple, kt_tuple_dict, kt_dict_int, kt_dict_bool, kt_dict_str, kt_dict_list, kt_dict_tuple, kt_dict_dict, asL_lst, asL_frz, asL_tup, asT_tup, asS_lst, asS_frz, asS_tup, tyN_non, tyN_bl, tyN_int, tyN_str, atV_lit, ixN_lit, upd_same, upd_ne, upd_ne',
  List.getElem?_cons_zero, List.getElem?_cons_succ, List.set_cons_zero, List.set_cons_succ, List.append_nil, List.length_cons, List.length_nil, Option.some.injEq, exists_eq_left', exists_eq_left, exists_and_left, V.bl.injEq, V.int.injEq, V.str.injEq, V.ref.injEq, Bool.not_eq_true, Bool.not_true, Bool.not_false, decide_true, decide_false, decide_eq_true_eq, decide_eq_false_iff_not, Bool.false_eq_true, if_true, if_false, ite_true, ite_false, reduceCtorEq, true_and, and_true, Nat.reduceAdd, Nat.reduceLT, Nat.zero_add, ne_eq, not_false_eq_true, not_true_eq_false, List.cons.injEq, and_assoc])
local macro_rules | `(tactic| walk_at "S") => `(tactic| try simp only [u_var, u_c, u_op, u_un, u_nil, u_cons, u_cb, u_call, u_callS, u_tup, u_lst, u_test, u_B, u_and, u_or, u_not, u_andV, u_orV, u_notV, u_ifE, u_chain, u_sl, u_noPart, u_part, u_bm, u_bm0, u_rev, u_lc, u_try, u_sui, u_sui0, u_unb_rt, u_unb_nx, u_xf, u_WE, w_nil, w_cons, u_raise, u_rng1, u_rng2, u_next, u_ret, u_gname, u_gnil, u_gcons, u_gsub, u_gtup,
  f_add, f_addS, f_addR, f_sub, f_mul, f_mulR, f_mod, f_div, f_pow, f_neg, f_cmp, f_eq, f_eqB, f_eqS, f_ne, f_neB, f_neS, f_isN, f_notN, f_isB, f_ix, f_ixS, f_int, f_intB, f_len, f_lenS, f_max, f_min, f_abs, f_list, f_tuple, f_all, f_sum, f_isi, f_isiT, f_append, f_insert, f_pop, f_sl, f_set,
  kitS, tys, List.isEmpty_cons, Option.map_some, kt_NoneType_int, kt_NoneType_bool, kt_NoneType_str, kt_NoneType_list, kt_NoneType_tuple, kt_NoneType_dict, kt_int_int, kt_int_bool, kt_int_str, kt_int_list, kt_int_tuple, kt_int_dict, kt_bool_int, kt_bool_bool, kt_bool_str, kt_bool_list, kt_bool_tuple, kt_bool_dict, kt_str_int, kt_str_bool, kt_str_str, kt_str_list, kt_str_tuple, kt_str_dict, kt_list_int, kt_list_bool, kt_list_str, kt_list_list, kt_list_tuple, kt_list_dict, kt_tuple_int, kt_tuple_bool, kt_tuple_str, kt_tuple_list, kt_tuple_tuple, kt_tuple_dict, kt_dict_int, kt_dict_bool, kt_dict_str, kt_dict_list, kt_dict_tuple, kt_dict_dict, asL_lst, asL_frz, asL_tup, asT_tup, asS_lst, asS_frz, asS_tup, tyN_non, tyN_bl, tyN_int, tyN_str, atV_lit, ixN_lit, upd_same, upd_ne, upd_ne',
  List.getElem?_cons_zero, List.getElem?_cons_succ, List.set_cons_zero, List.set_cons_succ, List.append_nil, List.length_cons, List.length_nil, Option.some.injEq, exists_eq_left', exists_eq_left, exists_and_left, V.bl.injEq, V.int.injEq, V.str.injEq, V.ref.injEq, Bool.not_eq_true, Bool.not_true, Bool.not_false, decide_true, decide_false, decide_eq_true_eq, decide_eq_false_iff_not, Bool.false_eq_true, if_true, if_false, ite_true, ite_false, reduceCtorEq, true_and, and_true, Nat.reduceAdd, Nat.reduceLT, Nat.zero_add, ne_eq, not_false_eq_true, not_true_eq_false, List.cons.injEq, and_assoc, *])
theorem pl_get {ks : List Str} {p : Str → Str} {i : Nat} {x : Str} (h : ks[i]? = some x) : (pl ks p)[i]? = some (x, p x) := by unfold pl; rw [List.getElem?_map, h]; rfl
theorem prs_get {n : List (Str × Str)} {i : Nat} {q : Str × Str} (h : n[i]? = some q) : (prs n)[i]? = some [q.1, q.2] := by unfold prs; rw [List.getElem?_map, h]; rfl
theorem prs_len {n : List (Str × Str)} : (prs n).length = n.length := by unfold prs; rw [List.length_map]
theorem pl_ext {ks : List Str} {p q : Str → Str} (h : ∀ x ∈ ks, p x = q x) : pl ks p = pl ks q := by
  unfold pl
  exact List.map_congr_left fun x hx => by rw [h x hx]
/-- those that a walk over sorted names picks -/
theorem made_filter {K : PySem.W.Frag} {σ : L2.St} {H : Hp} {a D : Addr} {m : Nat} {zs : List Str} {tt : TT} {Qd : Hp → Prop} (good : Str → Bool) (ha : H a = some (.lst (zs.map V.str))) (hD : H D = none) (hl : zs.length ≤ 100)
    (hw : ∀ x, wipe ((wipe σ [m]).set m (some x)) [m] = wipe σ [m]) (hx : ∀ x, ((wipe σ [m]).set m (some x))[m]? = some (some x))
    (ht : ∀ (z : Str) (H' : Hp) (R : Bool → Hp → Prop), z ∈ zs → Sm H H' → R (good z) H' → tt ((wipe σ [m]).set m (some (.str z))) H' R) (q : ∀ H', Sm H H' → H' D = some (.lst ((zs.filter good).map V.str)) → Qd H') :
    Made (Itl K a) (gName m) tt (tVar m) [m] σ D H Qd := by
  refine made_list (fun i H' => Sm H H' ∧ H' D = some (.lst (((zs.take i).filter good).map V.str))) ⟨sm_new (fun _ _ z => z) hD, upd_same⟩ (fun i H' _ p => asL_at (p.1 _ _ ha)) (fun i x H' hxi p => ?_) fun H' p => ?_
  · obtain ⟨z, hz, rfl⟩ := get_str hxi
    obtain ⟨p1, p2⟩ := p
    refine ⟨hw _, ?_⟩
    refine ht z H' _ (List.mem_of_getElem? hz) p1 ?_
    have et : zs.take (i + 1) = zs.take i ++ [z] := by rw [List.take_succ, hz]; rfl
    cases c : good z with
    | false =>
      simp only [Bool.false_eq_true, if_false]
      refine ⟨p1, ?_⟩
      rw [p2, et, List.filter_append, List.filter_cons, c]
      simp
    | true =>
      simp only [if_true]
      refine ⟨_, hx _, _, p2, ?_, sm_put p1 hD, ?_⟩
      · have l1 := List.length_filter_le good (zs.take i)
        rw [List.length_take] at l1
        rw [List.length_map]
        show _ < 2 ^ 24
        omega
      · rw [upd_same, et, List.filter_append, List.filter_cons, c]
        simp
  · obtain ⟨p1, p2⟩ := p
    rw [List.length_map, List.take_length] at p2
    exact q H' p1 p2
def sp_l_leads_there (K : PySem.W.Frag) (C : CA) : Sp := fun vs H Q _ => ∃ (o p : Addr) (us xs : List V) (n ps : List (Str × Str)), vs = [.ref o, .ref p] ∧ H o = some (.lst us) ∧ RowsIn H us (prs n) ∧ H p = some (.lst xs) ∧ IsPairs H (.ref p) ps ∧ TabP ps ∧ ExOf (look ps) (firsts ps) n ∧
  ∀ H', Sm H H' → Q (.bl true) H'
def rd_l_leads_there (K : PySem.W.Frag) (C : CA) (E : XK) : TS :=
  (tSeq (tAsg tDNewK (gName 2)) (tSeq (tAsg tDNewK (gName 3)) (tSeq (tFor (iList K (tVar 1)) (gName 4) (tSeq (sDPut (tVar 2) (tOp fIx (tVar 4) (tC (.int 0))) (tOp fIx (tVar 4) (tC (.int 1)))) (sDPut (tVar 3) (tOp fIx (tVar 4) (tC (.int 0))) (tOp fIx (tVar 4) (tC (.int 0)))))) (tSeq (tIfS (tNot (tB (tCB fIsi (tCons (tVar 0) (tCons (tC (.ty "list")) tNil))))) (tRet (tC (.bl false))) tNext) (tSeq (tFor (iList K (tVar 0)) (gName 4) (tSeq (tIfS (tOr (tNot (tB (tCB fIsi (tCons (tVar 4) (tCons (tC (.ty "tuple")) tNil))))) (tTest (tOp (fNe K) (tCB fLen (tCons (tVar 4) tNil)) (tC (.int 2))))) (tRet (tC (.bl false))) tNext) (tSeq (tAsg (tLc (iList K (tCB fSortD (tCons (tVar 2) tNil))) (gName 6) (tTest (tOp (fNe K) (tDGet (tVar 3) (tVar 6)) (tDGet (tVar 2) (tVar 6)))) (tVar 6) [6]) (gName 5)) (tSeq (tIfS (tOr (tTest (tOp (fEq K) (tCB fLen (tCons (tVar 5) tNil)) (tC (.int 0)))) (tTest (tOp (fNe K) (tOp fIx (tVar 4) (tC (.int 0))) (tOp fIx (tVar 5) (tC (.int 0)))))) (tRet (tC (.bl false))) tNext) (tSeq (tIfS (tOr (tB (tDNotIn (tOp fIx (tVar 4) (tC (.int 1))) (tVar 3))) (tTest (tOp (fNe K) (tDGet (tVar 3) (tOp fIx (tVar 4) (tC (.int 1)))) (tDGet (tVar 2) (tOp fIx (tVar 4) (tC (.int 0))))))) (tRet (tC (.bl false))) tNext) (tSeq (sDPut (tVar 3) (tOp fIx (tVar 4) (tC (.int 1))) (tDGet (tVar 3) (tOp fIx (tVar 4) (tC (.int 0))))) (sDPut (tVar 3) (tOp fIx (tVar 4) (tC (.int 0))) (tDGet (tVar 2) (tOp fIx (tVar 4) (tC (.int 0))))))))))) (tRet (tOp rEqDA (tVar 3) (tVar 2))))))))
theorem pure_l_leads_there {K : PySem.W.Frag} {C : CA} (vs : List V) (H : Hp) (Q : VK) (E : XK) (h : sp_l_leads_there K C vs H Q E) : rd_l_leads_there K C E { nx := fun _ H' => Q .non H', rt := Q } (start [("told" : Str), ("pairs" : Str), ("image" : Str), ("now" : Str), ("pair" : Str), ("wrong" : Str), ("name" : Str)] vs) H := by
  obtain ⟨o, p, us, xs, n, ps, rfl, ho, ri, hp, hps, tp, eo, q⟩ := h
  show rd_l_leads_there K C E _ [some (.ref o), some (.ref p), none, none, none, none, none] H
  unfold rd_l_leads_there
  have T := tp.tbl
  obtain ⟨p', xs', e, hp', lx, hq⟩ := id hps
  cases e
  rw [asS_at hp] at hp'
  cases hp'
  have lps := tp.le
  have ndk := tp.nd
  have lf : (firsts ps).length = ps.length := by unfold firsts; rw [List.length_map]
  have lu := ri.1
  rw [prs_len] at lu
  obtain ⟨srt, so, pm, _⟩ := eo.run
  have ld := eo.leads T so pm
  have lsr := pm.length_eq
  have lk : ∀ g : Str → Str, (kvsOf (pl (firsts ps) g)).length < sizeLine := fun g => by unfold kvsOf pl; rw [List.length_map, List.length_map, lf]; show _ < 2 ^ 24; omega
  refine q_asg ?_
  rw [u_dnew]
  refine fun D hD => al hD fun H1 s1 h1 => ?_
  walk_at "s"
  refine q_asg ?_
  rw [u_dnew]
  refine fun D2 hD2 => al hD2 fun H2 s2 h2 => ?_
  walk_at "s"
  have s02 := sm_trans s1 s2
  have hD20 : H D2 = none := sm_none s1 hD2
  have D_2 : D ≠ D2 := ne_of_none h1 hD2
  refine q_for ?_
  rw [u_list]
  walk_at "s"
  refine ⟨⟨xs, asL_seq (asL_at (s02 _ _ hp))⟩, ?_⟩
  refine loop_list (xs := xs) (fun i σ H' => ∃ v, σ = [some (.ref o), some (.ref p), some (.ref D), some (.ref D2), v, none, none] ∧ Sm H H' ∧ H' D = some (.dK (kvsOf (ps.take i))) ∧ H' D2 = some (.dK (kvsOf ((pl (firsts ps) id).take i)))) ⟨none, rfl, s02, s2 _ _ h1, h2⟩ (fun i σ H' _ ⟨_, _, s, _⟩ => asL_at (s _ _ hp)) ?_ ?_
  · rintro i x σ H' hx ⟨v, rfl, s3, h3, g3⟩
    have hi := (List.getElem?_eq_some_iff.mp hx).1
    have hpi : ps[i]? = some (ps[i]'(by omega)) := List.getElem?_eq_getElem _
    obtain ⟨r, rfl, hr⟩ := hq i x _ hx hpi
    have hr3 := sm_T s3 hr
    have hpl : (pl (firsts ps) id)[i]? = some ((ps[i]'(by omega)).1, (ps[i]'(by omega)).1) := pl_get (p := id) (by unfold firsts; rw [List.getElem?_map, hpi]; rfl)
    walk_at "s"
    refine q_seq ?_
    rw [u_dput]
    walk_at "s"
    simp only [asS_of_T hr3]
    walk_at "s"
    refine ⟨_, .inl ⟨_, Sum.inr (ps[i]'(by omega)).1, h3, rfl, ?_, rfl⟩, ?_⟩
    · unfold kvsOf
      rw [List.length_map, List.length_take]
      show _ < 2 ^ 24
      omega
    have s4 := sm_put (o := .dK (putK (kvsOf (ps.take i)) (Sum.inr (ps[i]'(by omega)).1) (.str (ps[i]'(by omega)).2))) s3 hD
    have h4 : (upd H' D (.dK (putK (kvsOf (ps.take i)) (Sum.inr (ps[i]'(by omega)).1) (.str (ps[i]'(by omega)).2)))) D = some (.dK (kvsOf (ps.take (i + 1)))) := by rw [upd_same, kvs_take tp.nd hpi]
    have g4 : (upd H' D (.dK (putK (kvsOf (ps.take i)) (Sum.inr (ps[i]'(by omega)).1) (.str (ps[i]'(by omega)).2)))) D2 = some (.dK (kvsOf ((pl (firsts ps) id).take i))) := by rw [upd_ne D_2.symm]; exact g3
    generalize upd H' D (.dK (putK (kvsOf (ps.take i)) (Sum.inr (ps[i]'(by omega)).1) (.str (ps[i]'(by omega)).2))) = H4 at s4 h4 g4
    have hr4 := sm_T s4 hr
    rw [u_dput]
    walk_at "s"
    simp only [asS_of_T hr4]
    walk_at "s"
    refine ⟨_, .inl ⟨_, Sum.inr (ps[i]'(by omega)).1, g4, rfl, ?_, rfl⟩, sm_put s4 hD20, by rw [upd_ne D_2]; exact h4, ?_⟩
    · unfold kvsOf pl
      rw [List.length_map, List.length_take, List.length_map]
      show _ < 2 ^ 24
      omega
    · rw [upd_same, kvs_take (by rw [firsts_pl]; exact ndk) hpl]
  rintro σ H3 ⟨v, rfl, s3, h3, g3⟩
  rw [lx, List.take_length] at h3
  have el : (pl (firsts ps) id).take xs.length = pl (firsts ps) id := List.take_of_length_le (by unfold pl; rw [List.length_map]; omega)
  rw [el] at g3
  dsimp only
  refine q_if ?_
  walk_at "s"
  simp only [tyN_lst (s3 _ _ ho)]
  walk_at "s"
  refine q_for ?_
  rw [u_list]
  walk_at "s"
  refine ⟨⟨us, asL_seq (asL_at (s3 _ _ ho))⟩, ?_⟩
  refine loop_list (xs := us) (fun i σ H' => ∃ (v w x : Option V) (pr : Str → Str), σ = [some (.ref o), some (.ref p), some (.ref D), some (.ref D2), v, w, x] ∧ Sm H H' ∧ H' D = some (.dK (kvsOf ps)) ∧ H' D2 = some (.dK (kvsOf (pl (firsts ps) pr))) ∧ Leads (look ps) (firsts ps) srt pr (n.drop i)) ⟨_, _, _, id, rfl, s3, h3, g3, ld⟩ (fun i σ H' _ ⟨_, _, _, _, _, s, _⟩ => asL_at (s _ _ ho)) ?_ ?_
  · rintro i x σ H4 hx ⟨v, w, x', pr, rfl, s4, h4, g4, l4⟩
    have hi := (List.getElem?_eq_some_iff.mp hx).1
    have hni : n[i]? = some (n[i]'(by omega)) := List.getElem?_eq_getElem _
    have ed : n.drop i = (n[i]'(by omega)) :: n.drop (i + 1) := List.drop_eq_getElem_cons (by omega)
    obtain ⟨r, rfl, hr⟩ := ri.2 i x _ hx (prs_get hni)
    generalize hab : n[i]'(by omega) = ab at hni ed hr
    obtain ⟨a, b⟩ := ab
    rw [ed] at l4
    cases l4 with
    | step ma mb nab eb fl l5 =>
      obtain ⟨t, fl⟩ := fl
      have hr4 := s4 _ _ hr
      walk_at "s"
      refine q_if ?_
      walk_at "s"
      simp only [tyN_tup hr4]
      walk_at "s"
      simp only [hr4]
      walk_at "s"
      have e2 : ((List.map V.str [a, b]).length : Int) = 2 := rfl
      simp only [e2, decide_true, Bool.not_true, Bool.false_eq_true, if_false]
      refine q_asg ?_
      rw [u_lc, u_list]
      walk_at "s"
      show fSortD [.ref D] H4 _
      unfold fSortD
      dsimp only
      rw [h4]
      refine ⟨firsts ps, by unfold kvsOf firsts; rw [List.map_map, List.map_map]; rfl, by omega, fun srt2 po pm2 so2 npo => al npo fun H5 t5 h5 => ?_⟩
      have es : srt2 = srt := srt_unique so2 so (pm2.trans pm.symm)
      subst es
      have g5 := t5 _ _ g4
      have k5 := t5 _ _ h4
      refine ⟨po, rfl, ⟨_, asL_seq (asL_at h5)⟩, fun Dl hDl => ?_⟩
      refine made_filter (fun z => !decide (pr z = look ps z)) h5 hDl (by omega) (fun _ => rfl) (fun _ => rfl) (fun z H' R hz s r => ?_) fun H6 t6 h6 => ?_
      · have hz2 := pm.mem_iff.1 hz
        walk_at "s"
        rw [u_dget]
        walk_at "s"
        refine ⟨.str (pr z), .inl ⟨_, Sum.inr z, .inl (s _ _ g5), rfl, (val_pl ndk hz2).symm⟩, ?_⟩
        walk_at "s"
        rw [u_dget]
        walk_at "s"
        refine ⟨.str (look ps z), .inl ⟨_, Sum.inr z, .inl (s _ _ k5), rfl, (valV_of ndk hz2).symm⟩, ?_⟩
        walk_at "s"
        exact r
      rw [fl] at h6
      have t46 := sm_trans t5 t6
      have g6 := t46 _ _ g4
      have k6 := t46 _ _ h4
      have r6 := t46 _ _ hr4
      have s6 := sm_trans s4 t46
      walk_at "s"
      refine q_if ?_
      walk_at "s"
      simp only [asS_at h6, r6]
      walk_at "s"
      have e3 : ¬ ((List.map V.str (a :: t)).length : Int) = 0 := by rw [List.length_map, List.length_cons]; omega
      simp only [e3, decide_false, Bool.false_eq_true, if_false, List.map_cons]
      walk_at "s"
      refine q_if ?_
      walk_at "s"
      rw [u_dnotin]
      walk_at "s"
      simp only [r6]
      walk_at "s"
      simp only [List.map_cons]
      walk_at "s"
      refine ⟨some (.str (pr b)), .inl ⟨_, Sum.inr b, .inl g6, rfl, (val_pl ndk mb).symm⟩, ?_⟩
      simp only [Option.isSome_some, Bool.not_true, Bool.false_eq_true, if_false]
      rw [u_dget]
      walk_at "s"
      try simp only [r6, List.map_cons]
      walk_at "s"
      refine ⟨.str (pr b), .inl ⟨_, Sum.inr b, .inl g6, rfl, (val_pl ndk mb).symm⟩, ?_⟩
      rw [u_dget]
      walk_at "s"
      try simp only [r6, List.map_cons]
      walk_at "s"
      refine ⟨.str (look ps a), .inl ⟨_, Sum.inr a, .inl k6, rfl, (valV_of ndk ma).symm⟩, ?_⟩
      walk_at "s"
      simp only [eb, decide_true, Bool.not_true, Bool.false_eq_true, if_false]
      refine q_seq ?_
      rw [u_dput]
      walk_at "s"
      rw [u_dget]
      walk_at "s"
      try simp only [r6, List.map_cons]
      walk_at "s"
      refine ⟨.str (pr a), .inl ⟨_, Sum.inr a, .inl g6, rfl, (val_pl ndk ma).symm⟩, ?_⟩
      walk_at "s"
      try simp only [r6, List.map_cons]
      walk_at "s"
      refine ⟨_, .inl ⟨_, Sum.inr b, g6, rfl, lk pr, rfl⟩, ?_⟩
      rw [put_pl ndk mb]
      have D2r : D2 ≠ r := fun e => by rw [e, r6] at g6; cases g6
      rw [u_dput]
      walk_at "s"
      rw [u_dget]
      walk_at "s"
      try simp only [upd_ne D2r.symm, r6, List.map_cons]
      walk_at "s"
      refine ⟨.str (look ps a), .inl ⟨_, Sum.inr a, .inl (by rw [upd_ne D_2]; exact k6), rfl, (valV_of ndk ma).symm⟩, ?_⟩
      walk_at "s"
      try simp only [upd_ne D2r.symm, r6, List.map_cons]
      walk_at "s"
      refine ⟨_, .inl ⟨_, Sum.inr a, upd_same, rfl, lk _, rfl⟩, ?_⟩
      rw [put_pl ndk ma, upd_upd, two_puts eb nab]
      exact ⟨sm_put s6 hD20, by rw [upd_ne D_2]; exact k6, sw pr a b, by first | rfl | exact upd_same, l5⟩
  · rintro σ H4 ⟨v, w, x', pr, rfl, s4, h4, g4, l4⟩
    rw [lu, List.drop_length] at l4
    dsimp only
    refine q_ret ?_
    walk_at "s"
    cases l4 with
    | done hall =>
      have ep : pl (firsts ps) pr = ps := (pl_ext fun x hx => hall x (pm.mem_iff.2 hx)).trans (pl_look ndk)
      rw [ep] at g4
      refine ⟨D2, D, _, _, rfl, rfl, g4, h4, rfl, fun kv hkv => ?_, q H4 s4⟩
      obtain ⟨pr', hm, rfl⟩ := List.mem_map.1 hkv
      have hm1 : pr'.1 ∈ firsts ps := List.mem_map.2 ⟨pr', hm, rfl⟩
      refine ⟨?_, rfl⟩
      show valV (kvsOf ps) (Sum.inr pr'.1) = some (V.str pr'.2)
      rw [valV_of ndk hm1, look_at (b := pr'.2) ndk hm]
end XB

/-! .. and back. -/
namespace XB
open PySem L2
local macro_rules | `(tactic| walk_at "s") => `(tactic| try simp only [u_var, u_c, u_op, u_un, u_nil, u_cons, u_cb, u_call, u_callS, u_tup, u_lst, u_test, u_B, u_and, u_or, u_not, u_andV, u_orV, u_notV, u_ifE, u_chain, u_sl, u_noPart, u_part, u_bm, u_bm0, u_rev, u_lc, u_try, u_sui, u_sui0, u_unb_rt, u_unb_nx, u_xf, u_WE, w_nil, w_cons, u_raise, u_rng1, u_rng2, u_next, u_ret, u_gname, u_gnil, u_gcons, u_gsub, u_gtup,
  f_add, f_addS, f_addR, f_sub, f_mul, f_mulR, f_mod, f_div, f_pow, f_neg, f_cmp, f_eq, f_eqB, f_eqS, f_ne, f_neB, f_neS, f_isN, f_notN, f_isB, f_ix, f_ixS, f_int, f_intB, f_len, f_lenS, f_max, f_min, f_abs, f_list, f_tuple, f_all, f_sum, f_isi, f_isiT, f_append, f_insert, f_pop, f_sl, f_set,
  kitS, tys, List.isEmpty_cons, Option.map_some, kt_NoneType_int, kt_NoneType_bool, kt_NoneType_str, kt_NoneType_list, kt_NoneType_tuple, kt_NoneType_dict, kt_int_int, kt_int_bool, kt_int_str, kt_int_list, kt_int_tuple, kt_int_dict, kt_bool_int, kt_bool_bool, kt_bool_str, kt_bool_list, kt_bool_tuple, kt_bool_dict, kt_str_int, kt_str_bool, kt_str_str, kt_str_list, kt_str_tuple, kt_str_dict, kt_list_int, kt_list_bool, kt_list_str, kt_list_list, kt_list_tuple, kt_list_dict, kt_tuple_int, kt_tuple_bool, kt_tuple_str, kt_tuple_list, kt_tuple_tuple, kt_tuple_dict, kt_dict_int, kt_dict_bool, kt_dict_str, kt_dict_list, kt_dict_tuple, kt_dict_dict, asL_lst, asL_frz, asL_tup, asT_tup, asS_lst, asS_frz, asS_tup, tyN_non, tyN_bl, tyN_int, tyN_str, atV_lit, ixN_lit, upd_same, upd_ne, upd_ne',
  List.getElem?_cons_zero, List.getElem?_cons_succ, List.set_cons_zero, List.set_cons_succ, List.append_nil, List.length_cons, List.length_nil, Option.some.injEq, exists_eq_left', exists_eq_left, exists_and_left, V.bl.injEq, V.int.injEq, V.str.injEq, V.ref.injEq, Bool.not_eq_true, Bool.not_true, Bool.not_false, decide_true, decide_false, decide_eq_true_eq, decide_eq_false_iff_not, Bool.false_eq_true, if_true, if_false, ite_true, ite_false, reduceCtorEq, true_and, and_true, Nat.reduceAdd, Nat.reduceLT, Nat.zero_add, ne_eq, not_false_eq_true, not_true_eq_false, List.cons.injEq, and_assoc])
local macro_rules | `(tactic| walk_at "S") => `(tactic| try simp only [u_var, u_c, u_op, u_un, u_nil, u_cons, u_cb, u_call, u_callS, u_tup, u_lst, u_test, u_B, u_and, u_or, u_not, u_andV, u_orV, u_notV, u_ifE, u_chain, u_sl, u_noPart, u_part, u_bm, u_bm0, u_rev, u_lc, u_try, u_sui, u_sui0, u_unb_rt, u_unb_nx, u_xf, u_WE, w_nil, w_cons, u_raise, u_rng1, u_rng2, u_next, u_ret, u_gname, u_gnil, u_gcons, u_gsub, u_gtup,
  f_add, f_addS, f_addR, f_sub, f_mul, f_mulR, f_mod, f_div, f_pow, f_neg, f_cmp, f_eq, f_eqB, f_eqS, f_ne, f_neB, f_neS, f_isN, f_notN, f_isB, f_ix, f_ixS, f_int, f_intB, f_len, f_lenS, f_max, f_min, f_abs, f_list, f_tuple, f_all, f_sum, f_isi, f_isiT, f_append, f_insert, f_pop, f_sl, f_set,
  kitS, tys, List.isEmpty_cons, Option.map_some, kt_NoneType_int, kt_NoneType_bool, kt_NoneType_str, kt_NoneType_list, kt_NoneType_tuple, kt_NoneType_dict, kt_int_int, kt_int_bool, kt_int_str, kt_int_list, kt_int_tuple, kt_int_dict, kt_bool_int, kt_bool_bool, kt_bool_str, kt_bool_list, kt_bool_tuple, kt_bool_dict, kt_str_int, kt_str_bool, kt_str_str, kt_str_list, kt_str_tuple, kt_str_dict, kt_list_int, kt_list_bool, kt_list_str, kt_list_list, kt_list_tuple, kt_list_dict, kt_tuple_int, kt_tuple_bool, kt_tuple_str, kt_tuple_list, kt_tuple_tuple, kt_tuple_dict, kt_dict_int, kt_dict_bool, kt_dict_str, kt_dict_list, kt_dict_tuple, kt_dict_dict, asL_lst, asL_frz, asL_tup, asT_tup, asS_lst, asS_frz, asS_tup, tyN_non, tyN_bl, tyN_int, tyN_str, atV_lit, ixN_lit, upd_same, upd_ne, upd_ne',
  List.getElem?_cons_zero, List.getElem?_cons_succ, List.set_cons_zero, List.set_cons_succ, List.append_nil, List.length_cons, List.length_nil, Option.some.injEq, exists_eq_left', exists_eq_left, exists_and_left, V.bl.injEq, V.int.injEq, V.str.injEq, V.ref.injEq, Bool.not_eq_true, Bool.not_true, Bool.not_false, decide_true, decide_false, decide_eq_true_eq, decide_eq_false_iff_not, Bool.false_eq_true, if_true, if_false, ite_true, ite_false, reduceCtorEq, true_and, and_true, Nat.reduceAdd, Nat.reduceLT, Nat.zero_add, ne_eq, not_false_eq_true, not_true_eq_false, List.cons.injEq, and_assoc, *])
theorem back_puts {ks : List Str} {p : Str → Str} {x y : Str} (n : y ≠ x) : pl ks (fun z => if z = y then p x else (if z = x then p y else p z)) = pl ks (sw p x y) := by
  refine pl_ext fun z _ => ?_
  unfold sw
  by_cases c : z = x
  · subst c
    rw [if_neg (fun e => n e.symm), if_pos rfl, if_pos rfl]
  · by_cases d : z = y
    · subst d
      rw [if_pos rfl, if_neg c, if_pos rfl]
    · rw [if_neg d, if_neg c, if_neg c, if_neg d]
theorem Runs.len_le {f : Str → Str} {ks : List Str} : ∀ {r : List Str} {p : Str → Str} {n : List (Str × Str)}, Runs f ks r p n → n.length ≤ r.length
  | [], _, _, .nil => Nat.le_refl _
  | x :: r, p, n, .same _ k => Nat.le_succ_of_le k.len_le
  | x :: r, p, _, .swap _ _ _ k => Nat.succ_le_succ k.len_le
def sp_l_leads_back (K : PySem.W.Frag) (C : CA) : Sp := fun vs H Q _ => ∃ (o p : Addr) (us xs : List V) (n ps : List (Str × Str)), vs = [.ref o, .ref p] ∧ H o = some (.lst us) ∧ RowsIn H us (prs n) ∧ H p = some (.lst xs) ∧ IsPairs H (.ref p) ps ∧ TabP ps ∧ ExOf (look ps) (firsts ps) n ∧
  ∀ H', Sm H H' → Q (.bl true) H'
def rd_l_leads_back (K : PySem.W.Frag) (C : CA) (E : XK) : TS :=
  (tSeq (tAsg tDNewK (gName 2)) (tSeq (tFor (iList K (tVar 1)) (gName 3) (sDPut (tVar 2) (tOp fIx (tVar 3) (tC (.int 0))) (tOp fIx (tVar 3) (tC (.int 1))))) (tSeq (tFor (iRng1 (tCons (tCB fLen (tCons (tVar 0) tNil)) tNil)) (gName 4) (tSeq (tAsg (tOp fIx (tVar 0) (tOp fSub (tOp fSub (tCB fLen (tCons (tVar 0) tNil)) (tC (.int 1))) (tVar 4))) (gTupF 2 (gCons (gName 5) (gCons (gName 6) gNil)))) (tSeq (tAsg (tDGet (tVar 2) (tVar 5)) (gName 7)) (tSeq (sDPut (tVar 2) (tVar 5) (tDGet (tVar 2) (tVar 6))) (sDPut (tVar 2) (tVar 6) (tVar 7)))))) (tRet (tOp (fEq K) (tLockE (tLc (iKeys (tVar 2)) (gName 8) (tTest (tOp (fNe K) (tDGet (tVar 2) (tVar 8)) (tVar 8))) (tVar 8) [8])) (tLst tNil))))))
theorem pure_l_leads_back {K : PySem.W.Frag} {C : CA} (vs : List V) (H : Hp) (Q : VK) (E : XK) (h : sp_l_leads_back K C vs H Q E) : rd_l_leads_back K C E { nx := fun _ H' => Q .non H', rt := Q } (start [("told" : Str), ("pairs" : Str), ("now" : Str), ("pair" : Str), ("k" : Str), ("one" : Str), ("two" : Str), ("held" : Str), ("name" : Str)] vs) H := by
  obtain ⟨o, p, us, xs, n, ps, rfl, ho, ri, hp, hps, tp, eo, q⟩ := h
  show rd_l_leads_back K C E _ [some (.ref o), some (.ref p), none, none, none, none, none, none, none] H
  unfold rd_l_leads_back
  have T := tp.tbl
  obtain ⟨p', xs', e, hp', lx, hq⟩ := id hps
  cases e
  rw [asS_at hp] at hp'
  cases hp'
  have lps := tp.le
  have ndk := tp.nd
  have lf : (firsts ps).length = ps.length := by unfold firsts; rw [List.length_map]
  have lu := ri.1
  rw [prs_len] at lu
  obtain ⟨srt, so, pm, rn⟩ := eo.run
  have ld := eo.leads T so pm
  have lk : ∀ g : Str → Str, (kvsOf (pl (firsts ps) g)).length < sizeLine := fun g => by unfold kvsOf pl; rw [List.length_map, List.length_map, lf]; show _ < 2 ^ 24; omega
  have lrow := rn.len_le
  have lsr := pm.length_eq
  refine q_asg ?_
  rw [u_dnew]
  refine fun D hD => al hD fun H1 s1 h1 => ?_
  walk_at "s"
  refine q_for ?_
  rw [u_list]
  walk_at "s"
  refine ⟨⟨xs, asL_seq (asL_at (s1 _ _ hp))⟩, ?_⟩
  refine loop_list (xs := xs) (fun i σ H' => ∃ v, σ = [some (.ref o), some (.ref p), some (.ref D), v, none, none, none, none, none] ∧ Sm H H' ∧ H' D = some (.dK (kvsOf (ps.take i)))) ⟨none, rfl, s1, h1⟩ (fun i σ H' _ ⟨_, _, s, _⟩ => asL_at (s _ _ hp)) ?_ ?_
  · rintro i x σ H' hx ⟨v, rfl, s2, h2⟩
    have hi := (List.getElem?_eq_some_iff.mp hx).1
    have hpi : ps[i]? = some (ps[i]'(by omega)) := List.getElem?_eq_getElem _
    obtain ⟨r, rfl, hr⟩ := hq i x _ hx hpi
    have hr2 := sm_T s2 hr
    walk_at "s"
    rw [u_dput]
    walk_at "s"
    simp only [asS_of_T hr2]
    walk_at "s"
    refine ⟨_, .inl ⟨_, Sum.inr (ps[i]'(by omega)).1, h2, rfl, ?_, rfl⟩, sm_put s2 hD, ?_⟩
    · unfold kvsOf
      rw [List.length_map, List.length_take]
      show _ < 2 ^ 24
      omega
    · rw [upd_same, kvs_take tp.nd hpi]
  rintro σ H2 ⟨v, rfl, s2, h2⟩
  rw [lx, List.take_length] at h2
  have ep : pl (firsts ps) (app id n) = ps := (pl_ext fun x hx => ld.end_ x (pm.mem_iff.2 hx)).trans (pl_look ndk)
  dsimp only
  refine q_for ?_
  walk_at "s"
  simp only [asS_at (s2 _ _ ho)]
  walk_at "s"
  refine ⟨by omega, by omega, ?_⟩
  refine loop_range (fun i σ H' => ∃ v w x y z : Option V, σ = [some (.ref o), some (.ref p), some (.ref D), v, w, x, y, z, none] ∧ Sm H H' ∧ H' D = some (.dK (kvsOf (pl (firsts ps) (app id (n.take (n.length - i))))))) ⟨_, _, _, _, _, rfl, s2, by rw [Nat.sub_zero, List.take_length, ep]; exact h2⟩ ?_ ?_
  · rintro i σ H3 hi ⟨v, w, x, y, z0, rfl, s3, h3⟩
    have hi : i < us.length := by omega
    have hm : us.length - 1 - i < us.length := by omega
    have hu : us[us.length - 1 - i]? = some us[us.length - 1 - i] := by simp [hm]
    have hn : n[us.length - 1 - i]? = some (n[us.length - 1 - i]'(by omega)) := List.getElem?_eq_getElem _
    obtain ⟨r, er, hr⟩ := ri.2 _ _ _ hu (prs_get hn)
    generalize n[us.length - 1 - i]'(by omega) = ab at hn hr
    obtain ⟨a, b⟩ := ab
    have mem := ld.mem _ (List.mem_of_getElem? hn)
    obtain ⟨ma, mb, nab⟩ := mem
    have hr3 := s3 _ _ hr
    have e1 : n.length - i = us.length - 1 - i + 1 := by omega
    have eg : app id (n.take (n.length - i)) = sw (app id (n.take (us.length - 1 - i))) a b := by rw [e1]; exact app_snoc hn
    have eg2 : sw (app id (n.take (n.length - i))) a b = app id (n.take (n.length - (i + 1))) := by
      rw [eg, sw_sw, show n.length - (i + 1) = us.length - 1 - i by omega]
    generalize app id (n.take (n.length - i)) = g at h3 eg eg2
    walk_at "s"
    refine q_asg ?_
    walk_at "s"
    simp only [asS_at (s3 _ _ ho)]
    walk_at "s"
    have ei : ((us.length : Nat) : Int) - 1 - (0 + (i : Nat)) = ((us.length - 1 - i : Nat) : Int) := by omega
    rw [ei]
    refine at_nat hu ?_
    rw [er]
    have hrT : asT (H3 r) = some [V.str a, V.str b] := by rw [hr3]; rfl
    rw [u_gtup, hrT]
    refine ⟨rfl, ?_⟩
    walk_at "s"
    refine q_asg ?_
    rw [u_dget]
    walk_at "s"
    refine ⟨.str (g a), .inl ⟨_, Sum.inr a, .inl h3, rfl, (val_pl ndk ma).symm⟩, ?_⟩
    walk_at "s"
    refine q_seq ?_
    rw [u_dput]
    walk_at "s"
    rw [u_dget]
    walk_at "s"
    refine ⟨.str (g b), .inl ⟨_, Sum.inr b, .inl h3, rfl, (val_pl ndk mb).symm⟩, ?_⟩
    walk_at "s"
    refine ⟨_, .inl ⟨_, Sum.inr a, h3, rfl, lk g, rfl⟩, ?_⟩
    rw [put_pl ndk ma, u_dput]
    walk_at "s"
    refine ⟨_, .inl ⟨_, Sum.inr b, upd_same, rfl, lk _, rfl⟩, ?_⟩
    rw [put_pl ndk mb, upd_upd, back_puts nab, eg2]
    exact ⟨sm_put s3 hD, by first | rfl | exact upd_same⟩
  · rintro σ H3 ⟨v, w, x, y, z0, rfl, s3, h3⟩
    have en : n.length - ((us.length : Nat) : Int).toNat = 0 := by omega
    rw [en, List.take_zero] at h3
    have h3 : H3 D = some (.dK (kvsOf (pl (firsts ps) id))) := h3
    dsimp only
    walk_at "s"
    have lpl : (pl (firsts ps) id).length = ps.length := by unfold pl; rw [List.length_map, lf]
    refine lock_filter (fun w => !decide (w = w)) rfl h3 (by omega) (fun _ => rfl) (fun _ => rfl) (fun w H' R hw k ⟨od, ho⟩ r => ?_) fun Dl H6 nDl s6 h6 => ?_
    · rw [firsts_pl] at hw
      walk_at "s"
      rw [u_dget]
      walk_at "s"
      refine ⟨.str (id w), .inl ⟨_, Sum.inr w, .inr ⟨od, ho⟩, rfl, (val_pl ndk hw).symm⟩, ?_⟩
      walk_at "s"
      have e : (!decide (id w = w)) = (!decide (w = w)) := rfl
      rw [e]
      exact r
    · have ee : (firsts (pl (firsts ps) id)).filter (fun w => !decide (w = w)) = [] := List.filter_eq_nil_iff.2 fun z _ => by simp
      rw [ee] at h6
      refine ⟨by decide, fun pe npe => al npe fun H7 t7 h7 => ?_⟩
      show rEqD K (.ref Dl) (.ref pe) H7 _
      refine ⟨.list [], .list [], .lst (asL_seq (asL_at (t7 _ _ h6))) .nil, .lst (asL_seq (asL_at h7)) .nil, by decide +kernel, by decide +kernel, ?_⟩
      have ev : PyData.eqv (.list []) (.list []) = true := by decide +kernel
      rw [ev]
      exact q H7 (sm_trans s3 (sm_trans s6 t7))
end XB

/-! What the law hears. -/
namespace XB
open PySem L2
local macro_rules | `(tactic| walk_at "s") => `(tactic| try simp only [u_var, u_c, u_op, u_un, u_nil, u_cons, u_cb, u_call, u_callS, u_tup, u_lst, u_test, u_B, u_and, u_or, u_not, u_andV, u_orV, u_notV, u_ifE, u_chain, u_sl, u_noPart, u_part, u_bm, u_bm0, u_rev, u_lc, u_try, u_sui, u_sui0, u_unb_rt, u_unb_nx, u_xf, u_WE, w_nil, w_cons, u_raise, u_rng1, u_rng2, u_next, u_ret, u_gname, u_gnil, u_gcons, u_gsub, u_gtup,
  f_add, f_addS, f_addR, f_sub, f_mul, f_mulR, f_mod, f_div, f_pow, f_neg, f_cmp, f_eq, f_eqB, f_eqS, f_ne, f_neB, f_neS, f_isN, f_notN, f_isB, f_ix, f_ixS, f_int, f_intB, f_len, f_lenS, f_max, f_min, f_abs, f_list, f_tuple, f_all, f_sum, f_isi, f_isiT, f_append, f_insert, f_pop, f_sl, f_set,
  kitS, tys, List.isEmpty_cons, Option.map_some, kt_NoneType_int, kt_NoneType_bool, kt_NoneType_str, kt_NoneType_list, kt_NoneType_tuple, kt_NoneType_dict, kt_int_int, kt_int_bool, kt_int_str, kt_int_list, kt_int_tuple, kt_int_dict, kt_bool_int, kt_bool_bool, kt_bool_str, kt_bool_list, kt_bool_tuple, kt_bool_dict, kt_str_int, kt_str_bool, kt_str_str, kt_str_list, kt_str_tuple, kt_str_dict, kt_list_int, kt_list_bool, kt_list_str, kt_list_list, kt_list_tuple, kt_list_dict, kt_tuple_int, kt_tuple_bool, kt_tuple_str, kt_tuple_list, kt_tuple_tuple, kt_tuple_dict, kt_dict_int, kt_dict_bool, kt_dict_str, kt_dict_list, kt_dict_tuple, kt_dict_dict, asL_lst, asL_frz, asL_tup, asT_tup, asS_lst, asS_frz, asS_tup, tyN_non, tyN_bl, tyN_int, tyN_str, atV_lit, ixN_lit, upd_same, upd_ne, upd_ne',
  List.getElem?_cons_zero, List.getElem?_cons_succ, List.set_cons_zero, List.set_cons_succ, List.append_nil, List.length_cons, List.length_nil, Option.some.injEq, exists_eq_left', exists_eq_left, exists_and_left, V.bl.injEq, V.int.injEq, V.str.injEq, V.ref.injEq, Bool.not_eq_true, Bool.not_true, Bool.not_false, decide_true, decide_false, decide_eq_true_eq, decide_eq_false_iff_not, Bool.false_eq_true, if_true, if_false, ite_true, ite_false, reduceCtorEq, true_and, and_true, Nat.reduceAdd, Nat.reduceLT, Nat.zero_add, ne_eq, not_false_eq_true, not_true_eq_false, List.cons.injEq, and_assoc])
local macro_rules | `(tactic| walk_at "S") => `(tactic| try simp only [u_var, u_c, u_op, u_un, u_nil, u_cons, u_cb, u_call, u_callS, u_tup, u_lst, u_test, u_B, u_and, u_or, u_not, u_andV, u_orV, u_notV, u_ifE, u_chain, u_sl, u_noPart, u_part, u_bm, u_bm0, u_rev, u_lc, u_try, u_sui, u_sui0, u_unb_rt, u_unb_nx, u_xf, u_WE, w_nil, w_cons, u_raise, u_rng1, u_rng2, u_next, u_ret, u_gname, u_gnil, u_gcons, u_gsub, u_gtup,
  f_add, f_addS, f_addR, f_sub, f_mul, f_mulR, f_mod, f_div, f_pow, f_neg, f_cmp, f_eq, f_eqB, f_eqS, f_ne, f_neB, f_neS, f_isN, f_notN, f_isB, f_ix, f_ixS, f_int, f_intB, f_len, f_lenS, f_max, f_min, f_abs, f_list, f_tuple, f_all, f_sum, f_isi, f_isiT, f_append, f_insert, f_pop, f_sl, f_set,
  kitS, tys, List.isEmpty_cons, Option.map_some, kt_NoneType_int, kt_NoneType_bool, kt_NoneType_str, kt_NoneType_list, kt_NoneType_tuple, kt_NoneType_dict, kt_int_int, kt_int_bool, kt_int_str, kt_int_list, kt_int_tuple, kt_int_dict, kt_bool_int, kt_bool_bool, kt_bool_str, kt_bool_list, kt_bool_tuple, kt_bool_dict, kt_str_int, kt_str_bool, kt_str_str, kt_str_list, kt_str_tuple, kt_str_dict, kt_list_int, kt_list_bool, kt_list_str, kt_list_list, kt_list_tuple, kt_list_dict, kt_tuple_int, kt_tuple_bool, kt_tuple_str, kt_tuple_list, kt_tuple_tuple, kt_tuple_dict, kt_dict_int, kt_dict_bool, kt_dict_str, kt_dict_list, kt_dict_tuple, kt_dict_dict, asL_lst, asL_frz, asL_tup, asT_tup, asS_lst, asS_frz, asS_tup, tyN_non, tyN_bl, tyN_int, tyN_str, atV_lit, ixN_lit, upd_same, upd_ne, upd_ne',
  List.getElem?_cons_zero, List.getElem?_cons_succ, List.set_cons_zero, List.set_cons_succ, List.append_nil, List.length_cons, List.length_nil, Option.some.injEq, exists_eq_left', exists_eq_left, exists_and_left, V.bl.injEq, V.int.injEq, V.str.injEq, V.ref.injEq, Bool.not_eq_true, Bool.not_true, Bool.not_false, decide_true, decide_false, decide_eq_true_eq, decide_eq_false_iff_not, Bool.false_eq_true, if_true, if_false, ite_true, ite_false, reduceCtorEq, true_and, and_true, Nat.reduceAdd, Nat.reduceLT, Nat.zero_add, ne_eq, not_false_eq_true, not_true_eq_false, List.cons.injEq, and_assoc, *])
/-- what the errors' classes are to each other -/
structure EF (K : PySem.W.Frag) (C : CA) : Prop where
  x_bb : PySem.W.exmOne K (.ref C.BadShape) (.ref C.BadShape) = some true
  k_bc : PySem.W.kitOne K (.ref C.BadShape) (.ref C.CrossError) = some true
  k_bv : PySem.W.kitOne K (.ref C.BadShape) (.type "ValueError") = some true
  a_b : PySem.W.kitAny K (.ref C.BadShape) [.ref C.NoRank, .ref C.Lacking] = some false
theorem lk1 {f : Str} {v : V} {r : List (Str × V)} : ((f, v) :: r).lookup f = some v := by simp [List.lookup]
def badL : List V := [.str ("BadShape" : Str), .str ("table" : Str)]
def sp_l_heard (K : PySem.W.Frag) (C : CA) : Sp := fun vs H Q _ => ∃ v, vs = [v] ∧ Tab H v ∧
  ((¬ ∃ ps, IsPairs H v ps ∧ TabP ps) → ∀ t H', Sm H H' → H t = none → H' t = some (.lst badL) → Q (.ref t) H') ∧
  ∀ ps, IsPairs H v ps → TabP ps → ∀ (t o : Addr) (us : List V) (n : List (Str × Str)) (H' : Hp), Sm H H' → H t = none → H o = none → t ≠ o → H' t = some (.lst [.str ("good" : Str), .ref o]) → H' o = some (.lst us) → RowsAt H H' us (prs n) → ExOf (look ps) (firsts ps) n → Q (.ref t) H'
def rd_l_heard (K : PySem.W.Frag) (C : CA) (E : XK) : TS :=
  (tTryX K (fun W => (tRet (tLst (tCons (tC (.str ("good" : Str))) (tCons (tCallS (sp_exchanges K C) (WE W) (tCons (tVar 0) tNil)) tNil))))) (fun _ _ _ _ => False) ((.ref C.BadShape, some 1, fun a cls d => (tSeq (tIfS (tOr (tNot (tB (tCB (fIsE K C.BadShape a cls d) (tCons (tVar 1) (tCons (tC (.ref C.CrossError)) tNil))))) (tOr (tNot (tB (tCB (fIsE K C.BadShape a cls d) (tCons (tVar 1) (tCons (tC (.ty "ValueError")) tNil))))) (tB (tCB (fIsET K C.BadShape a cls d) (tCons (tVar 1) (tCons (tTup (tCons (tC (.ref C.NoRank)) (tCons (tC (.ref C.Lacking)) tNil))) tNil)))))) (tRet (tLst (tCons (tC (.str ("beneath" : Str))) tNil))) tNext) (tRet (tLst (tCons (tC (.str ("BadShape" : Str))) (tCons (tXf a cls d C.BadShape ("parameter" : Str) (tVar 1)) tNil)))))) :: ((.ref C.CrossError, none, fun a cls d => (tRet (tLst (tCons (tC (.str ("another" : Str))) tNil)))) :: [])))
theorem pure_l_heard {K : PySem.W.Frag} {C : CA} (F : EF K C) (vs : List V) (H : Hp) (Q : VK) (E : XK) (h : sp_l_heard K C vs H Q E) : rd_l_heard K C E { nx := fun _ H' => Q .non H', rt := Q } (start [("table" : Str), ("e" : Str)] vs) H := by
  obtain ⟨v, rfl, tb, q1, q2⟩ := h
  show rd_l_heard K C E _ [some v, none] H
  unfold rd_l_heard
  walk_at "s"
  refine ⟨v, rfl, tb, fun no er H1 ea => ?_, fun ps hps tp o us n H1 s1 no h1 ra ci => ?_⟩
  · obtain ⟨s1, h1⟩ := ea
    walk_at "s"
    refine wX_yes F.x_bb fun a na => ?_
    refine q_if ?_
    walk_at "s"
    refine ⟨_, _, true, er, _, rfl, fun u h => h, rfl, rfl, h1, F.k_bc, ?_⟩
    walk_at "s"
    refine ⟨_, _, true, er, _, rfl, fun u h => h, rfl, rfl, h1, F.k_bv, ?_⟩
    walk_at "s"
    refine ⟨by decide, fun tp ht => al ht fun H2 s2 h2 => ?_⟩
    refine ⟨_, _, _, false, er, _, rfl, h2, .cons (.own _) (.cons (.own _) .nil), rfl, rfl, s2 _ _ h1, F.a_b, ?_⟩
    walk_at "s"
    refine ⟨_, s2 _ _ h1, _, lk1, by decide, fun t nt => al nt fun H3 s3 h3 => ?_⟩
    have s12 := sm_trans s1 s2
    exact q1 no t H3 (sm_trans s12 s3) (sm_none s12 nt) h3
  · walk_at "s"
    refine ⟨by decide, fun t nt => al nt fun H2 s2 h2 => ?_⟩
    exact q2 ps hps tp t o us n H2 (sm_trans s1 s2) (sm_none s1 nt) no (ne_of_none h1 nt).symm h2 (s2 _ _ h1) (ra.sm s2) ci
def sp_l_handed (K : PySem.W.Frag) (C : CA) : Sp := fun vs H Q _ => ∃ (st p : Addr) (xs : List V), vs = [.ref st, .ref p] ∧ StAt H st ∧ H p = some (.lst xs) ∧ p ≠ st ∧
  ∀ (h : Addr) (H' : Hp), H h = none → (H' h = some (.lst xs) ∨ H' h = some (.tup xs)) → Kp st H H' → StAt H' st → Q (.ref h) H'
def rd_l_handed (K : PySem.W.Frag) (C : CA) (E : XK) : TS :=
  (tSeq (tIfS (tTest (tOp (fEq K) (tCallS (sp_l_take K C) (fun _ => E0) (tCons (tVar 0) (tCons (tC (.int 2)) tNil))) (tC (.int 0)))) (tRet (tCB fList (tCons (tVar 1) tNil))) tNext) (tRet (tCB fTuple (tCons (tVar 1) tNil))))
theorem pure_l_handed {K : PySem.W.Frag} {C : CA} (vs : List V) (H : Hp) (Q : VK) (E : XK) (h : sp_l_handed K C vs H Q E) : rd_l_handed K C E { nx := fun _ H' => Q .non H', rt := Q } (start [("store" : Str), ("pairs" : Str)] vs) H := by
  obtain ⟨st, p, xs, rfl, hs, hp, np, q⟩ := h
  show rd_l_handed K C E _ [some (.ref st), some (.ref p)] H
  unfold rd_l_handed
  refine q_if ?_
  walk_at "s"
  refine take_ok hs (by decide) fun r H1 r0 r1 k1 s1 => ?_
  have h1 := k1.1 _ _ np hp
  walk_at "s"
  refine ite2 (fun c => ?_) fun c => ?_
  · simp only [asS_at h1]
    refine fun t nt => al nt fun H2 t2 h2 => ?_
    exact q t H2 (kp_none' hs k1 nt s1) (.inl h2) (k1.trans (kp_sm t2)) (s1.sm t2)
  · simp only [asL_at h1]
    refine fun t nt => al nt fun H2 t2 h2 => ?_
    exact q t H2 (kp_none' hs k1 nt s1) (.inr h2) (k1.trans (kp_sm t2)) (s1.sm t2)
theorem rp_flat {H : Hp} : ∀ {n : Nat} {v : V} {d : PyData}, Flat 1000 v d → Rp H n v d
  | 0, _, _, h => h
  | _ + 1, _, _, h => .inl h
theorem rp_str {H : Hp} {n : Nat} {z : Str} (h : z.length ≤ 1000) : Rp H n (.str z) (.str z) := rp_flat (.inr (.inr (.inr ⟨z, ⟨rfl, h⟩, rfl⟩)))
theorem rp_int {H : Hp} {n : Nat} {i : Int} : Rp H n (.int i) (.int i) := rp_flat (.inr (.inr (.inl ⟨i, rfl, rfl⟩)))
theorem rp_list {H : Hp} {n : Nat} {p : Addr} {xs : List V} {ds : List PyData} (h : asL (H p) = some xs) (l : xs.length ≤ 1000) (a : All2 (Rp H n) xs ds) : Rp H (n + 1) (.ref p) (.list ds) := .inr (.inl ⟨p, xs, ds, rfl, h, rfl, l, a⟩)
theorem rp_tup {H : Hp} {n : Nat} {p : Addr} {xs : List V} {ds : List PyData} (h : asT (H p) = some xs) (l : xs.length ≤ 1000) (a : All2 (Rp H n) xs ds) : Rp H (n + 1) (.ref p) (.tuple ds) := .inr (.inr (.inl ⟨p, xs, ds, rfl, h, rfl, l, a⟩))
theorem all2_two {R : V → PyData → Prop} {x y : V} {a b : PyData} (h : R x a) (k : R y b) : All2 R [x, y] [a, b] := ⟨rfl, fun i u d h1 h2 => by
  match i with
  | 0 => cases h1; cases h2; exact h
  | 1 => cases h1; cases h2; exact k
  | i + 2 => cases h1⟩
theorem all2_strs {H : Hp} {n : Nat} {zs : List Str} (h : ∀ z ∈ zs, z.length ≤ 1000) : All2 (Rp H n) (zs.map V.str) (zs.map PyData.str) := ⟨by rw [List.length_map, List.length_map], fun i u d h1 h2 => by
  rw [List.getElem?_map] at h1 h2
  cases e : zs[i]? with
  | none => rw [e] at h1; cases h1
  | some z =>
    rw [e] at h1 h2
    cases h1
    cases h2
    exact rp_str (h z (List.mem_of_getElem? e))⟩
/-- a circuit's data -/
def rowD (r : List Str) : PyData := .tuple (r.map PyData.str)
def pairD (p : Str × Str) : PyData := .tuple [.str p.1, .str p.2]
def Small (rows : List (List Str)) : Prop := rows.length ≤ 1000 ∧ ∀ r ∈ rows, r.length ≤ 1000 ∧ ∀ z ∈ r, z.length ≤ 1000
theorem ExOf.small {ps : List (Str × Str)} {n : List (Str × Str)} (tp : TabP ps) (c : ExOf (look ps) (firsts ps) n) : Small (prs n) := by
  obtain ⟨srt, so, pm, rn⟩ := c.run
  have l1 := rn.len_le
  have l2 := pm.length_eq
  have lf : (firsts ps).length = ps.length := by unfold firsts; rw [List.length_map]
  have l12 := tp.le
  have ld := c.leads tp.tbl so pm
  have nm : ∀ z ∈ firsts ps, z.length ≤ 1000 := fun z hz => by
    obtain ⟨pr, hm, rfl⟩ := List.mem_map.1 hz
    exact Nat.le_trans (name_len (tp.nm pr hm).1) (by decide)
  refine ⟨by rw [prs_len]; omega, fun r hr => ?_⟩
  obtain ⟨q, hq, rfl⟩ := List.mem_map.1 hr
  have m := ld.mem q hq
  refine ⟨by show 2 ≤ 1000; decide, fun z hz => ?_⟩
  rcases List.mem_cons.1 hz with rfl | hz
  · exact nm _ m.1
  · rw [List.mem_singleton] at hz
    rw [hz]
    exact nm _ m.2.1
theorem RowsIn.rp {H : Hp} {n : Nat} {us : List V} {rows : List (List Str)} (h : RowsIn H us rows) (s : Small rows) : All2 (Rp H (n + 1)) us (rows.map rowD) := ⟨by rw [List.length_map]; exact h.1, fun i u d h1 h2 => by
  rw [List.getElem?_map] at h2
  cases e : rows[i]? with
  | none => rw [e] at h2; cases h2
  | some r =>
    rw [e] at h2
    cases h2
    obtain ⟨q, rfl, hq⟩ := h.2 i u r h1 e
    have m := s.2 r (List.mem_of_getElem? e)
    exact rp_tup (show asT (H q) = some (r.map V.str) by rw [hq]; rfl) (by rw [List.length_map]; exact m.1) (all2_strs m.2)⟩
theorem PairsSt.rp {st : Addr} {H : Hp} {n : Nat} {xs : List V} {ps : List (Str × Str)} (h : PairsSt st H xs ps) (tp : TabP ps) : All2 (Rp H (n + 1)) xs (ps.map pairD) := ⟨by rw [List.length_map]; exact h.1, fun i u d h1 h2 => by
  rw [List.getElem?_map] at h2
  cases e : ps[i]? with
  | none => rw [e] at h2; cases h2
  | some r =>
    rw [e] at h2
    cases h2
    obtain ⟨q, rfl, _, hq⟩ := h.2 i u r h1 e
    have nm := tp.nm _ (List.mem_of_getElem? e)
    exact rp_tup (show asT (H q) = some _ by rw [hq]; rfl) (by show 2 ≤ 1000; decide) (all2_two (rp_str (Nat.le_trans (name_len nm.1) (by decide))) (rp_str (Nat.le_trans (name_len nm.2) (by decide))))⟩
theorem PairsSt.sm {st : Addr} {H H' : Hp} {xs : List V} {ps : List (Str × Str)} (h : PairsSt st H xs ps) (k : Sm H H') : PairsSt st H' xs ps := h.kp (kp_sm k)
theorem PairsSt.tf {st : Addr} {H : Hp} {xs : List V} {ps : List (Str × Str)} (h : PairsSt st H xs ps) : ∀ x ∈ xs, TF H x := fun x hm => by
  obtain ⟨i, hi, rfl⟩ := List.mem_iff_getElem.1 hm
  have hpi : ps[i]? = some (ps[i]'(by have := h.1; omega)) := List.getElem?_eq_getElem _
  obtain ⟨q, e, _, hq⟩ := h.2 i _ _ (show xs[i]? = some xs[i] by simp [hi]) hpi
  exact .inr ⟨q, _, e, by rw [hq]; rfl, rfl, by show 2 ≤ 1000; decide⟩
theorem RowsIn.tf {H : Hp} {us : List V} {rows : List (List Str)} (h : RowsIn H us rows) (s : Small rows) : ∀ x ∈ us, TF H x := fun x hm => by
  obtain ⟨i, hi, rfl⟩ := List.mem_iff_getElem.1 hm
  have hpi : rows[i]? = some (rows[i]'(by have := h.1; omega)) := List.getElem?_eq_getElem _
  obtain ⟨q, e, hq⟩ := h.2 i _ _ (show us[i]? = some us[i] by simp [hi]) hpi
  have m := s.2 _ (List.mem_of_getElem? hpi)
  exact .inr ⟨q, _, e, by rw [hq]; rfl, flat_texts, by rw [List.length_map]; exact m.1⟩
/-- rows stand where the heap changed at a list only -/
theorem RowsIn.but {H H' : Hp} {o : Addr} {xs us : List V} {rows : List (List Str)} (h : RowsIn H us rows) (ho : H o = some (.lst xs)) (k : ∀ b u, b ≠ o → H b = some u → H' b = some u) : RowsIn H' us rows := ⟨h.1, fun i u r h1 h2 => by
  obtain ⟨q, e, hq⟩ := h.2 i u r h1 h2
  refine ⟨q, e, k q _ (fun z => ?_) hq⟩
  rw [z, ho] at hq
  cases hq⟩
theorem good_rp {H : Hp} {t o : Addr} {us : List V} {rows : List (List Str)} (ht : H t = some (.lst [.str ("good" : Str), .ref o])) (ho : H o = some (.lst us)) (r : RowsIn H us rows) (s : Small rows) : Rp H 6 (.ref t) (.list [.str ("good" : Str), .list (rows.map rowD)]) :=
  rp_list (asL_at ht) (by show 2 ≤ 1000; decide) (all2_two (rp_str (by decide +kernel)) (rp_list (asL_at ho) (by rw [r.1]; exact s.1) (r.rp s)))
end XB

/-! What holds of each table. -/
namespace XB
open PySem L2
local macro_rules | `(tactic| walk_at "s") => `(tactic| try simp only [u_var, u_c, u_op, u_un, u_nil, u_cons, u_cb, u_call, u_callS, u_tup, u_lst, u_test, u_B, u_and, u_or, u_not, u_andV, u_orV, u_notV, u_ifE, u_chain, u_sl, u_noPart, u_part, u_bm, u_bm0, u_rev, u_lc, u_try, u_sui, u_sui0, u_unb_rt, u_unb_nx, u_xf, u_WE, w_nil, w_cons, u_raise, u_rng1, u_rng2, u_next, u_ret, u_gname, u_gnil, u_gcons, u_gsub, u_gtup,
  f_add, f_addS, f_addR, f_sub, f_mul, f_mulR, f_mod, f_div, f_pow, f_neg, f_cmp, f_eq, f_eqB, f_eqS, f_ne, f_neB, f_neS, f_isN, f_notN, f_isB, f_ix, f_ixS, f_int, f_intB, f_len, f_lenS, f_max, f_min, f_abs, f_list, f_tuple, f_all, f_sum, f_isi, f_isiT, f_append, f_insert, f_pop, f_sl, f_set,
  kitS, tys, List.isEmpty_cons, Option.map_some, kt_NoneType_int, kt_NoneType_bool, kt_NoneType_str, kt_NoneType_list, kt_NoneType_tuple, kt_NoneType_dict, kt_int_int, kt_int_bool, kt_int_str, kt_int_list, kt_int_tuple, kt_int_dict, kt_bool_int, kt_bool_bool, kt_bool_str, kt_bool_list, kt_bool_tuple, kt_bool_dict, kt_str_int, kt_str_bool, kt_str_str, kt_str_list, kt_str_tuple, kt_str_dict, kt_list_int, kt_list_bool, kt_list_str, kt_list_list, kt_list_tuple, kt_list_dict, kt_tuple_int, kt_tuple_bool, kt_tuple_str, kt_tuple_list, kt_tuple_tuple, kt_tuple_dict, kt_dict_int, kt_dict_bool, kt_dict_str, kt_dict_list, kt_dict_tuple, kt_dict_dict, asL_lst, asL_frz, asL_tup, asT_tup, asS_lst, asS_frz, asS_tup, tyN_non, tyN_bl, tyN_int, tyN_str, atV_lit, ixN_lit, upd_same, upd_ne, upd_ne',
  List.getElem?_cons_zero, List.getElem?_cons_succ, List.set_cons_zero, List.set_cons_succ, List.append_nil, List.length_cons, List.length_nil, Option.some.injEq, exists_eq_left', exists_eq_left, exists_and_left, V.bl.injEq, V.int.injEq, V.str.injEq, V.ref.injEq, Bool.not_eq_true, Bool.not_true, Bool.not_false, decide_true, decide_false, decide_eq_true_eq, decide_eq_false_iff_not, Bool.false_eq_true, if_true, if_false, ite_true, ite_false, reduceCtorEq, true_and, and_true, Nat.reduceAdd, Nat.reduceLT, Nat.zero_add, ne_eq, not_false_eq_true, not_true_eq_false, List.cons.injEq, and_assoc])
local macro_rules | `(tactic| walk_at "S") => `(tactic| try simp only [u_var, u_c, u_op, u_un, u_nil, u_cons, u_cb, u_call, u_callS, u_tup, u_lst, u_test, u_B, u_and, u_or, u_not, u_andV, u_orV, u_notV, u_ifE, u_chain, u_sl, u_noPart, u_part, u_bm, u_bm0, u_rev, u_lc, u_try, u_sui, u_sui0, u_unb_rt, u_unb_nx, u_xf, u_WE, w_nil, w_cons, u_raise, u_rng1, u_rng2, u_next, u_ret, u_gname, u_gnil, u_gcons, u_gsub, u_gtup,
  f_add, f_addS, f_addR, f_sub, f_mul, f_mulR, f_mod, f_div, f_pow, f_neg, f_cmp, f_eq, f_eqB, f_eqS, f_ne, f_neB, f_neS, f_isN, f_notN, f_isB, f_ix, f_ixS, f_int, f_intB, f_len, f_lenS, f_max, f_min, f_abs, f_list, f_tuple, f_all, f_sum, f_isi, f_isiT, f_append, f_insert, f_pop, f_sl, f_set,
  kitS, tys, List.isEmpty_cons, Option.map_some, kt_NoneType_int, kt_NoneType_bool, kt_NoneType_str, kt_NoneType_list, kt_NoneType_tuple, kt_NoneType_dict, kt_int_int, kt_int_bool, kt_int_str, kt_int_list, kt_int_tuple, kt_int_dict, kt_bool_int, kt_bool_bool, kt_bool_str, kt_bool_list, kt_bool_tuple, kt_bool_dict, kt_str_int, kt_str_bool, kt_str_str, kt_str_list, kt_str_tuple, kt_str_dict, kt_list_int, kt_list_bool, kt_list_str, kt_list_list, kt_list_tuple, kt_list_dict, kt_tuple_int, kt_tuple_bool, kt_tuple_str, kt_tuple_list, kt_tuple_tuple, kt_tuple_dict, kt_dict_int, kt_dict_bool, kt_dict_str, kt_dict_list, kt_dict_tuple, kt_dict_dict, asL_lst, asL_frz, asL_tup, asT_tup, asS_lst, asS_frz, asS_tup, tyN_non, tyN_bl, tyN_int, tyN_str, atV_lit, ixN_lit, upd_same, upd_ne, upd_ne',
  List.getElem?_cons_zero, List.getElem?_cons_succ, List.set_cons_zero, List.set_cons_succ, List.append_nil, List.length_cons, List.length_nil, Option.some.injEq, exists_eq_left', exists_eq_left, exists_and_left, V.bl.injEq, V.int.injEq, V.str.injEq, V.ref.injEq, Bool.not_eq_true, Bool.not_true, Bool.not_false, decide_true, decide_false, decide_eq_true_eq, decide_eq_false_iff_not, Bool.false_eq_true, if_true, if_false, ite_true, ite_false, reduceCtorEq, true_and, and_true, Nat.reduceAdd, Nat.reduceLT, Nat.zero_add, ne_eq, not_false_eq_true, not_true_eq_false, List.cons.injEq, and_assoc, *])
def sp_l_holds (K : PySem.W.Frag) (C : CA) : Sp := fun vs H Q _ => ∃ (h p : Addr) (xs : List V) (ps : List (Str × Str)), vs = [.ref h, .ref p] ∧ (H h = some (.lst xs) ∨ H h = some (.tup xs)) ∧ H p = some (.lst xs) ∧ h ≠ p ∧ PairsSt h H xs ps ∧ TabP ps ∧
  ∀ H', (∀ b o, b ≠ h → H b = some o → H' b = some o) → Q (.bl true) H'
def rd_l_holds (K : PySem.W.Frag) (C : CA) (E : XK) : TS :=
  (tSeq (tAsg (tCallS (sp_l_heard K C) (fun _ => E0) (tCons (tVar 0) tNil)) (gName 2)) (tSeq (tIfS (tOr (tTest (tOp (fNe K) (tOp fIx (tVar 2) (tC (.int 0))) (tC (.str ("good" : Str))))) (tOr (tNot (tB (tCallS (sp_l_leads_there K C) (fun _ => E0) (tCons (tOp fIx (tVar 2) (tC (.int 1))) (tCons (tVar 1) tNil))))) (tNot (tB (tCallS (sp_l_leads_back K C) (fun _ => E0) (tCons (tOp fIx (tVar 2) (tC (.int 1))) (tCons (tVar 1) tNil))))))) (tRet (tC (.bl false))) tNext) (tSeq (tAsg (tCB fList (tCons (tOp fIx (tVar 2) (tC (.int 1))) tNil)) (gName 3)) (tSeq (tIfS (tOr (tNot (tB (tCallS (sp_l_same K C) (fun _ => E0) (tCons (tCallS (sp_cost K C) (fun _ => E0) (tCons (tVar 0) tNil)) (tCons (tCB fLen (tCons (tVar 3) tNil)) tNil))))) (tNot (tB (tCallS (sp_l_same K C) (fun _ => E0) (tCons (tCB fList (tCons (tVar 0) tNil)) (tCons (tVar 1) tNil)))))) (tRet (tC (.bl false))) tNext) (tSeq (tDrop (tCallS (sp_l_spoil K C) (fun _ => E0) (tCons (tOp fIx (tVar 2) (tC (.int 1))) tNil))) (tSeq (tIfS (tNot (tB (tCallS (sp_l_same K C) (fun _ => E0) (tCons (tCallS (sp_l_heard K C) (fun _ => E0) (tCons (tVar 0) tNil)) (tCons (tLst (tCons (tC (.str ("good" : Str))) (tCons (tVar 3) tNil))) tNil))))) (tRet (tC (.bl false))) tNext) (tSeq (tDrop (tCallS (sp_l_spoil K C) (fun _ => E0) (tCons (tVar 0) tNil))) (tRet (tCallS (sp_l_same K C) (fun _ => E0) (tCons (tCallS (sp_l_heard K C) (fun _ => E0) (tCons (tCB fList (tCons (tVar 1) tNil)) tNil)) (tCons (tLst (tCons (tC (.str ("good" : Str))) (tCons (tVar 3) tNil))) tNil)))))))))))
theorem pure_l_holds {K : PySem.W.Frag} {C : CA} (vs : List V) (H : Hp) (Q : VK) (E : XK) (h : sp_l_holds K C vs H Q E) : rd_l_holds K C E { nx := fun _ H' => Q .non H', rt := Q } (start [("handed" : Str), ("pairs" : Str), ("told" : Str), ("kept" : Str)] vs) H := by
  obtain ⟨h, p, xs, ps, rfl, hh, hp, hne, pa, tp, q⟩ := h
  show rd_l_holds K C E _ [some (.ref h), some (.ref p), none, none] H
  unfold rd_l_holds
  have l12 := tp.le
  have lx := pa.1
  have hhS : asS (H h) = some xs := by rcases hh with e | e <;> rw [e] <;> rfl
  refine q_asg ?_
  walk_at "s"
  refine ⟨.ref h, rfl, pa.tab hh tp, fun no => absurd ⟨ps, pa.is hhS, tp⟩ no, fun ps' i1 tp' t o us n H1 s1 nt no t_o h1 g1 ra ci => ?_⟩
  rw [i1.unique (pa.is hhS)] at ci
  clear i1 tp' ps'
  have sml := ci.small tp
  have hp1 := s1 _ _ hp
  have t_p : t ≠ p := (ne_of_none hp nt).symm
  have T := tp.tbl
  walk_at "s"
  refine q_if ?_
  walk_at "s"
  simp only [asS_at h1]
  walk_at "s"
  try simp only [asS_at h1]
  walk_at "s"
  refine ⟨o, p, us, xs, n, ps, rfl, g1, ra.in_, hp1, (pa.sm s1).is (asS_at hp1), tp, ci, fun H2 s2 => ?_⟩
  have h2 := s2 _ _ h1
  have g2 := s2 _ _ g1
  have hp2 := s2 _ _ hp1
  have s02 := sm_trans s1 s2
  walk_at "s"
  simp only [asS_at h2]
  walk_at "s"
  refine ⟨o, p, us, xs, n, ps, rfl, g2, ra.in_.sm s2, hp2, (pa.sm s02).is (asS_at hp2), tp, ci, fun H2' s2' => ?_⟩
  walk_at "s"
  refine q_asg ?_
  walk_at "s"
  have s12 := sm_trans s2 s2'
  have s02 := sm_trans s1 s12
  simp only [asS_at (s12 _ _ h1)]
  walk_at "s"
  simp only [asS_at (s12 _ _ g1)]
  refine fun k nk => al nk fun H3 s3 h3 => ?_
  walk_at "s"
  have s03 := sm_trans s02 s3
  have s13 := sm_trans s12 s3
  have o_k : o ≠ k := ne_of_none (s12 _ _ g1) nk
  have hh3 : H3 h = some (.lst xs) ∨ H3 h = some (.tup xs) := by rcases hh with e | e
                                                                 · exact .inl (s03 _ _ e)
                                                                 · exact .inr (s03 _ _ e)
  have hhS3 := sm_S s03 hhS
  refine q_if ?_
  walk_at "s"
  refine ⟨.ref h, rfl, (pa.sm s03).tab hh3 tp, fun no => absurd ⟨ps, (pa.sm s03).is hhS3, tp⟩ no, fun ps' i1 tp' rows2 H4 s4 ci2 => ?_⟩
  rw [i1.unique ((pa.sm s03).is hhS3)] at ci2 ⊢
  clear i1 tp' ps'
  have cnt := ci.count T ci2
  have lf : (firsts ps).length = ps.length := by unfold firsts; rw [List.length_map]
  have s04 := sm_trans s03 s4
  have lu := ra.1
  rw [prs_len] at lu
  walk_at "s"
  simp only [asS_at (s4 _ _ h3)]
  walk_at "s"
  have ei : ((ps.length : Nat) : Int) - (rows2.length : Nat) = (us.length : Nat) := by omega
  rw [ei]
  refine ⟨_, _, .int (us.length : Nat), rfl, rp_int, rp_int, fun H6 s6 => ?_⟩
  walk_at "s"
  have s36 := sm_trans s4 s6
  have s06 := sm_trans s03 s36
  simp only [sm_S s06 hhS]
  refine fun l1 nl1 => al nl1 fun H7 s7 h7 => ?_
  have s07 := sm_trans s06 s7
  have pa7 := pa.sm s07
  refine ⟨_, _, .list (ps.map pairD), rfl, rp_list (asL_at h7) (by omega) (pa7.rp tp), rp_list (asL_at (s07 _ _ hp)) (by omega) (pa7.rp tp), fun H8 s8 => ?_⟩
  walk_at "s"
  have s38 := sm_trans s36 (sm_trans s7 s8)
  have s08 := sm_trans s03 s38
  have s18 := sm_trans s13 s38
  have h8 := s18 _ _ h1
  have o8 := s18 _ _ g1
  have k8 := s38 _ _ h3
  have ri8 := ra.in_.sm s18
  refine q_drop ?_
  walk_at "s"
  simp only [asS_at h8]
  walk_at "s"
  refine .inl ⟨o, us, rfl, o8, by have := sml.1; omega, ri8.tf sml, fun H9 k9 => ?_⟩
  -- but for o nothing changed
  have ri9 := ri8.but o8 k9
  have s09 : Sm H H9 := fun b u hb => k9 b u (fun z => by rw [z, no] at hb; cases hb) (s08 _ _ hb)
  have hk9 := k9 k _ o_k.symm k8
  have pa9 := pa.sm s09
  have hh9 : H9 h = some (.lst xs) ∨ H9 h = some (.tup xs) := by rcases hh with e | e
                                                                 · exact .inl (s09 _ _ e)
                                                                 · exact .inr (s09 _ _ e)
  have hhS9 := sm_S s09 hhS
  walk_at "s"
  refine q_if ?_
  walk_at "s"
  refine ⟨.ref h, rfl, pa9.tab hh9 tp, fun no => absurd ⟨ps, pa9.is hhS9, tp⟩ no, fun ps' i1 tp' t4 o4 us4 n4 H10 s10 nt4 no4 t_o4 h10 g10 ra4 ci4 => ?_⟩
  rw [i1.unique (pa9.is hhS9)] at ci4
  clear i1 tp' ps'
  have er := ci4.unique T ci
  subst er
  walk_at "s"
  refine ⟨by decide, fun t5 nt5 => al nt5 fun H11 s11 h11 => ⟨_, _, .list [.str ("good" : Str), .list ((prs n4).map rowD)], rfl, ?_, ?_, fun H12 s12 => ?_⟩⟩
  · exact good_rp (s11 _ _ h10) (s11 _ _ g10) (ra4.in_.sm s11) sml
  · exact good_rp h11 (s11 _ _ (s10 _ _ hk9)) (ri9.sm (sm_trans s10 s11)) sml
  walk_at "s"
  have s912 := sm_trans s10 (sm_trans s11 s12)
  have s012 := sm_trans s09 s912
  have pa12 := pa.sm s012
  have hk12 := s912 _ _ hk9
  have k_h : k ≠ h := fun z => by rw [z] at nk; rcases hh with e | e <;> (rw [s02 _ _ e] at nk; cases nk)
  refine q_drop ?_
  walk_at "s"
  have after : ∀ H13, (∀ b o, b ≠ h → H12 b = some o → H13 b = some o) → (match asS (H13 p) with
      | some ys => ∀ (l : Addr), H13 l = none → sp_l_heard K C [V.ref l] (upd H13 l (HO.lst ys)) (fun x H1 => 2 ≤ sizeLine ∧ ∀ (p : Addr), H1 p = none → sp_l_same K C [x, V.ref p] (upd H1 p (HO.lst [V.str ("good" : Str), V.ref k])) Q E0) E0
      | none => False) := by
    intro H13 k13
    have pa13 : PairsSt h H13 xs ps := ⟨pa12.1, fun i x pr h1 h2 => by
      obtain ⟨q, e, n, hq⟩ := pa12.2 i x pr h1 h2
      exact ⟨q, e, n, k13 _ _ n hq⟩⟩
    have hp13 := k13 _ _ hne.symm (s012 _ _ hp)
    have hk13 := k13 _ _ k_h hk12
    have ri13 : RowsIn H13 us (prs n4) := ⟨ri9.1, fun i u r h1 h2 => by
      obtain ⟨q, e, hq⟩ := ri9.2 i u r h1 h2
      obtain ⟨q2, e2, n2, _⟩ := ra.2 i u r h1 h2
      rw [e] at e2
      cases e2
      refine ⟨q, e, k13 q _ (fun z => ?_) (s912 _ _ hq)⟩
      rw [z] at n2
      rcases hh with e | e <;> (rw [n2] at e; cases e)⟩
    simp only [asS_at hp13]
    refine fun l2 nl2 => al nl2 fun H14 s14 h14 => ?_
    have pa14 := pa13.sm s14
    refine ⟨.ref l2, rfl, pa14.tab (.inl h14) tp, fun no => absurd ⟨ps, pa14.is (asS_at h14), tp⟩ no, fun ps' i1 tp' t6 o6 us6 n6 H15 s15 nt6 no6 t_o6 h15 g15 ra6 ci6 => ?_⟩
    rw [i1.unique (pa14.is (asS_at h14))] at ci6
    clear i1 tp' ps'
    have er := ci6.unique T ci
    subst er
    have s1315 := sm_trans s14 s15
    refine ⟨by decide, fun t7 nt7 => al nt7 fun H16 s16 h16 => ⟨_, _, .list [.str ("good" : Str), .list ((prs n6).map rowD)], rfl, ?_, ?_, fun H17 s17 => ?_⟩⟩
    · exact good_rp (s16 _ _ h15) (s16 _ _ g15) (ra6.in_.sm s16) sml
    · exact good_rp h16 (s16 _ _ (s1315 _ _ hk13)) (ri13.sm (sm_trans s1315 s16)) sml
    exact q H17 fun b u nb hb => sm_trans s1315 (sm_trans s16 s17) _ _ (k13 _ _ nb (s012 _ _ hb))
  rcases hh with e | e
  · refine .inl ⟨h, xs, rfl, s012 _ _ e, by omega, pa12.tf, fun H13 k13 => ?_⟩
    exact after H13 k13
  · refine .inr ⟨h, xs, rfl, s012 _ _ e, by omega, pa12.tf, fun H13 s13 => ?_⟩
    exact after H13 fun b u _ hb => s13 _ _ hb
end XB

/-! The law. -/
namespace XB
open PySem L2
local macro_rules | `(tactic| walk_at "s") => `(tactic| try simp only [u_var, u_c, u_op, u_un, u_nil, u_cons, u_cb, u_call, u_callS, u_tup, u_lst, u_test, u_B, u_and, u_or, u_not, u_andV, u_orV, u_notV, u_ifE, u_chain, u_sl, u_noPart, u_part, u_bm, u_bm0, u_rev, u_lc, u_try, u_sui, u_sui0, u_unb_rt, u_unb_nx, u_xf, u_WE, w_nil, w_cons, u_raise, u_rng1, u_rng2, u_next, u_ret, u_gname, u_gnil, u_gcons, u_gsub, u_gtup,
  f_add, f_addS, f_addR, f_sub, f_mul, f_mulR, f_mod, f_div, f_pow, f_neg, f_cmp, f_eq, f_eqB, f_eqS, f_ne, f_neB, f_neS, f_isN, f_notN, f_isB, f_ix, f_ixS, f_int, f_intB, f_len, f_lenS, f_max, f_min, f_abs, f_list, f_tuple, f_all, f_sum, f_isi, f_isiT, f_append, f_insert, f_pop, f_sl, f_set,
  kitS, tys, List.isEmpty_cons, Option.map_some, kt_NoneType_int, kt_NoneType_bool, kt_NoneType_str, kt_NoneType_list, kt_NoneType_tuple, kt_NoneType_dict, kt_int_int, kt_int_bool, kt_int_str, kt_int_list, kt_int_tuple, kt_int_dict, kt_bool_int, kt_bool_bool, kt_bool_str, kt_bool_list, kt_bool_tuple, kt_bool_dict, kt_str_int, kt_str_bool, kt_str_str, kt_str_list, kt_str_tuple, kt_str_dict, kt_list_int, kt_list_bool, kt_list_str, kt_list_list, kt_list_tuple, kt_list_dict, kt_tuple_int, kt_tuple_bool, kt_tuple_str, kt_tuple_list, kt_tuple_tuple, kt_tuple_dict, kt_dict_int, kt_dict_bool, kt_dict_str, kt_dict_list, kt_dict_tuple, kt_dict_dict, asL_lst, asL_frz, asL_tup, asT_tup, asS_lst, asS_frz, asS_tup, tyN_non, tyN_bl, tyN_int, tyN_str, atV_lit, ixN_lit, upd_same, upd_ne, upd_ne',
  List.getElem?_cons_zero, List.getElem?_cons_succ, List.set_cons_zero, List.set_cons_succ, List.append_nil, List.length_cons, List.length_nil, Option.some.injEq, exists_eq_left', exists_eq_left, exists_and_left, V.bl.injEq, V.int.injEq, V.str.injEq, V.ref.injEq, Bool.not_eq_true, Bool.not_true, Bool.not_false, decide_true, decide_false, decide_eq_true_eq, decide_eq_false_iff_not, Bool.false_eq_true, if_true, if_false, ite_true, ite_false, reduceCtorEq, true_and, and_true, Nat.reduceAdd, Nat.reduceLT, Nat.zero_add, ne_eq, not_false_eq_true, not_true_eq_false, List.cons.injEq, and_assoc])
local macro_rules | `(tactic| walk_at "S") => `(tactic| try simp only [u_var, u_c, u_op, u_un, u_nil, u_cons, u_cb, u_call, u_callS, u_tup, u_lst, u_test, u_B, u_and, u_or, u_not, u_andV, u_orV, u_notV, u_ifE, u_chain, u_sl, u_noPart, u_part, u_bm, u_bm0, u_rev, u_lc, u_try, u_sui, u_sui0, u_unb_rt, u_unb_nx, u_xf, u_WE, w_nil, w_cons, u_raise, u_rng1, u_rng2, u_next, u_ret, u_gname, u_gnil, u_gcons, u_gsub, u_gtup,
  f_add, f_addS, f_addR, f_sub, f_mul, f_mulR, f_mod, f_div, f_pow, f_neg, f_cmp, f_eq, f_eqB, f_eqS, f_ne, f_neB, f_neS, f_isN, f_notN, f_isB, f_ix, f_ixS, f_int, f_intB, f_len, f_lenS, f_max, f_min, f_abs, f_list, f_tuple, f_all, f_sum, f_isi, f_isiT, f_append, f_insert, f_pop, f_sl, f_set,
  kitS, tys, List.isEmpty_cons, Option.map_some, kt_NoneType_int, kt_NoneType_bool, kt_NoneType_str, kt_NoneType_list, kt_NoneType_tuple, kt_NoneType_dict, kt_int_int, kt_int_bool, kt_int_str, kt_int_list, kt_int_tuple, kt_int_dict, kt_bool_int, kt_bool_bool, kt_bool_str, kt_bool_list, kt_bool_tuple, kt_bool_dict, kt_str_int, kt_str_bool, kt_str_str, kt_str_list, kt_str_tuple, kt_str_dict, kt_list_int, kt_list_bool, kt_list_str, kt_list_list, kt_list_tuple, kt_list_dict, kt_tuple_int, kt_tuple_bool, kt_tuple_str, kt_tuple_list, kt_tuple_tuple, kt_tuple_dict, kt_dict_int, kt_dict_bool, kt_dict_str, kt_dict_list, kt_dict_tuple, kt_dict_dict, asL_lst, asL_frz, asL_tup, asT_tup, asS_lst, asS_frz, asS_tup, tyN_non, tyN_bl, tyN_int, tyN_str, atV_lit, ixN_lit, upd_same, upd_ne, upd_ne',
  List.getElem?_cons_zero, List.getElem?_cons_succ, List.set_cons_zero, List.set_cons_succ, List.append_nil, List.length_cons, List.length_nil, Option.some.injEq, exists_eq_left', exists_eq_left, exists_and_left, V.bl.injEq, V.int.injEq, V.str.injEq, V.ref.injEq, Bool.not_eq_true, Bool.not_true, Bool.not_false, decide_true, decide_false, decide_eq_true_eq, decide_eq_false_iff_not, Bool.false_eq_true, if_true, if_false, ite_true, ite_false, reduceCtorEq, true_and, and_true, Nat.reduceAdd, Nat.reduceLT, Nat.zero_add, ne_eq, not_false_eq_true, not_true_eq_false, List.cons.injEq, and_assoc, *])
theorem StAt.but {H H1 H2 : Hp} {st p : Addr} (s : StAt H st) (h : H p = none) (k : Kp st H H1) (s1 : StAt H1 st) (b : ∀ x u, x ≠ p → H1 x = some u → H2 x = some u) : StAt H2 st := by
  have n := s.ne h
  obtain ⟨c, ns, a, b', d, e, h1, h2, _⟩ := s
  obtain ⟨c', ns', a', b'', d', e', g1, g2, g3, g4, g5⟩ := s1
  obtain ⟨r1, e1⟩ := k.2 _ _ h1
  rw [g1] at e1
  cases e1
  exact ⟨c, ns', a', b'', d', e', b _ _ n.symm g1, b _ _ (ne_of_none h2 h) g2, g3, g4, g5⟩
theorem Kp.but {H H1 H2 : Hp} {st p : Addr} (k : Kp st H H1) (h : H p = none) (n : p ≠ st) (b : ∀ x u, x ≠ p → H1 x = some u → H2 x = some u) : Kp st H H2 := ⟨fun x u m e => b _ _ (ne_of_none e h) (k.1 x u m e), fun c r e => by
  obtain ⟨r1, h1⟩ := k.2 c r e
  exact ⟨r1, b _ _ n.symm h1⟩⟩
/-- a table's list -/
def TabAt (st : Addr) (H : Hp) (x : V) : Prop := ∃ (p : Addr) (xs : List V) (ps : List (Str × Str)), x = .ref p ∧ p ≠ st ∧ H p = some (.lst xs) ∧ PairsSt st H xs ps ∧ TabP ps
theorem TabAt.kp {st : Addr} {H H' : Hp} {x : V} (h : TabAt st H x) (k : Kp st H H') : TabAt st H' x := by
  obtain ⟨p, xs, ps, e, n, hp, pa, tp⟩ := h
  exact ⟨p, xs, ps, e, n, k.1 _ _ n hp, pa.kp k, tp⟩
/-- whatever is handed on holds -/
theorem held {K : PySem.W.Frag} {C : CA} {st : Addr} {H : Hp} {x : V} {Q : VK} (hs : StAt H st) (ta : TabAt st H x) (q : ∀ H', Kp st H H' → StAt H' st → Q (.bl true) H') :
    sp_l_handed K C [.ref st, x] H (fun v H1 => sp_l_holds K C [v, x] H1 Q E0) E0 := by
  obtain ⟨p, xs, ps, rfl, np, hp, pa, tp⟩ := ta
  refine ⟨st, p, xs, rfl, hs, hp, np, fun h H1 nh hh k1 s1 => ⟨h, p, xs, ps, rfl, hh, k1.1 _ _ np hp, (ne_of_none hp nh).symm, ?_, tp, fun H2 b => ?_⟩⟩
  · refine ⟨pa.1, fun i x pr h1 h2 => ?_⟩
    obtain ⟨q, e, n, hq⟩ := pa.2 i x pr h1 h2
    exact ⟨q, e, ne_of_none hq nh, k1.1 _ _ n hq⟩
  · exact q H2 (k1.but nh (hs.ne nh) b) (hs.but nh k1 s1 b)
theorem bad_rp {H : Hp} {n : Nat} {t : Addr} (h : H t = some (.lst badL)) : Rp H (n + 1) (.ref t) (.list [.str ("BadShape" : Str), .str ("table" : Str)]) :=
  rp_list (asL_at h) (by show 2 ≤ 1000; decide) (all2_two (rp_str (by decide +kernel)) (rp_str (by decide +kernel)))
def sp_law (K : PySem.W.Frag) (C : CA) : Sp := fun vs H Q _ => ∃ (a : Addr) (ns : List Int), vs = [.ref a] ∧ SqL K H a (ns.map V.int) ∧ ns.length ≤ 63 ∧ ∀ H', Q (.bl true) H'
def rd_law (K : PySem.W.Frag) (C : CA) (E : XK) : TS :=
  (tSeq (tAsg (tCallS (sp_l_store K C) (fun _ => E0) (tCons (tVar 0) tNil)) (gName 1)) (tSeq (tAsg (tCallS (sp_l_table K C) (fun _ => E0) (tCons (tVar 1) (tCons (tCallS (sp_l_edge K C) (fun _ => E0) (tCons (tVar 1) (tCons (tC (.int 0)) (tCons (tC (.int 12)) tNil)))) tNil))) (gName 2)) (tSeq (tAsg (tCallS (sp_l_table K C) (fun _ => E0) (tCons (tVar 1) (tCons (tCallS (sp_l_edge K C) (fun _ => E0) (tCons (tVar 1) (tCons (tC (.int 0)) (tCons (tC (.int 12)) tNil)))) tNil))) (gName 3)) (tSeq (tFor (iList K (tLst (tCons (tVar 2) (tCons (tVar 3) (tCons (tCallS (sp_l_turned K C) (fun _ => E0) (tCons (tVar 1) (tCons (tVar 2) tNil))) (tCons (tVar 3) (tCons (tVar 2) tNil))))))) (gName 4) (tIfS (tNot (tB (tCallS (sp_l_holds K C) (fun _ => E0) (tCons (tCallS (sp_l_handed K C) (fun _ => E0) (tCons (tVar 1) (tCons (tVar 4) tNil))) (tCons (tVar 4) tNil))))) (tRet (tC (.bl false))) tNext)) (tSeq (tFor (iRng1 (tCons (tC (.int 3)) tNil)) (gName 5) (tIfS (tNot (tB (tCallS (sp_l_same K C) (fun _ => E0) (tCons (tCallS (sp_l_heard K C) (fun _ => E0) (tCons (tCallS (sp_l_no_table K C) (fun _ => E0) (tCons (tVar 1) (tCons (tVar 2) tNil))) tNil)) (tCons (tLst (tCons (tC (.str ("BadShape" : Str))) (tCons (tC (.str ("table" : Str))) tNil))) tNil))))) (tRet (tC (.bl false))) tNext)) (tRet (tCallS (sp_l_holds K C) (fun _ => E0) (tCons (tCallS (sp_l_handed K C) (fun _ => E0) (tCons (tVar 1) (tCons (tVar 2) tNil))) (tCons (tVar 2) tNil)))))))))
theorem pure_law {K : PySem.W.Frag} {C : CA} (vs : List V) (H : Hp) (Q : VK) (E : XK) (h : sp_law K C vs H Q E) : rd_law K C E { nx := fun _ H' => Q .non H', rt := Q } (start [("script" : Str), ("store" : Str), ("pairs" : Str), ("others" : Str), ("row" : Str), ("k" : Str)] vs) H := by
  obtain ⟨a, ns, rfl, ha, hn, q⟩ := h
  show rd_law K C E _ [some (.ref a), none, none, none, none, none] H
  unfold rd_law
  refine q_asg ?_
  walk_at "s"
  refine ⟨a, ns, rfl, ha, hn, fun st H1 t1 ne1 s1 => ?_⟩
  refine q_asg ?_
  walk_at "s"
  refine edge_ok s1 fun n H2 n0 n1 k2 s2 => ?_
  obtain ⟨n, rfl⟩ : ∃ m : Nat, n = m := ⟨n.toNat, by omega⟩
  refine ⟨st, n, rfl, s2, by omega, fun pp xs ps H3 npp h3 pa3 tp k3 s3 => ?_⟩
  have pp_st := s2.ne npp
  refine q_asg ?_
  walk_at "s"
  refine edge_ok s3 fun m H4 m0 m1 k4 s4 => ?_
  obtain ⟨m, rfl⟩ : ∃ j : Nat, m = j := ⟨m.toNat, by omega⟩
  refine ⟨st, m, rfl, s4, by omega, fun po ys qs H5 npo h5 pa5 tq k5 s5 => ?_⟩
  have po_st := s4.ne npo
  have k35 := k4.trans k5
  have T1 : TabAt st H5 (.ref pp) := ⟨pp, xs, ps, rfl, pp_st, k35.1 _ _ pp_st h3, pa3.kp k35, tp⟩
  have T2 : TabAt st H5 (.ref po) := ⟨po, ys, qs, rfl, po_st, h5, pa5, tq⟩
  have hp5 := k35.1 _ _ pp_st h3
  have l12 := tp.le
  have lx := pa3.1
  refine q_for ?_
  rw [u_list]
  walk_at "s"
  refine ⟨st, pp, xs, rfl, s5, asS_at hp5, pp_st, by omega, fun pt zs H6 npt h6 pm k6 s6 => ?_⟩
  obtain ⟨rs, pa6, pr6⟩ := ((pa3.kp k35).kp k6).perm pm
  have pt_st := s5.ne npt
  have T3 : TabAt st H6 (.ref pt) := ⟨pt, zs, rs, rfl, pt_st, h6, pa6, tp.perm pr6⟩
  refine ⟨by decide, fun pl npl => al npl fun H7 t7 h7 => ⟨⟨_, asL_seq (asL_at h7)⟩, ?_⟩⟩
  have pl_st := s6.ne npl
  have s7 := s6.sm t7
  have k57 := k6.trans (kp_sm t7)
  have all : ∀ x ∈ [V.ref pp, V.ref po, V.ref pt, V.ref po, V.ref pp], TabAt st H7 x := by
    intro x hx
    simp only [List.mem_cons, List.not_mem_nil, or_false] at hx
    rcases hx with rfl | rfl | rfl | rfl | rfl
    · exact T1.kp k57
    · exact T2.kp k57
    · exact T3.kp (kp_sm t7)
    · exact T2.kp k57
    · exact T1.kp k57
  refine loop_list (xs := [V.ref pp, V.ref po, V.ref pt, V.ref po, V.ref pp]) (fun i σ H' => ∃ w : Option V, σ = [some (.ref a), some (.ref st), some (.ref pp), some (.ref po), w, none] ∧ Kp st H7 H' ∧ StAt H' st) ⟨_, rfl, Kp.refl _ _, s7⟩ (fun i σ H' _ ⟨_, _, k, _⟩ => asL_at (k.1 _ _ pl_st h7)) ?_ ?_
  · rintro i x σ H' hx ⟨w, rfl, k8, s8⟩
    walk_at "s"
    refine q_if1 ?_
    walk_at "s"
    refine held s8 ((all x (List.mem_of_getElem? hx)).kp k8) fun H9 k9 s9 => ?_
    walk_at "s"
    exact ⟨k8.trans k9, s9⟩
  rintro σ H8 ⟨w, rfl, k8, s8⟩
  have k58 := k57.trans k8
  dsimp only
  refine q_for ?_
  walk_at "s"
  refine ⟨by decide, by decide, ?_⟩
  refine loop_range (fun i σ H' => ∃ w1 : Option V, σ = [some (.ref a), some (.ref st), some (.ref pp), some (.ref po), w, w1] ∧ Kp st H8 H' ∧ StAt H' st) ⟨_, rfl, Kp.refl _ _, s8⟩ ?_ ?_
  · rintro i σ H' hi ⟨w1, rfl, k14, s14⟩
    have k514 := k58.trans k14
    walk_at "s"
    refine q_if1 ?_
    walk_at "s"
    refine ⟨st, pp, xs, ps, rfl, s14, k514.1 _ _ pp_st hp5, pp_st, (pa3.kp k35).kp k514, tp, fun v H15 tbv nob k15 s15 => ?_⟩
    refine ⟨v, rfl, tbv, fun _ u1 H16 t16 nu1 h16 => ?_, fun qs' i1 tq' => absurd ⟨qs', i1, tq'⟩ nob⟩
    refine ⟨by decide, fun u3 nu3 => al nu3 fun H18 t18 h18 => ?_⟩
    refine ⟨_, _, .list [.str ("BadShape" : Str), .str ("table" : Str)], rfl, bad_rp (t18 _ _ h16), bad_rp h18, fun H22 t22 => ?_⟩
    walk_at "s"
    have t1522 := sm_trans t16 (sm_trans t18 t22)
    exact ⟨(k14.trans k15).trans (kp_sm t1522), s15.sm t1522⟩
  rintro σ H14 ⟨w1, rfl, k14, s14⟩
  dsimp only
  walk_at "s"
  exact held s14 (T1.kp (k58.trans k14)) fun H15 _ _ => q H15
end XB

/-! A dict made by a walk and named at once. -/
namespace XB
open PySem PySem.Spec PyProof.Rows L2
theorem sw_dict {kx vx : Expr} {gs : List Comprehension} {sc : Scope} {ps py : Pos} {y : Str} {l : Nat} {env : Env} (h1 : env.scope.kind = .function) (h2 : env.scope.names.lookup y = some .local) (h3 : (py.line == ps.line) = true)
    (h4 : (sc.names.any fun (n, k) => n == y && (k == .local || k == .cell)) = false) : swapsWith (.DictComp kx vx gs sc ps) (some (.Name y py)) l env = pure true := by
  have kinds : env.kindOf y = some .local := h2
  have block : env.blockKind = .function := by
    unfold Env.blockKind
    rw [h1]
    rfl
  unfold swapsWith
  simp only [block, kinds, h4, Expr.pos, h3]
  rfl
section
variable {X : Cx}
/-- in each block of names -/
abbrev InBlk (X : Cx) (scope : Scope) (P : Cx → Prop) : Prop := ∀ (s : Shared) (H : Hp) (C : Addr) (cl : List (Str × Addr)) (fp : List Addr), P (X.blk s H scope (compEnvC scope cl C X.env) fp)
theorem set_dict {n : Nat} {y : Str} {p1 p2 p3 : Pos} {kx vx tg iter : Expr} {ifs : List Expr} {scope : Scope} {own : List (Str × Nat)} {wi : TI} {g : TG} {tt : TT} {tk tv : TE} (calm : X.calm = true) (nd : X.N.Nodup) (hn : X.N[n]? = some y) (loc : X.env.scope.names.lookup y = some .local)
    (sw : swapsWith (.DictComp kx vx [⟨tg, iter, ifs, 0⟩] scope p1) (some (.Name y p2)) p3.line X.env = pure true) (pi_ : PI X tg iter wi) (blk : BlkOk X.N X.env.scope scope own)
    (pg_ : InBlk X scope fun Y => PG Y tg g) (pt_ : InBlk X scope fun Y => PTs Y ifs tt) (pk_ : InBlk X scope fun Y => PE Y kx tk) (pv_ : InBlk X scope fun Y => PE Y vx tv) (fs : ∀ x, foldedSetIterable iter X.env x = pure x := by intro _; rfl) :
    PS X (.Assign [.Name y p2] (.DictComp kx vx [⟨tg, iter, ifs, 0⟩] scope p1) p3) (tAsg (tDc wi g tt tk tv (own.map (·.2))) (gName n)) := by
  refine ⟨fun pins s σ H D I h0 => ?_⟩
  rw [exec_Assign_Name_used y p2 (.DictComp kx vx [⟨tg, iter, ifs, 0⟩] scope p1) p3 sw]
  refine wpAny_bind (wpAny_standAt ?_)
  refine wpAny_bind ?_
  show wpAny _ X.A (do let _ ← comprehension (.DictComp kx vx [⟨tg, iter, ifs, 0⟩] scope p1) scope X.env (firstIterPos [⟨tg, iter, ifs, 0⟩] p1) newDict false (eval iter X.env) (some (assign (.Name y p2) X.env))) _ _ s
  have k0 : tDc wi g tt tk tv (own.map (·.2)) σ H (fun z H1 => gName n z σ H1 D.nx) := h0
  refine wpAny_bind (thn (dc_core (Qf := fun _ z => SP X pins D .next z) calm nd I pi_ blk pg_ pt_ pk_ pv_ fs k0 fun L C z m H1 J q ns fp => ?_) fun _ z hz => wpAny_pure (wpAny_pure hz))
  show wpAny _ _ (assign (.Name y p2) X.env (.ref L)) _ _ _
  obtain ⟨g0, g1, g2, g3, g4, g5⟩ := fp
  refine wpAny_assign_Name (store_ok2 (v := V.ref L) J nd hn (.inl loc) rfl (fun z2 J2 ⟨a, sb, ha⟩ => ?_) (.inr loc))
  have apart : C ≠ a := by
    rcases ha with e | e
    · rw [e]; exact g1
    · exact fun c => g4 y a e c.symm
  exact ⟨m, ns.sameBut sb apart, fun h3 sb3 => ⟨_, H1, J2.turned (t' := z2.toks) (fun b o hb e => (sb3.2 b hb).trans e) g0 g1 g3 g4 g5, q⟩⟩
end
theorem lt_none {n : Nat} (h : n + 64 < cLine) : n < cLine := by omega
theorem pass_no {X : Cx} {σ : L2.St} : PassesAt (L2N.CX X.prog X.w) X σ E0 := fun _ _ _ _ _ _ c => by
  obtain ⟨_, _, _, _, _, _, _, _, _, _, _, _, h⟩ := c
  exact h.elim
theorem lt_one {n : Nat} (h : n + 64 < cLine) : n + 1 < cLine := by omega
end XB

/-! Each def holds what it promises. -/
namespace XB
open PySem PySem.Spec PyProof.Rows L2
def top (i : Nat) : Stmt := PySem.Challenge.pw_crossfarers_k07_exchanges_of_a_table.main.body.getD i (.Pass ⟨0, 0, 0, 0⟩)
/-- a def of the text -/
structure Dfn (K : PySem.W.Frag) (mg : Str → Option Value) (x qual : Str) (st : Stmt) (ps : List Str) where
  f : Addr
  fd : FuncData
  mg : mg x = some (.ref f)
  fn : Fun K x qual st f fd
  bi : Binds K fd ps []
/-- an error's class and its __init__ -/
structure Ini (K : PySem.W.Frag) (C : Addr) (qual : Str) (st : Stmt) (ps names : List Str) where
  f : Addr
  fd : FuncData
  ex : OexC K C
  iC : PySem.W.findIn K (.ref C) "__init__" = some (some (.ref f))
  tI : PySem.W.typeIn K (.ref f) = some (.type "function")
  fn : Fun K "__init__" qual st f fd
  bi : Binds K fd ps []
  ec : ExcC K C
  xf : XfC K C
  no : ∀ n ∈ names, PySem.W.findIn K (.ref C) n = some none
theorem hot_of {X : Cx} {a : Addr} {oe : Obj} {cls : Value} {d : Option Addr} {pn : List (Addr × Obj)} (hz : L2N.Zn cls d oe) (hf : ∃ fv, oe.data = .fields fv) : L2H.HotC (X.suite a ((a, oe) :: pn)) := by
  obtain ⟨vs, e⟩ := hf
  exact ⟨(a, oe), ⟨rfl, vs, e, hz.2.2 vs e⟩, List.mem_cons_self⟩
theorem hu_H {k : Nat} {A : Around} (r : L2H.RoomH k A) : A.units + 64 < cLine := by have := r.un; omega
theorem no_fn {P : Program} {w : World} {K : PySem.W.Frag} {mg : Str → Option Value} {base : Heap} {CX : CXT} {k : Nat} {f : Addr} {fd : FuncData} {ps : List Str} : FnOk P w K mg base CX k f fd ps (fun _ _ _ _ => False) :=
  ⟨fun _ _ _ _ h => h.elim, fun _ _ _ _ _ _ _ _ _ _ _ _ _ h => h.elim⟩
theorem no_fnH {P : Program} {w : World} {K : PySem.W.Frag} {mg : Str → Option Value} {base : Heap} {CX : CXT} {k : Nat} {f : Addr} {fd : FuncData} {ps : List Str} : L2H.FnH P w K mg base CX k f fd ps (fun _ _ _ _ => False) :=
  ⟨fun _ _ _ _ h => h.elim, fun _ _ _ _ _ _ _ _ _ _ _ _ _ _ _ _ h => h.elim⟩
theorem okH {P : Program} {w : World} {K : PySem.W.Frag} {mg : Str → Option Value} {base : Heap} {x qual : Str} {st : Stmt} {f : Addr} {fd : FuncData} {N ps : List Str} {k : Nat} {sp : Sp} (F : Fun K x qual st f fd) (S : FnScope N ps (defScope st))
    (len : ∀ vs H Q E, sp vs H Q E → vs.length = ps.length)
    (hbody : ∀ (cdv : Value) (A : Around) (outer : List Env) (s : Shared) (H : Hp) (vs : List V) (Q : VK) (E : XK) (p : Addr × Obj), L2H.Hot1 A p → L2H.RoomH k (A.deeper (envOfC qual (defScope st) s.heap.objs.size f cdv)) → sp vs H Q E →
      ∃ t, PSs (L2H.cxH CX0 P w K mg base N qual (defScope st) f cdv A outer s H E p) (defBody st) t ∧ t { nx := fun _ H' => Q .non H', rt := Q } (start N vs) H) : L2H.FnH P w K mg base CX0 (k + 1) f fd ps sp := by
  obtain ⟨oc, od, kV, doc, pm, an, cdv, ct, osl, rfl, lk, hcd⟩ := F.ex
  exact L2H.fn_ofH lk hcd S len fun A outer s H vs Q E p hot hr hsp => hbody cdv A outer s H vs Q E p hot hr hsp
abbrev s_BadShape_init : Stmt := inClass (top 2) 0
abbrev sN_BadShape_init : List Str := [("self" : Str), ("parameter" : Str)]
theorem sc_BadShape_init : FnScope sN_BadShape_init [("self" : Str), ("parameter" : Str)] (defScope s_BadShape_init) := ⟨rfl, rfl, rfl, by decide +kernel, rfl, by decide +kernel, by decide +kernel⟩
abbrev s_is_name : Stmt := top 9
abbrev sN_is_name : List Str := [("value" : Str), ("sign" : Str)]
theorem sc_is_name : FnScope sN_is_name [("value" : Str)] (defScope s_is_name) := ⟨rfl, rfl, rfl, by decide +kernel, rfl, by decide +kernel, by decide +kernel⟩
abbrev s_is_tuple_of : Stmt := top 10
abbrev sN_is_tuple_of : List Str := [("value" : Str), ("parts" : Str)]
theorem sc_is_tuple_of : FnScope sN_is_tuple_of [("value" : Str), ("parts" : Str)] (defScope s_is_tuple_of) := ⟨rfl, rfl, rfl, by decide +kernel, rfl, by decide +kernel, by decide +kernel⟩
abbrev s_check : Stmt := top 12
abbrev sN_check : List Str := [("fits" : Str), ("parameter" : Str)]
theorem sc_check : FnScope sN_check [("fits" : Str), ("parameter" : Str)] (defScope s_check) := ⟨rfl, rfl, rfl, by decide +kernel, rfl, by decide +kernel, by decide +kernel⟩
abbrev s_is_series : Stmt := top 13
abbrev sN_is_series : List Str := [("value" : Str)]
theorem sc_is_series : FnScope sN_is_series [("value" : Str)] (defScope s_is_series) := ⟨rfl, rfl, rfl, by decide +kernel, rfl, by decide +kernel, by decide +kernel⟩
abbrev s_are_name_pairs : Stmt := top 14
abbrev sN_are_name_pairs : List Str := [("value" : Str), ("pair" : Str)]
theorem sc_are_name_pairs : FnScope sN_are_name_pairs [("value" : Str)] (defScope s_are_name_pairs) := ⟨rfl, rfl, rfl, by decide +kernel, rfl, by decide +kernel, by decide +kernel⟩
abbrev s_are_names : Stmt := top 15
abbrev sN_are_names : List Str := [("values" : Str), ("value" : Str)]
theorem sc_are_names : FnScope sN_are_names [("values" : Str)] (defScope s_are_names) := ⟨rfl, rfl, rfl, by decide +kernel, rfl, by decide +kernel, by decide +kernel⟩
abbrev s_first_repeated : Stmt := top 16
abbrev sN_first_repeated : List Str := [("things" : Str), ("seen" : Str), ("thing" : Str)]
theorem sc_first_repeated : FnScope sN_first_repeated [("things" : Str)] (defScope s_first_repeated) := ⟨rfl, rfl, rfl, by decide +kernel, rfl, by decide +kernel, by decide +kernel⟩
abbrev s_are_unlike : Stmt := top 17
abbrev sN_are_unlike : List Str := [("things" : Str)]
theorem sc_are_unlike : FnScope sN_are_unlike [("things" : Str)] (defScope s_are_unlike) := ⟨rfl, rfl, rfl, by decide +kernel, rfl, by decide +kernel, by decide +kernel⟩
abbrev s_circuits : Stmt := top 20
abbrev sN_circuits : List Str := [("table" : Str), ("name" : Str), ("images" : Str), ("found" : Str), ("image" : Str), ("row" : Str)]
theorem sc_circuits : FnScope sN_circuits [("table" : Str)] (defScope s_circuits) := ⟨rfl, rfl, rfl, by decide +kernel, rfl, by decide +kernel, by decide +kernel⟩
abbrev s_circuit_from : Stmt := top 21
abbrev sN_circuit_from : List Str := [("name" : Str), ("images" : Str), ("row" : Str)]
theorem sc_circuit_from : FnScope sN_circuit_from [("name" : Str), ("images" : Str)] (defScope s_circuit_from) := ⟨rfl, rfl, rfl, by decide +kernel, rfl, by decide +kernel, by decide +kernel⟩
abbrev s_cost : Stmt := top 22
abbrev sN_cost : List Str := [("table" : Str), ("row" : Str)]
theorem sc_cost : FnScope sN_cost [("table" : Str)] (defScope s_cost) := ⟨rfl, rfl, rfl, by decide +kernel, rfl, by decide +kernel, by decide +kernel⟩
abbrev s_exchanges : Stmt := top 23
abbrev sN_exchanges : List Str := [("table" : Str), ("name" : Str), ("image" : Str), ("images" : Str), ("present" : Str), ("noted" : Str), ("other" : Str), ("holder" : Str)]
theorem sc_exchanges : FnScope sN_exchanges [("table" : Str)] (defScope s_exchanges) := ⟨rfl, rfl, rfl, by decide +kernel, rfl, by decide +kernel, by decide +kernel⟩
abbrev s_is_table : Stmt := top 24
abbrev sN_is_table : List Str := [("value" : Str), ("names" : Str), ("name" : Str), ("_" : Str), ("image" : Str)]
theorem sc_is_table : FnScope sN_is_table [("value" : Str)] (defScope s_is_table) := ⟨rfl, rfl, rfl, by decide +kernel, rfl, by decide +kernel, by decide +kernel⟩
abbrev s_l_mixed : Stmt := top 26
abbrev sN_l_mixed : List Str := [("cell" : Str), ("k" : Str), ("first" : Str), ("second" : Str)]
theorem sc_l_mixed : FnScope sN_l_mixed [("cell" : Str), ("k" : Str)] (defScope s_l_mixed) := ⟨rfl, rfl, rfl, by decide +kernel, rfl, by decide +kernel, by decide +kernel⟩
abbrev s_l_store : Stmt := top 27
abbrev sN_l_store : List Str := [("script" : Str), ("cell" : Str), ("cells" : Str), ("seed" : Str)]
theorem sc_l_store : FnScope sN_l_store [("script" : Str)] (defScope s_l_store) := ⟨rfl, rfl, rfl, by decide +kernel, rfl, by decide +kernel, by decide +kernel⟩
abbrev s_l_take : Stmt := top 28
abbrev sN_l_take : List Str := [("store" : Str), ("many" : Str), ("base" : Str), ("cell" : Str), ("digit" : Str)]
theorem sc_l_take : FnScope sN_l_take [("store" : Str), ("many" : Str)] (defScope s_l_take) := ⟨rfl, rfl, rfl, by decide +kernel, rfl, by decide +kernel, by decide +kernel⟩
abbrev s_l_great : Stmt := top 29
abbrev sN_l_great : List Str := [("store" : Str), ("many" : Str), ("number" : Str), ("k" : Str)]
theorem sc_l_great : FnScope sN_l_great [("store" : Str), ("many" : Str)] (defScope s_l_great) := ⟨rfl, rfl, rfl, by decide +kernel, rfl, by decide +kernel, by decide +kernel⟩
abbrev s_l_edge : Stmt := top 30
abbrev sN_l_edge : List Str := [("store" : Str), ("low" : Str), ("high" : Str), ("form" : Str)]
theorem sc_l_edge : FnScope sN_l_edge [("store" : Str), ("low" : Str), ("high" : Str)] (defScope s_l_edge) := ⟨rfl, rfl, rfl, by decide +kernel, rfl, by decide +kernel, by decide +kernel⟩
abbrev s_l_pick : Stmt := top 31
abbrev sN_l_pick : List Str := [("store" : Str), ("row" : Str)]
theorem sc_l_pick : FnScope sN_l_pick [("store" : Str), ("row" : Str)] (defScope s_l_pick) := ⟨rfl, rfl, rfl, by decide +kernel, rfl, by decide +kernel, by decide +kernel⟩
abbrev s_l_some : Stmt := top 32
abbrev sN_l_some : List Str := [("store" : Str), ("row" : Str), ("many" : Str), ("left" : Str), ("found" : Str), ("k" : Str), ("at" : Str)]
theorem sc_l_some : FnScope sN_l_some [("store" : Str), ("row" : Str), ("many" : Str)] (defScope s_l_some) := ⟨rfl, rfl, rfl, by decide +kernel, rfl, by decide +kernel, by decide +kernel⟩
abbrev s_l_turned : Stmt := top 33
abbrev sN_l_turned : List Str := [("store" : Str), ("row" : Str)]
theorem sc_l_turned : FnScope sN_l_turned [("store" : Str), ("row" : Str)] (defScope s_l_turned) := ⟨rfl, rfl, rfl, by decide +kernel, rfl, by decide +kernel, by decide +kernel⟩
abbrev s_l_word : Stmt := top 34
abbrev sN_l_word : List Str := [("store" : Str), ("size" : Str), ("letters" : Str), ("signs" : Str), ("word" : Str), ("k" : Str)]
theorem sc_l_word : FnScope sN_l_word [("store" : Str), ("size" : Str)] (defScope s_l_word) := ⟨rfl, rfl, rfl, by decide +kernel, rfl, by decide +kernel, by decide +kernel⟩
abbrev s_l_names : Stmt := top 35
abbrev sN_l_names : List Str := [("store" : Str), ("many" : Str), ("letters" : Str), ("form" : Str), ("word" : Str), ("k" : Str), ("row" : Str), ("stem" : Str), ("head" : Str), ("found" : Str), ("at" : Str), ("tail" : Str)]
theorem sc_l_names : FnScope sN_l_names [("store" : Str), ("many" : Str)] (defScope s_l_names) := ⟨rfl, rfl, rfl, by decide +kernel, rfl, by decide +kernel, by decide +kernel⟩
abbrev s_l_fresh : Stmt := top 36
abbrev sN_l_fresh : List Str := [("store" : Str), ("row" : Str), ("word" : Str), ("letter" : Str)]
theorem sc_l_fresh : FnScope sN_l_fresh [("store" : Str), ("row" : Str)] (defScope s_l_fresh) := ⟨rfl, rfl, rfl, by decide +kernel, rfl, by decide +kernel, by decide +kernel⟩
abbrev s_l_no_name : Stmt := top 37
abbrev sN_l_no_name : List Str := [("store" : Str), ("row" : Str)]
theorem sc_l_no_name : FnScope sN_l_no_name [("store" : Str)] (defScope s_l_no_name) := ⟨rfl, rfl, rfl, by decide +kernel, rfl, by decide +kernel, by decide +kernel⟩
abbrev s_l_same : Stmt := top 38
abbrev sN_l_same : List Str := [("one" : Str), ("other" : Str), ("key" : Str), ("k" : Str), ("alike" : Str), ("found" : Str)]
theorem sc_l_same : FnScope sN_l_same [("one" : Str), ("other" : Str)] (defScope s_l_same) := ⟨rfl, rfl, rfl, by decide +kernel, rfl, by decide +kernel, by decide +kernel⟩
abbrev s_l_spoil : Stmt := top 39
abbrev sN_l_spoil : List Str := [("value" : Str), ("key" : Str), ("part" : Str)]
theorem sc_l_spoil : FnScope sN_l_spoil [("value" : Str)] (defScope s_l_spoil) := ⟨rfl, rfl, rfl, by decide +kernel, rfl, by decide +kernel, by decide +kernel⟩
abbrev s_l_table : Stmt := top 40
abbrev sN_l_table : List Str := [("store" : Str), ("many" : Str), ("firsts" : Str), ("form" : Str), ("images" : Str), ("pairs" : Str), ("k" : Str)]
theorem sc_l_table : FnScope sN_l_table [("store" : Str), ("many" : Str)] (defScope s_l_table) := ⟨rfl, rfl, rfl, by decide +kernel, rfl, by decide +kernel, by decide +kernel⟩
abbrev s_l_no_table : Stmt := top 41
abbrev sN_l_no_table : List Str := [("store" : Str), ("pairs" : Str), ("names" : Str), ("strange" : Str), ("form" : Str), ("row" : Str), ("at" : Str), ("pair" : Str), ("k" : Str)]
theorem sc_l_no_table : FnScope sN_l_no_table [("store" : Str), ("pairs" : Str)] (defScope s_l_no_table) := ⟨rfl, rfl, rfl, by decide +kernel, rfl, by decide +kernel, by decide +kernel⟩
abbrev s_l_heard : Stmt := top 42
abbrev sN_l_heard : List Str := [("table" : Str), ("e" : Str)]
theorem sc_l_heard : FnScope sN_l_heard [("table" : Str)] (defScope s_l_heard) := ⟨rfl, rfl, rfl, by decide +kernel, rfl, by decide +kernel, by decide +kernel⟩
abbrev s_l_leads_there : Stmt := top 43
abbrev sN_l_leads_there : List Str := [("told" : Str), ("pairs" : Str), ("image" : Str), ("now" : Str), ("pair" : Str), ("wrong" : Str), ("name" : Str)]
theorem sc_l_leads_there : FnScope sN_l_leads_there [("told" : Str), ("pairs" : Str)] (defScope s_l_leads_there) := ⟨rfl, rfl, rfl, by decide +kernel, rfl, by decide +kernel, by decide +kernel⟩
abbrev s_l_leads_back : Stmt := top 44
abbrev sN_l_leads_back : List Str := [("told" : Str), ("pairs" : Str), ("now" : Str), ("pair" : Str), ("k" : Str), ("one" : Str), ("two" : Str), ("held" : Str), ("name" : Str)]
theorem sc_l_leads_back : FnScope sN_l_leads_back [("told" : Str), ("pairs" : Str)] (defScope s_l_leads_back) := ⟨rfl, rfl, rfl, by decide +kernel, rfl, by decide +kernel, by decide +kernel⟩
abbrev s_l_holds : Stmt := top 45
abbrev sN_l_holds : List Str := [("handed" : Str), ("pairs" : Str), ("told" : Str), ("kept" : Str)]
theorem sc_l_holds : FnScope sN_l_holds [("handed" : Str), ("pairs" : Str)] (defScope s_l_holds) := ⟨rfl, rfl, rfl, by decide +kernel, rfl, by decide +kernel, by decide +kernel⟩
abbrev s_l_handed : Stmt := top 46
abbrev sN_l_handed : List Str := [("store" : Str), ("pairs" : Str)]
theorem sc_l_handed : FnScope sN_l_handed [("store" : Str), ("pairs" : Str)] (defScope s_l_handed) := ⟨rfl, rfl, rfl, by decide +kernel, rfl, by decide +kernel, by decide +kernel⟩
abbrev s_law : Stmt := top 47
abbrev sN_law : List Str := [("script" : Str), ("store" : Str), ("pairs" : Str), ("others" : Str), ("row" : Str), ("k" : Str)]
theorem sc_law : FnScope sN_law [("script" : Str)] (defScope s_law) := ⟨rfl, rfl, rfl, by decide +kernel, rfl, by decide +kernel, by decide +kernel⟩
structure Txt (K : PySem.W.Frag) (mg : Str → Option Value) (C : CA) where
  e_BadShape : Ini K C.BadShape "BadShape.__init__" s_BadShape_init [("self" : Str), ("parameter" : Str)] [("parameter" : Str)]
  d_is_name : Dfn K mg "is_name" "is_name" s_is_name [("value" : Str)]
  d_is_tuple_of : Dfn K mg "is_tuple_of" "is_tuple_of" s_is_tuple_of [("value" : Str), ("parts" : Str)]
  d_check : Dfn K mg "check" "check" s_check [("fits" : Str), ("parameter" : Str)]
  d_is_series : Dfn K mg "is_series" "is_series" s_is_series [("value" : Str)]
  d_are_name_pairs : Dfn K mg "are_name_pairs" "are_name_pairs" s_are_name_pairs [("value" : Str)]
  d_are_names : Dfn K mg "are_names" "are_names" s_are_names [("values" : Str)]
  d_first_repeated : Dfn K mg "first_repeated" "first_repeated" s_first_repeated [("things" : Str)]
  d_are_unlike : Dfn K mg "are_unlike" "are_unlike" s_are_unlike [("things" : Str)]
  d_circuits : Dfn K mg "circuits" "circuits" s_circuits [("table" : Str)]
  d_circuit_from : Dfn K mg "circuit_from" "circuit_from" s_circuit_from [("name" : Str), ("images" : Str)]
  d_cost : Dfn K mg "cost" "cost" s_cost [("table" : Str)]
  d_exchanges : Dfn K mg "exchanges" "exchanges" s_exchanges [("table" : Str)]
  d_is_table : Dfn K mg "is_table" "is_table" s_is_table [("value" : Str)]
  d_l_mixed : Dfn K mg "_law_mixed" "_law_mixed" s_l_mixed [("cell" : Str), ("k" : Str)]
  d_l_store : Dfn K mg "_law_store" "_law_store" s_l_store [("script" : Str)]
  d_l_take : Dfn K mg "_law_take" "_law_take" s_l_take [("store" : Str), ("many" : Str)]
  d_l_great : Dfn K mg "_law_great" "_law_great" s_l_great [("store" : Str), ("many" : Str)]
  d_l_edge : Dfn K mg "_law_edge" "_law_edge" s_l_edge [("store" : Str), ("low" : Str), ("high" : Str)]
  d_l_pick : Dfn K mg "_law_pick" "_law_pick" s_l_pick [("store" : Str), ("row" : Str)]
  d_l_some : Dfn K mg "_law_some" "_law_some" s_l_some [("store" : Str), ("row" : Str), ("many" : Str)]
  d_l_turned : Dfn K mg "_law_turned" "_law_turned" s_l_turned [("store" : Str), ("row" : Str)]
  d_l_word : Dfn K mg "_law_word" "_law_word" s_l_word [("store" : Str), ("size" : Str)]
  d_l_names : Dfn K mg "_law_names" "_law_names" s_l_names [("store" : Str), ("many" : Str)]
  d_l_fresh : Dfn K mg "_law_fresh" "_law_fresh" s_l_fresh [("store" : Str), ("row" : Str)]
  d_l_no_name : Dfn K mg "_law_no_name" "_law_no_name" s_l_no_name [("store" : Str)]
  d_l_same : Dfn K mg "_law_same" "_law_same" s_l_same [("one" : Str), ("other" : Str)]
  d_l_spoil : Dfn K mg "_law_spoil" "_law_spoil" s_l_spoil [("value" : Str)]
  d_l_table : Dfn K mg "_law_table" "_law_table" s_l_table [("store" : Str), ("many" : Str)]
  d_l_no_table : Dfn K mg "_law_no_table" "_law_no_table" s_l_no_table [("store" : Str), ("pairs" : Str)]
  d_l_heard : Dfn K mg "_law_heard" "_law_heard" s_l_heard [("table" : Str)]
  d_l_leads_there : Dfn K mg "_law_leads_there" "_law_leads_there" s_l_leads_there [("told" : Str), ("pairs" : Str)]
  d_l_leads_back : Dfn K mg "_law_leads_back" "_law_leads_back" s_l_leads_back [("told" : Str), ("pairs" : Str)]
  d_l_holds : Dfn K mg "_law_holds" "_law_holds" s_l_holds [("handed" : Str), ("pairs" : Str)]
  d_l_handed : Dfn K mg "_law_handed" "_law_handed" s_l_handed [("store" : Str), ("pairs" : Str)]
  d_law : Dfn K mg "law" "law" s_law [("script" : Str)]
  g_BadShape : mg "BadShape" = some (.ref C.BadShape)
  g_CrossError : mg "CrossError" = some (.ref C.CrossError)
  g_Lacking : mg "Lacking" = some (.ref C.Lacking)
  g_NoRank : mg "NoRank" = some (.ref C.NoRank)
  t_LETTERS : Nat
  c_LETTERS : mg "LETTERS" = some (.str ("abcdefghijklmnopqrstuvwxyz" : Str) t_LETTERS)
  t_LETTERS_AND_DIGITS : Nat
  c_LETTERS_AND_DIGITS : mg "LETTERS_AND_DIGITS" = some (.str ("abcdefghijklmnopqrstuvwxyz0123456789" : Str) t_LETTERS_AND_DIGITS)
  t_LONGEST_NAME : Nat
  c_LONGEST_NAME : mg "LONGEST_NAME" = some (.int 8 t_LONGEST_NAME)
  t_MOST_PAIRS : Nat
  c_MOST_PAIRS : mg "MOST_PAIRS" = some (.int 12 t_MOST_PAIRS)
  b_ValueError : mg "ValueError" = none
  b_all : mg "all" = none
  b_bool : mg "bool" = none
  b_dict : mg "dict" = none
  b_int : mg "int" = none
  b_isinstance : mg "isinstance" = none
  b_len : mg "len" = none
  b_list : mg "list" = none
  b_max : mg "max" = none
  b_min : mg "min" = none
  b_range : mg "range" = none
  b_set : mg "set" = none
  b_sorted : mg "sorted" = none
  b_str : mg "str" = none
  b_sum : mg "sum" = none
  b_tuple : mg "tuple" = none
  ef : EF K C
section
variable {P : Program} {w : World} {K : PySem.W.Frag} {mg : Str → Option Value} {base : Heap} {C : CA}
theorem pure_BadShape_init (I : Ini K C.BadShape "BadShape.__init__" s_BadShape_init [("self" : Str), ("parameter" : Str)] [("parameter" : Str)]) (vs : List V) (H : Hp) (Q : VK) (E : XK) (h : sp_einit C.BadShape [("parameter" : Str)] vs H Q E) : ((tOst K ("parameter" : Str) (tVar 0) (tVar 1))) { nx := fun _ H' => Q .non H', rt := Q } (start sN_BadShape_init vs) H := by
  obtain ⟨a, ws, rfl, hl, ha, q⟩ := h
  match ws, hl with
  | [x], _ =>
    refine ⟨_, rfl, _, rfl, a, C.BadShape, rfl, I.ex, I.no _ (by decide +kernel), .inl ⟨ha, fun d nd ne => ?_⟩⟩
    refine q d _ nd ne upd_same ?_ fun b na nb => ?_
    · rw [upd_ne ne]; exact upd_same
    · rw [upd_ne na, upd_ne nb]
theorem ok_BadShape_init (I : Ini K C.BadShape "BadShape.__init__" s_BadShape_init [("self" : Str), ("parameter" : Str)] [("parameter" : Str)]) : FnOk P w K mg base CX0 2 I.f I.fd [("self" : Str), ("parameter" : Str)] (sp_einit C.BadShape [("parameter" : Str)]) := by
  refine I.fn.ok sc_BadShape_init (fun vs H Q E h => ?_) (fun cdv A outer s H vs Q E hr h => ⟨_, ?_, pure_BadShape_init I vs H Q E h⟩)
  · obtain ⟨_, _, rfl, hl, _⟩ := h
    rw [List.length_cons, hl]
    rfl
  · exact (pss_one (ps_ost (pv 0) (pv 1)))
theorem ok_is_name (T : Txt K mg C) : FnOk P w K mg base CX0 2 T.d_is_name.f T.d_is_name.fd [("value" : Str)] (sp_is_name K C) := by
  refine T.d_is_name.fn.ok sc_is_name (fun vs H Q E h => ?_) (fun cdv A outer s H vs Q E hr h => ⟨rd_is_name K C E, ?_, pure_is_name vs H Q E h⟩)
  · first
    | (obtain ⟨_, rfl, _⟩ := h; rfl)
    | (obtain ⟨_, _, rfl, _⟩ := h; rfl)
    | (obtain ⟨_, _, _, rfl, _⟩ := h; rfl)
    | (obtain ⟨_, _, _, _, rfl, _⟩ := h; rfl)
    | (obtain ⟨_, _, _, _, _, rfl, _⟩ := h; rfl)
    | (obtain ⟨_, _, _, _, _, _, rfl, _⟩ := h; rfl)
    | (obtain ⟨_, _, _, _, _, _, _, rfl, _⟩ := h; rfl)
  · unfold rd_is_name
    exact (pss_cons (ps_if (PW.pt (pw_or (pt_not (pt_val (pe_callB c_isi (by rfl) T.b_isinstance (by decide +kernel) (pa_cons (pv 0) (pa_cons (pe_bltn (v := .ty "str") (by rfl) T.b_str (by decide +kernel) rfl) pa_nil))))) (pw_or1 (pt_not (pt_chain op_leF op_leF pe_int (pe_callB c_len (by rfl) T.b_len (by decide +kernel) (pa_cons (pv 0) pa_nil)) (pe_glob (by rfl) T.c_LONGEST_NAME ⟨_, rfl⟩)))))) (pss_one (ps_ret pe_bl)) pss_nil) (pss_one (ps_ret (pe_and (pe_cmpR op_inF (pe_ix ix_F (pv 0) pe_int (fun _ _ => rfl)) (pe_glob (by rfl) T.c_LETTERS ⟨_, rfl⟩) (by rfl)) (pe_one (pe_callB (c_all rfl) (by rfl) T.b_all (by decide +kernel) (pa_cons (pe_lc (own := [(("sign" : Str), 1)]) (g := (gName 1)) rfl sc_is_name.nd (pi_str (pv 0)) (blkOk_by (own := [(("sign" : Str), 1)]) (N := sN_is_name) (sc := defScope s_is_name) (by decide +kernel)) (fun _ _ _ _ _ => (pg_name (i := 1) sc_is_name.nd rfl (by first | exact .inl rfl | exact .inr rfl))) (fun _ _ _ _ _ => pts_nil) (fun _ _ _ _ _ => (pe_cmpR op_inF (pv 1) (pe_glob (by rfl) T.c_LETTERS_AND_DIGITS ⟨_, rfl⟩) (by rfl)))) pa_nil)))))))
theorem ok_is_tuple_of (T : Txt K mg C) : FnOk P w K mg base CX0 2 T.d_is_tuple_of.f T.d_is_tuple_of.fd [("value" : Str), ("parts" : Str)] (sp_is_tuple_of K C) := by
  refine T.d_is_tuple_of.fn.ok sc_is_tuple_of (fun vs H Q E h => ?_) (fun cdv A outer s H vs Q E hr h => ⟨rd_is_tuple_of K C E, ?_, pure_is_tuple_of vs H Q E h⟩)
  · first
    | (obtain ⟨_, rfl, _⟩ := h; rfl)
    | (obtain ⟨_, _, rfl, _⟩ := h; rfl)
    | (obtain ⟨_, _, _, rfl, _⟩ := h; rfl)
    | (obtain ⟨_, _, _, _, rfl, _⟩ := h; rfl)
    | (obtain ⟨_, _, _, _, _, rfl, _⟩ := h; rfl)
    | (obtain ⟨_, _, _, _, _, _, rfl, _⟩ := h; rfl)
    | (obtain ⟨_, _, _, _, _, _, _, rfl, _⟩ := h; rfl)
  · unfold rd_is_tuple_of
    exact (pss_one (ps_ret (pe_and (pe_callB c_isi (by rfl) T.b_isinstance (by decide +kernel) (pa_cons (pv 0) (pa_cons (pe_bltn (v := .ty "tuple") (by rfl) T.b_tuple (by decide +kernel) rfl) pa_nil))) (pe_one (pe_cmpR (op_eqF hr.units) (pe_callB c_len (by rfl) T.b_len (by decide +kernel) (pa_cons (pv 0) pa_nil)) (pv 1) (nomark _))))))
theorem ok_check (T : Txt K mg C) : FnOk P w K mg base (L2N.CX P w) 4 T.d_check.f T.d_check.fd [("fits" : Str), ("parameter" : Str)] (sp_check K C) := by
  have G_BadShape_init := ok_BadShape_init (P := P) (w := w) (mg := mg) (base := base) T.e_BadShape
  refine okN T.d_check.fn sc_check (fun vs H Q E h => ?_) (fun cdv A outer s H vs Q E hr h => ⟨rd_check K C E, ?_, pure_check vs H Q E h⟩)
  · first
    | (obtain ⟨_, rfl, _⟩ := h; rfl)
    | (obtain ⟨_, _, rfl, _⟩ := h; rfl)
    | (obtain ⟨_, _, _, rfl, _⟩ := h; rfl)
    | (obtain ⟨_, _, _, _, rfl, _⟩ := h; rfl)
    | (obtain ⟨_, _, _, _, _, rfl, _⟩ := h; rfl)
    | (obtain ⟨_, _, _, _, _, _, rfl, _⟩ := h; rfl)
    | (obtain ⟨_, _, _, _, _, _, _, rfl, _⟩ := h; rfl)
  · unfold rd_check
    exact (pss_one (ps_if (pt_not (pt_val (pv 0))) (pss_one (ps_raiseF rfl T.e_BadShape.ex T.e_BadShape.iC T.e_BadShape.tI G_BadShape_init (hr.mono (by decide)) T.e_BadShape.bi passE (by rfl) T.g_BadShape (L2N.takes_of rfl rfl rfl rfl) (mon_cons mon_var mon_nil) (pa_cons (pv 1) pa_nil))) pss_nil))
theorem ok_is_series (T : Txt K mg C) : FnOk P w K mg base CX0 2 T.d_is_series.f T.d_is_series.fd [("value" : Str)] (sp_is_series K C) := by
  refine T.d_is_series.fn.ok sc_is_series (fun vs H Q E h => ?_) (fun cdv A outer s H vs Q E hr h => ⟨rd_is_series K C E, ?_, pure_is_series vs H Q E h⟩)
  · first
    | (obtain ⟨_, rfl, _⟩ := h; rfl)
    | (obtain ⟨_, _, rfl, _⟩ := h; rfl)
    | (obtain ⟨_, _, _, rfl, _⟩ := h; rfl)
    | (obtain ⟨_, _, _, _, rfl, _⟩ := h; rfl)
    | (obtain ⟨_, _, _, _, _, rfl, _⟩ := h; rfl)
    | (obtain ⟨_, _, _, _, _, _, rfl, _⟩ := h; rfl)
    | (obtain ⟨_, _, _, _, _, _, _, rfl, _⟩ := h; rfl)
  · unfold rd_is_series
    exact (pss_one (ps_ret (pe_callB c_isiT (by rfl) T.b_isinstance (by decide +kernel) (pa_cons (pv 0) (pa_cons (pe_tup (pa_cons (pe_bltn (v := .ty "list") (by rfl) T.b_list (by decide +kernel) rfl) (pa_cons (pe_bltn (v := .ty "tuple") (by rfl) T.b_tuple (by decide +kernel) rfl) pa_nil))) pa_nil)))))
theorem ok_are_names (T : Txt K mg C) : FnOk P w K mg base CX0 3 T.d_are_names.f T.d_are_names.fd [("values" : Str)] (sp_are_names K C) := by
  have G_is_name := ok_is_name (P := P) (w := w) (mg := mg) (base := base) T
  refine T.d_are_names.fn.ok sc_are_names (fun vs H Q E h => ?_) (fun cdv A outer s H vs Q E hr h => ⟨rd_are_names K C E, ?_, pure_are_names vs H Q E h⟩)
  · first
    | (obtain ⟨_, rfl, _⟩ := h; rfl)
    | (obtain ⟨_, _, rfl, _⟩ := h; rfl)
    | (obtain ⟨_, _, _, rfl, _⟩ := h; rfl)
    | (obtain ⟨_, _, _, _, rfl, _⟩ := h; rfl)
    | (obtain ⟨_, _, _, _, _, rfl, _⟩ := h; rfl)
    | (obtain ⟨_, _, _, _, _, _, rfl, _⟩ := h; rfl)
    | (obtain ⟨_, _, _, _, _, _, _, rfl, _⟩ := h; rfl)
  · unfold rd_are_names
    exact (pss_one (ps_ret (pe_callB (c_all rfl) (by rfl) T.b_all (by decide +kernel) (pa_cons (pe_lc (own := [(("value" : Str), 1)]) (g := (gName 1)) rfl sc_are_names.nd (pi_tup (pv 0)) (blkOk_by (own := [(("value" : Str), 1)]) (N := sN_are_names) (sc := defScope s_are_names) (by decide +kernel)) (fun _ _ _ _ _ => (pg_name (i := 1) sc_are_names.nd rfl (by first | exact .inl rfl | exact .inr rfl))) (fun _ _ _ _ _ => pts_nil) (fun _ _ _ _ _ => (pe_callS G_is_name (hr.mono (by decide)) (by rfl) T.d_is_name.mg T.d_is_name.fn.kp T.d_is_name.bi pass0S (pa_cons (pv 1) pa_nil)))) pa_nil))))
theorem ok_are_name_pairs (T : Txt K mg C) : FnOk P w K mg base CX0 4 T.d_are_name_pairs.f T.d_are_name_pairs.fd [("value" : Str)] (sp_are_name_pairs K C) := by
  have G_are_names := ok_are_names (P := P) (w := w) (mg := mg) (base := base) T
  have G_is_series := ok_is_series (P := P) (w := w) (mg := mg) (base := base) T
  have G_is_tuple_of := ok_is_tuple_of (P := P) (w := w) (mg := mg) (base := base) T
  refine T.d_are_name_pairs.fn.ok sc_are_name_pairs (fun vs H Q E h => ?_) (fun cdv A outer s H vs Q E hr h => ⟨rd_are_name_pairs K C E, ?_, pure_are_name_pairs vs H Q E h⟩)
  · first
    | (obtain ⟨_, rfl, _⟩ := h; rfl)
    | (obtain ⟨_, _, rfl, _⟩ := h; rfl)
    | (obtain ⟨_, _, _, rfl, _⟩ := h; rfl)
    | (obtain ⟨_, _, _, _, rfl, _⟩ := h; rfl)
    | (obtain ⟨_, _, _, _, _, rfl, _⟩ := h; rfl)
    | (obtain ⟨_, _, _, _, _, _, rfl, _⟩ := h; rfl)
    | (obtain ⟨_, _, _, _, _, _, _, rfl, _⟩ := h; rfl)
  · unfold rd_are_name_pairs
    exact (pss_one (ps_ret (pe_and (pe_callS G_is_series (hr.mono (by decide)) (by rfl) T.d_is_series.mg T.d_is_series.fn.kp T.d_is_series.bi pass0S (pa_cons (pv 0) pa_nil)) (pe_one (pe_callB (c_all rfl) (by rfl) T.b_all (by decide +kernel) (pa_cons (pe_lc (own := [(("pair" : Str), 1)]) (g := (gName 1)) rfl sc_are_name_pairs.nd (pi_seq (pi_list (pv 0)) (pi_tup (pv 0))) (blkOk_by (own := [(("pair" : Str), 1)]) (N := sN_are_name_pairs) (sc := defScope s_are_name_pairs) (by decide +kernel)) (fun _ _ _ _ _ => (pg_name (i := 1) sc_are_name_pairs.nd rfl (by first | exact .inl rfl | exact .inr rfl))) (fun _ _ _ _ _ => pts_nil) (fun _ _ _ _ _ => (pe_and (pe_callS G_is_tuple_of (hr.mono (by decide)) (by rfl) T.d_is_tuple_of.mg T.d_is_tuple_of.fn.kp T.d_is_tuple_of.bi pass0S (pa_cons (pv 1) (pa_cons pe_int pa_nil))) (pe_one (pe_callS G_are_names (hr.mono (by decide)) (by rfl) T.d_are_names.mg T.d_are_names.fn.kp T.d_are_names.bi pass0S (pa_cons (pv 1) pa_nil)))))) pa_nil))))))
theorem ok_first_repeated (T : Txt K mg C) : FnOk P w K mg base CX0 2 T.d_first_repeated.f T.d_first_repeated.fd [("things" : Str)] (sp_first_repeated K C) := by
  refine T.d_first_repeated.fn.ok sc_first_repeated (fun vs H Q E h => ?_) (fun cdv A outer s H vs Q E hr h => ⟨rd_first_repeated P w K C E, ?_, pure_first_repeated (P := P) (w := w) vs H Q E h⟩)
  · first
    | (obtain ⟨_, rfl, _⟩ := h; rfl)
    | (obtain ⟨_, _, rfl, _⟩ := h; rfl)
    | (obtain ⟨_, _, _, rfl, _⟩ := h; rfl)
    | (obtain ⟨_, _, _, _, rfl, _⟩ := h; rfl)
    | (obtain ⟨_, _, _, _, _, rfl, _⟩ := h; rfl)
    | (obtain ⟨_, _, _, _, _, _, rfl, _⟩ := h; rfl)
    | (obtain ⟨_, _, _, _, _, _, _, rfl, _⟩ := h; rfl)
  · unfold rd_first_repeated
    exact (pss_cons (ps_set (i := 1) sc_first_repeated.nd rfl (Or.inl rfl) (pe_callTy0 cr_set0K (by rfl) T.b_set (by decide +kernel))) (pss_cons (ps_for PassesOwn.never rfl (pi_list (pv 0)) (pg_name (i := 2) sc_first_repeated.nd rfl (by first | exact .inl rfl | exact .inr rfl)) (pss_cons (ps_if (pt_cmpR or_sinK (pv 2) (pv 1) (by rfl)) (pss_one (ps_ret (pv 2))) pss_nil) (pss_one (ps_expr (pe_saddK (pv 1) (pa_cons (pv 2) pa_nil)))))) (pss_one (ps_ret pe_non))))
theorem ok_are_unlike (T : Txt K mg C) : FnOk P w K mg base CX0 3 T.d_are_unlike.f T.d_are_unlike.fd [("things" : Str)] (sp_are_unlike K C) := by
  have G_first_repeated := ok_first_repeated (P := P) (w := w) (mg := mg) (base := base) T
  refine T.d_are_unlike.fn.ok sc_are_unlike (fun vs H Q E h => ?_) (fun cdv A outer s H vs Q E hr h => ⟨rd_are_unlike K C E, ?_, pure_are_unlike vs H Q E h⟩)
  · first
    | (obtain ⟨_, rfl, _⟩ := h; rfl)
    | (obtain ⟨_, _, rfl, _⟩ := h; rfl)
    | (obtain ⟨_, _, _, rfl, _⟩ := h; rfl)
    | (obtain ⟨_, _, _, _, rfl, _⟩ := h; rfl)
    | (obtain ⟨_, _, _, _, _, rfl, _⟩ := h; rfl)
    | (obtain ⟨_, _, _, _, _, _, rfl, _⟩ := h; rfl)
    | (obtain ⟨_, _, _, _, _, _, _, rfl, _⟩ := h; rfl)
  · unfold rd_are_unlike
    exact (pss_one (ps_ret (pe_cmpR op_isNF (pe_callS G_first_repeated (hr.mono (by decide)) (by rfl) T.d_first_repeated.mg T.d_first_repeated.fn.kp T.d_first_repeated.bi pass0S (pa_cons (pv 0) pa_nil)) pe_non (nomark _))))
theorem ok_circuit_from (T : Txt K mg C) : FnOk P w K mg base CX0 2 T.d_circuit_from.f T.d_circuit_from.fd [("name" : Str), ("images" : Str)] (sp_circuit_from K C) := by
  refine T.d_circuit_from.fn.ok sc_circuit_from (fun vs H Q E h => ?_) (fun cdv A outer s H vs Q E hr h => ⟨rd_circuit_from K C E, ?_, pure_circuit_from vs H Q E h⟩)
  · first
    | (obtain ⟨_, rfl, _⟩ := h; rfl)
    | (obtain ⟨_, _, rfl, _⟩ := h; rfl)
    | (obtain ⟨_, _, _, rfl, _⟩ := h; rfl)
    | (obtain ⟨_, _, _, _, rfl, _⟩ := h; rfl)
    | (obtain ⟨_, _, _, _, _, rfl, _⟩ := h; rfl)
    | (obtain ⟨_, _, _, _, _, _, rfl, _⟩ := h; rfl)
    | (obtain ⟨_, _, _, _, _, _, _, rfl, _⟩ := h; rfl)
  · unfold rd_circuit_from
    exact (pss_cons (ps_set (i := 2) sc_circuit_from.nd rfl (Or.inl rfl) (pe_lst (pa_cons (pv 0) pa_nil))) (pss_cons (ps_while PassesOwn.never (pt_cmpR (op_neF hr.units) (pe_dget (lt_one hr.units) (pv 1) (pe_ix ix_F (pv 2) (pe_un un_negF pe_int) (fun _ _ => rfl)) (fun _ _ => rfl)) (pv 0) (nomark _)) (pss_one (ps_expr (pe_imp (pe_bm PySem.F.plainAttrs_list PySem.F.slot_list_append PySem.F.type_list_append m_append (pv 2) (pa_cons (pe_dget (lt_one hr.units) (pv 1) (pe_ix ix_F (pv 2) (pe_un un_negF pe_int) (fun _ _ => rfl)) (fun _ _ => rfl)) pa_nil)) bm_var)))) (pss_one (ps_ret (pe_callTy c_tuple (by rfl) T.b_tuple (by decide +kernel) (pa_cons (pv 2) pa_nil))))))
theorem ok_is_table (T : Txt K mg C) : FnOk P w K mg base CX0 5 T.d_is_table.f T.d_is_table.fd [("value" : Str)] (sp_is_table K C) := by
  have G_are_name_pairs := ok_are_name_pairs (P := P) (w := w) (mg := mg) (base := base) T
  have G_are_unlike := ok_are_unlike (P := P) (w := w) (mg := mg) (base := base) T
  refine T.d_is_table.fn.ok sc_is_table (fun vs H Q E h => ?_) (fun cdv A outer s H vs Q E hr h => ⟨rd_is_table K C E, ?_, pure_is_table vs H Q E h⟩)
  · first
    | (obtain ⟨_, rfl, _⟩ := h; rfl)
    | (obtain ⟨_, _, rfl, _⟩ := h; rfl)
    | (obtain ⟨_, _, _, rfl, _⟩ := h; rfl)
    | (obtain ⟨_, _, _, _, rfl, _⟩ := h; rfl)
    | (obtain ⟨_, _, _, _, _, rfl, _⟩ := h; rfl)
    | (obtain ⟨_, _, _, _, _, _, rfl, _⟩ := h; rfl)
    | (obtain ⟨_, _, _, _, _, _, _, rfl, _⟩ := h; rfl)
  · unfold rd_is_table
    exact (pss_cons (ps_if (PW.pt (pw_or (pt_not (pt_val (pe_callS G_are_name_pairs (hr.mono (by decide)) (by rfl) T.d_are_name_pairs.mg T.d_are_name_pairs.fn.kp T.d_are_name_pairs.bi pass0S (pa_cons (pv 0) pa_nil)))) (pw_or1 (pt_cmpR op_gtF (pe_callB c_len (by rfl) T.b_len (by decide +kernel) (pa_cons (pv 0) pa_nil)) (pe_glob (by rfl) T.c_MOST_PAIRS ⟨_, rfl⟩) (nomark _))))) (pss_one (ps_ret pe_bl)) pss_nil) (pss_cons (ps_setLc (i := 1) (own := [(("name" : Str), 2), (("_" : Str), 3)]) (g := (gTupF 2 (gCons (gName 2) (gCons (gName 3) gNil)))) rfl sc_is_table.nd rfl rfl (sw_true rfl rfl rfl (by decide +kernel)) (pi_seq (pi_list (pv 0)) (pi_tup (pv 0))) (blkOk_by (own := [(("name" : Str), 2), (("_" : Str), 3)]) (N := sN_is_table) (sc := defScope s_is_table) (by decide +kernel)) (fun _ _ _ _ _ => (pg_tupF (by rfl) (pgs_cons (pg_name (i := 2) sc_is_table.nd rfl (by first | exact .inl rfl | exact .inr rfl)) (pgs_cons (pg_name (i := 3) sc_is_table.nd rfl (by first | exact .inl rfl | exact .inr rfl)) pgs_nil)))) (fun _ _ _ _ _ => pts_nil) (fun _ _ _ _ _ => (pv 2))) (pss_one (ps_ret (pe_and (pe_callS G_are_unlike (hr.mono (by decide)) (by rfl) T.d_are_unlike.mg T.d_are_unlike.fn.kp T.d_are_unlike.bi pass0S (pa_cons (pv 1) pa_nil)) (pe_one (pe_cmpR (op_eqF hr.units) (pe_callB c_sortS (by rfl) T.b_sorted (by decide +kernel) (pa_cons (pv 1) pa_nil)) (pe_callB c_sortS (by rfl) T.b_sorted (by decide +kernel) (pa_cons (pe_lc (own := [(("_" : Str), 3), (("image" : Str), 4)]) (g := (gTupF 2 (gCons (gName 3) (gCons (gName 4) gNil)))) rfl sc_is_table.nd (pi_seq (pi_list (pv 0)) (pi_tup (pv 0))) (blkOk_by (own := [(("_" : Str), 3), (("image" : Str), 4)]) (N := sN_is_table) (sc := defScope s_is_table) (by decide +kernel)) (fun _ _ _ _ _ => (pg_tupF (by rfl) (pgs_cons (pg_name (i := 3) sc_is_table.nd rfl (by first | exact .inl rfl | exact .inr rfl)) (pgs_cons (pg_name (i := 4) sc_is_table.nd rfl (by first | exact .inl rfl | exact .inr rfl)) pgs_nil)))) (fun _ _ _ _ _ => pts_nil) (fun _ _ _ _ _ => (pv 4))) pa_nil)) (nomark _))))))))
theorem ok_circuits (T : Txt K mg C) : FnOk P w K mg base (L2N.CX P w) 6 T.d_circuits.f T.d_circuits.fd [("table" : Str)] (sp_circuits K C) := by
  have G_check := ok_check (P := P) (w := w) (mg := mg) (base := base) T
  have G_circuit_from := ok_circuit_from (P := P) (w := w) (mg := mg) (base := base) T
  have G_is_table := ok_is_table (P := P) (w := w) (mg := mg) (base := base) T
  refine okN T.d_circuits.fn sc_circuits (fun vs H Q E h => ?_) (fun cdv A outer s H vs Q E hr h => ⟨rd_circuits K C E, ?_, pure_circuits vs H Q E h⟩)
  · first
    | (obtain ⟨_, rfl, _⟩ := h; rfl)
    | (obtain ⟨_, _, rfl, _⟩ := h; rfl)
    | (obtain ⟨_, _, _, rfl, _⟩ := h; rfl)
    | (obtain ⟨_, _, _, _, rfl, _⟩ := h; rfl)
    | (obtain ⟨_, _, _, _, _, rfl, _⟩ := h; rfl)
    | (obtain ⟨_, _, _, _, _, _, rfl, _⟩ := h; rfl)
    | (obtain ⟨_, _, _, _, _, _, _, rfl, _⟩ := h; rfl)
  · unfold rd_circuits
    exact (pss_cons (ps_expr (pe_callS G_check (hr.mono (by decide)) (by rfl) T.d_check.mg T.d_check.fn.kp T.d_check.bi (fun σ => L2N.passAt (W := fun cls d _ H => E cls d H) (L2N.takes_of rfl rfl rfl rfl) σ) (pa_cons (pe_callS G_is_table (hr.mono (by decide)) (by rfl) T.d_is_table.mg T.d_is_table.fn.kp T.d_is_table.bi pass0S (pa_cons (pv 0) pa_nil)) (pa_cons pe_str pa_nil)))) (pss_cons (set_dict (n := 2) (own := [(("name" : Str), 1), (("image" : Str), 4)]) (g := (gTupF 2 (gCons (gName 1) (gCons (gName 4) gNil)))) rfl sc_circuits.nd rfl rfl (sw_dict rfl rfl rfl (by decide +kernel)) (pi_seq (pi_list (pv 0)) (pi_tup (pv 0))) (blkOk_by (own := [(("name" : Str), 1), (("image" : Str), 4)]) (N := sN_circuits) (sc := defScope s_circuits) (by decide +kernel)) (fun _ _ _ _ _ => (pg_tupF (by rfl) (pgs_cons (pg_name (i := 1) sc_circuits.nd rfl (by first | exact .inl rfl | exact .inr rfl)) (pgs_cons (pg_name (i := 4) sc_circuits.nd rfl (by first | exact .inl rfl | exact .inr rfl)) pgs_nil)))) (fun _ _ _ _ _ => pts_nil) (fun _ _ _ _ _ => (pv 1)) (fun _ _ _ _ _ => (pv 4))) (pss_cons (ps_set (i := 3) sc_circuits.nd rfl (Or.inl rfl) (pe_lst pa_nil)) (pss_cons (ps_for (passes_of rfl) rfl (pi_list (pe_callB (c_sortD rfl) (by rfl) T.b_sorted (by decide +kernel) (pa_cons (pv 2) pa_nil))) (pg_name (i := 1) sc_circuits.nd rfl (by first | exact .inl rfl | exact .inr rfl)) (pss_one (ps_if (pt_val (pe_callB (c_all rfl) (by rfl) T.b_all (by decide +kernel) (pa_cons (pe_lc (own := [(("row" : Str), 5)]) (g := (gName 5)) rfl sc_circuits.nd (pi_list (pv 3)) (blkOk_by (own := [(("row" : Str), 5)]) (N := sN_circuits) (sc := defScope s_circuits) (by decide +kernel)) (fun _ _ _ _ _ => (pg_name (i := 5) sc_circuits.nd rfl (by first | exact .inl rfl | exact .inr rfl))) (fun _ _ _ _ _ => pts_nil) (fun _ _ _ _ _ => (pe_cmpR op_ninF (pv 1) (pv 5) (by rfl)))) pa_nil))) (pss_one (ps_expr (pe_imp (pe_bm PySem.F.plainAttrs_list PySem.F.slot_list_append PySem.F.type_list_append m_append (pv 3) (pa_cons (pe_callS G_circuit_from (hr.mono (by decide)) (by rfl) T.d_circuit_from.mg T.d_circuit_from.fn.kp T.d_circuit_from.bi pass0S (pa_cons (pv 1) (pa_cons (pv 2) pa_nil))) pa_nil)) bm_var))) pss_nil))) (pss_one (ps_ret (pv 3)))))))
theorem ok_cost (T : Txt K mg C) : FnOk P w K mg base (L2N.CX P w) 7 T.d_cost.f T.d_cost.fd [("table" : Str)] (sp_cost K C) := by
  have G_circuits := ok_circuits (P := P) (w := w) (mg := mg) (base := base) T
  refine okN T.d_cost.fn sc_cost (fun vs H Q E h => ?_) (fun cdv A outer s H vs Q E hr h => ⟨rd_cost K C E, ?_, pure_cost vs H Q E h⟩)
  · first
    | (obtain ⟨_, rfl, _⟩ := h; rfl)
    | (obtain ⟨_, _, rfl, _⟩ := h; rfl)
    | (obtain ⟨_, _, _, rfl, _⟩ := h; rfl)
    | (obtain ⟨_, _, _, _, rfl, _⟩ := h; rfl)
    | (obtain ⟨_, _, _, _, _, rfl, _⟩ := h; rfl)
    | (obtain ⟨_, _, _, _, _, _, rfl, _⟩ := h; rfl)
    | (obtain ⟨_, _, _, _, _, _, _, rfl, _⟩ := h; rfl)
  · unfold rd_cost
    exact (pss_one (ps_ret (pe_callB (c_sum rfl) (by rfl) T.b_sum (by decide +kernel) (pa_cons (pe_lc (own := [(("row" : Str), 1)]) (g := (gName 1)) rfl sc_cost.nd (pi_list (pe_callS G_circuits (hr.mono (by decide)) (by rfl) T.d_circuits.mg T.d_circuits.fn.kp T.d_circuits.bi (fun σ => L2N.passAt (W := fun cls d _ H => E cls d H) (L2N.takes_of rfl rfl rfl rfl) σ) (pa_cons (pv 0) pa_nil))) (blkOk_by (own := [(("row" : Str), 1)]) (N := sN_cost) (sc := defScope s_cost) (by decide +kernel)) (fun _ _ _ _ _ => (pg_name (i := 1) sc_cost.nd rfl (by first | exact .inl rfl | exact .inr rfl))) (fun _ _ _ _ _ => pts_nil) (fun _ _ _ _ _ => (pe_op op_subF (pe_callB c_len (by rfl) T.b_len (by decide +kernel) (pa_cons (pv 1) pa_nil)) pe_int))) pa_nil))))
theorem ok_exchanges (T : Txt K mg C) : FnOk P w K mg base (L2N.CX P w) 6 T.d_exchanges.f T.d_exchanges.fd [("table" : Str)] (sp_exchanges K C) := by
  have G_check := ok_check (P := P) (w := w) (mg := mg) (base := base) T
  have G_is_table := ok_is_table (P := P) (w := w) (mg := mg) (base := base) T
  refine okN T.d_exchanges.fn sc_exchanges (fun vs H Q E h => ?_) (fun cdv A outer s H vs Q E hr h => ⟨rd_exchanges K C E, ?_, pure_exchanges vs H Q E h⟩)
  · first
    | (obtain ⟨_, rfl, _⟩ := h; rfl)
    | (obtain ⟨_, _, rfl, _⟩ := h; rfl)
    | (obtain ⟨_, _, _, rfl, _⟩ := h; rfl)
    | (obtain ⟨_, _, _, _, rfl, _⟩ := h; rfl)
    | (obtain ⟨_, _, _, _, _, rfl, _⟩ := h; rfl)
    | (obtain ⟨_, _, _, _, _, _, rfl, _⟩ := h; rfl)
    | (obtain ⟨_, _, _, _, _, _, _, rfl, _⟩ := h; rfl)
  · unfold rd_exchanges
    exact (pss_cons (ps_expr (pe_callS G_check (hr.mono (by decide)) (by rfl) T.d_check.mg T.d_check.fn.kp T.d_check.bi (fun σ => L2N.passAt (W := fun cls d _ H => E cls d H) (L2N.takes_of rfl rfl rfl rfl) σ) (pa_cons (pe_callS G_is_table (hr.mono (by decide)) (by rfl) T.d_is_table.mg T.d_is_table.fn.kp T.d_is_table.bi pass0S (pa_cons (pv 0) pa_nil)) (pa_cons pe_str pa_nil)))) (pss_cons (set_dict (n := 3) (own := [(("name" : Str), 1), (("image" : Str), 2)]) (g := (gTupF 2 (gCons (gName 1) (gCons (gName 2) gNil)))) rfl sc_exchanges.nd rfl rfl (sw_dict rfl rfl rfl (by decide +kernel)) (pi_seq (pi_list (pv 0)) (pi_tup (pv 0))) (blkOk_by (own := [(("name" : Str), 1), (("image" : Str), 2)]) (N := sN_exchanges) (sc := defScope s_exchanges) (by decide +kernel)) (fun _ _ _ _ _ => (pg_tupF (by rfl) (pgs_cons (pg_name (i := 1) sc_exchanges.nd rfl (by first | exact .inl rfl | exact .inr rfl)) (pgs_cons (pg_name (i := 2) sc_exchanges.nd rfl (by first | exact .inl rfl | exact .inr rfl)) pgs_nil)))) (fun _ _ _ _ _ => pts_nil) (fun _ _ _ _ _ => (pv 1)) (fun _ _ _ _ _ => (pv 2))) (pss_cons (ps_lock (ps_set (i := 4) sc_exchanges.nd rfl (Or.inr rfl) (pe_dc (own := [(("name" : Str), 1)]) (g := (gName 1)) rfl sc_exchanges.nd (pi_keys (pv 3)) (blkOk_by (own := [(("name" : Str), 1)]) (N := sN_exchanges) (sc := defScope s_exchanges) (by decide +kernel)) (fun _ _ _ _ _ => (pg_name (i := 1) sc_exchanges.nd rfl (by first | exact .inl rfl | exact .inr rfl))) (fun _ _ _ _ _ => pts_nil) (fun _ _ _ _ _ => (pv 1)) (fun _ _ _ _ _ => (pv 1))))) (pss_cons (ps_set (i := 5) sc_exchanges.nd rfl (Or.inl rfl) (pe_lst pa_nil)) (pss_cons (ps_for (passes_of rfl) rfl (pi_list (pe_callB (c_sortD rfl) (by rfl) T.b_sorted (by decide +kernel) (pa_cons (pv 3) pa_nil))) (pg_name (i := 1) sc_exchanges.nd rfl (by first | exact .inl rfl | exact .inr rfl)) (pss_cons (ps_set (i := 2) sc_exchanges.nd rfl (Or.inr rfl) (pe_dget (lt_one hr.units) (pv 3) (pv 1) (fun _ _ => rfl))) (pss_one (ps_if (pt_cmpR (op_neF hr.units) (pe_dget (lt_one hr.units) (pv 4) (pv 1) (fun _ _ => rfl)) (pv 2) (nomark _)) (pss_cons (ps_set (i := 6) sc_exchanges.nd rfl (Or.inl rfl) (pe_ix ix_F (pe_lock (pe_lc (own := [(("holder" : Str), 7)]) (g := (gName 7)) rfl sc_exchanges.nd (pi_keys (pv 4)) (blkOk_by (own := [(("holder" : Str), 7)]) (N := sN_exchanges) (sc := defScope s_exchanges) (by decide +kernel)) (fun _ _ _ _ _ => (pg_name (i := 7) sc_exchanges.nd rfl (by first | exact .inl rfl | exact .inr rfl))) (fun _ _ _ _ _ => (pts_one (pt_cmpR (op_eqF hr.units) (pe_dget (lt_one hr.units) (pv 4) (pv 7) (fun _ _ => rfl)) (pv 2) (nomark _)))) (fun _ _ _ _ _ => (pv 7)))) pe_int (fun _ _ => rfl))) (pss_cons (ps_dput (lt_one hr.units) (pv 4) (pv 6) (pe_dget (lt_one hr.units) (pv 4) (pv 1) (fun _ _ => rfl)) rfl) (pss_cons (ps_dput (lt_one hr.units) (pv 4) (pv 1) (pv 2) rfl) (pss_one (ps_expr (pe_imp (pe_bm PySem.F.plainAttrs_list PySem.F.slot_list_append PySem.F.type_list_append m_append (pv 5) (pa_cons (pe_tup (pa_cons (pv 1) (pa_cons (pv 6) pa_nil))) pa_nil)) bm_var)))))) pss_nil)))) (pss_one (ps_ret (pv 5))))))))
theorem ok_l_mixed (T : Txt K mg C) : FnOk P w K mg base CX0 2 T.d_l_mixed.f T.d_l_mixed.fd [("cell" : Str), ("k" : Str)] (sp_l_mixed K C) := by
  refine T.d_l_mixed.fn.ok sc_l_mixed (fun vs H Q E h => ?_) (fun cdv A outer s H vs Q E hr h => ⟨rd_l_mixed K C E, ?_, pure_l_mixed vs H Q E h⟩)
  · first
    | (obtain ⟨_, rfl, _⟩ := h; rfl)
    | (obtain ⟨_, _, rfl, _⟩ := h; rfl)
    | (obtain ⟨_, _, _, rfl, _⟩ := h; rfl)
    | (obtain ⟨_, _, _, _, rfl, _⟩ := h; rfl)
    | (obtain ⟨_, _, _, _, _, rfl, _⟩ := h; rfl)
    | (obtain ⟨_, _, _, _, _, _, rfl, _⟩ := h; rfl)
    | (obtain ⟨_, _, _, _, _, _, _, rfl, _⟩ := h; rfl)
  · unfold rd_l_mixed
    exact (pss_cons (ps_set (i := 2) sc_l_mixed.nd rfl (Or.inl rfl) (pe_op op_modF (pe_callTy c_int (by rfl) T.b_int (by decide +kernel) (pa_cons (pe_op op_addF (pe_op op_addF (pe_op op_mulF (pe_callTy c_int (by rfl) T.b_int (by decide +kernel) (pa_cons (pv 0) pa_nil)) pe_int) (pe_op op_mulF (pv 1) pe_int)) pe_int) pa_nil)) pe_int)) (pss_cons (ps_set (i := 3) sc_l_mixed.nd rfl (Or.inl rfl) (pe_op op_modF (pe_callTy c_int (by rfl) T.b_int (by decide +kernel) (pa_cons (pe_op op_addF (pe_op op_addF (pe_op op_mulF (pv 2) (pv 2)) (pe_op op_mulF (pv 1) pe_int)) pe_int) pa_nil)) pe_int)) (pss_one (ps_ret (pe_op op_modF (pe_callTy c_int (by rfl) T.b_int (by decide +kernel) (pa_cons (pe_op op_addF (pe_op op_mulF (pv 3) (pv 3)) (pv 2)) pa_nil)) pe_int)))))
theorem ok_l_store (T : Txt K mg C) : FnOk P w K mg base CX0 3 T.d_l_store.f T.d_l_store.fd [("script" : Str)] (sp_l_store K C) := by
  have G_l_mixed := ok_l_mixed (P := P) (w := w) (mg := mg) (base := base) T
  refine T.d_l_store.fn.ok sc_l_store (fun vs H Q E h => ?_) (fun cdv A outer s H vs Q E hr h => ⟨rd_l_store K C E, ?_, pure_l_store vs H Q E h⟩)
  · first
    | (obtain ⟨_, rfl, _⟩ := h; rfl)
    | (obtain ⟨_, _, rfl, _⟩ := h; rfl)
    | (obtain ⟨_, _, _, rfl, _⟩ := h; rfl)
    | (obtain ⟨_, _, _, _, rfl, _⟩ := h; rfl)
    | (obtain ⟨_, _, _, _, _, rfl, _⟩ := h; rfl)
    | (obtain ⟨_, _, _, _, _, _, rfl, _⟩ := h; rfl)
    | (obtain ⟨_, _, _, _, _, _, _, rfl, _⟩ := h; rfl)
  · unfold rd_l_store
    exact (pss_cons (ps_setLc (i := 2) (own := [(("cell" : Str), 1)]) (g := (gName 1)) rfl sc_l_store.nd rfl rfl (sw_true rfl rfl rfl (by decide +kernel)) (pi_list (pv 0)) (blkOk_by (own := [(("cell" : Str), 1)]) (N := sN_l_store) (sc := defScope s_l_store) (by decide +kernel)) (fun _ _ _ _ _ => (pg_name (i := 1) sc_l_store.nd rfl (by first | exact .inl rfl | exact .inr rfl))) (fun _ _ _ _ _ => pts_nil) (fun _ _ _ _ _ => (pe_callTy c_int (by rfl) T.b_int (by decide +kernel) (pa_cons (pv 1) pa_nil)))) (pss_cons (ps_set (i := 3) sc_l_store.nd rfl (Or.inl rfl) pe_int) (pss_cons (ps_for PassesOwn.never rfl (pi_list (pv 2)) (pg_name (i := 1) sc_l_store.nd rfl (by first | exact .inl rfl | exact .inr rfl)) (pss_one (ps_set (i := 3) sc_l_store.nd rfl (Or.inl rfl) (pe_callS G_l_mixed (hr.mono (by decide)) (by rfl) T.d_l_mixed.mg T.d_l_mixed.fn.kp T.d_l_mixed.bi pass0S (pa_cons (pe_op op_addF (pe_callTy c_int (by rfl) T.b_int (by decide +kernel) (pa_cons (pv 1) pa_nil)) (pv 3)) (pa_cons (pe_callB c_len (by rfl) T.b_len (by decide +kernel) (pa_cons (pv 2) pa_nil)) pa_nil)))))) (pss_one (ps_ret (pe_lst (pa_cons (pv 2) (pa_cons pe_int (pa_cons pe_int (pa_cons pe_int (pa_cons (pv 3) pa_nil)))))))))))
theorem ok_l_take (T : Txt K mg C) : FnOk P w K mg base CX0 3 T.d_l_take.f T.d_l_take.fd [("store" : Str), ("many" : Str)] (sp_l_take K C) := by
  have G_l_mixed := ok_l_mixed (P := P) (w := w) (mg := mg) (base := base) T
  refine T.d_l_take.fn.ok sc_l_take (fun vs H Q E h => ?_) (fun cdv A outer s H vs Q E hr h => ⟨rd_l_take K C E, ?_, pure_l_take vs H Q E h⟩)
  · first
    | (obtain ⟨_, rfl, _⟩ := h; rfl)
    | (obtain ⟨_, _, rfl, _⟩ := h; rfl)
    | (obtain ⟨_, _, _, rfl, _⟩ := h; rfl)
    | (obtain ⟨_, _, _, _, rfl, _⟩ := h; rfl)
    | (obtain ⟨_, _, _, _, _, rfl, _⟩ := h; rfl)
    | (obtain ⟨_, _, _, _, _, _, rfl, _⟩ := h; rfl)
    | (obtain ⟨_, _, _, _, _, _, _, rfl, _⟩ := h; rfl)
  · unfold rd_l_take
    exact (pss_cons (ps_set (i := 2) sc_l_take.nd rfl (Or.inl rfl) (pe_callB (c_max rfl) (by rfl) T.b_max (by decide +kernel) (pa_cons pe_int (pa_cons (pv 1) pa_nil)))) (pss_cons (ps_asg (pe_op op_addF (pe_ix ix_F (pv 0) pe_int (fun _ _ => rfl)) pe_int) (pg_sub (pv 0) pe_int set_F)) (Evl.pss_cut (ps_if (PW.pt (pw_and (pt_cmpR (op_eqF hr.units) (pe_ix ix_F (pv 0) pe_int (fun _ _ => rfl)) pe_int (nomark _)) (pw_and1 (pt_cmpR op_ltF (pe_ix ix_F (pv 0) pe_int (fun _ _ => rfl)) (pe_callB c_len (by rfl) T.b_len (by decide +kernel) (pa_cons (pe_ix ix_F (pv 0) pe_int (fun _ _ => rfl)) pa_nil)) (nomark _))))) (pss_cons (ps_set (i := 3) sc_l_take.nd rfl (Or.inl rfl) (pe_callTy c_int (by rfl) T.b_int (by decide +kernel) (pa_cons (pe_ix ix_F (pe_ix ix_F (pv 0) pe_int (fun _ _ => rfl)) (pe_ix ix_F (pv 0) pe_int (fun _ _ => rfl)) (fun _ _ => rfl)) pa_nil))) (pss_cons (ps_asg (pe_op op_addF (pe_ix ix_F (pv 0) pe_int (fun _ _ => rfl)) pe_int) (pg_sub (pv 0) pe_int set_F)) (pss_cons (ps_if (pt_cmpR op_ltF (pv 3) (pe_op op_powF pe_int pe_int) (nomark _)) (pss_one (ps_ret (pe_op op_modF (pe_callTy c_int (by rfl) T.b_int (by decide +kernel) (pa_cons (pe_callS G_l_mixed (hr.mono (by decide)) (by rfl) T.d_l_mixed.mg T.d_l_mixed.fn.kp T.d_l_mixed.bi pass0S (pa_cons (pv 3) (pa_cons (pe_ix ix_F (pv 0) pe_int (fun _ _ => rfl)) pa_nil))) pa_nil)) (pv 2)))) pss_nil) (pss_one (ps_asg (pv 3) (pg_sub (pv 0) pe_int set_F)))))) pss_nil) (pss_cons (ps_if (pt_cmpR (op_eqF hr.units) (pe_ix ix_F (pv 0) pe_int (fun _ _ => rfl)) pe_int (nomark _)) (pss_one (ps_ret (pe_op op_modF (pe_callTy c_int (by rfl) T.b_int (by decide +kernel) (pa_cons (pe_callS G_l_mixed (hr.mono (by decide)) (by rfl) T.d_l_mixed.mg T.d_l_mixed.fn.kp T.d_l_mixed.bi pass0S (pa_cons (pe_ix ix_F (pv 0) pe_int (fun _ _ => rfl)) (pa_cons (pe_ix ix_F (pv 0) pe_int (fun _ _ => rfl)) pa_nil))) pa_nil)) (pv 2)))) pss_nil) (pss_cons (ps_set (i := 4) sc_l_take.nd rfl (Or.inl rfl) (pe_op op_modF (pe_callTy c_int (by rfl) T.b_int (by decide +kernel) (pa_cons (pe_ix ix_F (pv 0) pe_int (fun _ _ => rfl)) pa_nil)) (pv 2))) (pss_cons (ps_asg (pe_op op_divF (pe_callTy c_int (by rfl) T.b_int (by decide +kernel) (pa_cons (pe_ix ix_F (pv 0) pe_int (fun _ _ => rfl)) pa_nil)) (pv 2)) (pg_sub (pv 0) pe_int set_F)) (pss_one (ps_ret (pv 4)))))))))
theorem ok_l_great (T : Txt K mg C) : FnOk P w K mg base CX0 4 T.d_l_great.f T.d_l_great.fd [("store" : Str), ("many" : Str)] (sp_l_great K C) := by
  have G_l_take := ok_l_take (P := P) (w := w) (mg := mg) (base := base) T
  refine T.d_l_great.fn.ok sc_l_great (fun vs H Q E h => ?_) (fun cdv A outer s H vs Q E hr h => ⟨rd_l_great K C E, ?_, pure_l_great vs H Q E h⟩)
  · first
    | (obtain ⟨_, rfl, _⟩ := h; rfl)
    | (obtain ⟨_, _, rfl, _⟩ := h; rfl)
    | (obtain ⟨_, _, _, rfl, _⟩ := h; rfl)
    | (obtain ⟨_, _, _, _, rfl, _⟩ := h; rfl)
    | (obtain ⟨_, _, _, _, _, rfl, _⟩ := h; rfl)
    | (obtain ⟨_, _, _, _, _, _, rfl, _⟩ := h; rfl)
    | (obtain ⟨_, _, _, _, _, _, _, rfl, _⟩ := h; rfl)
  · unfold rd_l_great
    exact (pss_cons (ps_set (i := 2) sc_l_great.nd rfl (Or.inl rfl) pe_int) (pss_cons (ps_for PassesOwn.never rfl (pi_range1 (by rfl) T.b_range (pa_cons pe_int pa_nil)) (pg_name (i := 3) sc_l_great.nd rfl (by first | exact .inl rfl | exact .inr rfl)) (pss_one (ps_set (i := 2) sc_l_great.nd rfl (Or.inl rfl) (pe_op op_addF (pe_op op_mulF (pv 2) pe_int) (pe_callS G_l_take (hr.mono (by decide)) (by rfl) T.d_l_take.mg T.d_l_take.fn.kp T.d_l_take.bi pass0S (pa_cons (pv 0) (pa_cons pe_int pa_nil))))))) (pss_one (ps_ret (pe_op op_modF (pe_callTy c_int (by rfl) T.b_int (by decide +kernel) (pa_cons (pv 2) pa_nil)) (pe_callB (c_max rfl) (by rfl) T.b_max (by decide +kernel) (pa_cons pe_int (pa_cons (pv 1) pa_nil))))))))
theorem ok_l_edge (T : Txt K mg C) : FnOk P w K mg base CX0 5 T.d_l_edge.f T.d_l_edge.fd [("store" : Str), ("low" : Str), ("high" : Str)] (sp_l_edge K C) := by
  have G_l_great := ok_l_great (P := P) (w := w) (mg := mg) (base := base) T
  have G_l_take := ok_l_take (P := P) (w := w) (mg := mg) (base := base) T
  refine T.d_l_edge.fn.ok sc_l_edge (fun vs H Q E h => ?_) (fun cdv A outer s H vs Q E hr h => ⟨rd_l_edge K C E, ?_, pure_l_edge vs H Q E h⟩)
  · first
    | (obtain ⟨_, rfl, _⟩ := h; rfl)
    | (obtain ⟨_, _, rfl, _⟩ := h; rfl)
    | (obtain ⟨_, _, _, rfl, _⟩ := h; rfl)
    | (obtain ⟨_, _, _, _, rfl, _⟩ := h; rfl)
    | (obtain ⟨_, _, _, _, _, rfl, _⟩ := h; rfl)
    | (obtain ⟨_, _, _, _, _, _, rfl, _⟩ := h; rfl)
    | (obtain ⟨_, _, _, _, _, _, _, rfl, _⟩ := h; rfl)
  · unfold rd_l_edge
    exact (pss_cons (ps_if (pt_cmpR op_leF (pv 2) (pv 1) (nomark _)) (pss_one (ps_ret (pv 1))) pss_nil) (pss_cons (ps_set (i := 3) sc_l_edge.nd rfl (Or.inl rfl) (pe_callS G_l_take (hr.mono (by decide)) (by rfl) T.d_l_take.mg T.d_l_take.fn.kp T.d_l_take.bi pass0S (pa_cons (pv 0) (pa_cons pe_int pa_nil)))) (pss_cons (ps_if (pt_cmpR (op_eqF hr.units) (pv 3) pe_int (nomark _)) (pss_one (ps_ret (pv 1))) pss_nil) (pss_cons (ps_if (pt_cmpR (op_eqF hr.units) (pv 3) pe_int (nomark _)) (pss_one (ps_ret (pv 2))) pss_nil) (pss_cons (ps_if (pt_cmpR op_ltF (pe_op op_subF (pv 2) (pv 1)) pe_int (nomark _)) (pss_one (ps_ret (pe_op op_addF (pv 1) (pe_callS G_l_take (hr.mono (by decide)) (by rfl) T.d_l_take.mg T.d_l_take.fn.kp T.d_l_take.bi pass0S (pa_cons (pv 0) (pa_cons (pe_op op_addF (pe_op op_subF (pv 2) (pv 1)) pe_int) pa_nil)))))) pss_nil) (pss_one (ps_ret (pe_op op_addF (pv 1) (pe_callS G_l_great (hr.mono (by decide)) (by rfl) T.d_l_great.mg T.d_l_great.fn.kp T.d_l_great.bi pass0S (pa_cons (pv 0) (pa_cons (pe_op op_addF (pe_op op_subF (pv 2) (pv 1)) pe_int) pa_nil)))))))))))
theorem ok_l_pick (T : Txt K mg C) : FnOk P w K mg base CX0 4 T.d_l_pick.f T.d_l_pick.fd [("store" : Str), ("row" : Str)] (sp_l_pick K C) := by
  have G_l_take := ok_l_take (P := P) (w := w) (mg := mg) (base := base) T
  refine T.d_l_pick.fn.ok sc_l_pick (fun vs H Q E h => ?_) (fun cdv A outer s H vs Q E hr h => ⟨rd_l_pick K C E, ?_, pure_l_pick vs H Q E h⟩)
  · first
    | (obtain ⟨_, rfl, _⟩ := h; rfl)
    | (obtain ⟨_, _, rfl, _⟩ := h; rfl)
    | (obtain ⟨_, _, _, rfl, _⟩ := h; rfl)
    | (obtain ⟨_, _, _, _, rfl, _⟩ := h; rfl)
    | (obtain ⟨_, _, _, _, _, rfl, _⟩ := h; rfl)
    | (obtain ⟨_, _, _, _, _, _, rfl, _⟩ := h; rfl)
    | (obtain ⟨_, _, _, _, _, _, _, rfl, _⟩ := h; rfl)
  · unfold rd_l_pick
    exact (pss_cons (ps_if (pt_cmpR (op_eqF hr.units) (pe_callB c_len (by rfl) T.b_len (by decide +kernel) (pa_cons (pv 1) pa_nil)) pe_int (nomark _)) (pss_one (ps_ret pe_non)) pss_nil) (pss_one (ps_ret (pe_ix ix_F (pv 1) (pe_callS G_l_take (hr.mono (by decide)) (by rfl) T.d_l_take.mg T.d_l_take.fn.kp T.d_l_take.bi pass0S (pa_cons (pv 0) (pa_cons (pe_callB c_len (by rfl) T.b_len (by decide +kernel) (pa_cons (pv 1) pa_nil)) pa_nil))) (fun _ _ => rfl)))))
theorem ok_l_some (T : Txt K mg C) : FnOk P w K mg base CX0 4 T.d_l_some.f T.d_l_some.fd [("store" : Str), ("row" : Str), ("many" : Str)] (sp_l_some K C) := by
  have G_l_take := ok_l_take (P := P) (w := w) (mg := mg) (base := base) T
  refine T.d_l_some.fn.ok sc_l_some (fun vs H Q E h => ?_) (fun cdv A outer s H vs Q E hr h => ⟨rd_l_some K C E, ?_, pure_l_some vs H Q E h⟩)
  · first
    | (obtain ⟨_, rfl, _⟩ := h; rfl)
    | (obtain ⟨_, _, rfl, _⟩ := h; rfl)
    | (obtain ⟨_, _, _, rfl, _⟩ := h; rfl)
    | (obtain ⟨_, _, _, _, rfl, _⟩ := h; rfl)
    | (obtain ⟨_, _, _, _, _, rfl, _⟩ := h; rfl)
    | (obtain ⟨_, _, _, _, _, _, rfl, _⟩ := h; rfl)
    | (obtain ⟨_, _, _, _, _, _, _, rfl, _⟩ := h; rfl)
  · unfold rd_l_some
    exact (pss_cons (ps_set (i := 3) sc_l_some.nd rfl (Or.inl rfl) (pe_callTy c_list (by rfl) T.b_list (by decide +kernel) (pa_cons (pv 1) pa_nil))) (pss_cons (ps_set (i := 4) sc_l_some.nd rfl (Or.inl rfl) (pe_lst pa_nil)) (pss_cons (ps_for PassesOwn.never rfl (pi_range1 (by rfl) T.b_range (pa_cons (pe_callB (c_min rfl) (by rfl) T.b_min (by decide +kernel) (pa_cons (pv 2) (pa_cons (pe_callB c_len (by rfl) T.b_len (by decide +kernel) (pa_cons (pv 1) pa_nil)) pa_nil))) pa_nil)) (pg_name (i := 5) sc_l_some.nd rfl (by first | exact .inl rfl | exact .inr rfl)) (pss_cons (ps_set (i := 6) sc_l_some.nd rfl (Or.inl rfl) (pe_callS G_l_take (hr.mono (by decide)) (by rfl) T.d_l_take.mg T.d_l_take.fn.kp T.d_l_take.bi pass0S (pa_cons (pv 0) (pa_cons (pe_callB c_len (by rfl) T.b_len (by decide +kernel) (pa_cons (pv 3) pa_nil)) pa_nil)))) (pss_cons (ps_expr (pe_imp (pe_bm PySem.F.plainAttrs_list PySem.F.slot_list_append PySem.F.type_list_append m_append (pv 4) (pa_cons (pe_ix ix_F (pv 3) (pv 6) (fun _ _ => rfl)) pa_nil)) bm_var)) (pss_one (ps_set (i := 3) sc_l_some.nd rfl (Or.inl rfl) (pe_op op_addF (pe_slice sl_F2 (pv 3) po_none (po_some (pv 6))) (pe_slice sl_F2 (pv 3) (po_some (pe_op op_addF (pv 6) pe_int)) po_none))))))) (pss_one (ps_ret (pv 4))))))
theorem ok_l_turned (T : Txt K mg C) : FnOk P w K mg base CX0 5 T.d_l_turned.f T.d_l_turned.fd [("store" : Str), ("row" : Str)] (sp_l_turned K C) := by
  have G_l_some := ok_l_some (P := P) (w := w) (mg := mg) (base := base) T
  refine T.d_l_turned.fn.ok sc_l_turned (fun vs H Q E h => ?_) (fun cdv A outer s H vs Q E hr h => ⟨rd_l_turned K C E, ?_, pure_l_turned vs H Q E h⟩)
  · first
    | (obtain ⟨_, rfl, _⟩ := h; rfl)
    | (obtain ⟨_, _, rfl, _⟩ := h; rfl)
    | (obtain ⟨_, _, _, rfl, _⟩ := h; rfl)
    | (obtain ⟨_, _, _, _, rfl, _⟩ := h; rfl)
    | (obtain ⟨_, _, _, _, _, rfl, _⟩ := h; rfl)
    | (obtain ⟨_, _, _, _, _, _, rfl, _⟩ := h; rfl)
    | (obtain ⟨_, _, _, _, _, _, _, rfl, _⟩ := h; rfl)
  · unfold rd_l_turned
    exact (pss_one (ps_ret (pe_callS G_l_some (hr.mono (by decide)) (by rfl) T.d_l_some.mg T.d_l_some.fn.kp T.d_l_some.bi pass0S (pa_cons (pv 0) (pa_cons (pv 1) (pa_cons (pe_callB c_len (by rfl) T.b_len (by decide +kernel) (pa_cons (pv 1) pa_nil)) pa_nil))))))
theorem ok_l_word (T : Txt K mg C) : FnOk P w K mg base CX0 4 T.d_l_word.f T.d_l_word.fd [("store" : Str), ("size" : Str)] (sp_l_word K C) := by
  have G_l_take := ok_l_take (P := P) (w := w) (mg := mg) (base := base) T
  refine T.d_l_word.fn.ok sc_l_word (fun vs H Q E h => ?_) (fun cdv A outer s H vs Q E hr h => ⟨rd_l_word K C E, ?_, pure_l_word vs H Q E h⟩)
  · first
    | (obtain ⟨_, rfl, _⟩ := h; rfl)
    | (obtain ⟨_, _, rfl, _⟩ := h; rfl)
    | (obtain ⟨_, _, _, rfl, _⟩ := h; rfl)
    | (obtain ⟨_, _, _, _, rfl, _⟩ := h; rfl)
    | (obtain ⟨_, _, _, _, _, rfl, _⟩ := h; rfl)
    | (obtain ⟨_, _, _, _, _, _, rfl, _⟩ := h; rfl)
    | (obtain ⟨_, _, _, _, _, _, _, rfl, _⟩ := h; rfl)
  · unfold rd_l_word
    exact (pss_cons (ps_set (i := 2) sc_l_word.nd rfl (Or.inl rfl) pe_str) (pss_cons (ps_set (i := 3) sc_l_word.nd rfl (Or.inl rfl) (pe_op op_addF (pv 2) pe_str)) (pss_cons (ps_set (i := 4) sc_l_word.nd rfl (Or.inl rfl) (pe_ix ix_F (pv 2) (pe_callS G_l_take (hr.mono (by decide)) (by rfl) T.d_l_take.mg T.d_l_take.fn.kp T.d_l_take.bi pass0S (pa_cons (pv 0) (pa_cons pe_int pa_nil))) (fun _ _ => rfl))) (pss_cons (ps_for PassesOwn.never rfl (pi_range1 (by rfl) T.b_range (pa_cons (pe_callB (c_min rfl) (by rfl) T.b_min (by decide +kernel) (pa_cons pe_int (pa_cons (pe_op op_subF (pv 1) pe_int) pa_nil))) pa_nil)) (pg_name (i := 5) sc_l_word.nd rfl (by first | exact .inl rfl | exact .inr rfl)) (pss_one (ps_set (i := 4) sc_l_word.nd rfl (Or.inl rfl) (pe_op op_addF (pv 4) (pe_ix ix_F (pv 3) (pe_callS G_l_take (hr.mono (by decide)) (by rfl) T.d_l_take.mg T.d_l_take.fn.kp T.d_l_take.bi pass0S (pa_cons (pv 0) (pa_cons pe_int pa_nil))) (fun _ _ => rfl)))))) (pss_one (ps_ret (pv 4)))))))
theorem ok_l_names (T : Txt K mg C) : FnOk P w K mg base CX0 6 T.d_l_names.f T.d_l_names.fd [("store" : Str), ("many" : Str)] (sp_l_names K C) := by
  have G_l_some := ok_l_some (P := P) (w := w) (mg := mg) (base := base) T
  have G_l_take := ok_l_take (P := P) (w := w) (mg := mg) (base := base) T
  have G_l_turned := ok_l_turned (P := P) (w := w) (mg := mg) (base := base) T
  have G_l_word := ok_l_word (P := P) (w := w) (mg := mg) (base := base) T
  refine T.d_l_names.fn.ok sc_l_names (fun vs H Q E h => ?_) (fun cdv A outer s H vs Q E hr h => ⟨rd_l_names K C E, ?_, pure_l_names vs H Q E h⟩)
  · first
    | (obtain ⟨_, rfl, _⟩ := h; rfl)
    | (obtain ⟨_, _, rfl, _⟩ := h; rfl)
    | (obtain ⟨_, _, _, rfl, _⟩ := h; rfl)
    | (obtain ⟨_, _, _, _, rfl, _⟩ := h; rfl)
    | (obtain ⟨_, _, _, _, _, rfl, _⟩ := h; rfl)
    | (obtain ⟨_, _, _, _, _, _, rfl, _⟩ := h; rfl)
    | (obtain ⟨_, _, _, _, _, _, _, rfl, _⟩ := h; rfl)
  · unfold rd_l_names
    exact (pss_cons (ps_set (i := 2) sc_l_names.nd rfl (Or.inl rfl) pe_str) (pss_cons (ps_set (i := 3) sc_l_names.nd rfl (Or.inl rfl) (pe_callS G_l_take (hr.mono (by decide)) (by rfl) T.d_l_take.mg T.d_l_take.fn.kp T.d_l_take.bi pass0S (pa_cons (pv 0) (pa_cons pe_int pa_nil)))) (Evl.pss_cut (ps_if (PW.pt (pw_and (pt_cmpR (op_eqF hr.units) (pv 3) pe_int (nomark _)) (pw_and1 (pt_cmpR op_leF (pv 1) pe_int (nomark _))))) (pss_cons (ps_set (i := 4) sc_l_names.nd rfl (Or.inr rfl) (pe_callS G_l_word (hr.mono (by decide)) (by rfl) T.d_l_word.mg T.d_l_word.fn.kp T.d_l_word.bi pass0S (pa_cons (pv 0) (pa_cons pe_int pa_nil)))) (pss_one (ps_ret (pe_callS G_l_turned (hr.mono (by decide)) (by rfl) T.d_l_turned.mg T.d_l_turned.fn.kp T.d_l_turned.bi pass0S (pa_cons (pv 0) (pa_cons (pe_lc (own := [(("k" : Str), 5)]) (g := (gName 5)) rfl sc_l_names.nd (pi_range1 (by rfl) T.b_range (pa_cons (pv 1) pa_nil)) (blkOk_by (own := [(("k" : Str), 5)]) (N := sN_l_names) (sc := defScope s_l_names) (by decide +kernel)) (fun _ _ _ _ _ => (pg_name (i := 5) sc_l_names.nd rfl (by first | exact .inl rfl | exact .inr rfl))) (fun _ _ _ _ _ => pts_nil) (fun _ _ _ _ _ => (pe_slice sl_F2 (pv 4) po_none (po_some (pe_op op_addF (pv 5) pe_int))))) pa_nil)))))) pss_nil) (pss_cons (ps_if (pt_cmpR (op_eqF hr.units) (pv 3) pe_int (nomark _)) (pss_cons (ps_set (i := 6) sc_l_names.nd rfl (Or.inl rfl) (pe_lst (pa_cons pe_str (pa_cons pe_str (pa_cons pe_str (pa_cons pe_str (pa_cons pe_str (pa_cons pe_str (pa_cons pe_str (pa_cons pe_str (pa_cons pe_str (pa_cons pe_str (pa_cons pe_str (pa_cons pe_str pa_nil)))))))))))))) (pss_one (ps_ret (pe_callS G_l_some (hr.mono (by decide)) (by rfl) T.d_l_some.mg T.d_l_some.fn.kp T.d_l_some.bi pass0S (pa_cons (pv 0) (pa_cons (pe_op op_addF (pv 6) (pe_lst (pa_cons pe_str (pa_cons pe_str (pa_cons pe_str (pa_cons pe_str pa_nil)))))) (pa_cons (pv 1) pa_nil))))))) pss_nil) (pss_cons (ps_if (pt_cmpR (op_eqF hr.units) (pv 3) pe_int (nomark _)) (pss_cons (ps_set (i := 6) sc_l_names.nd rfl (Or.inl rfl) (pe_lst (pa_cons pe_str (pa_cons pe_str (pa_cons pe_str (pa_cons pe_str (pa_cons pe_str (pa_cons pe_str (pa_cons pe_str (pa_cons pe_str (pa_cons pe_str (pa_cons pe_str (pa_cons pe_str (pa_cons pe_str pa_nil)))))))))))))) (pss_cons (ps_set (i := 7) sc_l_names.nd rfl (Or.inr rfl) (pe_ix ix_F (pv 2) (pe_callS G_l_take (hr.mono (by decide)) (by rfl) T.d_l_take.mg T.d_l_take.fn.kp T.d_l_take.bi pass0S (pa_cons (pv 0) (pa_cons pe_int pa_nil))) (fun _ _ => rfl))) (pss_one (ps_ret (pe_lc (own := [(("word" : Str), 4)]) (g := (gName 4)) rfl sc_l_names.nd (pi_list (pe_callS G_l_some (hr.mono (by decide)) (by rfl) T.d_l_some.mg T.d_l_some.fn.kp T.d_l_some.bi pass0S (pa_cons (pv 0) (pa_cons (pv 6) (pa_cons (pv 1) pa_nil))))) (blkOk_by (own := [(("word" : Str), 4)]) (N := sN_l_names) (sc := defScope s_l_names) (by decide +kernel)) (fun _ _ _ _ _ => (pg_name (i := 4) sc_l_names.nd rfl (by first | exact .inl rfl | exact .inr rfl))) (fun _ _ _ _ _ => pts_nil) (fun _ _ _ _ _ => (pe_op op_addF (pv 7) (pv 4)))))))) pss_nil) (pss_cons (ps_set (i := 8) sc_l_names.nd rfl (Or.inl rfl) pe_str) (Evl.pss_cut (ps_if (pt_cmpR op_gtF (pv 3) pe_int (nomark _)) (pss_cons (ps_set (i := 8) sc_l_names.nd rfl (Or.inl rfl) (pe_callS G_l_word (hr.mono (by decide)) (by rfl) T.d_l_word.mg T.d_l_word.fn.kp T.d_l_word.bi pass0S (pa_cons (pv 0) (pa_cons (pe_op op_addF pe_int (pe_callS G_l_take (hr.mono (by decide)) (by rfl) T.d_l_take.mg T.d_l_take.fn.kp T.d_l_take.bi pass0S (pa_cons (pv 0) (pa_cons pe_int pa_nil)))) pa_nil)))) (pss_one (ps_set (i := 2) sc_l_names.nd rfl (Or.inl rfl) (pe_op op_addF (pv 2) pe_str)))) pss_nil) (pss_cons (ps_set (i := 9) sc_l_names.nd rfl (Or.inl rfl) (pe_lst pa_nil)) (pss_cons (ps_for PassesOwn.never rfl (pi_range1 (by rfl) T.b_range (pa_cons (pv 1) pa_nil)) (pg_name (i := 5) sc_l_names.nd rfl (by first | exact .inl rfl | exact .inr rfl)) (pss_cons (ps_set (i := 10) sc_l_names.nd rfl (Or.inl rfl) (pe_callS G_l_take (hr.mono (by decide)) (by rfl) T.d_l_take.mg T.d_l_take.fn.kp T.d_l_take.bi pass0S (pa_cons (pv 0) (pa_cons (pe_callB c_len (by rfl) T.b_len (by decide +kernel) (pa_cons (pv 2) pa_nil)) pa_nil)))) (pss_cons (ps_set (i := 11) sc_l_names.nd rfl (Or.inl rfl) pe_str) (Evl.pss_cut (ps_if (pt_cmpR op_gtF (pv 3) pe_int (nomark _)) (pss_one (ps_set (i := 11) sc_l_names.nd rfl (Or.inl rfl) (pe_slice sl_F2 (pe_callS G_l_word (hr.mono (by decide)) (by rfl) T.d_l_word.mg T.d_l_word.fn.kp T.d_l_word.bi pass0S (pa_cons (pv 0) (pa_cons pe_int pa_nil))) po_none (po_some (pe_callS G_l_take (hr.mono (by decide)) (by rfl) T.d_l_take.mg T.d_l_take.fn.kp T.d_l_take.bi pass0S (pa_cons (pv 0) (pa_cons (pe_op op_subF pe_int (pe_callB c_len (by rfl) T.b_len (by decide +kernel) (pa_cons (pv 8) pa_nil))) pa_nil))))))) pss_nil) (pss_cons (ps_expr (pe_imp (pe_bm PySem.F.plainAttrs_list PySem.F.slot_list_append PySem.F.type_list_append m_append (pv 9) (pa_cons (pe_op op_addF (pe_op op_addF (pv 8) (pe_ix ix_F (pv 2) (pv 10) (fun _ _ => rfl))) (pv 11)) pa_nil)) bm_var)) (pss_one (ps_set (i := 2) sc_l_names.nd rfl (Or.inl rfl) (pe_op op_addF (pe_slice sl_F2 (pv 2) po_none (po_some (pv 10))) (pe_slice sl_F2 (pv 2) (po_some (pe_op op_addF (pv 10) pe_int)) po_none))))))))) (pss_one (ps_ret (pv 9))))))))))))
theorem ok_l_fresh (T : Txt K mg C) : FnOk P w K mg base CX0 5 T.d_l_fresh.f T.d_l_fresh.fd [("store" : Str), ("row" : Str)] (sp_l_fresh K C) := by
  have G_l_pick := ok_l_pick (P := P) (w := w) (mg := mg) (base := base) T
  have G_l_take := ok_l_take (P := P) (w := w) (mg := mg) (base := base) T
  have G_l_word := ok_l_word (P := P) (w := w) (mg := mg) (base := base) T
  refine T.d_l_fresh.fn.ok sc_l_fresh (fun vs H Q E h => ?_) (fun cdv A outer s H vs Q E hr h => ⟨rd_l_fresh K C E, ?_, pure_l_fresh vs H Q E h⟩)
  · first
    | (obtain ⟨_, rfl, _⟩ := h; rfl)
    | (obtain ⟨_, _, rfl, _⟩ := h; rfl)
    | (obtain ⟨_, _, _, rfl, _⟩ := h; rfl)
    | (obtain ⟨_, _, _, _, rfl, _⟩ := h; rfl)
    | (obtain ⟨_, _, _, _, _, rfl, _⟩ := h; rfl)
    | (obtain ⟨_, _, _, _, _, _, rfl, _⟩ := h; rfl)
    | (obtain ⟨_, _, _, _, _, _, _, rfl, _⟩ := h; rfl)
  · unfold rd_l_fresh
    exact (pss_cons (ps_set (i := 2) sc_l_fresh.nd rfl (Or.inl rfl) (pe_callS G_l_word (hr.mono (by decide)) (by rfl) T.d_l_word.mg T.d_l_word.fn.kp T.d_l_word.bi pass0S (pa_cons (pv 0) (pa_cons (pe_op op_addF pe_int (pe_callS G_l_take (hr.mono (by decide)) (by rfl) T.d_l_take.mg T.d_l_take.fn.kp T.d_l_take.bi pass0S (pa_cons (pv 0) (pa_cons pe_int pa_nil)))) pa_nil)))) (Evl.pss_cut (ps_if (PW.pt (pw_and (pt_cmpR op_gtF (pe_callB c_len (by rfl) T.b_len (by decide +kernel) (pa_cons (pv 1) pa_nil)) pe_int (nomark _)) (pw_and1 (pt_cmpR (op_eqF hr.units) (pe_callS G_l_take (hr.mono (by decide)) (by rfl) T.d_l_take.mg T.d_l_take.fn.kp T.d_l_take.bi pass0S (pa_cons (pv 0) (pa_cons pe_int pa_nil))) pe_int (nomark _))))) (pss_one (ps_set (i := 2) sc_l_fresh.nd rfl (Or.inl rfl) (pe_op op_addF (pe_slice sl_F2 (pe_callS G_l_pick (hr.mono (by decide)) (by rfl) T.d_l_pick.mg T.d_l_pick.fn.kp T.d_l_pick.bi pass0S (pa_cons (pv 0) (pa_cons (pv 1) pa_nil))) po_none (po_some pe_int)) (pe_ix ix_F pe_str (pe_callS G_l_take (hr.mono (by decide)) (by rfl) T.d_l_take.mg T.d_l_take.fn.kp T.d_l_take.bi pass0S (pa_cons (pv 0) (pa_cons pe_int pa_nil))) (fun _ _ => rfl))))) pss_nil) (pss_cons (ps_if (pt_cmpR op_ninF (pv 2) (pv 1) (by rfl)) (pss_one (ps_ret (pv 2))) pss_nil) (pss_cons (ps_for PassesOwn.never rfl (pi_str pe_str) (pg_name (i := 3) sc_l_fresh.nd rfl (by first | exact .inl rfl | exact .inr rfl)) (pss_one (ps_if (pt_cmpR op_ninF (pe_op op_addF (pe_slice sl_F2 (pv 2) po_none (po_some pe_int)) (pv 3)) (pv 1) (by rfl)) (pss_one (ps_ret (pe_op op_addF (pe_slice sl_F2 (pv 2) po_none (po_some pe_int)) (pv 3)))) pss_nil))) (pss_one (ps_ret (pv 2)))))))
theorem ok_l_no_name (T : Txt K mg C) : FnOk P w K mg base CX0 4 T.d_l_no_name.f T.d_l_no_name.fd [("store" : Str)] (sp_l_no_name K C) := by
  have G_l_take := ok_l_take (P := P) (w := w) (mg := mg) (base := base) T
  refine T.d_l_no_name.fn.ok sc_l_no_name (fun vs H Q E h => ?_) (fun cdv A outer s H vs Q E hr h => ⟨rd_l_no_name K C E, ?_, pure_l_no_name vs H Q E h⟩)
  · first
    | (obtain ⟨_, rfl, _⟩ := h; rfl)
    | (obtain ⟨_, _, rfl, _⟩ := h; rfl)
    | (obtain ⟨_, _, _, rfl, _⟩ := h; rfl)
    | (obtain ⟨_, _, _, _, rfl, _⟩ := h; rfl)
    | (obtain ⟨_, _, _, _, _, rfl, _⟩ := h; rfl)
    | (obtain ⟨_, _, _, _, _, _, rfl, _⟩ := h; rfl)
    | (obtain ⟨_, _, _, _, _, _, _, rfl, _⟩ := h; rfl)
  · unfold rd_l_no_name
    exact (pss_cons (ps_set (i := 1) sc_l_no_name.nd rfl (Or.inl rfl) (pe_lst (pa_cons pe_str (pa_cons pe_str (pa_cons pe_str (pa_cons pe_str (pa_cons pe_str (pa_cons pe_str (pa_cons pe_str (pa_cons pe_str (pa_cons pe_str (pa_cons pe_str (pa_cons pe_str (pa_cons pe_str (pa_cons pe_str (pa_cons pe_str pa_nil)))))))))))))))) (pss_cons (ps_set (i := 1) sc_l_no_name.nd rfl (Or.inl rfl) (pe_op op_addF (pv 1) (pe_lst (pa_cons pe_non (pa_cons pe_bl (pa_cons pe_int (pa_cons pe_int (pa_cons (pe_tup (pa_cons pe_str pa_nil)) (pa_cons (pe_lst (pa_cons pe_str pa_nil)) (pa_cons (pe_disp (pps_cons pe_str pe_str pps_nil) rfl rfl (by simp) (Nat.le_of_ble_eq_true rfl)) pa_nil)))))))))) (pss_one (ps_ret (pe_ix ix_F (pv 1) (pe_callS G_l_take (hr.mono (by decide)) (by rfl) T.d_l_take.mg T.d_l_take.fn.kp T.d_l_take.bi pass0S (pa_cons (pv 0) (pa_cons (pe_callB c_len (by rfl) T.b_len (by decide +kernel) (pa_cons (pv 1) pa_nil)) pa_nil))) (fun _ _ => rfl))))))
theorem step_same (T : Txt K mg C) (n : Nat) (G_l_same : FnOk P w K mg base CX0 (n + 1) T.d_l_same.f T.d_l_same.fd [("one" : Str), ("other" : Str)] (sp_same_in n)) : FnOk P w K mg base CX0 (n + 2) T.d_l_same.f T.d_l_same.fd [("one" : Str), ("other" : Str)] (sp_sameN n) := by
  refine T.d_l_same.fn.ok sc_l_same (fun vs H Q E h => ?_) (fun cdv A outer s H vs Q E hr h => ⟨rd_l_same K C (sp_same_in n) E, ?_, pure_l_sameN n vs H Q E h⟩)
  · obtain ⟨_, _, _, rfl, _⟩ := h
    rfl
  · unfold rd_l_same
    exact (pss_cons (ps_if (PW.pt (pw_or (pt_cmpR op_isNF (pv 0) pe_non (nomark _)) (pw_or1 (pt_cmpR op_isNF (pv 1) pe_non (nomark _))))) (pss_one (ps_ret (pe_and (pe_cmpR op_isNF (pv 0) pe_non (nomark _)) (pe_one (pe_cmpR op_isNF (pv 1) pe_non (nomark _)))))) pss_nil) (pss_cons (ps_if (PW.pt (pw_or (pt_val (pe_callB c_isi (by rfl) T.b_isinstance (by decide +kernel) (pa_cons (pv 0) (pa_cons (pe_bltn (v := .ty "bool") (by rfl) T.b_bool (by decide +kernel) rfl) pa_nil)))) (pw_or1 (pt_val (pe_callB c_isi (by rfl) T.b_isinstance (by decide +kernel) (pa_cons (pv 1) (pa_cons (pe_bltn (v := .ty "bool") (by rfl) T.b_bool (by decide +kernel) rfl) pa_nil))))))) (pss_one (ps_ret (pe_and (pe_callB c_isi (by rfl) T.b_isinstance (by decide +kernel) (pa_cons (pv 0) (pa_cons (pe_bltn (v := .ty "bool") (by rfl) T.b_bool (by decide +kernel) rfl) pa_nil))) (pe_and (pe_callB c_isi (by rfl) T.b_isinstance (by decide +kernel) (pa_cons (pv 1) (pa_cons (pe_bltn (v := .ty "bool") (by rfl) T.b_bool (by decide +kernel) rfl) pa_nil))) (pe_one (pe_cmpR (op_eqF hr.units) (pv 0) (pv 1) (nomark _))))))) pss_nil) (pss_cons (ps_if (PW.pt (pw_or (pt_val (pe_callB c_isi (by rfl) T.b_isinstance (by decide +kernel) (pa_cons (pv 0) (pa_cons (pe_bltn (v := .ty "int") (by rfl) T.b_int (by decide +kernel) rfl) pa_nil)))) (pw_or1 (pt_val (pe_callB c_isi (by rfl) T.b_isinstance (by decide +kernel) (pa_cons (pv 1) (pa_cons (pe_bltn (v := .ty "int") (by rfl) T.b_int (by decide +kernel) rfl) pa_nil))))))) (pss_one (ps_ret (pe_and (pe_callB c_isi (by rfl) T.b_isinstance (by decide +kernel) (pa_cons (pv 0) (pa_cons (pe_bltn (v := .ty "int") (by rfl) T.b_int (by decide +kernel) rfl) pa_nil))) (pe_and (pe_callB c_isi (by rfl) T.b_isinstance (by decide +kernel) (pa_cons (pv 1) (pa_cons (pe_bltn (v := .ty "int") (by rfl) T.b_int (by decide +kernel) rfl) pa_nil))) (pe_one (pe_cmpR (op_eqF hr.units) (pv 0) (pv 1) (nomark _))))))) pss_nil) (pss_cons (ps_if (PW.pt (pw_or (pt_val (pe_callB c_isi (by rfl) T.b_isinstance (by decide +kernel) (pa_cons (pv 0) (pa_cons (pe_bltn (v := .ty "str") (by rfl) T.b_str (by decide +kernel) rfl) pa_nil)))) (pw_or1 (pt_val (pe_callB c_isi (by rfl) T.b_isinstance (by decide +kernel) (pa_cons (pv 1) (pa_cons (pe_bltn (v := .ty "str") (by rfl) T.b_str (by decide +kernel) rfl) pa_nil))))))) (pss_one (ps_ret (pe_and (pe_callB c_isi (by rfl) T.b_isinstance (by decide +kernel) (pa_cons (pv 0) (pa_cons (pe_bltn (v := .ty "str") (by rfl) T.b_str (by decide +kernel) rfl) pa_nil))) (pe_and (pe_callB c_isi (by rfl) T.b_isinstance (by decide +kernel) (pa_cons (pv 1) (pa_cons (pe_bltn (v := .ty "str") (by rfl) T.b_str (by decide +kernel) rfl) pa_nil))) (pe_one (pe_cmpR (op_eqF hr.units) (pv 0) (pv 1) (nomark _))))))) pss_nil) (pss_cons (ps_if (PW.pt (pw_or (pt_val (pe_callB c_isi (by rfl) T.b_isinstance (by decide +kernel) (pa_cons (pv 0) (pa_cons (pe_bltn (v := .ty "dict") (by rfl) T.b_dict (by decide +kernel) rfl) pa_nil)))) (pw_or1 (pt_val (pe_callB c_isi (by rfl) T.b_isinstance (by decide +kernel) (pa_cons (pv 1) (pa_cons (pe_bltn (v := .ty "dict") (by rfl) T.b_dict (by decide +kernel) rfl) pa_nil))))))) (pss_cons (ps_if (PW.pt (pw_or (pt_not (pt_val (pe_callB c_isi (by rfl) T.b_isinstance (by decide +kernel) (pa_cons (pv 0) (pa_cons (pe_bltn (v := .ty "dict") (by rfl) T.b_dict (by decide +kernel) rfl) pa_nil))))) (pw_or (pt_not (pt_val (pe_callB c_isi (by rfl) T.b_isinstance (by decide +kernel) (pa_cons (pv 1) (pa_cons (pe_bltn (v := .ty "dict") (by rfl) T.b_dict (by decide +kernel) rfl) pa_nil))))) (pw_or1 (pt_cmpR (op_neF hr.units) (pe_callB c_len2 (by rfl) T.b_len (by decide +kernel) (pa_cons (pv 0) pa_nil)) (pe_callB c_len2 (by rfl) T.b_len (by decide +kernel) (pa_cons (pv 1) pa_nil)) (nomark _)))))) (pss_one (ps_ret pe_bl)) pss_nil) (pss_cons (ps_lock (ps_for PassesOwn.never rfl (pi_keys (pv 0)) (pg_name (i := 2) sc_l_same.nd rfl (by first | exact .inl rfl | exact .inr rfl)) pss_never)) (pss_one (ps_ret pe_bl)))) pss_nil) (pss_cons (ps_if (PW.pt (pw_or (pt_val (pe_callB c_isiT (by rfl) T.b_isinstance (by decide +kernel) (pa_cons (pv 0) (pa_cons (pe_tup (pa_cons (pe_bltn (v := .ty "list") (by rfl) T.b_list (by decide +kernel) rfl) (pa_cons (pe_bltn (v := .ty "tuple") (by rfl) T.b_tuple (by decide +kernel) rfl) pa_nil))) pa_nil)))) (pw_or1 (pt_val (pe_callB c_isiT (by rfl) T.b_isinstance (by decide +kernel) (pa_cons (pv 1) (pa_cons (pe_tup (pa_cons (pe_bltn (v := .ty "list") (by rfl) T.b_list (by decide +kernel) rfl) (pa_cons (pe_bltn (v := .ty "tuple") (by rfl) T.b_tuple (by decide +kernel) rfl) pa_nil))) pa_nil))))))) (pss_cons (ps_if (PW.pt (pw_or (pt_cmpR (op_neF hr.units) (pe_callB c_isi (by rfl) T.b_isinstance (by decide +kernel) (pa_cons (pv 0) (pa_cons (pe_bltn (v := .ty "list") (by rfl) T.b_list (by decide +kernel) rfl) pa_nil))) (pe_callB c_isi (by rfl) T.b_isinstance (by decide +kernel) (pa_cons (pv 1) (pa_cons (pe_bltn (v := .ty "list") (by rfl) T.b_list (by decide +kernel) rfl) pa_nil))) (nomark _)) (pw_or1 (pt_cmpR (op_neF hr.units) (pe_callB c_isi (by rfl) T.b_isinstance (by decide +kernel) (pa_cons (pv 0) (pa_cons (pe_bltn (v := .ty "tuple") (by rfl) T.b_tuple (by decide +kernel) rfl) pa_nil))) (pe_callB c_isi (by rfl) T.b_isinstance (by decide +kernel) (pa_cons (pv 1) (pa_cons (pe_bltn (v := .ty "tuple") (by rfl) T.b_tuple (by decide +kernel) rfl) pa_nil))) (nomark _))))) (pss_one (ps_ret pe_bl)) pss_nil) (pss_cons (ps_if (pt_cmpR (op_neF hr.units) (pe_callB c_len2 (by rfl) T.b_len (by decide +kernel) (pa_cons (pv 0) pa_nil)) (pe_callB c_len2 (by rfl) T.b_len (by decide +kernel) (pa_cons (pv 1) pa_nil)) (nomark _)) (pss_one (ps_ret pe_bl)) pss_nil) (pss_cons (ps_for PassesOwn.never rfl (pi_range1 (by rfl) T.b_range (pa_cons (pe_callB c_len2 (by rfl) T.b_len (by decide +kernel) (pa_cons (pv 0) pa_nil)) pa_nil)) (pg_name (i := 3) sc_l_same.nd rfl (by first | exact .inl rfl | exact .inr rfl)) (pss_one (ps_if (pt_not (pt_val (pe_callS G_l_same hr (by rfl) T.d_l_same.mg T.d_l_same.fn.kp T.d_l_same.bi pass0S (pa_cons (pe_ix ix_F (pv 0) (pv 3) (fun _ _ => rfl)) (pa_cons (pe_ix ix_F (pv 1) (pv 3) (fun _ _ => rfl)) pa_nil))))) (pss_one (ps_ret pe_bl)) pss_nil))) (pss_one (ps_ret pe_bl))))) pss_nil) (pss_cons ps_never (pss_one ps_never))))))))
theorem ok_sameN (T : Txt K mg C) (n : Nat) : FnOk P w K mg base CX0 (n + 2) T.d_l_same.f T.d_l_same.fd [("one" : Str), ("other" : Str)] (sp_sameN n) := by
  induction n with
  | zero => exact step_same T 0 no_fn
  | succ n ih => exact step_same T (n + 1) ih
theorem ok_l_same (T : Txt K mg C) : FnOk P w K mg base CX0 8 T.d_l_same.f T.d_l_same.fd [("one" : Str), ("other" : Str)] (sp_l_same K C) := ok_sameN T 6
theorem step_spoil (T : Txt K mg C) (n : Nat) {spR spS : Sp} (len : ∀ vs H Q E, spS vs H Q E → vs.length = ([("value" : Str)] : List Str).length) (pure_ : ∀ vs H Q E, spS vs H Q E → rd_l_spoil K C spR E { nx := fun _ H' => Q .non H', rt := Q } (start sN_l_spoil vs) H)
    (G_l_spoil : FnOk P w K mg base CX0 (n + 1) T.d_l_spoil.f T.d_l_spoil.fd [("value" : Str)] spR) : FnOk P w K mg base CX0 (n + 2) T.d_l_spoil.f T.d_l_spoil.fd [("value" : Str)] spS := by
  refine T.d_l_spoil.fn.ok sc_l_spoil len (fun cdv A outer s H vs Q E hr h => ⟨rd_l_spoil K C spR E, ?_, pure_ vs H Q E h⟩)
  unfold rd_l_spoil
  exact (pss_cons (ps_if (pt_val (pe_callB c_isi (by rfl) T.b_isinstance (by decide +kernel) (pa_cons (pv 0) (pa_cons (pe_bltn (v := .ty "dict") (by rfl) T.b_dict (by decide +kernel) rfl) pa_nil)))) pss_never pss_nil) (pss_cons (ps_if (pt_val (pe_callB c_isiT (by rfl) T.b_isinstance (by decide +kernel) (pa_cons (pv 0) (pa_cons (pe_tup (pa_cons (pe_bltn (v := .ty "list") (by rfl) T.b_list (by decide +kernel) rfl) (pa_cons (pe_bltn (v := .ty "tuple") (by rfl) T.b_tuple (by decide +kernel) rfl) pa_nil))) pa_nil)))) (pss_one (ps_for PassesOwn.never rfl (pi_list (pe_callTy c_list (by rfl) T.b_list (by decide +kernel) (pa_cons (pv 0) pa_nil))) (pg_name (i := 2) sc_l_spoil.nd rfl (by first | exact .inl rfl | exact .inr rfl)) (pss_one (ps_expr (pe_callS G_l_spoil hr (by rfl) T.d_l_spoil.mg T.d_l_spoil.fn.kp T.d_l_spoil.bi pass0S (pa_cons (pv 2) pa_nil)))))) pss_nil) (pss_one (ps_if (pt_val (pe_callB c_isi (by rfl) T.b_isinstance (by decide +kernel) (pa_cons (pv 0) (pa_cons (pe_bltn (v := .ty "list") (by rfl) T.b_list (by decide +kernel) rfl) pa_nil)))) (pss_one (ps_if (pt_cmpR op_gtF (pe_callB c_len (by rfl) T.b_len (by decide +kernel) (pa_cons (pv 0) pa_nil)) pe_int (nomark _)) (pss_cons (ps_expr (pe_imp (pe_bm0 PySem.F.plainAttrs_list PySem.F.slot_list_pop PySem.F.type_list_pop m_pop (pv 0)) bm0_var)) (pss_one (ps_asg pe_non (pg_sub (pv 0) pe_int set_F)))) (pss_one (ps_expr (pe_imp (pe_bm PySem.F.plainAttrs_list PySem.F.slot_list_append PySem.F.type_list_append m_append (pv 0) (pa_cons pe_non pa_nil)) bm_var))))) pss_nil))))
theorem ok_l_spoil (T : Txt K mg C) : FnOk P w K mg base CX0 5 T.d_l_spoil.f T.d_l_spoil.fd [("value" : Str)] (sp_l_spoil K C) :=
  step_spoil T 3 (fun vs H Q E h => by
      rcases h with ⟨_, _, rfl, _⟩ | ⟨_, _, rfl, _⟩ <;> rfl)
    (fun vs H Q E h => h.elim (fun h => pure_c (fun v H Q E t q => .inl ⟨v, rfl, t, q⟩) vs H Q E h) (fun h => pure_t (fun v H Q E t q => .inl ⟨v, rfl, t, q⟩) vs H Q E h))
  (step_spoil T 2 (spS := sp_spoil2) (fun vs H Q E h => by
      rcases h with ⟨_, rfl, _⟩ | ⟨_, _, rfl, _⟩ <;> rfl)
    (fun vs H Q E h => h.elim (fun h => pure_tf (fun v H Q E t q => ⟨v, rfl, .inl t, q⟩) vs H Q E h) (fun h => pure_c (fun v H Q E t q => ⟨v, rfl, t, q⟩) vs H Q E h))
  (step_spoil T 1 (spS := sp_spoil1) (fun vs H Q E h => by
      obtain ⟨_, rfl, _⟩ := h; rfl)
    (fun vs H Q E h => pure_tf (fun v H Q E t q => ⟨v, rfl, t, q⟩) vs H Q E h)
  (step_spoil T 0 (spS := sp_spoil0) (fun vs H Q E h => by
      obtain ⟨_, rfl, _⟩ := h; rfl) (fun vs H Q E h => pure_flat vs H Q E h) no_fn)))
theorem ok_l_table (T : Txt K mg C) : FnOk P w K mg base CX0 7 T.d_l_table.f T.d_l_table.fd [("store" : Str), ("many" : Str)] (sp_l_table K C) := by
  have G_l_names := ok_l_names (P := P) (w := w) (mg := mg) (base := base) T
  have G_l_take := ok_l_take (P := P) (w := w) (mg := mg) (base := base) T
  have G_l_turned := ok_l_turned (P := P) (w := w) (mg := mg) (base := base) T
  refine T.d_l_table.fn.ok sc_l_table (fun vs H Q E h => ?_) (fun cdv A outer s H vs Q E hr h => ⟨rd_l_table K C E, ?_, pure_l_table vs H Q E h⟩)
  · first
    | (obtain ⟨_, rfl, _⟩ := h; rfl)
    | (obtain ⟨_, _, rfl, _⟩ := h; rfl)
    | (obtain ⟨_, _, _, rfl, _⟩ := h; rfl)
    | (obtain ⟨_, _, _, _, rfl, _⟩ := h; rfl)
    | (obtain ⟨_, _, _, _, _, rfl, _⟩ := h; rfl)
    | (obtain ⟨_, _, _, _, _, _, rfl, _⟩ := h; rfl)
    | (obtain ⟨_, _, _, _, _, _, _, rfl, _⟩ := h; rfl)
  · unfold rd_l_table
    exact (pss_cons (ps_set (i := 2) sc_l_table.nd rfl (Or.inr rfl) (pe_callS G_l_names (hr.mono (by decide)) (by rfl) T.d_l_names.mg T.d_l_names.fn.kp T.d_l_names.bi pass0S (pa_cons (pv 0) (pa_cons (pv 1) pa_nil)))) (pss_cons (ps_set (i := 3) sc_l_table.nd rfl (Or.inl rfl) (pe_callS G_l_take (hr.mono (by decide)) (by rfl) T.d_l_take.mg T.d_l_take.fn.kp T.d_l_take.bi pass0S (pa_cons (pv 0) (pa_cons pe_int pa_nil)))) (pss_cons (ps_set (i := 4) sc_l_table.nd rfl (Or.inr rfl) (pe_callS G_l_turned (hr.mono (by decide)) (by rfl) T.d_l_turned.mg T.d_l_turned.fn.kp T.d_l_turned.bi pass0S (pa_cons (pv 0) (pa_cons (pv 2) pa_nil)))) (Evl.pss_cut (ps_if (pt_cmpR (op_eqF hr.units) (pv 3) pe_int (nomark _)) (pss_one (ps_set (i := 4) sc_l_table.nd rfl (Or.inr rfl) (pe_callTy c_list (by rfl) T.b_list (by decide +kernel) (pa_cons (pv 2) pa_nil)))) pss_nil) (Evl.pss_cut (ps_if (pt_cmpR (op_eqF hr.units) (pv 3) pe_int (nomark _)) (pss_one (ps_set (i := 4) sc_l_table.nd rfl (Or.inr rfl) (pe_op op_addF (pe_slice sl_F2 (pv 2) (po_some pe_int) po_none) (pe_slice sl_F2 (pv 2) po_none (po_some pe_int))))) pss_nil) (Evl.pss_cut (ps_if (PW.pt (pw_and (pt_cmpR (op_eqF hr.units) (pv 3) pe_int (nomark _)) (pw_and1 (pt_cmpR op_gtF (pv 1) pe_int (nomark _))))) (pss_one (ps_set (i := 4) sc_l_table.nd rfl (Or.inr rfl) (pe_op op_addF (pe_lst (pa_cons (pe_ix ix_F (pv 2) pe_int (fun _ _ => rfl)) (pa_cons (pe_ix ix_F (pv 2) pe_int (fun _ _ => rfl)) pa_nil))) (pe_slice sl_F2 (pv 2) (po_some pe_int) po_none)))) pss_nil) (pss_cons (ps_setLc (i := 5) (own := [(("k" : Str), 6)]) (g := (gName 6)) rfl sc_l_table.nd rfl rfl (sw_true rfl rfl rfl (by decide +kernel)) (pi_range1 (by rfl) T.b_range (pa_cons (pe_callB c_len (by rfl) T.b_len (by decide +kernel) (pa_cons (pv 2) pa_nil)) pa_nil)) (blkOk_by (own := [(("k" : Str), 6)]) (N := sN_l_table) (sc := defScope s_l_table) (by decide +kernel)) (fun _ _ _ _ _ => (pg_name (i := 6) sc_l_table.nd rfl (by first | exact .inl rfl | exact .inr rfl))) (fun _ _ _ _ _ => pts_nil) (fun _ _ _ _ _ => (pe_tup (pa_cons (pe_ix ix_F (pv 2) (pv 6) (fun _ _ => rfl)) (pa_cons (pe_ix ix_F (pv 4) (pv 6) (fun _ _ => rfl)) pa_nil))))) (pss_one (ps_ret (pe_callS G_l_turned (hr.mono (by decide)) (by rfl) T.d_l_turned.mg T.d_l_turned.fn.kp T.d_l_turned.bi pass0S (pa_cons (pv 0) (pa_cons (pv 5) pa_nil))))))))))))
theorem ok_l_no_table (T : Txt K mg C) : FnOk P w K mg base CX0 6 T.d_l_no_table.f T.d_l_no_table.fd [("store" : Str), ("pairs" : Str)] (sp_l_no_table K C) := by
  have G_l_fresh := ok_l_fresh (P := P) (w := w) (mg := mg) (base := base) T
  have G_l_no_name := ok_l_no_name (P := P) (w := w) (mg := mg) (base := base) T
  have G_l_pick := ok_l_pick (P := P) (w := w) (mg := mg) (base := base) T
  have G_l_take := ok_l_take (P := P) (w := w) (mg := mg) (base := base) T
  refine T.d_l_no_table.fn.ok sc_l_no_table (fun vs H Q E h => ?_) (fun cdv A outer s H vs Q E hr h => ⟨rd_l_no_table K C E, ?_, pure_l_no_table vs H Q E h⟩)
  · first
    | (obtain ⟨_, rfl, _⟩ := h; rfl)
    | (obtain ⟨_, _, rfl, _⟩ := h; rfl)
    | (obtain ⟨_, _, _, rfl, _⟩ := h; rfl)
    | (obtain ⟨_, _, _, _, rfl, _⟩ := h; rfl)
    | (obtain ⟨_, _, _, _, _, rfl, _⟩ := h; rfl)
    | (obtain ⟨_, _, _, _, _, _, rfl, _⟩ := h; rfl)
    | (obtain ⟨_, _, _, _, _, _, _, rfl, _⟩ := h; rfl)
  · unfold rd_l_no_table
    exact (pss_cons (ps_setLc (i := 2) (own := [(("pair" : Str), 7)]) (g := (gName 7)) rfl sc_l_no_table.nd rfl rfl (sw_true rfl rfl rfl (by decide +kernel)) (pi_list (pv 1)) (blkOk_by (own := [(("pair" : Str), 7)]) (N := sN_l_no_table) (sc := defScope s_l_no_table) (by decide +kernel)) (fun _ _ _ _ _ => (pg_name (i := 7) sc_l_no_table.nd rfl (by first | exact .inl rfl | exact .inr rfl))) (fun _ _ _ _ _ => pts_nil) (fun _ _ _ _ _ => (pe_ix ix_F (pv 7) pe_int (fun _ _ => rfl)))) (pss_cons (ps_set (i := 3) sc_l_no_table.nd rfl (Or.inl rfl) (pe_callS G_l_fresh (hr.mono (by decide)) (by rfl) T.d_l_fresh.mg T.d_l_fresh.fn.kp T.d_l_fresh.bi pass0S (pa_cons (pv 0) (pa_cons (pv 2) pa_nil)))) (pss_cons (ps_set (i := 4) sc_l_no_table.nd rfl (Or.inl rfl) (pe_callS G_l_take (hr.mono (by decide)) (by rfl) T.d_l_take.mg T.d_l_take.fn.kp T.d_l_take.bi pass0S (pa_cons (pv 0) (pa_cons pe_int pa_nil)))) (pss_cons (ps_set (i := 5) sc_l_no_table.nd rfl (Or.inl rfl) (pe_callTy c_list (by rfl) T.b_list (by decide +kernel) (pa_cons (pv 1) pa_nil))) (pss_cons (ps_set (i := 6) sc_l_no_table.nd rfl (Or.inl rfl) (pe_callS G_l_take (hr.mono (by decide)) (by rfl) T.d_l_take.mg T.d_l_take.fn.kp T.d_l_take.bi pass0S (pa_cons (pv 0) (pa_cons (pe_op op_addF (pe_callB c_len (by rfl) T.b_len (by decide +kernel) (pa_cons (pv 5) pa_nil)) pe_int) pa_nil)))) (Evl.pss_cut (ps_if (PW.pt (pw_and (pt_cmpR (op_eqF hr.units) (pv 4) pe_int (nomark _)) (pw_and1 (pt_cmpR op_gtF (pe_callB c_len (by rfl) T.b_len (by decide +kernel) (pa_cons (pv 5) pa_nil)) pe_int (nomark _))))) (pss_one (ps_asg (pe_tup (pa_cons (pe_ix ix_F (pe_ix ix_F (pv 5) pe_int (fun _ _ => rfl)) pe_int (fun _ _ => rfl)) (pa_cons (pe_ix ix_F (pe_ix ix_F (pv 5) pe_int (fun _ _ => rfl)) pe_int (fun _ _ => rfl)) pa_nil))) (pg_sub (pv 5) pe_int set_F))) (pss_one (ps_if (PW.pt (pw_and (pt_cmpR (op_eqF hr.units) (pv 4) pe_int (nomark _)) (pw_and1 (pt_cmpR op_gtF (pe_callB c_len (by rfl) T.b_len (by decide +kernel) (pa_cons (pv 5) pa_nil)) pe_int (nomark _))))) (pss_one (ps_expr (pe_imp (pe_bm PySem.F.plainAttrs_list PySem.F.slot_list_insert PySem.F.type_list_insert m_insert (pv 5) (pa_cons (pv 6) (pa_cons (pe_ix ix_F (pv 5) (pe_callS G_l_take (hr.mono (by decide)) (by rfl) T.d_l_take.mg T.d_l_take.fn.kp T.d_l_take.bi pass0S (pa_cons (pv 0) (pa_cons (pe_callB c_len (by rfl) T.b_len (by decide +kernel) (pa_cons (pv 5) pa_nil)) pa_nil))) (fun _ _ => rfl)) pa_nil))) bm_var))) (pss_one (ps_if (pt_cmpR (op_eqF hr.units) (pv 4) pe_int (nomark _)) (pss_one (ps_expr (pe_imp (pe_bm PySem.F.plainAttrs_list PySem.F.slot_list_insert PySem.F.type_list_insert m_insert (pv 5) (pa_cons (pv 6) (pa_cons (pe_ifExp (pt_cmpR (op_neF hr.units) (pv 3) pe_str (nomark _)) (pe_tup (pa_cons (pv 3) (pa_cons pe_str pa_nil))) (pe_tup (pa_cons (pv 3) (pa_cons pe_str pa_nil)))) pa_nil))) bm_var))) (pss_one (ps_if (pt_cmpR (op_eqF hr.units) (pv 4) pe_int (nomark _)) (pss_one (ps_expr (pe_imp (pe_bm PySem.F.plainAttrs_list PySem.F.slot_list_insert PySem.F.type_list_insert m_insert (pv 5) (pa_cons (pv 6) (pa_cons (pe_lst (pa_cons (pv 3) (pa_cons (pv 3) pa_nil))) pa_nil))) bm_var))) (pss_one (ps_if (pt_cmpR (op_eqF hr.units) (pv 4) pe_int (nomark _)) (pss_one (ps_expr (pe_imp (pe_bm PySem.F.plainAttrs_list PySem.F.slot_list_insert PySem.F.type_list_insert m_insert (pv 5) (pa_cons (pv 6) (pa_cons (pe_tup (pa_cons (pv 3) (pa_cons (pv 3) (pa_cons (pv 3) pa_nil)))) pa_nil))) bm_var))) (pss_one (ps_if (pt_cmpR (op_eqF hr.units) (pv 4) pe_int (nomark _)) (pss_one (ps_expr (pe_imp (pe_bm PySem.F.plainAttrs_list PySem.F.slot_list_insert PySem.F.type_list_insert m_insert (pv 5) (pa_cons (pv 6) (pa_cons (pe_tup (pa_cons (pe_callS G_l_no_name (hr.mono (by decide)) (by rfl) T.d_l_no_name.mg T.d_l_no_name.fn.kp T.d_l_no_name.bi pass0S (pa_cons (pv 0) pa_nil)) (pa_cons (pv 3) pa_nil))) pa_nil))) bm_var))) (pss_one (ps_if (pt_cmpR (op_eqF hr.units) (pv 4) pe_int (nomark _)) (pss_one (ps_setLc (i := 5) (own := [(("k" : Str), 8)]) (g := (gName 8)) rfl sc_l_no_table.nd rfl rfl (sw_true rfl rfl rfl (by decide +kernel)) (pi_range1 (by rfl) T.b_range (pa_cons pe_int pa_nil)) (blkOk_by (own := [(("k" : Str), 8)]) (N := sN_l_no_table) (sc := defScope s_l_no_table) (by decide +kernel)) (fun _ _ _ _ _ => (pg_name (i := 8) sc_l_no_table.nd rfl (by first | exact .inl rfl | exact .inr rfl))) (fun _ _ _ _ _ => pts_nil) (fun _ _ _ _ _ => (pe_tup (pa_cons (pe_op op_addF pe_str (pe_callTy c_strI (by rfl) T.b_str (by decide +kernel) (pa_cons (pv 8) pa_nil))) (pa_cons (pe_op op_addF pe_str (pe_callTy c_strI (by rfl) T.b_str (by decide +kernel) (pa_cons (pv 8) pa_nil))) pa_nil)))))) (pss_one (ps_ret (pe_callS G_l_pick (hr.mono (by decide)) (by rfl) T.d_l_pick.mg T.d_l_pick.fn.kp T.d_l_pick.bi pass0S (pa_cons (pv 0) (pa_cons (pe_lst (pa_cons pe_non (pa_cons pe_str (pa_cons pe_str (pa_cons pe_dnewK (pa_cons pe_int (pa_cons pe_bl (pa_cons (pe_tup (pa_cons (pe_tup (pa_cons pe_str (pa_cons pe_str pa_nil))) pa_nil)) (pa_cons (pe_lst (pa_cons (pe_tup (pa_cons pe_str (pa_cons pe_str pa_nil))) pa_nil)) pa_nil))))))))) pa_nil)))))))))))))))))) (pss_cons (ps_if (pt_cmpR (op_eqF hr.units) (pe_callS G_l_take (hr.mono (by decide)) (by rfl) T.d_l_take.mg T.d_l_take.fn.kp T.d_l_take.bi pass0S (pa_cons (pv 0) (pa_cons pe_int pa_nil))) pe_int (nomark _)) (pss_one (ps_ret (pe_callTy c_tuple (by rfl) T.b_tuple (by decide +kernel) (pa_cons (pv 5) pa_nil)))) pss_nil) (pss_one (ps_ret (pv 5))))))))))
theorem ok_l_heard (T : Txt K mg C) : FnOk P w K mg base CX0 7 T.d_l_heard.f T.d_l_heard.fd [("table" : Str)] (sp_l_heard K C) := by
  have G_exchanges := ok_exchanges (P := P) (w := w) (mg := mg) (base := base) T
  refine T.d_l_heard.fn.ok sc_l_heard (fun vs H Q E h => ?_) (fun cdv A outer s H vs Q E hr h => ⟨rd_l_heard K C E, ?_, pure_l_heard T.ef vs H Q E h⟩)
  · first
    | (obtain ⟨_, rfl, _⟩ := h; rfl)
    | (obtain ⟨_, _, rfl, _⟩ := h; rfl)
    | (obtain ⟨_, _, _, rfl, _⟩ := h; rfl)
    | (obtain ⟨_, _, _, _, rfl, _⟩ := h; rfl)
    | (obtain ⟨_, _, _, _, _, rfl, _⟩ := h; rfl)
    | (obtain ⟨_, _, _, _, _, _, rfl, _⟩ := h; rfl)
    | (obtain ⟨_, _, _, _, _, _, _, rfl, _⟩ := h; rfl)
  · unfold rd_l_heard
    exact (pss_one (ps_tryX (tb := fun W => (tRet (tLst (tCons (tC (.str ("good" : Str))) (tCons (tCallS (sp_exchanges K C) (WE W) (tCons (tVar 0) tNil)) tNil))))) (Wout := fun _ _ _ _ => False) rfl rfl takesN0 (fun W pn xe tk _ => (pss_one (ps_ret (pe_lst (pa_cons pe_str (pa_cons (pe_callS G_exchanges (hr.mono (by decide)) (by rfl) T.d_exchanges.mg T.d_exchanges.fn.kp T.d_exchanges.bi (fun σ => L2N.passAt tk σ) (pa_cons (pv 0) pa_nil)) pa_nil)))))) (HdX.as (i := 1) sc_l_heard.nd rfl rfl ⟨rfl, by decide, .inl T.g_BadShape⟩ (fun a oe cls d pn hz hf => (pss_cons (ps_if (PW.pt (pw_or (pt_not (pt_val (pe_callB (c_isE T.e_BadShape.ec hz hf) (by rfl) T.b_isinstance (by decide +kernel) (pa_cons (pv 1) (pa_cons (pe_glob (v := .ref C.CrossError) (by rfl) T.g_CrossError rfl) pa_nil))))) (pw_or (pt_not (pt_val (pe_callB (c_isE T.e_BadShape.ec hz hf) (by rfl) T.b_isinstance (by decide +kernel) (pa_cons (pv 1) (pa_cons (pe_bltn (v := .ty "ValueError") (by rfl) T.b_ValueError (by decide +kernel) rfl) pa_nil))))) (pw_or1 (pt_val (pe_callB (c_isET T.e_BadShape.ec hz hf) (by rfl) T.b_isinstance (by decide +kernel) (pa_cons (pv 1) (pa_cons (pe_tup (pa_cons (pe_glob (v := .ref C.NoRank) (by rfl) T.g_NoRank rfl) (pa_cons (pe_glob (v := .ref C.Lacking) (by rfl) T.g_Lacking rfl) pa_nil))) pa_nil)))))))) (pss_one (ps_ret (pe_lst (pa_cons pe_str pa_nil)))) pss_nil) (pss_one (ps_ret (pe_lst (pa_cons pe_str (pa_cons (pe_xf T.e_BadShape.xf (T.e_BadShape.no _ (by decide +kernel)) hz.zc hf (pv 1)) pa_nil))))))) (HdX.plain ⟨rfl, by decide, .inl T.g_CrossError⟩ (fun a oe cls d pn hz hf => (pss_one (ps_ret (pe_lst (pa_cons pe_str pa_nil))))) HdX.nil))))
theorem ok_l_leads_there (T : Txt K mg C) : FnOk P w K mg base CX0 2 T.d_l_leads_there.f T.d_l_leads_there.fd [("told" : Str), ("pairs" : Str)] (sp_l_leads_there K C) := by
  refine T.d_l_leads_there.fn.ok sc_l_leads_there (fun vs H Q E h => ?_) (fun cdv A outer s H vs Q E hr h => ⟨rd_l_leads_there K C E, ?_, pure_l_leads_there vs H Q E h⟩)
  · first
    | (obtain ⟨_, rfl, _⟩ := h; rfl)
    | (obtain ⟨_, _, rfl, _⟩ := h; rfl)
    | (obtain ⟨_, _, _, rfl, _⟩ := h; rfl)
    | (obtain ⟨_, _, _, _, rfl, _⟩ := h; rfl)
    | (obtain ⟨_, _, _, _, _, rfl, _⟩ := h; rfl)
    | (obtain ⟨_, _, _, _, _, _, rfl, _⟩ := h; rfl)
    | (obtain ⟨_, _, _, _, _, _, _, rfl, _⟩ := h; rfl)
  · unfold rd_l_leads_there
    exact (pss_cons (ps_set (i := 2) sc_l_leads_there.nd rfl (Or.inr rfl) pe_dnewK) (pss_cons (ps_set (i := 3) sc_l_leads_there.nd rfl (Or.inr rfl) pe_dnewK) (pss_cons (ps_for PassesOwn.never rfl (pi_list (pv 1)) (pg_name (i := 4) sc_l_leads_there.nd rfl (by first | exact .inl rfl | exact .inr rfl)) (pss_cons (ps_dput (lt_one hr.units) (pv 2) (pe_ix ix_F (pv 4) pe_int (fun _ _ => rfl)) (pe_ix ix_F (pv 4) pe_int (fun _ _ => rfl)) rfl) (pss_one (ps_dput (lt_one hr.units) (pv 3) (pe_ix ix_F (pv 4) pe_int (fun _ _ => rfl)) (pe_ix ix_F (pv 4) pe_int (fun _ _ => rfl)) rfl)))) (pss_cons (ps_if (pt_not (pt_val (pe_callB c_isi (by rfl) T.b_isinstance (by decide +kernel) (pa_cons (pv 0) (pa_cons (pe_bltn (v := .ty "list") (by rfl) T.b_list (by decide +kernel) rfl) pa_nil))))) (pss_one (ps_ret pe_bl)) pss_nil) (pss_cons (ps_for PassesOwn.never rfl (pi_list (pv 0)) (pg_name (i := 4) sc_l_leads_there.nd rfl (by first | exact .inl rfl | exact .inr rfl)) (pss_cons (ps_if (PW.pt (pw_or (pt_not (pt_val (pe_callB c_isi (by rfl) T.b_isinstance (by decide +kernel) (pa_cons (pv 4) (pa_cons (pe_bltn (v := .ty "tuple") (by rfl) T.b_tuple (by decide +kernel) rfl) pa_nil))))) (pw_or1 (pt_cmpR (op_neF hr.units) (pe_callB c_len (by rfl) T.b_len (by decide +kernel) (pa_cons (pv 4) pa_nil)) pe_int (nomark _))))) (pss_one (ps_ret pe_bl)) pss_nil) (pss_cons (ps_setLc (i := 5) (own := [(("name" : Str), 6)]) (g := (gName 6)) rfl sc_l_leads_there.nd rfl rfl (sw_true rfl rfl rfl (by decide +kernel)) (pi_list (pe_callB (c_sortD rfl) (by rfl) T.b_sorted (by decide +kernel) (pa_cons (pv 2) pa_nil))) (blkOk_by (own := [(("name" : Str), 6)]) (N := sN_l_leads_there) (sc := defScope s_l_leads_there) (by decide +kernel)) (fun _ _ _ _ _ => (pg_name (i := 6) sc_l_leads_there.nd rfl (by first | exact .inl rfl | exact .inr rfl))) (fun _ _ _ _ _ => (pts_one (pt_cmpR (op_neF hr.units) (pe_dget (lt_one hr.units) (pv 3) (pv 6) (fun _ _ => rfl)) (pe_dget (lt_one hr.units) (pv 2) (pv 6) (fun _ _ => rfl)) (nomark _)))) (fun _ _ _ _ _ => (pv 6))) (pss_cons (ps_if (PW.pt (pw_or (pt_cmpR (op_eqF hr.units) (pe_callB c_len (by rfl) T.b_len (by decide +kernel) (pa_cons (pv 5) pa_nil)) pe_int (nomark _)) (pw_or1 (pt_cmpR (op_neF hr.units) (pe_ix ix_F (pv 4) pe_int (fun _ _ => rfl)) (pe_ix ix_F (pv 5) pe_int (fun _ _ => rfl)) (nomark _))))) (pss_one (ps_ret pe_bl)) pss_nil) (pss_cons (ps_if (PW.pt (pw_or (pt_cmp (pc_dnotin (lt_one hr.units) (pe_ix ix_F (pv 4) pe_int (fun _ _ => rfl)) (pv 3))) (pw_or1 (pt_cmpR (op_neF hr.units) (pe_dget (lt_one hr.units) (pv 3) (pe_ix ix_F (pv 4) pe_int (fun _ _ => rfl)) (fun _ _ => rfl)) (pe_dget (lt_one hr.units) (pv 2) (pe_ix ix_F (pv 4) pe_int (fun _ _ => rfl)) (fun _ _ => rfl)) (nomark _))))) (pss_one (ps_ret pe_bl)) pss_nil) (pss_cons (ps_dput (lt_one hr.units) (pv 3) (pe_ix ix_F (pv 4) pe_int (fun _ _ => rfl)) (pe_dget (lt_one hr.units) (pv 3) (pe_ix ix_F (pv 4) pe_int (fun _ _ => rfl)) (fun _ _ => rfl)) rfl) (pss_one (ps_dput (lt_one hr.units) (pv 3) (pe_ix ix_F (pv 4) pe_int (fun _ _ => rfl)) (pe_dget (lt_one hr.units) (pv 2) (pe_ix ix_F (pv 4) pe_int (fun _ _ => rfl)) (fun _ _ => rfl)) rfl)))))))) (pss_one (ps_ret (pe_cmpR (op_eq_dictA (lt_none hr.units)) (pv 3) (pv 2) (nomark _)))))))))
theorem ok_l_leads_back (T : Txt K mg C) : FnOk P w K mg base CX0 2 T.d_l_leads_back.f T.d_l_leads_back.fd [("told" : Str), ("pairs" : Str)] (sp_l_leads_back K C) := by
  refine T.d_l_leads_back.fn.ok sc_l_leads_back (fun vs H Q E h => ?_) (fun cdv A outer s H vs Q E hr h => ⟨rd_l_leads_back K C E, ?_, pure_l_leads_back vs H Q E h⟩)
  · first
    | (obtain ⟨_, rfl, _⟩ := h; rfl)
    | (obtain ⟨_, _, rfl, _⟩ := h; rfl)
    | (obtain ⟨_, _, _, rfl, _⟩ := h; rfl)
    | (obtain ⟨_, _, _, _, rfl, _⟩ := h; rfl)
    | (obtain ⟨_, _, _, _, _, rfl, _⟩ := h; rfl)
    | (obtain ⟨_, _, _, _, _, _, rfl, _⟩ := h; rfl)
    | (obtain ⟨_, _, _, _, _, _, _, rfl, _⟩ := h; rfl)
  · unfold rd_l_leads_back
    exact (pss_cons (ps_set (i := 2) sc_l_leads_back.nd rfl (Or.inr rfl) pe_dnewK) (pss_cons (ps_for PassesOwn.never rfl (pi_list (pv 1)) (pg_name (i := 3) sc_l_leads_back.nd rfl (by first | exact .inl rfl | exact .inr rfl)) (pss_one (ps_dput (lt_one hr.units) (pv 2) (pe_ix ix_F (pv 3) pe_int (fun _ _ => rfl)) (pe_ix ix_F (pv 3) pe_int (fun _ _ => rfl)) rfl))) (pss_cons (ps_for PassesOwn.never rfl (pi_range1 (by rfl) T.b_range (pa_cons (pe_callB c_len (by rfl) T.b_len (by decide +kernel) (pa_cons (pv 0) pa_nil)) pa_nil)) (pg_name (i := 4) sc_l_leads_back.nd rfl (by first | exact .inl rfl | exact .inr rfl)) (pss_cons (ps_asg (pe_ix ix_F (pv 0) (pe_op op_subF (pe_op op_subF (pe_callB c_len (by rfl) T.b_len (by decide +kernel) (pa_cons (pv 0) pa_nil)) pe_int) (pv 4)) (fun _ _ => rfl)) (pg_tupF (by rfl) (pgs_cons (pg_name (i := 5) sc_l_leads_back.nd rfl (by first | exact .inl rfl | exact .inr rfl)) (pgs_cons (pg_name (i := 6) sc_l_leads_back.nd rfl (by first | exact .inl rfl | exact .inr rfl)) pgs_nil)))) (pss_cons (ps_set (i := 7) sc_l_leads_back.nd rfl (Or.inl rfl) (pe_dget (lt_one hr.units) (pv 2) (pv 5) (fun _ _ => rfl))) (pss_cons (ps_dput (lt_one hr.units) (pv 2) (pv 5) (pe_dget (lt_one hr.units) (pv 2) (pv 6) (fun _ _ => rfl)) rfl) (pss_one (ps_dput (lt_one hr.units) (pv 2) (pv 6) (pv 7) rfl)))))) (pss_one (ps_ret (pe_cmpR (op_eqF hr.units) (pe_lock (pe_lc (own := [(("name" : Str), 8)]) (g := (gName 8)) rfl sc_l_leads_back.nd (pi_keys (pv 2)) (blkOk_by (own := [(("name" : Str), 8)]) (N := sN_l_leads_back) (sc := defScope s_l_leads_back) (by decide +kernel)) (fun _ _ _ _ _ => (pg_name (i := 8) sc_l_leads_back.nd rfl (by first | exact .inl rfl | exact .inr rfl))) (fun _ _ _ _ _ => (pts_one (pt_cmpR (op_neF hr.units) (pe_dget (lt_one hr.units) (pv 2) (pv 8) (fun _ _ => rfl)) (pv 8) (nomark _)))) (fun _ _ _ _ _ => (pv 8)))) (pe_lst pa_nil) (nomark _)))))))
theorem ok_l_holds (T : Txt K mg C) : FnOk P w K mg base CX0 9 T.d_l_holds.f T.d_l_holds.fd [("handed" : Str), ("pairs" : Str)] (sp_l_holds K C) := by
  have G_cost := ok_cost (P := P) (w := w) (mg := mg) (base := base) T
  have G_l_heard := ok_l_heard (P := P) (w := w) (mg := mg) (base := base) T
  have G_l_leads_back := ok_l_leads_back (P := P) (w := w) (mg := mg) (base := base) T
  have G_l_leads_there := ok_l_leads_there (P := P) (w := w) (mg := mg) (base := base) T
  have G_l_same := ok_l_same (P := P) (w := w) (mg := mg) (base := base) T
  have G_l_spoil := ok_l_spoil (P := P) (w := w) (mg := mg) (base := base) T
  refine T.d_l_holds.fn.ok sc_l_holds (fun vs H Q E h => ?_) (fun cdv A outer s H vs Q E hr h => ⟨rd_l_holds K C E, ?_, pure_l_holds vs H Q E h⟩)
  · first
    | (obtain ⟨_, rfl, _⟩ := h; rfl)
    | (obtain ⟨_, _, rfl, _⟩ := h; rfl)
    | (obtain ⟨_, _, _, rfl, _⟩ := h; rfl)
    | (obtain ⟨_, _, _, _, rfl, _⟩ := h; rfl)
    | (obtain ⟨_, _, _, _, _, rfl, _⟩ := h; rfl)
    | (obtain ⟨_, _, _, _, _, _, rfl, _⟩ := h; rfl)
    | (obtain ⟨_, _, _, _, _, _, _, rfl, _⟩ := h; rfl)
  · unfold rd_l_holds
    exact (pss_cons (ps_set (i := 2) sc_l_holds.nd rfl (Or.inl rfl) (pe_callS G_l_heard (hr.mono (by decide)) (by rfl) T.d_l_heard.mg T.d_l_heard.fn.kp T.d_l_heard.bi pass0S (pa_cons (pv 0) pa_nil))) (pss_cons (ps_if (PW.pt (pw_or (pt_cmpR (op_neF hr.units) (pe_ix ix_F (pv 2) pe_int (fun _ _ => rfl)) pe_str (nomark _)) (pw_or (pt_not (pt_val (pe_callS G_l_leads_there (hr.mono (by decide)) (by rfl) T.d_l_leads_there.mg T.d_l_leads_there.fn.kp T.d_l_leads_there.bi pass0S (pa_cons (pe_ix ix_F (pv 2) pe_int (fun _ _ => rfl)) (pa_cons (pv 1) pa_nil))))) (pw_or1 (pt_not (pt_val (pe_callS G_l_leads_back (hr.mono (by decide)) (by rfl) T.d_l_leads_back.mg T.d_l_leads_back.fn.kp T.d_l_leads_back.bi pass0S (pa_cons (pe_ix ix_F (pv 2) pe_int (fun _ _ => rfl)) (pa_cons (pv 1) pa_nil))))))))) (pss_one (ps_ret pe_bl)) pss_nil) (pss_cons (ps_set (i := 3) sc_l_holds.nd rfl (Or.inl rfl) (pe_callTy c_list (by rfl) T.b_list (by decide +kernel) (pa_cons (pe_ix ix_F (pv 2) pe_int (fun _ _ => rfl)) pa_nil))) (pss_cons (ps_if (PW.pt (pw_or (pt_not (pt_val (pe_callS G_l_same (hr.mono (by decide)) (by rfl) T.d_l_same.mg T.d_l_same.fn.kp T.d_l_same.bi pass0S (pa_cons (pe_callS G_cost (hr.mono (by decide)) (by rfl) T.d_cost.mg T.d_cost.fn.kp T.d_cost.bi (fun σ => pass_no) (pa_cons (pv 0) pa_nil)) (pa_cons (pe_callB c_len (by rfl) T.b_len (by decide +kernel) (pa_cons (pv 3) pa_nil)) pa_nil))))) (pw_or1 (pt_not (pt_val (pe_callS G_l_same (hr.mono (by decide)) (by rfl) T.d_l_same.mg T.d_l_same.fn.kp T.d_l_same.bi pass0S (pa_cons (pe_callTy c_list (by rfl) T.b_list (by decide +kernel) (pa_cons (pv 0) pa_nil)) (pa_cons (pv 1) pa_nil)))))))) (pss_one (ps_ret pe_bl)) pss_nil) (pss_cons (ps_expr (pe_callS G_l_spoil (hr.mono (by decide)) (by rfl) T.d_l_spoil.mg T.d_l_spoil.fn.kp T.d_l_spoil.bi pass0S (pa_cons (pe_ix ix_F (pv 2) pe_int (fun _ _ => rfl)) pa_nil))) (pss_cons (ps_if (pt_not (pt_val (pe_callS G_l_same (hr.mono (by decide)) (by rfl) T.d_l_same.mg T.d_l_same.fn.kp T.d_l_same.bi pass0S (pa_cons (pe_callS G_l_heard (hr.mono (by decide)) (by rfl) T.d_l_heard.mg T.d_l_heard.fn.kp T.d_l_heard.bi pass0S (pa_cons (pv 0) pa_nil)) (pa_cons (pe_lst (pa_cons pe_str (pa_cons (pv 3) pa_nil))) pa_nil))))) (pss_one (ps_ret pe_bl)) pss_nil) (pss_cons (ps_expr (pe_callS G_l_spoil (hr.mono (by decide)) (by rfl) T.d_l_spoil.mg T.d_l_spoil.fn.kp T.d_l_spoil.bi pass0S (pa_cons (pv 0) pa_nil))) (pss_one (ps_ret (pe_callS G_l_same (hr.mono (by decide)) (by rfl) T.d_l_same.mg T.d_l_same.fn.kp T.d_l_same.bi pass0S (pa_cons (pe_callS G_l_heard (hr.mono (by decide)) (by rfl) T.d_l_heard.mg T.d_l_heard.fn.kp T.d_l_heard.bi pass0S (pa_cons (pe_callTy c_list (by rfl) T.b_list (by decide +kernel) (pa_cons (pv 1) pa_nil)) pa_nil)) (pa_cons (pe_lst (pa_cons pe_str (pa_cons (pv 3) pa_nil))) pa_nil))))))))))))
theorem ok_l_handed (T : Txt K mg C) : FnOk P w K mg base CX0 4 T.d_l_handed.f T.d_l_handed.fd [("store" : Str), ("pairs" : Str)] (sp_l_handed K C) := by
  have G_l_take := ok_l_take (P := P) (w := w) (mg := mg) (base := base) T
  refine T.d_l_handed.fn.ok sc_l_handed (fun vs H Q E h => ?_) (fun cdv A outer s H vs Q E hr h => ⟨rd_l_handed K C E, ?_, pure_l_handed vs H Q E h⟩)
  · first
    | (obtain ⟨_, rfl, _⟩ := h; rfl)
    | (obtain ⟨_, _, rfl, _⟩ := h; rfl)
    | (obtain ⟨_, _, _, rfl, _⟩ := h; rfl)
    | (obtain ⟨_, _, _, _, rfl, _⟩ := h; rfl)
    | (obtain ⟨_, _, _, _, _, rfl, _⟩ := h; rfl)
    | (obtain ⟨_, _, _, _, _, _, rfl, _⟩ := h; rfl)
    | (obtain ⟨_, _, _, _, _, _, _, rfl, _⟩ := h; rfl)
  · unfold rd_l_handed
    exact (pss_cons (ps_if (pt_cmpR (op_eqF hr.units) (pe_callS G_l_take (hr.mono (by decide)) (by rfl) T.d_l_take.mg T.d_l_take.fn.kp T.d_l_take.bi pass0S (pa_cons (pv 0) (pa_cons pe_int pa_nil))) pe_int (nomark _)) (pss_one (ps_ret (pe_callTy c_list (by rfl) T.b_list (by decide +kernel) (pa_cons (pv 1) pa_nil)))) pss_nil) (pss_one (ps_ret (pe_callTy c_tuple (by rfl) T.b_tuple (by decide +kernel) (pa_cons (pv 1) pa_nil)))))
theorem ok_law (T : Txt K mg C) : FnOk P w K mg base CX0 10 T.d_law.f T.d_law.fd [("script" : Str)] (sp_law K C) := by
  have G_l_edge := ok_l_edge (P := P) (w := w) (mg := mg) (base := base) T
  have G_l_handed := ok_l_handed (P := P) (w := w) (mg := mg) (base := base) T
  have G_l_heard := ok_l_heard (P := P) (w := w) (mg := mg) (base := base) T
  have G_l_holds := ok_l_holds (P := P) (w := w) (mg := mg) (base := base) T
  have G_l_no_table := ok_l_no_table (P := P) (w := w) (mg := mg) (base := base) T
  have G_l_same := ok_l_same (P := P) (w := w) (mg := mg) (base := base) T
  have G_l_store := ok_l_store (P := P) (w := w) (mg := mg) (base := base) T
  have G_l_table := ok_l_table (P := P) (w := w) (mg := mg) (base := base) T
  have G_l_turned := ok_l_turned (P := P) (w := w) (mg := mg) (base := base) T
  refine T.d_law.fn.ok sc_law (fun vs H Q E h => ?_) (fun cdv A outer s H vs Q E hr h => ⟨rd_law K C E, ?_, pure_law vs H Q E h⟩)
  · first
    | (obtain ⟨_, rfl, _⟩ := h; rfl)
    | (obtain ⟨_, _, rfl, _⟩ := h; rfl)
    | (obtain ⟨_, _, _, rfl, _⟩ := h; rfl)
    | (obtain ⟨_, _, _, _, rfl, _⟩ := h; rfl)
    | (obtain ⟨_, _, _, _, _, rfl, _⟩ := h; rfl)
    | (obtain ⟨_, _, _, _, _, _, rfl, _⟩ := h; rfl)
    | (obtain ⟨_, _, _, _, _, _, _, rfl, _⟩ := h; rfl)
  · unfold rd_law
    exact (pss_cons (ps_set (i := 1) sc_law.nd rfl (Or.inl rfl) (pe_callS G_l_store (hr.mono (by decide)) (by rfl) T.d_l_store.mg T.d_l_store.fn.kp T.d_l_store.bi pass0S (pa_cons (pv 0) pa_nil))) (pss_cons (ps_set (i := 2) sc_law.nd rfl (Or.inl rfl) (pe_callS G_l_table (hr.mono (by decide)) (by rfl) T.d_l_table.mg T.d_l_table.fn.kp T.d_l_table.bi pass0S (pa_cons (pv 1) (pa_cons (pe_callS G_l_edge (hr.mono (by decide)) (by rfl) T.d_l_edge.mg T.d_l_edge.fn.kp T.d_l_edge.bi pass0S (pa_cons (pv 1) (pa_cons pe_int (pa_cons pe_int pa_nil)))) pa_nil)))) (pss_cons (ps_set (i := 3) sc_law.nd rfl (Or.inl rfl) (pe_callS G_l_table (hr.mono (by decide)) (by rfl) T.d_l_table.mg T.d_l_table.fn.kp T.d_l_table.bi pass0S (pa_cons (pv 1) (pa_cons (pe_callS G_l_edge (hr.mono (by decide)) (by rfl) T.d_l_edge.mg T.d_l_edge.fn.kp T.d_l_edge.bi pass0S (pa_cons (pv 1) (pa_cons pe_int (pa_cons pe_int pa_nil)))) pa_nil)))) (pss_cons (ps_for PassesOwn.never rfl (pi_list (pe_lst (pa_cons (pv 2) (pa_cons (pv 3) (pa_cons (pe_callS G_l_turned (hr.mono (by decide)) (by rfl) T.d_l_turned.mg T.d_l_turned.fn.kp T.d_l_turned.bi pass0S (pa_cons (pv 1) (pa_cons (pv 2) pa_nil))) (pa_cons (pv 3) (pa_cons (pv 2) pa_nil))))))) (pg_name (i := 4) sc_law.nd rfl (by first | exact .inl rfl | exact .inr rfl)) (pss_one (ps_if (pt_not (pt_val (pe_callS G_l_holds (hr.mono (by decide)) (by rfl) T.d_l_holds.mg T.d_l_holds.fn.kp T.d_l_holds.bi pass0S (pa_cons (pe_callS G_l_handed (hr.mono (by decide)) (by rfl) T.d_l_handed.mg T.d_l_handed.fn.kp T.d_l_handed.bi pass0S (pa_cons (pv 1) (pa_cons (pv 4) pa_nil))) (pa_cons (pv 4) pa_nil))))) (pss_one (ps_ret pe_bl)) pss_nil))) (pss_cons (ps_for PassesOwn.never rfl (pi_range1 (by rfl) T.b_range (pa_cons pe_int pa_nil)) (pg_name (i := 5) sc_law.nd rfl (by first | exact .inl rfl | exact .inr rfl)) (pss_one (ps_if (pt_not (pt_val (pe_callS G_l_same (hr.mono (by decide)) (by rfl) T.d_l_same.mg T.d_l_same.fn.kp T.d_l_same.bi pass0S (pa_cons (pe_callS G_l_heard (hr.mono (by decide)) (by rfl) T.d_l_heard.mg T.d_l_heard.fn.kp T.d_l_heard.bi pass0S (pa_cons (pe_callS G_l_no_table (hr.mono (by decide)) (by rfl) T.d_l_no_table.mg T.d_l_no_table.fn.kp T.d_l_no_table.bi pass0S (pa_cons (pv 1) (pa_cons (pv 2) pa_nil))) pa_nil)) (pa_cons (pe_lst (pa_cons pe_str (pa_cons pe_str pa_nil))) pa_nil))))) (pss_one (ps_ret pe_bl)) pss_nil))) (pss_one (ps_ret (pe_callS G_l_holds (hr.mono (by decide)) (by rfl) T.d_l_holds.mg T.d_l_holds.fn.kp T.d_l_holds.bi pass0S (pa_cons (pe_callS G_l_handed (hr.mono (by decide)) (by rfl) T.d_l_handed.mg T.d_l_handed.fn.kp T.d_l_handed.bi pass0S (pa_cons (pv 1) (pa_cons (pv 2) pa_nil))) (pa_cons (pv 2) pa_nil))))))))))
end
end XB

/-! The end. -/
namespace XB
open PySem PySem.Spec PyProof.Rows L2
def sp_lawK (K : PySem.W.Frag) : Sp := fun vs H Q _ => ∃ (a : Addr) (ns : List Int), vs = [.ref a] ∧ SqL K H a (ns.map V.int) ∧ ns.length ≤ 63 ∧ ∀ H', Q (.bl true) H'
theorem all_mk {P : Program} {w : World} {K : PySem.W.Frag} {h : Heap} {mg : Str → Option Value} {fa : Addr} (X : K.In h) (G : h.Ns mainGlobals mg) (hfa : mg "law" = some (.ref fa))
    {q0 q1 q2 q3 : Addr}
    {f1 : Addr} {od1 an1 : Option Addr} {sl1 : Array (Option Value)} {oc1 kV1 dc1 pm1 cd1 ct1 : Value}
    {nm1 qn1 : Str} {N1 : Addr} {bs1 bm1 : List Value} {sn1 : List Str} {sub1 : List Value} {ab1 : Bool} {col1 : Option Bool} {dd1 : Option Addr} {m01 m11 m21 m31 m51 : Option Value}
    {f2 : Addr} {od2 an2 : Option Addr} {sl2 : Array (Option Value)} {oc2 kV2 dc2 pm2 cd2 ct2 : Value}
    {f3 : Addr} {od3 an3 : Option Addr} {sl3 : Array (Option Value)} {oc3 kV3 dc3 pm3 cd3 ct3 : Value}
    {f4 : Addr} {od4 an4 : Option Addr} {sl4 : Array (Option Value)} {oc4 kV4 dc4 pm4 cd4 ct4 : Value}
    {f5 : Addr} {od5 an5 : Option Addr} {sl5 : Array (Option Value)} {oc5 kV5 dc5 pm5 cd5 ct5 : Value}
    {f6 : Addr} {od6 an6 : Option Addr} {sl6 : Array (Option Value)} {oc6 kV6 dc6 pm6 cd6 ct6 : Value}
    {f7 : Addr} {od7 an7 : Option Addr} {sl7 : Array (Option Value)} {oc7 kV7 dc7 pm7 cd7 ct7 : Value}
    {f8 : Addr} {od8 an8 : Option Addr} {sl8 : Array (Option Value)} {oc8 kV8 dc8 pm8 cd8 ct8 : Value}
    {f9 : Addr} {od9 an9 : Option Addr} {sl9 : Array (Option Value)} {oc9 kV9 dc9 pm9 cd9 ct9 : Value}
    {f10 : Addr} {od10 an10 : Option Addr} {sl10 : Array (Option Value)} {oc10 kV10 dc10 pm10 cd10 ct10 : Value}
    {f11 : Addr} {od11 an11 : Option Addr} {sl11 : Array (Option Value)} {oc11 kV11 dc11 pm11 cd11 ct11 : Value}
    {f12 : Addr} {od12 an12 : Option Addr} {sl12 : Array (Option Value)} {oc12 kV12 dc12 pm12 cd12 ct12 : Value}
    {f13 : Addr} {od13 an13 : Option Addr} {sl13 : Array (Option Value)} {oc13 kV13 dc13 pm13 cd13 ct13 : Value}
    {f14 : Addr} {od14 an14 : Option Addr} {sl14 : Array (Option Value)} {oc14 kV14 dc14 pm14 cd14 ct14 : Value}
    {f15 : Addr} {od15 an15 : Option Addr} {sl15 : Array (Option Value)} {oc15 kV15 dc15 pm15 cd15 ct15 : Value}
    {f16 : Addr} {od16 an16 : Option Addr} {sl16 : Array (Option Value)} {oc16 kV16 dc16 pm16 cd16 ct16 : Value}
    {f17 : Addr} {od17 an17 : Option Addr} {sl17 : Array (Option Value)} {oc17 kV17 dc17 pm17 cd17 ct17 : Value}
    {f18 : Addr} {od18 an18 : Option Addr} {sl18 : Array (Option Value)} {oc18 kV18 dc18 pm18 cd18 ct18 : Value}
    {f19 : Addr} {od19 an19 : Option Addr} {sl19 : Array (Option Value)} {oc19 kV19 dc19 pm19 cd19 ct19 : Value}
    {f20 : Addr} {od20 an20 : Option Addr} {sl20 : Array (Option Value)} {oc20 kV20 dc20 pm20 cd20 ct20 : Value}
    {f21 : Addr} {od21 an21 : Option Addr} {sl21 : Array (Option Value)} {oc21 kV21 dc21 pm21 cd21 ct21 : Value}
    {f22 : Addr} {od22 an22 : Option Addr} {sl22 : Array (Option Value)} {oc22 kV22 dc22 pm22 cd22 ct22 : Value}
    {f23 : Addr} {od23 an23 : Option Addr} {sl23 : Array (Option Value)} {oc23 kV23 dc23 pm23 cd23 ct23 : Value}
    {f24 : Addr} {od24 an24 : Option Addr} {sl24 : Array (Option Value)} {oc24 kV24 dc24 pm24 cd24 ct24 : Value}
    {f25 : Addr} {od25 an25 : Option Addr} {sl25 : Array (Option Value)} {oc25 kV25 dc25 pm25 cd25 ct25 : Value}
    {f26 : Addr} {od26 an26 : Option Addr} {sl26 : Array (Option Value)} {oc26 kV26 dc26 pm26 cd26 ct26 : Value}
    {f27 : Addr} {od27 an27 : Option Addr} {sl27 : Array (Option Value)} {oc27 kV27 dc27 pm27 cd27 ct27 : Value}
    {f28 : Addr} {od28 an28 : Option Addr} {sl28 : Array (Option Value)} {oc28 kV28 dc28 pm28 cd28 ct28 : Value}
    {f29 : Addr} {od29 an29 : Option Addr} {sl29 : Array (Option Value)} {oc29 kV29 dc29 pm29 cd29 ct29 : Value}
    {f30 : Addr} {od30 an30 : Option Addr} {sl30 : Array (Option Value)} {oc30 kV30 dc30 pm30 cd30 ct30 : Value}
    {f31 : Addr} {od31 an31 : Option Addr} {sl31 : Array (Option Value)} {oc31 kV31 dc31 pm31 cd31 ct31 : Value}
    {f32 : Addr} {od32 an32 : Option Addr} {sl32 : Array (Option Value)} {oc32 kV32 dc32 pm32 cd32 ct32 : Value}
    {f33 : Addr} {od33 an33 : Option Addr} {sl33 : Array (Option Value)} {oc33 kV33 dc33 pm33 cd33 ct33 : Value}
    {f34 : Addr} {od34 an34 : Option Addr} {sl34 : Array (Option Value)} {oc34 kV34 dc34 pm34 cd34 ct34 : Value}
    {f35 : Addr} {od35 an35 : Option Addr} {sl35 : Array (Option Value)} {oc35 kV35 dc35 pm35 cd35 ct35 : Value}
    {f36 : Addr} {od36 an36 : Option Addr} {sl36 : Array (Option Value)} {oc36 kV36 dc36 pm36 cd36 ct36 : Value}
    {t_LETTERS : Nat}
    {t_LETTERS_AND_DIGITS : Nat}
    {t_LONGEST_NAME : Nat}
    {t_MOST_PAIRS : Nat}
    (a_BadShape : PySem.W.nsIn K mainGlobals "BadShape" = some (some (.ref q1)))
    (a_CrossError : PySem.W.nsIn K mainGlobals "CrossError" = some (some (.ref q0)))
    (a_Lacking : PySem.W.nsIn K mainGlobals "Lacking" = some (some (.ref q2)))
    (a_NoRank : PySem.W.nsIn K mainGlobals "NoRank" = some (some (.ref q3)))
    (x_BadShape : K.lookup q1 = some (excClassObj nm1 qn1 q1 N1 bs1 bm1 true sn1 sub1 ab1 col1 dd1 m01 m11 m21 m31 m51 "ValueError.__new__"))
    (rb_BadShape : PySem.HandSPX.refsVE bm1 = true)
    (sa_BadShape : PySem.W.findIn K (.ref q1) "__setattr__" = some (some (.builtin "object.__setattr__")))
    (ga_BadShape : PySem.W.findIn K (.ref q1) "__getattribute__" = some (some (.builtin "BaseException.__getattribute__")))
    (gg_BadShape : PySem.W.findIn K (.ref q1) "__getattr__" = some none)
    (ha_BadShape : PySem.W.findIn K (.ref q1) "__class__" = some (some (.builtin "object.__class__")))
    (iC_BadShape : PySem.W.findIn K (.ref q1) "__init__" = some (some (.ref f1)))
    (no_parameter_BadShape : PySem.W.findIn K (.ref q1) "parameter" = some none)
    (kC_BadShape : PySem.W.keepIn K (.ref q1) = true)
    (eC_BadShape : PySem.W.subIn K (.ref q1) (.type "BaseException") = some true)
    (tC_BadShape : PySem.W.typeIn K (.ref q1) = some (.type "type"))
    (hC_BadShape : PySem.W.hasDictIn K q1 = true)
    (mr_BadShape : PySem.W.mroIn K q1 (.type "object") = some true)
    (tI_BadShape : PySem.W.typeIn K (.ref f1) = some (.type "function"))
    (l_BadShape_init : K.lookup f1 = some ⟨oc1, od1, .func (PySem.W.fnOf "__init__" "BadShape.__init__" (defArgs s_BadShape_init) (defBody s_BadShape_init) (defScope s_BadShape_init) .none kV1 dc1 pm1 an1 cd1 ct1), sl1⟩)
    (c_BadShape_init : PySem.W.codeIn K cd1 "BadShape.__init__" = true)
    (k_BadShape_init : PySem.W.keepIn K (.ref f1) = true)
    (a_is_name : PySem.W.nsIn K mainGlobals "is_name" = some (some (.ref f2)))
    (l_is_name : K.lookup f2 = some ⟨oc2, od2, .func (PySem.W.fnOf "is_name" "is_name" (defArgs s_is_name) (defBody s_is_name) (defScope s_is_name) .none kV2 dc2 pm2 an2 cd2 ct2), sl2⟩)
    (c_is_name : PySem.W.codeIn K cd2 "is_name" = true)
    (k_is_name : PySem.W.keepIn K (.ref f2) = true)
    (a_is_tuple_of : PySem.W.nsIn K mainGlobals "is_tuple_of" = some (some (.ref f3)))
    (l_is_tuple_of : K.lookup f3 = some ⟨oc3, od3, .func (PySem.W.fnOf "is_tuple_of" "is_tuple_of" (defArgs s_is_tuple_of) (defBody s_is_tuple_of) (defScope s_is_tuple_of) .none kV3 dc3 pm3 an3 cd3 ct3), sl3⟩)
    (c_is_tuple_of : PySem.W.codeIn K cd3 "is_tuple_of" = true)
    (k_is_tuple_of : PySem.W.keepIn K (.ref f3) = true)
    (a_check : PySem.W.nsIn K mainGlobals "check" = some (some (.ref f4)))
    (l_check : K.lookup f4 = some ⟨oc4, od4, .func (PySem.W.fnOf "check" "check" (defArgs s_check) (defBody s_check) (defScope s_check) .none kV4 dc4 pm4 an4 cd4 ct4), sl4⟩)
    (c_check : PySem.W.codeIn K cd4 "check" = true)
    (k_check : PySem.W.keepIn K (.ref f4) = true)
    (a_is_series : PySem.W.nsIn K mainGlobals "is_series" = some (some (.ref f5)))
    (l_is_series : K.lookup f5 = some ⟨oc5, od5, .func (PySem.W.fnOf "is_series" "is_series" (defArgs s_is_series) (defBody s_is_series) (defScope s_is_series) .none kV5 dc5 pm5 an5 cd5 ct5), sl5⟩)
    (c_is_series : PySem.W.codeIn K cd5 "is_series" = true)
    (k_is_series : PySem.W.keepIn K (.ref f5) = true)
    (a_are_name_pairs : PySem.W.nsIn K mainGlobals "are_name_pairs" = some (some (.ref f6)))
    (l_are_name_pairs : K.lookup f6 = some ⟨oc6, od6, .func (PySem.W.fnOf "are_name_pairs" "are_name_pairs" (defArgs s_are_name_pairs) (defBody s_are_name_pairs) (defScope s_are_name_pairs) .none kV6 dc6 pm6 an6 cd6 ct6), sl6⟩)
    (c_are_name_pairs : PySem.W.codeIn K cd6 "are_name_pairs" = true)
    (k_are_name_pairs : PySem.W.keepIn K (.ref f6) = true)
    (a_are_names : PySem.W.nsIn K mainGlobals "are_names" = some (some (.ref f7)))
    (l_are_names : K.lookup f7 = some ⟨oc7, od7, .func (PySem.W.fnOf "are_names" "are_names" (defArgs s_are_names) (defBody s_are_names) (defScope s_are_names) .none kV7 dc7 pm7 an7 cd7 ct7), sl7⟩)
    (c_are_names : PySem.W.codeIn K cd7 "are_names" = true)
    (k_are_names : PySem.W.keepIn K (.ref f7) = true)
    (a_first_repeated : PySem.W.nsIn K mainGlobals "first_repeated" = some (some (.ref f8)))
    (l_first_repeated : K.lookup f8 = some ⟨oc8, od8, .func (PySem.W.fnOf "first_repeated" "first_repeated" (defArgs s_first_repeated) (defBody s_first_repeated) (defScope s_first_repeated) .none kV8 dc8 pm8 an8 cd8 ct8), sl8⟩)
    (c_first_repeated : PySem.W.codeIn K cd8 "first_repeated" = true)
    (k_first_repeated : PySem.W.keepIn K (.ref f8) = true)
    (a_are_unlike : PySem.W.nsIn K mainGlobals "are_unlike" = some (some (.ref f9)))
    (l_are_unlike : K.lookup f9 = some ⟨oc9, od9, .func (PySem.W.fnOf "are_unlike" "are_unlike" (defArgs s_are_unlike) (defBody s_are_unlike) (defScope s_are_unlike) .none kV9 dc9 pm9 an9 cd9 ct9), sl9⟩)
    (c_are_unlike : PySem.W.codeIn K cd9 "are_unlike" = true)
    (k_are_unlike : PySem.W.keepIn K (.ref f9) = true)
    (a_circuits : PySem.W.nsIn K mainGlobals "circuits" = some (some (.ref f10)))
    (l_circuits : K.lookup f10 = some ⟨oc10, od10, .func (PySem.W.fnOf "circuits" "circuits" (defArgs s_circuits) (defBody s_circuits) (defScope s_circuits) .none kV10 dc10 pm10 an10 cd10 ct10), sl10⟩)
    (c_circuits : PySem.W.codeIn K cd10 "circuits" = true)
    (k_circuits : PySem.W.keepIn K (.ref f10) = true)
    (a_circuit_from : PySem.W.nsIn K mainGlobals "circuit_from" = some (some (.ref f11)))
    (l_circuit_from : K.lookup f11 = some ⟨oc11, od11, .func (PySem.W.fnOf "circuit_from" "circuit_from" (defArgs s_circuit_from) (defBody s_circuit_from) (defScope s_circuit_from) .none kV11 dc11 pm11 an11 cd11 ct11), sl11⟩)
    (c_circuit_from : PySem.W.codeIn K cd11 "circuit_from" = true)
    (k_circuit_from : PySem.W.keepIn K (.ref f11) = true)
    (a_cost : PySem.W.nsIn K mainGlobals "cost" = some (some (.ref f12)))
    (l_cost : K.lookup f12 = some ⟨oc12, od12, .func (PySem.W.fnOf "cost" "cost" (defArgs s_cost) (defBody s_cost) (defScope s_cost) .none kV12 dc12 pm12 an12 cd12 ct12), sl12⟩)
    (c_cost : PySem.W.codeIn K cd12 "cost" = true)
    (k_cost : PySem.W.keepIn K (.ref f12) = true)
    (a_exchanges : PySem.W.nsIn K mainGlobals "exchanges" = some (some (.ref f13)))
    (l_exchanges : K.lookup f13 = some ⟨oc13, od13, .func (PySem.W.fnOf "exchanges" "exchanges" (defArgs s_exchanges) (defBody s_exchanges) (defScope s_exchanges) .none kV13 dc13 pm13 an13 cd13 ct13), sl13⟩)
    (c_exchanges : PySem.W.codeIn K cd13 "exchanges" = true)
    (k_exchanges : PySem.W.keepIn K (.ref f13) = true)
    (a_is_table : PySem.W.nsIn K mainGlobals "is_table" = some (some (.ref f14)))
    (l_is_table : K.lookup f14 = some ⟨oc14, od14, .func (PySem.W.fnOf "is_table" "is_table" (defArgs s_is_table) (defBody s_is_table) (defScope s_is_table) .none kV14 dc14 pm14 an14 cd14 ct14), sl14⟩)
    (c_is_table : PySem.W.codeIn K cd14 "is_table" = true)
    (k_is_table : PySem.W.keepIn K (.ref f14) = true)
    (a_l_mixed : PySem.W.nsIn K mainGlobals "_law_mixed" = some (some (.ref f15)))
    (l_l_mixed : K.lookup f15 = some ⟨oc15, od15, .func (PySem.W.fnOf "_law_mixed" "_law_mixed" (defArgs s_l_mixed) (defBody s_l_mixed) (defScope s_l_mixed) .none kV15 dc15 pm15 an15 cd15 ct15), sl15⟩)
    (c_l_mixed : PySem.W.codeIn K cd15 "_law_mixed" = true)
    (k_l_mixed : PySem.W.keepIn K (.ref f15) = true)
    (a_l_store : PySem.W.nsIn K mainGlobals "_law_store" = some (some (.ref f16)))
    (l_l_store : K.lookup f16 = some ⟨oc16, od16, .func (PySem.W.fnOf "_law_store" "_law_store" (defArgs s_l_store) (defBody s_l_store) (defScope s_l_store) .none kV16 dc16 pm16 an16 cd16 ct16), sl16⟩)
    (c_l_store : PySem.W.codeIn K cd16 "_law_store" = true)
    (k_l_store : PySem.W.keepIn K (.ref f16) = true)
    (a_l_take : PySem.W.nsIn K mainGlobals "_law_take" = some (some (.ref f17)))
    (l_l_take : K.lookup f17 = some ⟨oc17, od17, .func (PySem.W.fnOf "_law_take" "_law_take" (defArgs s_l_take) (defBody s_l_take) (defScope s_l_take) .none kV17 dc17 pm17 an17 cd17 ct17), sl17⟩)
    (c_l_take : PySem.W.codeIn K cd17 "_law_take" = true)
    (k_l_take : PySem.W.keepIn K (.ref f17) = true)
    (a_l_great : PySem.W.nsIn K mainGlobals "_law_great" = some (some (.ref f18)))
    (l_l_great : K.lookup f18 = some ⟨oc18, od18, .func (PySem.W.fnOf "_law_great" "_law_great" (defArgs s_l_great) (defBody s_l_great) (defScope s_l_great) .none kV18 dc18 pm18 an18 cd18 ct18), sl18⟩)
    (c_l_great : PySem.W.codeIn K cd18 "_law_great" = true)
    (k_l_great : PySem.W.keepIn K (.ref f18) = true)
    (a_l_edge : PySem.W.nsIn K mainGlobals "_law_edge" = some (some (.ref f19)))
    (l_l_edge : K.lookup f19 = some ⟨oc19, od19, .func (PySem.W.fnOf "_law_edge" "_law_edge" (defArgs s_l_edge) (defBody s_l_edge) (defScope s_l_edge) .none kV19 dc19 pm19 an19 cd19 ct19), sl19⟩)
    (c_l_edge : PySem.W.codeIn K cd19 "_law_edge" = true)
    (k_l_edge : PySem.W.keepIn K (.ref f19) = true)
    (a_l_pick : PySem.W.nsIn K mainGlobals "_law_pick" = some (some (.ref f20)))
    (l_l_pick : K.lookup f20 = some ⟨oc20, od20, .func (PySem.W.fnOf "_law_pick" "_law_pick" (defArgs s_l_pick) (defBody s_l_pick) (defScope s_l_pick) .none kV20 dc20 pm20 an20 cd20 ct20), sl20⟩)
    (c_l_pick : PySem.W.codeIn K cd20 "_law_pick" = true)
    (k_l_pick : PySem.W.keepIn K (.ref f20) = true)
    (a_l_some : PySem.W.nsIn K mainGlobals "_law_some" = some (some (.ref f21)))
    (l_l_some : K.lookup f21 = some ⟨oc21, od21, .func (PySem.W.fnOf "_law_some" "_law_some" (defArgs s_l_some) (defBody s_l_some) (defScope s_l_some) .none kV21 dc21 pm21 an21 cd21 ct21), sl21⟩)
    (c_l_some : PySem.W.codeIn K cd21 "_law_some" = true)
    (k_l_some : PySem.W.keepIn K (.ref f21) = true)
    (a_l_turned : PySem.W.nsIn K mainGlobals "_law_turned" = some (some (.ref f22)))
    (l_l_turned : K.lookup f22 = some ⟨oc22, od22, .func (PySem.W.fnOf "_law_turned" "_law_turned" (defArgs s_l_turned) (defBody s_l_turned) (defScope s_l_turned) .none kV22 dc22 pm22 an22 cd22 ct22), sl22⟩)
    (c_l_turned : PySem.W.codeIn K cd22 "_law_turned" = true)
    (k_l_turned : PySem.W.keepIn K (.ref f22) = true)
    (a_l_word : PySem.W.nsIn K mainGlobals "_law_word" = some (some (.ref f23)))
    (l_l_word : K.lookup f23 = some ⟨oc23, od23, .func (PySem.W.fnOf "_law_word" "_law_word" (defArgs s_l_word) (defBody s_l_word) (defScope s_l_word) .none kV23 dc23 pm23 an23 cd23 ct23), sl23⟩)
    (c_l_word : PySem.W.codeIn K cd23 "_law_word" = true)
    (k_l_word : PySem.W.keepIn K (.ref f23) = true)
    (a_l_names : PySem.W.nsIn K mainGlobals "_law_names" = some (some (.ref f24)))
    (l_l_names : K.lookup f24 = some ⟨oc24, od24, .func (PySem.W.fnOf "_law_names" "_law_names" (defArgs s_l_names) (defBody s_l_names) (defScope s_l_names) .none kV24 dc24 pm24 an24 cd24 ct24), sl24⟩)
    (c_l_names : PySem.W.codeIn K cd24 "_law_names" = true)
    (k_l_names : PySem.W.keepIn K (.ref f24) = true)
    (a_l_fresh : PySem.W.nsIn K mainGlobals "_law_fresh" = some (some (.ref f25)))
    (l_l_fresh : K.lookup f25 = some ⟨oc25, od25, .func (PySem.W.fnOf "_law_fresh" "_law_fresh" (defArgs s_l_fresh) (defBody s_l_fresh) (defScope s_l_fresh) .none kV25 dc25 pm25 an25 cd25 ct25), sl25⟩)
    (c_l_fresh : PySem.W.codeIn K cd25 "_law_fresh" = true)
    (k_l_fresh : PySem.W.keepIn K (.ref f25) = true)
    (a_l_no_name : PySem.W.nsIn K mainGlobals "_law_no_name" = some (some (.ref f26)))
    (l_l_no_name : K.lookup f26 = some ⟨oc26, od26, .func (PySem.W.fnOf "_law_no_name" "_law_no_name" (defArgs s_l_no_name) (defBody s_l_no_name) (defScope s_l_no_name) .none kV26 dc26 pm26 an26 cd26 ct26), sl26⟩)
    (c_l_no_name : PySem.W.codeIn K cd26 "_law_no_name" = true)
    (k_l_no_name : PySem.W.keepIn K (.ref f26) = true)
    (a_l_same : PySem.W.nsIn K mainGlobals "_law_same" = some (some (.ref f27)))
    (l_l_same : K.lookup f27 = some ⟨oc27, od27, .func (PySem.W.fnOf "_law_same" "_law_same" (defArgs s_l_same) (defBody s_l_same) (defScope s_l_same) .none kV27 dc27 pm27 an27 cd27 ct27), sl27⟩)
    (c_l_same : PySem.W.codeIn K cd27 "_law_same" = true)
    (k_l_same : PySem.W.keepIn K (.ref f27) = true)
    (a_l_spoil : PySem.W.nsIn K mainGlobals "_law_spoil" = some (some (.ref f28)))
    (l_l_spoil : K.lookup f28 = some ⟨oc28, od28, .func (PySem.W.fnOf "_law_spoil" "_law_spoil" (defArgs s_l_spoil) (defBody s_l_spoil) (defScope s_l_spoil) .none kV28 dc28 pm28 an28 cd28 ct28), sl28⟩)
    (c_l_spoil : PySem.W.codeIn K cd28 "_law_spoil" = true)
    (k_l_spoil : PySem.W.keepIn K (.ref f28) = true)
    (a_l_table : PySem.W.nsIn K mainGlobals "_law_table" = some (some (.ref f29)))
    (l_l_table : K.lookup f29 = some ⟨oc29, od29, .func (PySem.W.fnOf "_law_table" "_law_table" (defArgs s_l_table) (defBody s_l_table) (defScope s_l_table) .none kV29 dc29 pm29 an29 cd29 ct29), sl29⟩)
    (c_l_table : PySem.W.codeIn K cd29 "_law_table" = true)
    (k_l_table : PySem.W.keepIn K (.ref f29) = true)
    (a_l_no_table : PySem.W.nsIn K mainGlobals "_law_no_table" = some (some (.ref f30)))
    (l_l_no_table : K.lookup f30 = some ⟨oc30, od30, .func (PySem.W.fnOf "_law_no_table" "_law_no_table" (defArgs s_l_no_table) (defBody s_l_no_table) (defScope s_l_no_table) .none kV30 dc30 pm30 an30 cd30 ct30), sl30⟩)
    (c_l_no_table : PySem.W.codeIn K cd30 "_law_no_table" = true)
    (k_l_no_table : PySem.W.keepIn K (.ref f30) = true)
    (a_l_heard : PySem.W.nsIn K mainGlobals "_law_heard" = some (some (.ref f31)))
    (l_l_heard : K.lookup f31 = some ⟨oc31, od31, .func (PySem.W.fnOf "_law_heard" "_law_heard" (defArgs s_l_heard) (defBody s_l_heard) (defScope s_l_heard) .none kV31 dc31 pm31 an31 cd31 ct31), sl31⟩)
    (c_l_heard : PySem.W.codeIn K cd31 "_law_heard" = true)
    (k_l_heard : PySem.W.keepIn K (.ref f31) = true)
    (a_l_leads_there : PySem.W.nsIn K mainGlobals "_law_leads_there" = some (some (.ref f32)))
    (l_l_leads_there : K.lookup f32 = some ⟨oc32, od32, .func (PySem.W.fnOf "_law_leads_there" "_law_leads_there" (defArgs s_l_leads_there) (defBody s_l_leads_there) (defScope s_l_leads_there) .none kV32 dc32 pm32 an32 cd32 ct32), sl32⟩)
    (c_l_leads_there : PySem.W.codeIn K cd32 "_law_leads_there" = true)
    (k_l_leads_there : PySem.W.keepIn K (.ref f32) = true)
    (a_l_leads_back : PySem.W.nsIn K mainGlobals "_law_leads_back" = some (some (.ref f33)))
    (l_l_leads_back : K.lookup f33 = some ⟨oc33, od33, .func (PySem.W.fnOf "_law_leads_back" "_law_leads_back" (defArgs s_l_leads_back) (defBody s_l_leads_back) (defScope s_l_leads_back) .none kV33 dc33 pm33 an33 cd33 ct33), sl33⟩)
    (c_l_leads_back : PySem.W.codeIn K cd33 "_law_leads_back" = true)
    (k_l_leads_back : PySem.W.keepIn K (.ref f33) = true)
    (a_l_holds : PySem.W.nsIn K mainGlobals "_law_holds" = some (some (.ref f34)))
    (l_l_holds : K.lookup f34 = some ⟨oc34, od34, .func (PySem.W.fnOf "_law_holds" "_law_holds" (defArgs s_l_holds) (defBody s_l_holds) (defScope s_l_holds) .none kV34 dc34 pm34 an34 cd34 ct34), sl34⟩)
    (c_l_holds : PySem.W.codeIn K cd34 "_law_holds" = true)
    (k_l_holds : PySem.W.keepIn K (.ref f34) = true)
    (a_l_handed : PySem.W.nsIn K mainGlobals "_law_handed" = some (some (.ref f35)))
    (l_l_handed : K.lookup f35 = some ⟨oc35, od35, .func (PySem.W.fnOf "_law_handed" "_law_handed" (defArgs s_l_handed) (defBody s_l_handed) (defScope s_l_handed) .none kV35 dc35 pm35 an35 cd35 ct35), sl35⟩)
    (c_l_handed : PySem.W.codeIn K cd35 "_law_handed" = true)
    (k_l_handed : PySem.W.keepIn K (.ref f35) = true)
    (a_law : PySem.W.nsIn K mainGlobals "law" = some (some (.ref f36)))
    (l_law : K.lookup f36 = some ⟨oc36, od36, .func (PySem.W.fnOf "law" "law" (defArgs s_law) (defBody s_law) (defScope s_law) .none kV36 dc36 pm36 an36 cd36 ct36), sl36⟩)
    (c_law : PySem.W.codeIn K cd36 "law" = true)
    (k_law : PySem.W.keepIn K (.ref f36) = true)
    (hn : PySem.W.specialIn K (.builtin "object.__class__") "__get__" = some (some (.builtin "getset_descriptor.__get__")))
    (ht : PySem.W.takesIn K (.builtin "object.__class__") = some true)
    (a_LETTERS : PySem.W.nsIn K mainGlobals "LETTERS" = some (some (.str ("abcdefghijklmnopqrstuvwxyz" : Str) t_LETTERS)))
    (a_LETTERS_AND_DIGITS : PySem.W.nsIn K mainGlobals "LETTERS_AND_DIGITS" = some (some (.str ("abcdefghijklmnopqrstuvwxyz0123456789" : Str) t_LETTERS_AND_DIGITS)))
    (a_LONGEST_NAME : PySem.W.nsIn K mainGlobals "LONGEST_NAME" = some (some (.int 8 t_LONGEST_NAME)))
    (a_MOST_PAIRS : PySem.W.nsIn K mainGlobals "MOST_PAIRS" = some (some (.int 12 t_MOST_PAIRS)))
    (z_ValueError : PySem.W.nsIn K mainGlobals "ValueError" = some none)
    (z_all : PySem.W.nsIn K mainGlobals "all" = some none)
    (z_bool : PySem.W.nsIn K mainGlobals "bool" = some none)
    (z_dict : PySem.W.nsIn K mainGlobals "dict" = some none)
    (z_int : PySem.W.nsIn K mainGlobals "int" = some none)
    (z_isinstance : PySem.W.nsIn K mainGlobals "isinstance" = some none)
    (z_len : PySem.W.nsIn K mainGlobals "len" = some none)
    (z_list : PySem.W.nsIn K mainGlobals "list" = some none)
    (z_max : PySem.W.nsIn K mainGlobals "max" = some none)
    (z_min : PySem.W.nsIn K mainGlobals "min" = some none)
    (z_range : PySem.W.nsIn K mainGlobals "range" = some none)
    (z_set : PySem.W.nsIn K mainGlobals "set" = some none)
    (z_sorted : PySem.W.nsIn K mainGlobals "sorted" = some none)
    (z_str : PySem.W.nsIn K mainGlobals "str" = some none)
    (z_sum : PySem.W.nsIn K mainGlobals "sum" = some none)
    (z_tuple : PySem.W.nsIn K mainGlobals "tuple" = some none)
    (ef_x_bb : PySem.W.exmOne K (.ref q1) (.ref q1) = some true)
    (ef_k_bc : PySem.W.kitOne K (.ref q1) (.ref q0) = some true)
    (ef_k_bv : PySem.W.kitOne K (.ref q1) (.type "ValueError") = some true)
    (ef_a_b : PySem.W.kitAny K (.ref q1) [.ref q3, .ref q2] = some false)
    : ∃ fd : FuncData, (∀ (s : Shared) (u : Value), BindsTo s fd ⟨[u], []⟩ [("script", u)]) ∧ ∀ base : Heap, K.In base → base.Ns mainGlobals mg → FnOk P w K mg base CX0 30 fa fd ["script"] (sp_lawK K) := by
  have e := hfa.symm.trans (PySem.W.mg_of X G a_law)
  cases e
  let T : Txt K mg (⟨q0, q1, q2, q3⟩ : CA) := {
    e_BadShape := ⟨f1, _, ⟨⟨_, _, _, _, _, _, _, _, _, _, _, _, _, _, _, x_BadShape, rb_BadShape⟩, sa_BadShape, eC_BadShape, tC_BadShape, kC_BadShape⟩, iC_BadShape, tI_BadShape, fun_mk (st := s_BadShape_init) l_BadShape_init c_BadShape_init k_BadShape_init, (Fun.binds (ps := [("self" : Str), ("parameter" : Str)]) (fun_mk (st := s_BadShape_init) l_BadShape_init c_BadShape_init k_BadShape_init) fun _ _ _ _ _ _ us hl => match us, hl with | [_, _], _ => rfl),
    ⟨ga_BadShape, gg_BadShape, eC_BadShape, hC_BadShape, ha_BadShape, hn, ht, mr_BadShape⟩, ⟨ga_BadShape, gg_BadShape, eC_BadShape, hC_BadShape⟩, (List.forall_mem_cons.2 ⟨no_parameter_BadShape, (fun _ h => absurd h List.not_mem_nil)⟩)⟩,
    d_is_name := ⟨f2, _, PySem.W.mg_of X G a_is_name, fun_mk (st := s_is_name) l_is_name c_is_name k_is_name, (Fun.binds (ps := [("value" : Str)]) (fun_mk (st := s_is_name) l_is_name c_is_name k_is_name) fun _ _ _ _ _ _ us hl => match us, hl with | [_], _ => rfl)⟩,
    d_is_tuple_of := ⟨f3, _, PySem.W.mg_of X G a_is_tuple_of, fun_mk (st := s_is_tuple_of) l_is_tuple_of c_is_tuple_of k_is_tuple_of, (Fun.binds (ps := [("value" : Str), ("parts" : Str)]) (fun_mk (st := s_is_tuple_of) l_is_tuple_of c_is_tuple_of k_is_tuple_of) fun _ _ _ _ _ _ us hl => match us, hl with | [_, _], _ => rfl)⟩,
    d_check := ⟨f4, _, PySem.W.mg_of X G a_check, fun_mk (st := s_check) l_check c_check k_check, (Fun.binds (ps := [("fits" : Str), ("parameter" : Str)]) (fun_mk (st := s_check) l_check c_check k_check) fun _ _ _ _ _ _ us hl => match us, hl with | [_, _], _ => rfl)⟩,
    d_is_series := ⟨f5, _, PySem.W.mg_of X G a_is_series, fun_mk (st := s_is_series) l_is_series c_is_series k_is_series, (Fun.binds (ps := [("value" : Str)]) (fun_mk (st := s_is_series) l_is_series c_is_series k_is_series) fun _ _ _ _ _ _ us hl => match us, hl with | [_], _ => rfl)⟩,
    d_are_name_pairs := ⟨f6, _, PySem.W.mg_of X G a_are_name_pairs, fun_mk (st := s_are_name_pairs) l_are_name_pairs c_are_name_pairs k_are_name_pairs, (Fun.binds (ps := [("value" : Str)]) (fun_mk (st := s_are_name_pairs) l_are_name_pairs c_are_name_pairs k_are_name_pairs) fun _ _ _ _ _ _ us hl => match us, hl with | [_], _ => rfl)⟩,
    d_are_names := ⟨f7, _, PySem.W.mg_of X G a_are_names, fun_mk (st := s_are_names) l_are_names c_are_names k_are_names, (Fun.binds (ps := [("values" : Str)]) (fun_mk (st := s_are_names) l_are_names c_are_names k_are_names) fun _ _ _ _ _ _ us hl => match us, hl with | [_], _ => rfl)⟩,
    d_first_repeated := ⟨f8, _, PySem.W.mg_of X G a_first_repeated, fun_mk (st := s_first_repeated) l_first_repeated c_first_repeated k_first_repeated, (Fun.binds (ps := [("things" : Str)]) (fun_mk (st := s_first_repeated) l_first_repeated c_first_repeated k_first_repeated) fun _ _ _ _ _ _ us hl => match us, hl with | [_], _ => rfl)⟩,
    d_are_unlike := ⟨f9, _, PySem.W.mg_of X G a_are_unlike, fun_mk (st := s_are_unlike) l_are_unlike c_are_unlike k_are_unlike, (Fun.binds (ps := [("things" : Str)]) (fun_mk (st := s_are_unlike) l_are_unlike c_are_unlike k_are_unlike) fun _ _ _ _ _ _ us hl => match us, hl with | [_], _ => rfl)⟩,
    d_circuits := ⟨f10, _, PySem.W.mg_of X G a_circuits, fun_mk (st := s_circuits) l_circuits c_circuits k_circuits, (Fun.binds (ps := [("table" : Str)]) (fun_mk (st := s_circuits) l_circuits c_circuits k_circuits) fun _ _ _ _ _ _ us hl => match us, hl with | [_], _ => rfl)⟩,
    d_circuit_from := ⟨f11, _, PySem.W.mg_of X G a_circuit_from, fun_mk (st := s_circuit_from) l_circuit_from c_circuit_from k_circuit_from, (Fun.binds (ps := [("name" : Str), ("images" : Str)]) (fun_mk (st := s_circuit_from) l_circuit_from c_circuit_from k_circuit_from) fun _ _ _ _ _ _ us hl => match us, hl with | [_, _], _ => rfl)⟩,
    d_cost := ⟨f12, _, PySem.W.mg_of X G a_cost, fun_mk (st := s_cost) l_cost c_cost k_cost, (Fun.binds (ps := [("table" : Str)]) (fun_mk (st := s_cost) l_cost c_cost k_cost) fun _ _ _ _ _ _ us hl => match us, hl with | [_], _ => rfl)⟩,
    d_exchanges := ⟨f13, _, PySem.W.mg_of X G a_exchanges, fun_mk (st := s_exchanges) l_exchanges c_exchanges k_exchanges, (Fun.binds (ps := [("table" : Str)]) (fun_mk (st := s_exchanges) l_exchanges c_exchanges k_exchanges) fun _ _ _ _ _ _ us hl => match us, hl with | [_], _ => rfl)⟩,
    d_is_table := ⟨f14, _, PySem.W.mg_of X G a_is_table, fun_mk (st := s_is_table) l_is_table c_is_table k_is_table, (Fun.binds (ps := [("value" : Str)]) (fun_mk (st := s_is_table) l_is_table c_is_table k_is_table) fun _ _ _ _ _ _ us hl => match us, hl with | [_], _ => rfl)⟩,
    d_l_mixed := ⟨f15, _, PySem.W.mg_of X G a_l_mixed, fun_mk (st := s_l_mixed) l_l_mixed c_l_mixed k_l_mixed, (Fun.binds (ps := [("cell" : Str), ("k" : Str)]) (fun_mk (st := s_l_mixed) l_l_mixed c_l_mixed k_l_mixed) fun _ _ _ _ _ _ us hl => match us, hl with | [_, _], _ => rfl)⟩,
    d_l_store := ⟨f16, _, PySem.W.mg_of X G a_l_store, fun_mk (st := s_l_store) l_l_store c_l_store k_l_store, (Fun.binds (ps := [("script" : Str)]) (fun_mk (st := s_l_store) l_l_store c_l_store k_l_store) fun _ _ _ _ _ _ us hl => match us, hl with | [_], _ => rfl)⟩,
    d_l_take := ⟨f17, _, PySem.W.mg_of X G a_l_take, fun_mk (st := s_l_take) l_l_take c_l_take k_l_take, (Fun.binds (ps := [("store" : Str), ("many" : Str)]) (fun_mk (st := s_l_take) l_l_take c_l_take k_l_take) fun _ _ _ _ _ _ us hl => match us, hl with | [_, _], _ => rfl)⟩,
    d_l_great := ⟨f18, _, PySem.W.mg_of X G a_l_great, fun_mk (st := s_l_great) l_l_great c_l_great k_l_great, (Fun.binds (ps := [("store" : Str), ("many" : Str)]) (fun_mk (st := s_l_great) l_l_great c_l_great k_l_great) fun _ _ _ _ _ _ us hl => match us, hl with | [_, _], _ => rfl)⟩,
    d_l_edge := ⟨f19, _, PySem.W.mg_of X G a_l_edge, fun_mk (st := s_l_edge) l_l_edge c_l_edge k_l_edge, (Fun.binds (ps := [("store" : Str), ("low" : Str), ("high" : Str)]) (fun_mk (st := s_l_edge) l_l_edge c_l_edge k_l_edge) fun _ _ _ _ _ _ us hl => match us, hl with | [_, _, _], _ => rfl)⟩,
    d_l_pick := ⟨f20, _, PySem.W.mg_of X G a_l_pick, fun_mk (st := s_l_pick) l_l_pick c_l_pick k_l_pick, (Fun.binds (ps := [("store" : Str), ("row" : Str)]) (fun_mk (st := s_l_pick) l_l_pick c_l_pick k_l_pick) fun _ _ _ _ _ _ us hl => match us, hl with | [_, _], _ => rfl)⟩,
    d_l_some := ⟨f21, _, PySem.W.mg_of X G a_l_some, fun_mk (st := s_l_some) l_l_some c_l_some k_l_some, (Fun.binds (ps := [("store" : Str), ("row" : Str), ("many" : Str)]) (fun_mk (st := s_l_some) l_l_some c_l_some k_l_some) fun _ _ _ _ _ _ us hl => match us, hl with | [_, _, _], _ => rfl)⟩,
    d_l_turned := ⟨f22, _, PySem.W.mg_of X G a_l_turned, fun_mk (st := s_l_turned) l_l_turned c_l_turned k_l_turned, (Fun.binds (ps := [("store" : Str), ("row" : Str)]) (fun_mk (st := s_l_turned) l_l_turned c_l_turned k_l_turned) fun _ _ _ _ _ _ us hl => match us, hl with | [_, _], _ => rfl)⟩,
    d_l_word := ⟨f23, _, PySem.W.mg_of X G a_l_word, fun_mk (st := s_l_word) l_l_word c_l_word k_l_word, (Fun.binds (ps := [("store" : Str), ("size" : Str)]) (fun_mk (st := s_l_word) l_l_word c_l_word k_l_word) fun _ _ _ _ _ _ us hl => match us, hl with | [_, _], _ => rfl)⟩,
    d_l_names := ⟨f24, _, PySem.W.mg_of X G a_l_names, fun_mk (st := s_l_names) l_l_names c_l_names k_l_names, (Fun.binds (ps := [("store" : Str), ("many" : Str)]) (fun_mk (st := s_l_names) l_l_names c_l_names k_l_names) fun _ _ _ _ _ _ us hl => match us, hl with | [_, _], _ => rfl)⟩,
    d_l_fresh := ⟨f25, _, PySem.W.mg_of X G a_l_fresh, fun_mk (st := s_l_fresh) l_l_fresh c_l_fresh k_l_fresh, (Fun.binds (ps := [("store" : Str), ("row" : Str)]) (fun_mk (st := s_l_fresh) l_l_fresh c_l_fresh k_l_fresh) fun _ _ _ _ _ _ us hl => match us, hl with | [_, _], _ => rfl)⟩,
    d_l_no_name := ⟨f26, _, PySem.W.mg_of X G a_l_no_name, fun_mk (st := s_l_no_name) l_l_no_name c_l_no_name k_l_no_name, (Fun.binds (ps := [("store" : Str)]) (fun_mk (st := s_l_no_name) l_l_no_name c_l_no_name k_l_no_name) fun _ _ _ _ _ _ us hl => match us, hl with | [_], _ => rfl)⟩,
    d_l_same := ⟨f27, _, PySem.W.mg_of X G a_l_same, fun_mk (st := s_l_same) l_l_same c_l_same k_l_same, (Fun.binds (ps := [("one" : Str), ("other" : Str)]) (fun_mk (st := s_l_same) l_l_same c_l_same k_l_same) fun _ _ _ _ _ _ us hl => match us, hl with | [_, _], _ => rfl)⟩,
    d_l_spoil := ⟨f28, _, PySem.W.mg_of X G a_l_spoil, fun_mk (st := s_l_spoil) l_l_spoil c_l_spoil k_l_spoil, (Fun.binds (ps := [("value" : Str)]) (fun_mk (st := s_l_spoil) l_l_spoil c_l_spoil k_l_spoil) fun _ _ _ _ _ _ us hl => match us, hl with | [_], _ => rfl)⟩,
    d_l_table := ⟨f29, _, PySem.W.mg_of X G a_l_table, fun_mk (st := s_l_table) l_l_table c_l_table k_l_table, (Fun.binds (ps := [("store" : Str), ("many" : Str)]) (fun_mk (st := s_l_table) l_l_table c_l_table k_l_table) fun _ _ _ _ _ _ us hl => match us, hl with | [_, _], _ => rfl)⟩,
    d_l_no_table := ⟨f30, _, PySem.W.mg_of X G a_l_no_table, fun_mk (st := s_l_no_table) l_l_no_table c_l_no_table k_l_no_table, (Fun.binds (ps := [("store" : Str), ("pairs" : Str)]) (fun_mk (st := s_l_no_table) l_l_no_table c_l_no_table k_l_no_table) fun _ _ _ _ _ _ us hl => match us, hl with | [_, _], _ => rfl)⟩,
    d_l_heard := ⟨f31, _, PySem.W.mg_of X G a_l_heard, fun_mk (st := s_l_heard) l_l_heard c_l_heard k_l_heard, (Fun.binds (ps := [("table" : Str)]) (fun_mk (st := s_l_heard) l_l_heard c_l_heard k_l_heard) fun _ _ _ _ _ _ us hl => match us, hl with | [_], _ => rfl)⟩,
    d_l_leads_there := ⟨f32, _, PySem.W.mg_of X G a_l_leads_there, fun_mk (st := s_l_leads_there) l_l_leads_there c_l_leads_there k_l_leads_there, (Fun.binds (ps := [("told" : Str), ("pairs" : Str)]) (fun_mk (st := s_l_leads_there) l_l_leads_there c_l_leads_there k_l_leads_there) fun _ _ _ _ _ _ us hl => match us, hl with | [_, _], _ => rfl)⟩,
    d_l_leads_back := ⟨f33, _, PySem.W.mg_of X G a_l_leads_back, fun_mk (st := s_l_leads_back) l_l_leads_back c_l_leads_back k_l_leads_back, (Fun.binds (ps := [("told" : Str), ("pairs" : Str)]) (fun_mk (st := s_l_leads_back) l_l_leads_back c_l_leads_back k_l_leads_back) fun _ _ _ _ _ _ us hl => match us, hl with | [_, _], _ => rfl)⟩,
    d_l_holds := ⟨f34, _, PySem.W.mg_of X G a_l_holds, fun_mk (st := s_l_holds) l_l_holds c_l_holds k_l_holds, (Fun.binds (ps := [("handed" : Str), ("pairs" : Str)]) (fun_mk (st := s_l_holds) l_l_holds c_l_holds k_l_holds) fun _ _ _ _ _ _ us hl => match us, hl with | [_, _], _ => rfl)⟩,
    d_l_handed := ⟨f35, _, PySem.W.mg_of X G a_l_handed, fun_mk (st := s_l_handed) l_l_handed c_l_handed k_l_handed, (Fun.binds (ps := [("store" : Str), ("pairs" : Str)]) (fun_mk (st := s_l_handed) l_l_handed c_l_handed k_l_handed) fun _ _ _ _ _ _ us hl => match us, hl with | [_, _], _ => rfl)⟩,
    d_law := ⟨fa, _, PySem.W.mg_of X G a_law, fun_mk (st := s_law) l_law c_law k_law, (Fun.binds (ps := [("script" : Str)]) (fun_mk (st := s_law) l_law c_law k_law) fun _ _ _ _ _ _ us hl => match us, hl with | [_], _ => rfl)⟩,
    g_BadShape := PySem.W.mg_of X G a_BadShape,
    g_CrossError := PySem.W.mg_of X G a_CrossError,
    g_Lacking := PySem.W.mg_of X G a_Lacking,
    g_NoRank := PySem.W.mg_of X G a_NoRank,
    t_LETTERS := t_LETTERS,
    c_LETTERS := PySem.W.mg_of X G a_LETTERS,
    t_LETTERS_AND_DIGITS := t_LETTERS_AND_DIGITS,
    c_LETTERS_AND_DIGITS := PySem.W.mg_of X G a_LETTERS_AND_DIGITS,
    t_LONGEST_NAME := t_LONGEST_NAME,
    c_LONGEST_NAME := PySem.W.mg_of X G a_LONGEST_NAME,
    t_MOST_PAIRS := t_MOST_PAIRS,
    c_MOST_PAIRS := PySem.W.mg_of X G a_MOST_PAIRS,
    b_ValueError := PySem.W.mg_none_of X G z_ValueError,
    b_all := PySem.W.mg_none_of X G z_all,
    b_bool := PySem.W.mg_none_of X G z_bool,
    b_dict := PySem.W.mg_none_of X G z_dict,
    b_int := PySem.W.mg_none_of X G z_int,
    b_isinstance := PySem.W.mg_none_of X G z_isinstance,
    b_len := PySem.W.mg_none_of X G z_len,
    b_list := PySem.W.mg_none_of X G z_list,
    b_max := PySem.W.mg_none_of X G z_max,
    b_min := PySem.W.mg_none_of X G z_min,
    b_range := PySem.W.mg_none_of X G z_range,
    b_set := PySem.W.mg_none_of X G z_set,
    b_sorted := PySem.W.mg_none_of X G z_sorted,
    b_str := PySem.W.mg_none_of X G z_str,
    b_sum := PySem.W.mg_none_of X G z_sum,
    b_tuple := PySem.W.mg_none_of X G z_tuple,
    ef := ⟨ef_x_bb, ef_k_bc, ef_k_bv, ef_a_b⟩ }
  exact ⟨_, fun s u => .of_eq rfl, fun base _ _ => (ok_law T).mono (by decide)⟩
end XB

/-! The end. -/
namespace XB
open PySem PySem.Spec PyProof.Rows L2
theorem walk {l : PySem.W.OpenLaw} {q : Program} {loose : List Str} {XP : (Str → Option Value) → Heap → Prop} {YP : World → Heap → Prop} {d : DefRec} {K : Params → PySem.W.Frag} (hn : l.most = some 63) (hdf : d.params.defaults = [])
    (hY : ∀ (w : World) (h : Heap), YP w h → (K w.params).In h) 
    (F : ∀ (w : World) (mg : Str → Option Value) (fa : Addr) (h : Heap), (K w.params).In h → h.Ns mainGlobals mg → mg d.name = some (.ref fa) →
      ∃ fd : FuncData, (∀ (s : Shared) (u : Value), BindsTo s fd ⟨[u], []⟩ [("script", u)]) ∧ ∀ base : Heap, (K w.params).In base → base.Ns mainGlobals mg → FnOk l.prog w (K w.params) mg base CX0 30 fa fd ["script"] (sp_lawK (K w.params))) :
    PySem.W.WalkO q loose XP YP l.row.toRowW d [] (fun f vs => PySem.call f vs) :=
  L2.walk_of (n := 63) (k := 30) (x := "script") (CX := fun _ => CX0) (sp := fun w => sp_lawK (K w.params)) hn (by decide) hdf ⟨rfl, by decide, by decide⟩ hY F (fun _ _ a ns hl _ hS => ⟨a, ns, rfl, hS, hl, fun _ => rfl⟩) fun _ _ _ _ _ z => z
end XB
open PySem PySem.W PyProof.Rows in
set_option maxRecDepth 100000 in
set_option maxHeartbeats 0 in
theorem PySem.Challenge.cw_crossfarers_k07_exchanges_of_a_table_holds : PySem.Challenge.rw_crossfarers_k07_exchanges_of_a_table.Holds := by
  w_on; o_law; k_head; (case hw => w_witness2)
  k_fill
  refine XB.walk (l := PySem.Challenge.rw_crossfarers_k07_exchanges_of_a_table) rfl rfl (fun w h Y => PySem.W.kIn_of Y) ?F
  case F =>
    intro w mg fa h KX G hmg
    refine' XB.all_mk KX G hmg ?a_BadShape ?a_CrossError ?a_Lacking ?a_NoRank ?x_BadShape ?rb_BadShape ?sa_BadShape ?ga_BadShape ?gg_BadShape ?ha_BadShape ?iC_BadShape ?no_parameter_BadShape ?kC_BadShape ?eC_BadShape ?tC_BadShape ?hC_BadShape ?mr_BadShape ?tI_BadShape ?l_BadShape_init ?c_BadShape_init ?k_BadShape_init ?a_is_name ?l_is_name ?c_is_name ?k_is_name ?a_is_tuple_of ?l_is_tuple_of ?c_is_tuple_of ?k_is_tuple_of ?a_check ?l_check ?c_check ?k_check ?a_is_series ?l_is_series ?c_is_series ?k_is_series ?a_are_name_pairs ?l_are_name_pairs ?c_are_name_pairs ?k_are_name_pairs ?a_are_names ?l_are_names ?c_are_names ?k_are_names ?a_first_repeated ?l_first_repeated ?c_first_repeated ?k_first_repeated ?a_are_unlike ?l_are_unlike ?c_are_unlike ?k_are_unlike ?a_circuits ?l_circuits ?c_circuits ?k_circuits ?a_circuit_from ?l_circuit_from ?c_circuit_from ?k_circuit_from ?a_cost ?l_cost ?c_cost ?k_cost ?a_exchanges ?l_exchanges ?c_exchanges ?k_exchanges ?a_is_table ?l_is_table ?c_is_table ?k_is_table ?a_l_mixed ?l_l_mixed ?c_l_mixed ?k_l_mixed ?a_l_store ?l_l_store ?c_l_store ?k_l_store ?a_l_take ?l_l_take ?c_l_take ?k_l_take ?a_l_great ?l_l_great ?c_l_great ?k_l_great ?a_l_edge ?l_l_edge ?c_l_edge ?k_l_edge ?a_l_pick ?l_l_pick ?c_l_pick ?k_l_pick ?a_l_some ?l_l_some ?c_l_some ?k_l_some ?a_l_turned ?l_l_turned ?c_l_turned ?k_l_turned ?a_l_word ?l_l_word ?c_l_word ?k_l_word ?a_l_names ?l_l_names ?c_l_names ?k_l_names ?a_l_fresh ?l_l_fresh ?c_l_fresh ?k_l_fresh ?a_l_no_name ?l_l_no_name ?c_l_no_name ?k_l_no_name ?a_l_same ?l_l_same ?c_l_same ?k_l_same ?a_l_spoil ?l_l_spoil ?c_l_spoil ?k_l_spoil ?a_l_table ?l_l_table ?c_l_table ?k_l_table ?a_l_no_table ?l_l_no_table ?c_l_no_table ?k_l_no_table ?a_l_heard ?l_l_heard ?c_l_heard ?k_l_heard ?a_l_leads_there ?l_l_leads_there ?c_l_leads_there ?k_l_leads_there ?a_l_leads_back ?l_l_leads_back ?c_l_leads_back ?k_l_leads_back ?a_l_holds ?l_l_holds ?c_l_holds ?k_l_holds ?a_l_handed ?l_l_handed ?c_l_handed ?k_l_handed ?a_law ?l_law ?c_law ?k_law ?hn ?ht ?a_LETTERS ?a_LETTERS_AND_DIGITS ?a_LONGEST_NAME ?a_MOST_PAIRS ?z_ValueError ?z_all ?z_bool ?z_dict ?z_int ?z_isinstance ?z_len ?z_list ?z_max ?z_min ?z_range ?z_set ?z_sorted ?z_str ?z_sum ?z_tuple ?ef_x_bb ?ef_k_bc ?ef_k_bv ?ef_a_b
    (case a_BadShape => k_is)
    (case a_CrossError => k_is)
    (case a_Lacking => k_is)
    (case a_NoRank => k_is)
    (case x_BadShape => k_is)
    (case rb_BadShape => decide +kernel)
    (case sa_BadShape => k_is)
    (case ga_BadShape => k_is)
    (case gg_BadShape => k_is)
    (case ha_BadShape => k_is)
    (case iC_BadShape => k_is)
    (case no_parameter_BadShape => k_is)
    (case kC_BadShape => k_is)
    (case eC_BadShape => k_is)
    (case tC_BadShape => k_is)
    (case hC_BadShape => k_is)
    (case mr_BadShape => k_is)
    (case tI_BadShape => k_is)
    (case l_BadShape_init => k_is)
    (case c_BadShape_init => k_is)
    (case k_BadShape_init => k_is)
    (case a_is_name => k_is)
    (case l_is_name => k_is)
    (case c_is_name => k_is)
    (case k_is_name => k_is)
    (case a_is_tuple_of => k_is)
    (case l_is_tuple_of => k_is)
    (case c_is_tuple_of => k_is)
    (case k_is_tuple_of => k_is)
    (case a_check => k_is)
    (case l_check => k_is)
    (case c_check => k_is)
    (case k_check => k_is)
    (case a_is_series => k_is)
    (case l_is_series => k_is)
    (case c_is_series => k_is)
    (case k_is_series => k_is)
    (case a_are_name_pairs => k_is)
    (case l_are_name_pairs => k_is)
    (case c_are_name_pairs => k_is)
    (case k_are_name_pairs => k_is)
    (case a_are_names => k_is)
    (case l_are_names => k_is)
    (case c_are_names => k_is)
    (case k_are_names => k_is)
    (case a_first_repeated => k_is)
    (case l_first_repeated => k_is)
    (case c_first_repeated => k_is)
    (case k_first_repeated => k_is)
    (case a_are_unlike => k_is)
    (case l_are_unlike => k_is)
    (case c_are_unlike => k_is)
    (case k_are_unlike => k_is)
    (case a_circuits => k_is)
    (case l_circuits => k_is)
    (case c_circuits => k_is)
    (case k_circuits => k_is)
    (case a_circuit_from => k_is)
    (case l_circuit_from => k_is)
    (case c_circuit_from => k_is)
    (case k_circuit_from => k_is)
    (case a_cost => k_is)
    (case l_cost => k_is)
    (case c_cost => k_is)
    (case k_cost => k_is)
    (case a_exchanges => k_is)
    (case l_exchanges => k_is)
    (case c_exchanges => k_is)
    (case k_exchanges => k_is)
    (case a_is_table => k_is)
    (case l_is_table => k_is)
    (case c_is_table => k_is)
    (case k_is_table => k_is)
    (case a_l_mixed => k_is)
    (case l_l_mixed => k_is)
    (case c_l_mixed => k_is)
    (case k_l_mixed => k_is)
    (case a_l_store => k_is)
    (case l_l_store => k_is)
    (case c_l_store => k_is)
    (case k_l_store => k_is)
    (case a_l_take => k_is)
    (case l_l_take => k_is)
    (case c_l_take => k_is)
    (case k_l_take => k_is)
    (case a_l_great => k_is)
    (case l_l_great => k_is)
    (case c_l_great => k_is)
    (case k_l_great => k_is)
    (case a_l_edge => k_is)
    (case l_l_edge => k_is)
    (case c_l_edge => k_is)
    (case k_l_edge => k_is)
    (case a_l_pick => k_is)
    (case l_l_pick => k_is)
    (case c_l_pick => k_is)
    (case k_l_pick => k_is)
    (case a_l_some => k_is)
    (case l_l_some => k_is)
    (case c_l_some => k_is)
    (case k_l_some => k_is)
    (case a_l_turned => k_is)
    (case l_l_turned => k_is)
    (case c_l_turned => k_is)
    (case k_l_turned => k_is)
    (case a_l_word => k_is)
    (case l_l_word => k_is)
    (case c_l_word => k_is)
    (case k_l_word => k_is)
    (case a_l_names => k_is)
    (case l_l_names => k_is)
    (case c_l_names => k_is)
    (case k_l_names => k_is)
    (case a_l_fresh => k_is)
    (case l_l_fresh => k_is)
    (case c_l_fresh => k_is)
    (case k_l_fresh => k_is)
    (case a_l_no_name => k_is)
    (case l_l_no_name => k_is)
    (case c_l_no_name => k_is)
    (case k_l_no_name => k_is)
    (case a_l_same => k_is)
    (case l_l_same => k_is)
    (case c_l_same => k_is)
    (case k_l_same => k_is)
    (case a_l_spoil => k_is)
    (case l_l_spoil => k_is)
    (case c_l_spoil => k_is)
    (case k_l_spoil => k_is)
    (case a_l_table => k_is)
    (case l_l_table => k_is)
    (case c_l_table => k_is)
    (case k_l_table => k_is)
    (case a_l_no_table => k_is)
    (case l_l_no_table => k_is)
    (case c_l_no_table => k_is)
    (case k_l_no_table => k_is)
    (case a_l_heard => k_is)
    (case l_l_heard => k_is)
    (case c_l_heard => k_is)
    (case k_l_heard => k_is)
    (case a_l_leads_there => k_is)
    (case l_l_leads_there => k_is)
    (case c_l_leads_there => k_is)
    (case k_l_leads_there => k_is)
    (case a_l_leads_back => k_is)
    (case l_l_leads_back => k_is)
    (case c_l_leads_back => k_is)
    (case k_l_leads_back => k_is)
    (case a_l_holds => k_is)
    (case l_l_holds => k_is)
    (case c_l_holds => k_is)
    (case k_l_holds => k_is)
    (case a_l_handed => k_is)
    (case l_l_handed => k_is)
    (case c_l_handed => k_is)
    (case k_l_handed => k_is)
    (case a_law => k_is)
    (case l_law => k_is)
    (case c_law => k_is)
    (case k_law => k_is)
    (case hn => k_is)
    (case ht => k_is)
    (case a_LETTERS => k_is)
    (case a_LETTERS_AND_DIGITS => k_is)
    (case a_LONGEST_NAME => k_is)
    (case a_MOST_PAIRS => k_is)
    (case z_ValueError => k_is)
    (case z_all => k_is)
    (case z_bool => k_is)
    (case z_dict => k_is)
    (case z_int => k_is)
    (case z_isinstance => k_is)
    (case z_len => k_is)
    (case z_list => k_is)
    (case z_max => k_is)
    (case z_min => k_is)
    (case z_range => k_is)
    (case z_set => k_is)
    (case z_sorted => k_is)
    (case z_str => k_is)
    (case z_sum => k_is)
    (case z_tuple => k_is)
    (case ef_x_bb => first | kernel_rfl | exact rfl)
    (case ef_k_bc => first | kernel_rfl | exact rfl)
    (case ef_k_bv => first | kernel_rfl | exact rfl)
    (case ef_a_b => first | kernel_rfl | exact rfl)
