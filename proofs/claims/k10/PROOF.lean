import PyProof.Rows.All
import Wide.All
import OpenK.AllK
import Wide.FinOn
import HandS.ForMost
import HandS.ForExc
import HandS.Wide
import HandS.More
import HandS.Evl
import HandS.IsInst
import HandS.TupMul
import HandS.TupLe
import HandS.TryMany
import HandS.ExcInit
import HandS.ExcField
import HandS.ExcIs
import HandS.Style
import HandS.Zip
import HandS.HotCalls
import HandS.ExcInitHot
import HandS.Codes
import HandS.WordsDict
import HandS.DictEq
import HandS.TupAny
import HandS.SetKeys
import HandS.DictComp
import HandS.DictTup
import HandS.ClsMeth
import HandS.Property
import HandS.OwnEq
import HandS.IterVal
import KE.KDictIter
import KE.KDictList
import HandS.Conv
import PyProof.FString5
import KE.SortData
import KE.KEqDict
import HandS.Deep
import PyProof.P3In
import HandS.Defaults
import KE.KDictZip
import KE.GoesMore
import PySem.Challenge.RW_crossfarers_k10_full_and_chain
set_option Elab.async false
set_option linter.all false
set_option maxRecDepth 100000
set_option maxHeartbeats 8000000

/-! Own words over the hand layer. Each operator's reading is a function of the values and the heap (so that simp runs it); how a reading is taken apart. -/
namespace XB
open PySem L2
/-! ### what stands in the heap -/
def asL : Option HO → Option (List V)
  | some (.lst xs) => some xs
  | some (.frz _ (.lst xs)) => some xs
  | _ => none
def asT : Option HO → Option (List V)
  | some (.tup xs) => some xs
  | some (.frz _ (.tup xs)) => some xs
  | _ => none
theorem asL_seq {K : PySem.W.Frag} {H : Hp} {p : Addr} {xs : List V} (h : asL (H p) = some xs) : SqL K H p xs := by
  unfold asL at h
  split at h
  · rename_i ys e; cases h; exact .inl (.inl e)
  · rename_i o ys e; cases h; exact .inl (.inr ⟨o, e⟩)
  · cases h
theorem asT_seq {K : PySem.W.Frag} {H : Hp} {p : Addr} {xs : List V} (h : asT (H p) = some xs) : SqT K H p xs := by
  unfold asT at h
  split at h
  · rename_i ys e; cases h; exact .inl (.inl e)
  · rename_i o ys e; cases h; exact .inl (.inr ⟨o, e⟩)
  · cases h
def asS (o : Option HO) : Option (List V) := match asL o with
  | some xs => some xs
  | none => asT o
theorem asS_or {o : Option HO} {xs : List V} (h : asS o = some xs) : asL o = some xs ∨ asT o = some xs := by
  unfold asS at h
  split at h
  · rename_i e; rw [← h]; exact .inl e
  · exact .inr h
def atV (xs : List V) (i : Int) (q : V → Prop) : Prop := match atI xs i with
  | some v => q v
  | none => False
/-! ### operators -/
def fAdd : R2 := fun x y H Q => match x, y with
  | .int i, .int j => Q (.int (i + j)) H
  | .str a, .str b => a.length + b.length ≤ sizeLine ∧ Q (.str (a ++ b)) H
  | .ref a, .ref b => (match H a, H b with
    | some (.lst xs), some (.lst ys) => xs.length + ys.length ≤ sizeLine ∧ ∀ p, H p = none → Q (.ref p) (upd H p (.lst (xs ++ ys)))
    | some (.tup xs), some (.tup ys) => xs ≠ [] ∧ ys ≠ [] ∧ xs.length + ys.length ≤ sizeLine ∧ ∀ p, H p = none → Q (.ref p) (upd H p (.tup (xs ++ ys)))
    | _, _ => False)
  | _, _ => False
def fSub : R2 := fun x y H Q => match x, y with
  | .int i, .int j => Q (.int (i - j)) H
  | _, _ => False
def fMul : R2 := fun x y H Q => match x, y with
  | .int i, .int j => CMul i j ∧ Q (.int (i * j)) H
  | .ref a, .int k => (match H a with
    | some (.lst xs) => (-(2 ^ 63) ≤ k ∧ k < 2 ^ 63 ∧ xs.length * k.toNat ≤ sizeLine) ∧ ∀ p, H p = none → Q (.ref p) (upd H p (.lst (List.replicate k.toNat xs).flatten))
    | _ => False)
  | _, _ => False
def fMod : R2 := fun x y H Q => match x, y with
  | .int i, .int j => 0 < j ∧ Q (.int (i % j)) H
  | _, _ => False
def fDiv : R2 := fun x y H Q => match x, y with
  | .int i, .int j => CDivW i j ∧ Q (.int (i / j)) H
  | _, _ => False
def fPow : R2 := fun x y H Q => match x, y with
  | .int i, .int j => CPow i j ∧ Q (.int (i ^ j.toNat)) H
  | _, _ => False
def fNeg : V → Hp → VK → Prop := fun x H Q => match x with
  | .int i => Q (.int (-i)) H
  | _ => False
def fCmp (f : Int → Int → Bool) : R2 := fun x y H Q => match x, y with
  | .int i, .int j => Q (.bl (f i j)) H
  | _, _ => False
abbrev fLt : R2 := fCmp fun i j => decide (i < j)
abbrev fLe : R2 := fCmp fun i j => decide (i ≤ j)
abbrev fGt : R2 := fCmp fun i j => decide (j < i)
abbrev fGe : R2 := fCmp fun i j => decide (j ≤ i)
def fEq (K : PySem.W.Frag) : R2 := fun x y H Q => match x, y with
  | .int i, .int j => Q (.bl (decide (i = j))) H
  | .bl i, .bl j => Q (.bl (decide (i = j))) H
  | .str i, .str j => Q (.bl (decide (i = j))) H
  | .ref a, .ref b => rEqD K (.ref a) (.ref b) H Q
  | x, y => scal x y = true ∧ Q (.bl (decide (x = y))) H
def fNe (K : PySem.W.Frag) : R2 := fun x y H Q => match x, y with
  | .int i, .int j => Q (.bl (!decide (i = j))) H
  | .bl i, .bl j => Q (.bl (!decide (i = j))) H
  | .str i, .str j => Q (.bl (!decide (i = j))) H
  | .ref a, .ref b => rNeD K (.ref a) (.ref b) H Q
  | x, y => scal x y = true ∧ Q (.bl (!decide (x = y))) H
def fIsN : R2 := fun x y H Q => match y with
  | .non => Q (.bl (decide (x = .non))) H
  | _ => False
def fNotN : R2 := fun x y H Q => match y with
  | .non => Q (.bl (!decide (x = .non))) H
  | _ => False
def fIsB : R2 := fun x y H Q => match x, y with
  | .bl a, .bl b => Q (.bl (decide (a = b))) H
  | _, _ => False
def fIx : R2 := fun x y H Q => match x, y with
  | .ref p, .int i => (match asS (H p) with
    | some xs => atV xs i fun v => Q v H
    | none => False)
  | .str z, .int i => z.length ≤ sizeLine ∧ ∃ c, atI z.cps.toList i = some c ∧ Q (.str ⟨#[c]⟩) H
  | _, _ => False
def fIn (K : PySem.W.Frag) : R2 := fun x y H Q => match x, y with
  | .str ⟨⟨[c]⟩⟩, .str z => Q (.bl (decide (c ∈ z.cps.toList))) H
  | x, .ref p => (match asS (H p) with
    | some xs => flatV x = true ∧ xs.all flatV = true ∧ Q (.bl (inV x xs)) H
    | none => False)
  | _, _ => False
/-! ### calls of what is built in -/
abbrev RL := List V → Hp → VK → Prop
def fInt : RL := fun xs H Q => match xs with
  | [.int i] => Q (.int i) H
  | [.bl k] => Q (.int (if k then 1 else 0)) H
  | _ => False
def fLen : RL := fun xs H Q => match xs with
  | [.str z] => z.length ≤ sizeLine ∧ Q (.int (z.length : Nat)) H
  | [.ref p] => (match asS (H p) with
    | some ys => Q (.int (ys.length : Nat)) H
    | none => False)
  | _ => False
def fMax : RL := fun xs H Q => match xs with
  | [.int i, .int j] => Q (.int (max i j)) H
  | _ => False
def fMin : RL := fun xs H Q => match xs with
  | [.int i, .int j] => Q (.int (min i j)) H
  | _ => False
def fAbs : RL := fun xs H Q => match xs with
  | [.int i] => Q (.int (if i < 0 then -i else i)) H
  | _ => False
def fList : RL := fun xs H Q => match xs with
  | [.ref p] => (match asS (H p) with
    | some ys => ∀ l, H l = none → Q (.ref l) (upd H l (.lst ys))
    | none => False)
  | _ => False
def fTuple : RL := fun xs H Q => match xs with
  | [.ref p] => (match asL (H p) with
    | some ys => ∀ l, H l = none → Q (.ref l) (upd H l (.tup ys))
    | none => False)
  | _ => False
def fAll : RL := fun xs H Q => match xs with
  | [.ref p] => (match asL (H p) with
    | some ys => ∃ bs : List Bool, ys = bs.map V.bl ∧ Q (.bl (bs.all id)) H
    | none => False)
  | _ => False
def fSum : RL := fun xs H Q => match xs with
  | [.ref p] => (match asL (H p) with
    | some ys => ∃ ns : List Int, ys = ns.map V.int ∧ Q (.int ns.sum) H
    | none => False)
  | _ => False
/-- the built-in class of a value -/
def tyN (x : V) (H : Hp) : Option String := match x with
  | .non => some "NoneType"
  | .bl _ => some "bool"
  | .int _ => some "int"
  | .str _ => some "str"
  | .ref p => (match H p with
    | some (.lst _) => some "list"
    | some (.frz _ (.lst _)) => some "list"
    | some (.tup _) => some "tuple"
    | some (.frz _ (.tup _)) => some "tuple"
    | some (.dK _) => some "dict"
    | some (.dT _) => some "dict"
    | some (.frz _ (.dK _)) => some "dict"
    | _ => none)
  | _ => none
theorem tyN_x {K : PySem.W.Frag} {x : V} {H : Hp} {t : String} (h : tyN x H = some t) : TyX K H x (.type t) := by
  unfold tyN at h
  split at h
  · cases h; exact .base .non
  · cases h; exact .base (.bl _)
  · cases h; exact .base (.int _)
  · cases h; exact .base (.str _)
  · split at h
    · rename_i e; cases h; exact .base (.lst e)
    · rename_i e; cases h; exact .base (.frz e)
    · rename_i e; cases h; exact .base (.tup e)
    · rename_i e; cases h; exact .fTuple e
    · rename_i e; cases h; exact .base (.dK e)
    · rename_i e; cases h; exact .base (.dT e)
    · rename_i e; cases h; exact .fDict e
    · cases h
  · cases h
def tys : List V → Option (List String)
  | [] => some []
  | .ty c :: r => (tys r).map (c :: ·)
  | _ => none
def kitS (t : String) : List String → Option Bool
  | [] => some false
  | c :: r => (match kitB t c with
    | some true => some true
    | some false => kitS t r
    | none => none)
theorem kitS_any {K : PySem.W.Frag} {t : String} : ∀ {ns : List String} {b : Bool}, kitS t ns = some b → PySem.W.kitAny K (.type t) (ns.map Value.type) = some b
  | [], b, h => h
  | c :: r, b, h => by
    unfold kitS at h
    split at h
    · rename_i e
      exact kitAny_cons (kit_ty e) (fun z => by cases z) (fun _ => by cases h; rfl)
    · rename_i e
      exact kitAny_cons (kit_ty e) (fun _ => kitS_any h) (fun z => by cases z)
    · cases h
theorem tys_pair : ∀ {cs : List V} {ns : List String}, tys cs = some ns → Paired ClsV cs (ns.map Value.type)
  | [], ns, h => by cases h; exact .nil
  | .ty c :: r, ns, h => by
    unfold tys at h
    cases e : tys r with
    | none => rw [e] at h; cases h
    | some m => rw [e] at h; cases h; exact .cons (.ty c) (tys_pair e)
  | .non :: _, _, h => by cases h
  | .bl _ :: _, _, h => by cases h
  | .int _ :: _, _, h => by cases h
  | .str _ :: _, _, h => by cases h
  | .byt _ :: _, _, h => by cases h
  | .flt _ :: _, _, h => by cases h
  | .ref _ :: _, _, h => by cases h
def fIsi : RL := fun xs H Q => match xs with
  | [x, .ty c] => (match tyN x H with
    | some t => (match kitB t c with
      | some b => Q (.bl b) H
      | none => False)
    | none => False)
  | _ => False
def fIsiT : RL := fun xs H Q => match xs with
  | [x, .ref tp] => (match tyN x H, H tp with
    | some t, some (.tup cs) => (match tys cs with
      | some ns => (match kitS t ns with
        | some b => Q (.bl b) H
        | none => False)
      | none => False)
    | _, _ => False)
  | _ => False
/-! ### methods, slices, stores, targets -/
abbrev RM := V → List V → Hp → VK → Prop
def fAppend : RM := fun x vs H Q => match x, vs with
  | .ref l, [y] => (match H l with
    | some (.lst xs) => xs.length < sizeLine ∧ Q .non (upd H l (.lst (xs ++ [y])))
    | _ => False)
  | _, _ => False
def fInsert : RM := fun x vs H Q => match x, vs with
  | .ref l, [.int i, y] => (match H l with
    | some (.lst xs) => (xs.length < sizeLine ∧ 0 ≤ i ∧ i < 2 ^ 63) ∧ Q .non (upd H l (.lst (xs.take i.toNat ++ [y] ++ xs.drop i.toNat)))
    | _ => False)
  | _, _ => False
def fPop : RM := fun x vs H Q => match x, vs with
  | .ref l, [] => (match H l with
    | some (.lst xs) => (match xs[xs.length - 1]? with
      | some y => Q y (upd H l (.lst xs.dropLast))
      | none => False)
    | _ => False)
  | _, _ => False
def fSl : V → Option Int → Option Int → Hp → VK → Prop := fun x lo hi H Q => match x with
  | .ref p => (match asL (H p) with
    | some xs => ∀ q, H q = none → Q (.ref q) (upd H q (.lst (cutV xs lo hi)))
    | none => (match asT (H p) with
      | some xs => ¬ (HT.sIx xs.length 0 lo = 0 ∧ HT.sIx xs.length xs.length hi = xs.length) ∧ ∀ q, H q = none → Q (.ref q) (upd H q (.tup (cutV xs lo hi)))
      | none => False))
  | _ => False
def fSet : V → V → V → Hp → (Hp → Prop) → Prop := fun o i v H Q => match o, i with
  | .ref p, .int k => (match H p with
    | some (.lst xs) => (match ixN xs.length k with
      | some j => Q (upd H p (.lst (xs.set j v)))
      | none => False)
    | _ => False)
  | _, _ => False
def gTupF (n : Nat) (t : TGs) : TG := fun v σ H Q => match v with
  | .ref a => (match asT (H a) with
    | some xs => xs.length = n ∧ t xs σ H Q
    | none => False)
  | _ => False
def tBMF (T : String) (r : RM) (to : TE) (t : TA) : TE := fun σ H Q => to σ H fun x H1 => tyN x H1 = some T ∧ t σ H1 fun xs H2 => r x xs H2 Q
def tBM0F (T : String) (r : RM) (to : TE) : TE := fun σ H Q => to σ H fun x H1 => tyN x H1 = some T ∧ r x [] H1 Q
def tRevF (te : TE) : TE := fun σ H Q => te σ H fun x H1 => match x with
  | .ref a => (match asL (H1 a) with
    | some xs => ∀ p, H1 p = none → Q (.ref p) (upd H1 p (.lst xs.reverse))
    | none => False)
  | _ => False
theorem ty_of_list {K : PySem.W.Frag} {x : V} {H : Hp} (h : tyN x H = some "list") : tyV K "list" x H := by
  unfold tyN at h
  split at h
  · exact absurd (Option.some.inj h) (by decide)
  · exact absurd (Option.some.inj h) (by decide)
  · exact absurd (Option.some.inj h) (by decide)
  · exact absurd (Option.some.inj h) (by decide)
  · split at h
    · rename_i e; exact .inl ⟨rfl, _, .inl (.inl e)⟩
    · rename_i o xs e; exact .inl ⟨rfl, _, .inl (.inr ⟨o, e⟩)⟩
    · exact absurd (Option.some.inj h) (by decide)
    · exact absurd (Option.some.inj h) (by decide)
    · exact absurd (Option.some.inj h) (by decide)
    · exact absurd (Option.some.inj h) (by decide)
    · exact absurd (Option.some.inj h) (by decide)
    · cases h
  · cases h
theorem bm_var {K : PySem.W.Frag} {r : RM} {n : Nat} {t : TA} : ∀ σ H Q, tBMF "list" r (tVar n) t σ H Q → tBM K "list" r (tVar n) t σ H Q := fun σ H Q ⟨v, e, h1, h2⟩ => ⟨v, e, ty_of_list h1, h2⟩
theorem bm0_var {K : PySem.W.Frag} {r : RM} {n : Nat} : ∀ σ H Q, tBM0F "list" r (tVar n) σ H Q → tBM0 K "list" r (tVar n) σ H Q := fun σ H Q ⟨v, e, h1, h2⟩ => ⟨v, e, ty_of_list h1, h2⟩
theorem rev_var {K : PySem.W.Frag} {n : Nat} : ∀ σ H Q, tRevF (tVar n) σ H Q → tRevL K (tVar n) σ H Q := fun σ H Q ⟨v, e, h⟩ => by
  refine ⟨v, e, ?_⟩
  dsimp only at h ⊢
  split at h
  · split at h
    · rename_i e2
      exact ⟨_, _, rfl, asL_seq e2, h⟩
    · exact h.elim
  · exact h.elim
section
variable {X : Cx}
theorem op_imp {f : Value → Value → Sem Value} {r r' : R2} (h : OpR X f r) (k : ∀ x y H Q, r' x y H Q → r x y H Q) : OpR X f r' :=
  fun pins s σ H x y v u Q I rx ry q => h pins s σ H x y v u Q I rx ry (k x y H Q q)
theorem un_imp {f : Value → Sem Value} {r r' : V → Hp → VK → Prop} (h : UnR X f r) (k : ∀ x H Q, r' x H Q → r x H Q) : UnR X f r' :=
  fun pins s σ H x v Q I rx q => h pins s σ H x v Q I rx (k x H Q q)
theorem call_imp {f : Value} {r r' : RL} (h : CallR X f r) (k : ∀ xs H Q, r' xs H Q → r xs H Q) : CallR X f r' :=
  fun pins s σ H xs us Q I rs q => h pins s σ H xs us Q I rs (k xs H Q q)
theorem mt_imp {id : String} {r r' : RM} (h : MtR X id r) (k : ∀ x xs H Q, r' x xs H Q → r x xs H Q) : MtR X id r' :=
  fun pins s σ H x xs v us Q I rx rs q => h pins s σ H x xs v us Q I rx rs (k x xs H Q q)
theorem ix_imp {r r' : R2} (h : IxR X r) (k : ∀ x y H Q, r' x y H Q → r x y H Q) : IxR X r' :=
  fun value slice pins s σ H x y v u Q I rx ry q hs => h value slice pins s σ H x y v u Q I rx ry (k x y H Q q) hs
theorem op_addF : OpR X (binaryOp .Add) fAdd := op_imp (op_add.or (op_cat.or (op_catT.or op_add_str))) fun x y H Q h => by
  unfold fAdd at h
  split at h
  · exact .inl ⟨_, _, rfl, rfl, h⟩
  · exact .inr (.inr (.inr ⟨_, _, rfl, rfl, h.1, h.2⟩))
  · split at h
    · rename_i e1 e2
      exact .inr (.inl ⟨_, _, _, _, rfl, rfl, e1, e2, h.1, h.2⟩)
    · rename_i e1 e2
      exact .inr (.inr (.inl ⟨_, _, _, _, rfl, rfl, .inl (.inl e1), .inl (.inl e2), h.1, h.2.2.1, fun z => absurd z h.2.1, fun _ => h.2.2.2⟩))
    · exact h.elim
  · exact h.elim
theorem op_subF : OpR X (binaryOp .Sub) fSub := op_imp op_sub fun x y H Q h => by
  unfold fSub at h
  split at h
  · exact ⟨_, _, rfl, rfl, h⟩
  · exact h.elim
theorem op_mulF : OpR X (binaryOp .Mult) fMul := op_imp (op_mul.or op_rep) fun x y H Q h => by
  unfold fMul at h
  split at h
  · exact .inl ⟨_, _, rfl, rfl, h.1, h.2⟩
  · split at h
    · rename_i e
      exact .inr ⟨_, _, _, rfl, rfl, e, h.1.1, h.1.2.1, h.1.2.2, h.2⟩
    · exact h.elim
  · exact h.elim
theorem op_modF : OpR X (binaryOp .Mod) fMod := op_imp op_mod fun x y H Q h => by
  unfold fMod at h
  split at h
  · exact ⟨_, _, rfl, rfl, h.1, h.2⟩
  · exact h.elim
theorem op_divF : OpR X (binaryOp .FloorDiv) fDiv := op_imp op_fdivW fun x y H Q h => by
  unfold fDiv at h
  split at h
  · exact ⟨_, _, rfl, rfl, h.1, h.2⟩
  · exact h.elim
theorem op_powF : OpR X (binaryOp .Pow) fPow := op_imp op_pow fun x y H Q h => by
  unfold fPow at h
  split at h
  · exact ⟨_, _, rfl, rfl, h.1, h.2⟩
  · exact h.elim
theorem un_negF : UnR X (unaryOp .USub) fNeg := un_imp un_neg fun x H Q h => by
  unfold fNeg at h
  split at h
  · exact ⟨_, rfl, h⟩
  · exact h.elim
theorem cmp_back {f : Int → Int → Bool} {x y : V} {H : Hp} {Q : VK} (h : fCmp f x y H Q) : rI0 (fun i j => .bl (f i j)) x y H Q := by
  unfold fCmp at h
  split at h
  · exact ⟨_, _, rfl, rfl, h⟩
  · exact h.elim
theorem op_ltF : OpR X (compareOp .Lt) fLt := op_imp op_lt fun _ _ _ _ h => cmp_back h
theorem op_leF : OpR X (compareOp .LtE) fLe := op_imp op_le fun _ _ _ _ h => cmp_back h
theorem op_gtF : OpR X (compareOp .Gt) fGt := op_imp op_gt fun _ _ _ _ h => cmp_back h
theorem op_geF : OpR X (compareOp .GtE) fGe := op_imp op_ge fun _ _ _ _ h => cmp_back h
theorem op_eqF (hu : X.A.units + 64 < cLine) : OpR X (compareOp .Eq) (fEq X.K) := op_imp (op_eq.or (op_eqD hu)) fun x y H Q h => by
  unfold fEq at h
  split at h
  · rename_i i j
    exact .inl ⟨rfl, by have e : decide (V.int i = V.int j) = decide (i = j) := by simp
                        rw [e]; exact h⟩
  · rename_i i j
    exact .inl ⟨rfl, by have e : decide (V.bl i = V.bl j) = decide (i = j) := by simp
                        rw [e]; exact h⟩
  · rename_i i j
    exact .inl ⟨rfl, by have e : decide (V.str i = V.str j) = decide (i = j) := by simp
                        rw [e]; exact h⟩
  · exact .inr h
  · exact .inl h
theorem op_neF (hu : X.A.units + 64 < cLine) : OpR X (compareOp .NotEq) (fNe X.K) := op_imp (op_ne.or (op_neD hu)) fun x y H Q h => by
  unfold fNe at h
  split at h
  · rename_i i j
    exact .inl ⟨rfl, by have e : decide (V.int i = V.int j) = decide (i = j) := by simp
                        rw [e]; exact h⟩
  · rename_i i j
    exact .inl ⟨rfl, by have e : decide (V.bl i = V.bl j) = decide (i = j) := by simp
                        rw [e]; exact h⟩
  · rename_i i j
    exact .inl ⟨rfl, by have e : decide (V.str i = V.str j) = decide (i = j) := by simp
                        rw [e]; exact h⟩
  · exact .inr h
  · exact .inl h
theorem op_isNF : OpR X (compareOp .Is) fIsN := op_imp op_isN fun x y H Q h => by
  unfold fIsN at h
  split at h
  · exact ⟨rfl, h⟩
  · exact h.elim
theorem op_notNF : OpR X (compareOp .IsNot) fNotN := op_imp op_notN fun x y H Q h => by
  unfold fNotN at h
  split at h
  · exact ⟨rfl, h⟩
  · exact h.elim
theorem op_isBF : OpR X (compareOp .Is) fIsB := op_imp op_is_bl fun x y H Q h => by
  unfold fIsB at h
  split at h
  · exact ⟨_, _, rfl, rfl, h⟩
  · exact h.elim
theorem ix_F : IxR X fIx := ix_imp ix_seq fun x y H Q h => by
  unfold fIx at h
  split at h
  · split at h
    · rename_i e
      unfold atV at h
      split at h
      · rename_i e2
        rcases asS_or e with e | e
        · exact .inl ⟨_, _, _, _, rfl, rfl, asL_seq e, e2, h⟩
        · exact .inr (.inl ⟨_, _, _, _, rfl, rfl, asT_seq e, e2, h⟩)
      · exact h.elim
    · exact h.elim
  · obtain ⟨h1, c, h2, h3⟩ := h
    exact .inr (.inr ⟨_, _, _, rfl, rfl, h1, h2, h3⟩)
  · exact h.elim
theorem op_inF : OpR X (compareOp .In) (fIn X.K) := op_imp (op_in_seq.or op_in_sign) fun x y H Q h => by
  unfold fIn at h
  split at h
  · exact .inr ⟨_, _, rfl, rfl, h⟩
  · split at h
    · rename_i e
      obtain ⟨h1, h2, h3⟩ := h
      exact .inl ⟨_, _, rfl, (asS_or e).elim (fun e => .inl (asL_seq e)) (fun e => .inr (asT_seq e)), h1, h2, h3⟩
    · exact h.elim
  · exact h.elim
theorem c_int : CallR X (.type "int") fInt := call_imp call_int1 fun xs H Q h => by
  unfold fInt at h
  split at h
  · exact .inl ⟨_, rfl, h⟩
  · exact .inr ⟨_, rfl, h⟩
  · exact h.elim
theorem c_len : CallR X (.builtin "len") fLen := call_imp call_len fun xs H Q h => by
  unfold fLen at h
  split at h
  · exact ⟨_, _, rfl, ⟨h.1, rfl⟩, h.2⟩
  · split at h
    · rename_i p _ ys e
      exact ⟨.ref p, _, rfl, (asS_or e).elim (fun e => .inl ⟨_, asL_seq e, rfl⟩) (fun e => .inr ⟨_, asT_seq e, rfl⟩), h⟩
    · exact h.elim
  · exact h.elim
theorem c_max (hc : X.calm = true) : CallR X (.builtin "max") fMax := call_imp (call_max2 hc) fun xs H Q h => by
  unfold fMax at h
  split at h
  · rename_i i j
    refine ⟨i, j, rfl, ?_⟩
    have e : (if j > i then j else i) = max i j := by
      split <;> omega
    rw [e]
    exact h
  · exact h.elim
theorem c_min (hc : X.calm = true) : CallR X (.builtin "min") fMin := call_imp (call_min2 hc) fun xs H Q h => by
  unfold fMin at h
  split at h
  · rename_i i j
    refine ⟨i, j, rfl, ?_⟩
    have e : (if j < i then j else i) = min i j := by
      split <;> omega
    rw [e]
    exact h
  · exact h.elim
theorem c_abs : CallR X (.builtin "abs") fAbs := call_imp call_abs fun xs H Q h => by
  unfold fAbs at h
  split at h
  · exact ⟨_, rfl, h⟩
  · exact h.elim
theorem c_list : CallR X (.type "list") fList := call_imp call_list_of fun xs H Q h => by
  unfold fList at h
  split at h
  · split at h
    · rename_i e
      exact ⟨_, _, rfl, (asS_or e).elim (fun e => .inl (asL_seq e)) (fun e => .inr (asT_seq e)), h⟩
    · exact h.elim
  · exact h.elim
theorem c_tuple : CallR X (.type "tuple") fTuple := call_imp call_tuple_of fun xs H Q h => by
  unfold fTuple at h
  split at h
  · split at h
    · rename_i e
      exact ⟨_, _, rfl, .inl ⟨asL_seq e, h⟩⟩
    · exact h.elim
  · exact h.elim
theorem c_all (hc : X.calm = true) : CallR X (.builtin "all") fAll := call_imp (cr_all hc) fun xs H Q h => by
  unfold fAll at h
  split at h
  · split at h
    · rename_i e
      obtain ⟨bs, rfl, q⟩ := h
      exact ⟨_, bs, rfl, asL_seq e, q⟩
    · exact h.elim
  · exact h.elim
theorem c_sum (hc : X.calm = true) : CallR X (.builtin "sum") fSum := call_imp (cr_sum hc) fun xs H Q h => by
  unfold fSum at h
  split at h
  · split at h
    · rename_i e
      obtain ⟨bs, rfl, q⟩ := h
      exact ⟨_, bs, rfl, asL_seq e, q⟩
    · exact h.elim
  · exact h.elim
theorem c_isi : CallR X (.builtin "isinstance") fIsi := call_imp call_isi fun xs H Q h => by
  unfold fIsi at h
  split at h
  · split at h
    · rename_i t e
      split at h
      · rename_i b e2
        exact ⟨_, _, _, _, b, rfl, .ty _, tyN_x e, kit_ty e2, h⟩
      · exact h.elim
    · exact h.elim
  · exact h.elim
theorem c_isiT : CallR X (.builtin "isinstance") fIsiT := call_imp call_isiT fun xs H Q h => by
  unfold fIsiT at h
  split at h
  · split at h
    · rename_i e1 e2
      split at h
      · rename_i e3
        split at h
        · rename_i b e4
          exact ⟨_, _, _, _, _, b, rfl, e2, tys_pair e3, tyN_x e1, kitS_any e4, h⟩
        · exact h.elim
      · exact h.elim
    · exact h.elim
  · exact h.elim
theorem m_append : MtR X "list.append" fAppend := mt_imp mt_append fun x xs H Q h => by
  unfold fAppend at h
  split at h
  · split at h
    · rename_i e
      exact ⟨_, _, _, rfl, rfl, e, h.1, h.2⟩
    · exact h.elim
  · exact h.elim
theorem m_insert : MtR X "list.insert" fInsert := mt_imp mt_insert fun x xs H Q h => by
  unfold fInsert at h
  split at h
  · split at h
    · rename_i e
      exact ⟨_, _, _, _, rfl, rfl, e, h.1.1, h.1.2.1, h.1.2.2, h.2⟩
    · exact h.elim
  · exact h.elim
theorem m_pop : MtR X "list.pop" fPop := mt_imp mt_pop fun x xs H Q h => by
  unfold fPop at h
  split at h
  · split at h
    · rename_i e
      split at h
      · rename_i e2
        exact ⟨_, _, _, rfl, rfl, e, e2, h⟩
      · exact h.elim
    · exact h.elim
  · exact h.elim
theorem sl_F : SlR X fSl := fun pins s σ H x v vl vu lo hi sl Q I rx hs pl pu h => by
  refine (sl_list.or sl_tup) pins s σ H x v vl vu lo hi sl Q I rx hs pl pu ?_
  unfold fSl at h
  split at h
  · split at h
    · rename_i e
      exact .inl ⟨_, _, rfl, asL_seq e, h⟩
    · split at h
      · rename_i e
        exact .inr ⟨_, _, rfl, asT_seq e, h.1, h.2⟩
      · exact h.elim
  · exact h.elim
theorem set_F : PSet X fSet := fun pins s σ H o i v ov iv u Q I ro ri rv h => by
  refine set_list pins s σ H o i v ov iv u Q I ro ri rv ?_
  unfold fSet at h
  split at h
  · split at h
    · rename_i e
      split at h
      · rename_i e2
        exact ⟨_, _, _, _, rfl, rfl, e, e2, h⟩
      · exact h.elim
    · exact h.elim
  · exact h.elim
theorem pg_tupF {es : List Expr} {k : Nat} {t : TGs} {n : Nat} {pos : Pos} (hc : X.calm = true) (h : PGs X es t)
    (hn : (assignEach es X.env).length = n := by rfl) (hst : (assignEach es X.env).findIdx? (·.1) = none := by rfl) : PG X (.Tuple es k pos) (gTupF n t) := by
  refine ⟨fun pins s σ H v u Q I r hw => (pg_tup hc h hn hst).run pins s σ H v u Q I r ?_⟩
  unfold gTupF at hw
  split at hw
  · split at hw
    · rename_i e
      exact ⟨_, _, rfl, asT_seq e, hw.1, hw.2⟩
    · exact hw.elim
  · exact hw.elim
theorem pe_imp {e : Expr} {t t' : TE} (h : PE X e t) (k : ∀ σ H Q, t' σ H Q → t σ H Q) : PE X e t' := ⟨fun pins s σ H Q I q => h.run pins s σ H Q I (k σ H Q q)⟩
end
/-! ### all that a reading's part does is bear a weaker wish -/
def MonE (t : TE) : Prop := ∀ σ H (Q Q' : VK), (∀ v H', Q v H' → Q' v H') → t σ H Q → t σ H Q'
theorem kit_table : kitB "NoneType" "int" = some false ∧ kitB "NoneType" "bool" = some false ∧ kitB "NoneType" "str" = some false ∧ kitB "NoneType" "list" = some false ∧ kitB "NoneType" "tuple" = some false ∧ kitB "NoneType" "dict" = some false ∧ kitB "int" "int" = some true ∧ kitB "int" "bool" = some false ∧ kitB "int" "str" = some false ∧ kitB "int" "list" = some false ∧ kitB "int" "tuple" = some false ∧ kitB "int" "dict" = some false ∧ kitB "bool" "int" = some true ∧ kitB "bool" "bool" = some true ∧ kitB "bool" "str" = some false ∧ kitB "bool" "list" = some false ∧ kitB "bool" "tuple" = some false ∧ kitB "bool" "dict" = some false ∧ kitB "str" "int" = some false ∧ kitB "str" "bool" = some false ∧ kitB "str" "str" = some true ∧ kitB "str" "list" = some false ∧ kitB "str" "tuple" = some false ∧ kitB "str" "dict" = some false ∧ kitB "list" "int" = some false ∧ kitB "list" "bool" = some false ∧ kitB "list" "str" = some false ∧ kitB "list" "list" = some true ∧ kitB "list" "tuple" = some false ∧ kitB "list" "dict" = some false ∧ kitB "tuple" "int" = some false ∧ kitB "tuple" "bool" = some false ∧ kitB "tuple" "str" = some false ∧ kitB "tuple" "list" = some false ∧ kitB "tuple" "tuple" = some true ∧ kitB "tuple" "dict" = some false ∧ kitB "dict" "int" = some false ∧ kitB "dict" "bool" = some false ∧ kitB "dict" "str" = some false ∧ kitB "dict" "list" = some false ∧ kitB "dict" "tuple" = some false ∧ kitB "dict" "dict" = some true := by decide +kernel
theorem kt_NoneType_int : kitB "NoneType" "int" = some false := kit_table.1
theorem kt_NoneType_bool : kitB "NoneType" "bool" = some false := kit_table.2.1
theorem kt_NoneType_str : kitB "NoneType" "str" = some false := kit_table.2.2.1
theorem kt_NoneType_list : kitB "NoneType" "list" = some false := kit_table.2.2.2.1
theorem kt_NoneType_tuple : kitB "NoneType" "tuple" = some false := kit_table.2.2.2.2.1
theorem kt_NoneType_dict : kitB "NoneType" "dict" = some false := kit_table.2.2.2.2.2.1
theorem kt_int_int : kitB "int" "int" = some true := kit_table.2.2.2.2.2.2.1
theorem kt_int_bool : kitB "int" "bool" = some false := kit_table.2.2.2.2.2.2.2.1
theorem kt_int_str : kitB "int" "str" = some false := kit_table.2.2.2.2.2.2.2.2.1
theorem kt_int_list : kitB "int" "list" = some false := kit_table.2.2.2.2.2.2.2.2.2.1
theorem kt_int_tuple : kitB "int" "tuple" = some false := kit_table.2.2.2.2.2.2.2.2.2.2.1
theorem kt_int_dict : kitB "int" "dict" = some false := kit_table.2.2.2.2.2.2.2.2.2.2.2.1
theorem kt_bool_int : kitB "bool" "int" = some true := kit_table.2.2.2.2.2.2.2.2.2.2.2.2.1
theorem kt_bool_bool : kitB "bool" "bool" = some true := kit_table.2.2.2.2.2.2.2.2.2.2.2.2.2.1
theorem kt_bool_str : kitB "bool" "str" = some false := kit_table.2.2.2.2.2.2.2.2.2.2.2.2.2.2.1
theorem kt_bool_list : kitB "bool" "list" = some false := kit_table.2.2.2.2.2.2.2.2.2.2.2.2.2.2.2.1
theorem kt_bool_tuple : kitB "bool" "tuple" = some false := kit_table.2.2.2.2.2.2.2.2.2.2.2.2.2.2.2.2.1
theorem kt_bool_dict : kitB "bool" "dict" = some false := kit_table.2.2.2.2.2.2.2.2.2.2.2.2.2.2.2.2.2.1
theorem kt_str_int : kitB "str" "int" = some false := kit_table.2.2.2.2.2.2.2.2.2.2.2.2.2.2.2.2.2.2.1
theorem kt_str_bool : kitB "str" "bool" = some false := kit_table.2.2.2.2.2.2.2.2.2.2.2.2.2.2.2.2.2.2.2.1
theorem kt_str_str : kitB "str" "str" = some true := kit_table.2.2.2.2.2.2.2.2.2.2.2.2.2.2.2.2.2.2.2.2.1
theorem kt_str_list : kitB "str" "list" = some false := kit_table.2.2.2.2.2.2.2.2.2.2.2.2.2.2.2.2.2.2.2.2.2.1
theorem kt_str_tuple : kitB "str" "tuple" = some false := kit_table.2.2.2.2.2.2.2.2.2.2.2.2.2.2.2.2.2.2.2.2.2.2.1
theorem kt_str_dict : kitB "str" "dict" = some false := kit_table.2.2.2.2.2.2.2.2.2.2.2.2.2.2.2.2.2.2.2.2.2.2.2.1
theorem kt_list_int : kitB "list" "int" = some false := kit_table.2.2.2.2.2.2.2.2.2.2.2.2.2.2.2.2.2.2.2.2.2.2.2.2.1
theorem kt_list_bool : kitB "list" "bool" = some false := kit_table.2.2.2.2.2.2.2.2.2.2.2.2.2.2.2.2.2.2.2.2.2.2.2.2.2.1
theorem kt_list_str : kitB "list" "str" = some false := kit_table.2.2.2.2.2.2.2.2.2.2.2.2.2.2.2.2.2.2.2.2.2.2.2.2.2.2.1
theorem kt_list_list : kitB "list" "list" = some true := kit_table.2.2.2.2.2.2.2.2.2.2.2.2.2.2.2.2.2.2.2.2.2.2.2.2.2.2.2.1
theorem kt_list_tuple : kitB "list" "tuple" = some false := kit_table.2.2.2.2.2.2.2.2.2.2.2.2.2.2.2.2.2.2.2.2.2.2.2.2.2.2.2.2.1
theorem kt_list_dict : kitB "list" "dict" = some false := kit_table.2.2.2.2.2.2.2.2.2.2.2.2.2.2.2.2.2.2.2.2.2.2.2.2.2.2.2.2.2.1
theorem kt_tuple_int : kitB "tuple" "int" = some false := kit_table.2.2.2.2.2.2.2.2.2.2.2.2.2.2.2.2.2.2.2.2.2.2.2.2.2.2.2.2.2.2.1
theorem kt_tuple_bool : kitB "tuple" "bool" = some false := kit_table.2.2.2.2.2.2.2.2.2.2.2.2.2.2.2.2.2.2.2.2.2.2.2.2.2.2.2.2.2.2.2.1
theorem kt_tuple_str : kitB "tuple" "str" = some false := kit_table.2.2.2.2.2.2.2.2.2.2.2.2.2.2.2.2.2.2.2.2.2.2.2.2.2.2.2.2.2.2.2.2.1
theorem kt_tuple_list : kitB "tuple" "list" = some false := kit_table.2.2.2.2.2.2.2.2.2.2.2.2.2.2.2.2.2.2.2.2.2.2.2.2.2.2.2.2.2.2.2.2.2.1
theorem kt_tuple_tuple : kitB "tuple" "tuple" = some true := kit_table.2.2.2.2.2.2.2.2.2.2.2.2.2.2.2.2.2.2.2.2.2.2.2.2.2.2.2.2.2.2.2.2.2.2.1
theorem kt_tuple_dict : kitB "tuple" "dict" = some false := kit_table.2.2.2.2.2.2.2.2.2.2.2.2.2.2.2.2.2.2.2.2.2.2.2.2.2.2.2.2.2.2.2.2.2.2.2.1
theorem kt_dict_int : kitB "dict" "int" = some false := kit_table.2.2.2.2.2.2.2.2.2.2.2.2.2.2.2.2.2.2.2.2.2.2.2.2.2.2.2.2.2.2.2.2.2.2.2.2.1
theorem kt_dict_bool : kitB "dict" "bool" = some false := kit_table.2.2.2.2.2.2.2.2.2.2.2.2.2.2.2.2.2.2.2.2.2.2.2.2.2.2.2.2.2.2.2.2.2.2.2.2.2.1
theorem kt_dict_str : kitB "dict" "str" = some false := kit_table.2.2.2.2.2.2.2.2.2.2.2.2.2.2.2.2.2.2.2.2.2.2.2.2.2.2.2.2.2.2.2.2.2.2.2.2.2.2.1
theorem kt_dict_list : kitB "dict" "list" = some false := kit_table.2.2.2.2.2.2.2.2.2.2.2.2.2.2.2.2.2.2.2.2.2.2.2.2.2.2.2.2.2.2.2.2.2.2.2.2.2.2.2.1
theorem kt_dict_tuple : kitB "dict" "tuple" = some false := kit_table.2.2.2.2.2.2.2.2.2.2.2.2.2.2.2.2.2.2.2.2.2.2.2.2.2.2.2.2.2.2.2.2.2.2.2.2.2.2.2.2.1
theorem kt_dict_dict : kitB "dict" "dict" = some true := kit_table.2.2.2.2.2.2.2.2.2.2.2.2.2.2.2.2.2.2.2.2.2.2.2.2.2.2.2.2.2.2.2.2.2.2.2.2.2.2.2.2.2
end XB

/-! How a reading is taken apart: each row fires where the reading stands with all that it wants. -/
namespace XB
open PySem L2
/-- a loop that has its iterator -/
def Loop (J : It) (g : TG) (tb : TS) (D : Ends) (σ : L2.St) (H : Hp) : Prop := ∃ W : Nat → Nat → L2.St → Hp → Prop, (∃ m, W 0 m σ H) ∧ ∀ i m σ H, W i m σ H →
  (J.stop i H ∧ D.nx σ H) ∨ (J.go i H ∧ ∃ N : L2.St → Hp → Prop, (∀ σ' H', N σ' H' → ∃ m', m' < m ∧ W (i + 1) m' σ' H') ∧ ∀ x H', J.yld i H x H' → g x σ H' fun σ2 H2 => tb { D with nx := N, ct := N, bk := D.nx } σ2 H2)
/-- a comprehension that has its iterator and its new list at D -/
def Made (J : It) (g : TG) (tt : TT) (te : TE) (vs : List Nat) (σ : L2.St) (D : Addr) (H1 : Hp) (Qd : Hp → Prop) : Prop := ∃ W : Nat → Nat → Hp → Prop, (∃ m, W 0 m (upd H1 D (.lst []))) ∧ ∀ i m H, W i m H →
  (J.stop i H ∧ Qd H) ∨ (J.go i H ∧ ∃ Nx : Hp → Prop, (∀ H', Nx H' → ∃ m', m' < m ∧ W (i + 1) m' H') ∧ ∀ x H', J.yld i H x H' → g x (wipe σ vs) H' fun σ2 H2 => wipe σ2 vs = wipe σ vs ∧ tt σ2 H2 fun b H3 =>
    if b = true then te σ2 H3 fun y H4 => ∃ acc, H4 D = some (.lst acc) ∧ acc.length < sizeLine ∧ Nx (upd H4 D (.lst (acc ++ [y]))) else Nx H3)
section
variable {K : PySem.W.Frag} {σ : L2.St} {H : Hp} {Q : VK} {i j : Int} {v : V}
theorem u_var {n : Nat} : tVar n σ H Q = ∃ v, σ[n]? = some (some v) ∧ Q v H := rfl
theorem u_c : tC v σ H Q = Q v H := rfl
theorem u_op {r : R2} {ta tb : TE} : tOp r ta tb σ H Q = ta σ H fun x H1 => tb σ H1 fun y H2 => r x y H2 Q := rfl
theorem u_un {r : V → Hp → VK → Prop} {ta : TE} : tUn r ta σ H Q = ta σ H fun x H1 => r x H1 Q := rfl
theorem u_nil {R : List V → Hp → Prop} : tNil σ H R = R [] H := rfl
theorem u_cons {te : TE} {tr : TA} {R : List V → Hp → Prop} : tCons te tr σ H R = te σ H fun x H1 => tr σ H1 fun xs H2 => R (x :: xs) H2 := rfl
theorem u_cb {r : List V → Hp → VK → Prop} {t : TA} : tCB r t σ H Q = t σ H fun vs H1 => r vs H1 Q := rfl
theorem u_call {sp : Sp} {dvs : List V} {E : XK} {t : TA} : tCall sp dvs E t σ H Q = t σ H fun vs H1 => sp (vs ++ dvs) H1 Q E := rfl
theorem u_callS {sp : Sp} {E : L2.St → XK} {t : TA} : tCallS sp E t σ H Q = t σ H fun vs H1 => sp vs H1 Q (E σ) := rfl
theorem u_tup {t : TA} : tTup t σ H Q = t σ H fun xs H1 => xs.length ≤ sizeLine ∧ ∀ p, H1 p = none → Q (.ref p) (upd H1 p (.tup xs)) := rfl
theorem u_lst {t : TA} : tLst t σ H Q = t σ H fun xs H1 => xs.length ≤ sizeLine ∧ ∀ p, H1 p = none → Q (.ref p) (upd H1 p (.lst xs)) := rfl
theorem u_test {te : TE} {R : Bool → Hp → Prop} : tTest te σ H R = te σ H fun x H1 => ∃ k, x = .bl k ∧ R k H1 := rfl
theorem u_B {te : TE} {R : Bool → Hp → Prop} : tB te σ H R = te σ H fun x H1 => ∃ k, x = .bl k ∧ R k H1 := rfl
theorem u_and {t u : TT} {R : Bool → Hp → Prop} : tAnd t u σ H R = t σ H fun c H1 => if c = true then u σ H1 R else R false H1 := rfl
theorem u_or {t u : TT} {R : Bool → Hp → Prop} : tOr t u σ H R = t σ H fun c H1 => if c = true then R true H1 else u σ H1 R := rfl
theorem u_not {t : TT} {R : Bool → Hp → Prop} : tNot t σ H R = t σ H fun c H1 => R (!c) H1 := rfl
theorem u_andV {ta tb : TE} : tAndV ta tb σ H Q = ta σ H fun x H1 => ∃ c, x = .bl c ∧ if c = true then tb σ H1 Q else Q (.bl false) H1 := rfl
theorem u_orV {ta tb : TE} : tOrV ta tb σ H Q = ta σ H fun x H1 => ∃ c, x = .bl c ∧ if c = true then Q (.bl true) H1 else tb σ H1 Q := rfl
theorem u_notV {ta : TE} : tNotV ta σ H Q = ta σ H fun x H1 => ∃ c, x = .bl c ∧ Q (.bl (!c)) H1 := rfl
theorem u_ifE {t : TT} {ta tb : TE} : tIf t ta tb σ H Q = t σ H fun c H1 => if c = true then ta σ H1 Q else tb σ H1 Q := rfl
theorem u_chain {r r' : R2} {ta tb tc : TE} : tChain r r' ta tb tc σ H Q = ta σ H fun x H1 => tb σ H1 fun y H2 => r x y H2 fun z H3 => ∃ k, z = .bl k ∧ (if k = true then tc σ H3 fun w' H4 => r' y w' H4 Q else Q (.bl false) H3) := rfl
theorem u_sl {r : V → Option Int → Option Int → Hp → VK → Prop} {te : TE} {tl th : TO} : tSl r te tl th σ H Q = te σ H fun x H1 => tl σ H1 fun l H2 => th σ H2 fun u H3 => r x l u H3 Q := rfl
theorem u_noPart {R : Option Int → Hp → Prop} : tNoPart σ H R = R none H := rfl
theorem u_part {te : TE} {R : Option Int → Hp → Prop} : tPart te σ H R = te σ H fun x H1 => ∃ i, x = .int i ∧ R (some i) H1 := rfl
theorem u_bm {T : String} {r : RM} {to : TE} {t : TA} : tBMF T r to t σ H Q = to σ H fun x H1 => tyN x H1 = some T ∧ t σ H1 fun xs H2 => r x xs H2 Q := rfl
theorem u_bm0 {T : String} {r : RM} {to : TE} : tBM0F T r to σ H Q = to σ H fun x H1 => tyN x H1 = some T ∧ r x [] H1 Q := rfl
theorem u_rev {te : TE} : tRevF te σ H Q = te σ H fun x H1 => match x with
  | .ref a => (match asL (H1 a) with
    | some xs => ∀ p, H1 p = none → Q (.ref p) (upd H1 p (.lst xs.reverse))
    | none => False)
  | _ => False := rfl
theorem u_lc {wi : TI} {g : TG} {tt : TT} {te : TE} {vs : List Nat} : tLc wi g tt te vs σ H Q = wi σ H fun J H1 => ∀ D, H1 D = none → Made J g tt te vs σ D H1 fun H' => Q (.ref D) H' := rfl
-- what is walked
variable {R : It → Hp → Prop}
theorem u_rng1 {ta : TA} : iRng1 ta σ H R = ta σ H fun vs H1 => ∃ j : Int, vs = [.int j] ∧ -(2 ^ 62) ≤ j ∧ j < 2 ^ 62 ∧ R (Itr 0 j.toNat) H1 := rfl
theorem u_rng2 {ta : TA} : iRng2 ta σ H R = ta σ H fun vs H1 => ∃ i j : Int, vs = [.int i, .int j] ∧ (-(2 ^ 62) ≤ i ∧ i < 2 ^ 62 ∧ -(2 ^ 62) ≤ j ∧ j < 2 ^ 62) ∧ R (Itr i (j - i).toNat) H1 := rfl
theorem u_list {tl : TE} : iList K tl σ H R = tl σ H fun x H1 => ∃ a, x = .ref a ∧ (∃ xs, SqL K H1 a xs) ∧ R (Itl K a) H1 := rfl
theorem u_revI {ta : TA} : iRev K ta σ H R = ta σ H fun vs H1 => ∃ (a : Addr) (xs : List V), vs = [.ref a] ∧ SqL K H1 a xs ∧ R (Itv K a xs.length) H1 := rfl
theorem u_zipI {ta : TA} : iZip K ta σ H R = ta σ H fun vs H1 => ∃ a b xs ys, vs = [.ref a, .ref b] ∧ SqL K H1 a xs ∧ SqL K H1 b ys ∧ R (Itz K a b) H1 := rfl
-- statements
variable {D : Ends} {t u w : TS} {te : TE} {g : TG} {n : Nat}
theorem u_next : tNext D σ H = D.nx σ H := rfl
theorem u_ret : tRet te D σ H = te σ H D.rt := rfl
theorem u_gname {S : L2.St → Hp → Prop} : gName n v σ H S = S (σ.set n (some v)) H := rfl
theorem u_gnil {vs : List V} {S : L2.St → Hp → Prop} : gNil vs σ H S = (vs = [] ∧ S σ H) := rfl
theorem u_gcons {t : TG} {u : TGs} {vs : List V} {S : L2.St → Hp → Prop} : gCons t u vs σ H S = ∃ v r, vs = v :: r ∧ t v σ H fun σ' H' => u r σ' H' S := rfl
theorem u_gsub {to ti : TE} {t : TSet} {S : L2.St → Hp → Prop} : gSub to ti t v σ H S = to σ H fun o H1 => ti σ H1 fun i H2 => t o i v H2 fun H3 => S σ H3 := rfl
theorem u_gtup {t : TGs} {a : Addr} {S : L2.St → Hp → Prop} : gTupF n t (.ref a) σ H S = (match asT (H a) with
    | some xs => xs.length = n ∧ t xs σ H S
    | none => False) := rfl
theorem q_asg (h : te σ H fun x H1 => g x σ H1 (u D)) : tSeq (tAsg te g) u D σ H := h
theorem q_asg1 (h : te σ H fun x H1 => g x σ H1 D.nx) : tAsg te g D σ H := h
theorem q_drop (h : te σ H fun _ H1 => u D σ H1) : tSeq (tDrop te) u D σ H := h
theorem q_drop1 (h : te σ H fun _ H1 => D.nx σ H1) : tDrop te D σ H := h
theorem q_if {c : TT} (h : c σ H fun b H1 => if b = true then t { D with nx := u D } σ H1 else w { D with nx := u D } σ H1) : tSeq (tIfS c t w) u D σ H := h
theorem q_if1 {c : TT} (h : c σ H fun b H1 => if b = true then t D σ H1 else w D σ H1) : tIfS c t w D σ H := h
theorem q_ret (h : te σ H D.rt) : tRet te D σ H := h
theorem q_seq (h : t { D with nx := u D } σ H) : tSeq t u D σ H := h
theorem q_for {wi : TI} (h : wi σ H fun J H1 => Loop J g t { D with nx := u D } σ H1) : tSeq (tFor wi g t) u D σ H := h
theorem q_for1 {wi : TI} (h : wi σ H fun J H1 => Loop J g t D σ H1) : tFor wi g t D σ H := h
-- operators at values
theorem f_add : fAdd (.int i) (.int j) H Q = Q (.int (i + j)) H := rfl
theorem f_addS {a b : Str} : fAdd (.str a) (.str b) H Q = (a.length + b.length ≤ sizeLine ∧ Q (.str (a ++ b)) H) := rfl
theorem f_addR {a b : Addr} : fAdd (.ref a) (.ref b) H Q = (match H a, H b with
    | some (.lst xs), some (.lst ys) => xs.length + ys.length ≤ sizeLine ∧ ∀ p, H p = none → Q (.ref p) (upd H p (.lst (xs ++ ys)))
    | some (.tup xs), some (.tup ys) => xs ≠ [] ∧ ys ≠ [] ∧ xs.length + ys.length ≤ sizeLine ∧ ∀ p, H p = none → Q (.ref p) (upd H p (.tup (xs ++ ys)))
    | _, _ => False) := rfl
theorem f_sub : fSub (.int i) (.int j) H Q = Q (.int (i - j)) H := rfl
theorem f_mul : fMul (.int i) (.int j) H Q = (CMul i j ∧ Q (.int (i * j)) H) := rfl
theorem f_mulR {a : Addr} : fMul (.ref a) (.int i) H Q = (match H a with
    | some (.lst xs) => (-(2 ^ 63) ≤ i ∧ i < 2 ^ 63 ∧ xs.length * i.toNat ≤ sizeLine) ∧ ∀ p, H p = none → Q (.ref p) (upd H p (.lst (List.replicate i.toNat xs).flatten))
    | _ => False) := rfl
theorem f_mod : fMod (.int i) (.int j) H Q = (0 < j ∧ Q (.int (i % j)) H) := rfl
theorem f_div : fDiv (.int i) (.int j) H Q = (CDivW i j ∧ Q (.int (i / j)) H) := rfl
theorem f_pow : fPow (.int i) (.int j) H Q = (CPow i j ∧ Q (.int (i ^ j.toNat)) H) := rfl
theorem f_neg : fNeg (.int i) H Q = Q (.int (-i)) H := rfl
theorem f_cmp {f : Int → Int → Bool} : fCmp f (.int i) (.int j) H Q = Q (.bl (f i j)) H := rfl
theorem f_eq : fEq K (.int i) (.int j) H Q = Q (.bl (decide (i = j))) H := rfl
theorem f_eqB {a b : Bool} : fEq K (.bl a) (.bl b) H Q = Q (.bl (decide (a = b))) H := rfl
theorem f_eqS {a b : Str} : fEq K (.str a) (.str b) H Q = Q (.bl (decide (a = b))) H := rfl
theorem f_ne : fNe K (.int i) (.int j) H Q = Q (.bl (!decide (i = j))) H := rfl
theorem f_neB {a b : Bool} : fNe K (.bl a) (.bl b) H Q = Q (.bl (!decide (a = b))) H := rfl
theorem f_neS {a b : Str} : fNe K (.str a) (.str b) H Q = Q (.bl (!decide (a = b))) H := rfl
theorem f_isN : fIsN v .non H Q = Q (.bl (decide (v = .non))) H := rfl
theorem f_notN : fNotN v .non H Q = Q (.bl (!decide (v = .non))) H := rfl
theorem f_isB {a b : Bool} : fIsB (.bl a) (.bl b) H Q = Q (.bl (decide (a = b))) H := rfl
theorem f_ix {p : Addr} : fIx (.ref p) (.int i) H Q = (match asS (H p) with
    | some xs => atV xs i fun v => Q v H
    | none => False) := rfl
theorem f_ixS {z : Str} : fIx (.str z) (.int i) H Q = (z.length ≤ sizeLine ∧ ∃ c, atI z.cps.toList i = some c ∧ Q (.str ⟨#[c]⟩) H) := rfl
theorem f_int : fInt [.int i] H Q = Q (.int i) H := rfl
theorem f_intB {k : Bool} : fInt [.bl k] H Q = Q (.int (if k then 1 else 0)) H := rfl
theorem f_len {p : Addr} : fLen [.ref p] H Q = (match asS (H p) with
    | some ys => Q (.int (ys.length : Nat)) H
    | none => False) := rfl
theorem f_lenS {z : Str} : fLen [.str z] H Q = (z.length ≤ sizeLine ∧ Q (.int (z.length : Nat)) H) := rfl
theorem f_max : fMax [.int i, .int j] H Q = Q (.int (max i j)) H := rfl
theorem f_min : fMin [.int i, .int j] H Q = Q (.int (min i j)) H := rfl
theorem f_abs : fAbs [.int i] H Q = Q (.int (if i < 0 then -i else i)) H := rfl
theorem f_list {p : Addr} : fList [.ref p] H Q = (match asS (H p) with
    | some ys => ∀ l, H l = none → Q (.ref l) (upd H l (.lst ys))
    | none => False) := rfl
theorem f_tuple {p : Addr} : fTuple [.ref p] H Q = (match asL (H p) with
    | some ys => ∀ l, H l = none → Q (.ref l) (upd H l (.tup ys))
    | none => False) := rfl
theorem f_all {p : Addr} : fAll [.ref p] H Q = (match asL (H p) with
    | some ys => ∃ bs : List Bool, ys = bs.map V.bl ∧ Q (.bl (bs.all id)) H
    | none => False) := rfl
theorem f_sum {p : Addr} : fSum [.ref p] H Q = (match asL (H p) with
    | some ys => ∃ ns : List Int, ys = ns.map V.int ∧ Q (.int ns.sum) H
    | none => False) := rfl
theorem f_isi {c : String} : fIsi [v, .ty c] H Q = (match tyN v H with
    | some t => (match kitB t c with
      | some b => Q (.bl b) H
      | none => False)
    | none => False) := rfl
theorem f_isiT {p : Addr} : fIsiT [v, .ref p] H Q = (match tyN v H, H p with
    | some t, some (.tup cs) => (match tys cs with
      | some ns => (match kitS t ns with
        | some b => Q (.bl b) H
        | none => False)
      | none => False)
    | _, _ => False) := rfl
theorem f_append {l : Addr} : fAppend (.ref l) [v] H Q = (match H l with
    | some (.lst xs) => xs.length < sizeLine ∧ Q .non (upd H l (.lst (xs ++ [v])))
    | _ => False) := rfl
theorem f_insert {l : Addr} : fInsert (.ref l) [.int i, v] H Q = (match H l with
    | some (.lst xs) => (xs.length < sizeLine ∧ 0 ≤ i ∧ i < 2 ^ 63) ∧ Q .non (upd H l (.lst (xs.take i.toNat ++ [v] ++ xs.drop i.toNat)))
    | _ => False) := rfl
theorem f_pop {l : Addr} : fPop (.ref l) [] H Q = (match H l with
    | some (.lst xs) => (match xs[xs.length - 1]? with
      | some y => Q y (upd H l (.lst xs.dropLast))
      | none => False)
    | _ => False) := rfl
theorem f_sl {p : Addr} {lo hi : Option Int} : fSl (.ref p) lo hi H Q = (match asL (H p) with
    | some xs => ∀ q, H q = none → Q (.ref q) (upd H q (.lst (cutV xs lo hi)))
    | none => (match asT (H p) with
      | some xs => ¬ (HT.sIx xs.length 0 lo = 0 ∧ HT.sIx xs.length xs.length hi = xs.length) ∧ ∀ q, H q = none → Q (.ref q) (upd H q (.tup (cutV xs lo hi)))
      | none => False)) := rfl
theorem f_set {p : Addr} {S : Hp → Prop} : fSet (.ref p) (.int i) v H S = (match H p with
    | some (.lst xs) => (match ixN xs.length i with
      | some j => S (upd H p (.lst (xs.set j v)))
      | none => False)
    | _ => False) := rfl
theorem asL_lst {xs : List V} : asL (some (.lst xs)) = some xs := rfl
theorem asL_frz {xs : List V} {o : Obj} : asL (some (.frz o (.lst xs))) = some xs := rfl
theorem asL_tup {xs : List V} : asL (some (.tup xs)) = none := rfl
theorem asT_tup {xs : List V} : asT (some (.tup xs)) = some xs := rfl
theorem asS_lst {xs : List V} : asS (some (.lst xs)) = some xs := rfl
theorem asS_frz {xs : List V} {o : Obj} : asS (some (.frz o (.lst xs))) = some xs := rfl
theorem asS_tup {xs : List V} : asS (some (.tup xs)) = some xs := rfl
theorem tyN_non : tyN .non H = some "NoneType" := rfl
theorem tyN_bl {b : Bool} : tyN (.bl b) H = some "bool" := rfl
theorem tyN_int : tyN (.int i) H = some "int" := rfl
theorem tyN_str {z : Str} : tyN (.str z) H = some "str" := rfl
theorem tyN_lst {p : Addr} {xs : List V} (h : H p = some (.lst xs)) : tyN (.ref p) H = some "list" := by simp only [tyN, h]
theorem tyN_tup {p : Addr} {xs : List V} (h : H p = some (.tup xs)) : tyN (.ref p) H = some "tuple" := by simp only [tyN, h]
theorem tyN_dK {p : Addr} {kvs : List (Key × V)} (h : H p = some (.dK kvs)) : tyN (.ref p) H = some "dict" := by simp only [tyN, h]
theorem at_nat {xs : List V} {k : Nat} {q : V → Prop} (h : xs[k]? = some v) (hq : q v) : atV xs (k : Int) q := by
  unfold atV
  rw [atI_nat h]
  exact hq
theorem atV_lit {xs : List V} {k : Nat} {q : V → Prop} : atV xs (no_index (OfNat.ofNat k)) q = (match xs[k]? with
    | some v => q v
    | none => False) := by
  have e : (OfNat.ofNat k : Int) = (k : Int) := rfl
  unfold atV
  cases h : xs[k]? with
  | some v => rw [e, atI_nat h]
  | none =>
    have hk : xs.length ≤ k := List.getElem?_eq_none_iff.mp h
    have e2 : atI xs (OfNat.ofNat k) = none := by
      unfold atI ixN
      rw [e, if_pos (by omega), if_neg (by omega)]
      rfl
    rw [e2]
theorem ixN_lit {n k : Nat} : ixN n (no_index (OfNat.ofNat k)) = if k < n then some k else none := by
  have e : (OfNat.ofNat k : Int) = (k : Int) := rfl
  unfold ixN
  rw [e, if_pos (by omega)]
  by_cases h : k < n
  · rw [if_pos (by omega), if_pos h]
    simp
  · rw [if_neg (by omega), if_neg h]
/-! ### loops -/
theorem loop_list {a : Addr} {xs : List V} {tb : TS} (Pv : Nat → L2.St → Hp → Prop) (h0 : Pv 0 σ H) (hl : ∀ i σ H, i ≤ xs.length → Pv i σ H → asL (H a) = some xs)
    (hs : ∀ i x σ H, xs[i]? = some x → Pv i σ H → g x σ H fun σ2 H2 => tb { D with nx := Pv (i + 1), ct := Pv (i + 1), bk := D.nx } σ2 H2) (hd : ∀ σ H, Pv xs.length σ H → D.nx σ H) : Loop (Itl K a) g tb D σ H :=
  for_list (K := K) Pv h0 (fun i σ H h p => asL_seq (hl i σ H h p)) hs hd
theorem loop_range {lo : Int} {m : Nat} {tb : TS} (Pv : Nat → L2.St → Hp → Prop) (h0 : Pv 0 σ H) (hs : ∀ i σ H, i < m → Pv i σ H → g (.int (lo + i)) σ H fun σ2 H2 => tb { D with nx := Pv (i + 1), ct := Pv (i + 1), bk := D.nx } σ2 H2)
    (hd : ∀ σ H, Pv m σ H → D.nx σ H) : Loop (Itr lo m) g tb D σ H := for_range Pv h0 hs hd
theorem walk_list {te : TE} {R : It → Hp → Prop} (h : te σ H fun x H1 => ∃ a xs, x = .ref a ∧ asL (H1 a) = some xs ∧ R (Itl K a) H1) (m : ∀ (Q Q' : VK), (∀ v H', Q v H' → Q' v H') → te σ H Q → te σ H Q') : iList K te σ H R :=
  m _ _ (fun v H' ⟨a, xs, e, e2, r⟩ => ⟨a, e, ⟨xs, asL_seq e2⟩, r⟩) h
theorem u_listV {R : It → Hp → Prop} {a : Addr} {xs : List V} (h : σ[n]? = some (some (.ref a))) (e : asL (H a) = some xs) (q : R (Itl K a) H) : iList K (tVar n) σ H R := ⟨_, h, a, rfl, ⟨xs, asL_seq e⟩, q⟩
theorem made_list {a Dd : Addr} {xs : List V} {tt : TT} {te : TE} {vs : List Nat} {Qd : Hp → Prop} (Pv : Nat → Hp → Prop) (h0 : Pv 0 (upd H Dd (.lst []))) (hl : ∀ i H, i ≤ xs.length → Pv i H → asL (H a) = some xs)
    (hs : ∀ i x H, xs[i]? = some x → Pv i H → g x (wipe σ vs) H fun σ2 H2 => wipe σ2 vs = wipe σ vs ∧ tt σ2 H2 fun b H3 =>
      if b = true then te σ2 H3 fun y H4 => ∃ acc, H4 Dd = some (.lst acc) ∧ acc.length < sizeLine ∧ Pv (i + 1) (upd H4 Dd (.lst (acc ++ [y]))) else Pv (i + 1) H3) (hd : ∀ H, Pv xs.length H → Qd H) : Made (Itl K a) g tt te vs σ Dd H Qd :=
  lc_list (K := K) Pv h0 (fun i H h p => asL_seq (hl i H h p)) hs hd
theorem made_range {lo : Int} {m : Nat} {Dd : Addr} {tt : TT} {te : TE} {vs : List Nat} {Qd : Hp → Prop} (Pv : Nat → Hp → Prop) (h0 : Pv 0 (upd H Dd (.lst [])))
    (hs : ∀ i H, i < m → Pv i H → g (.int (lo + i)) (wipe σ vs) H fun σ2 H2 => wipe σ2 vs = wipe σ vs ∧ tt σ2 H2 fun b H3 =>
      if b = true then te σ2 H3 fun y H4 => ∃ acc, H4 Dd = some (.lst acc) ∧ acc.length < sizeLine ∧ Pv (i + 1) (upd H4 Dd (.lst (acc ++ [y]))) else Pv (i + 1) H3) (hd : ∀ H, Pv m H → Qd H) : Made (Itr lo m) g tt te vs σ Dd H Qd :=
  lc_range Pv h0 hs hd
theorem w_nil : wipe σ [] = σ := rfl
theorem w_cons {k : Nat} {ks : List Nat} : wipe σ (k :: ks) = (wipe σ ks).set k none := rfl
/-- what stood stands -/
abbrev Sm (H H' : Hp) : Prop := ∀ b o, H b = some o → H' b = some o
theorem sm_new {H H1 : Hp} {p : Addr} {o : HO} (s : Sm H H1) (h : H1 p = none) : Sm H (upd H1 p o) := fun b u e => by
  rw [upd_ne (ne_of_none (s b u e) h)]
  exact s b u e
@[elab_as_elim] theorem al {H : Hp} {p : Addr} {o : HO} {motive : Hp → Prop} (np : H p = none) (k : ∀ H', Sm H H' → H' p = some o → motive H') : motive (upd H p o) := k _ (sm_new (fun _ _ z => z) np) upd_same
theorem sm_none {H H' : Hp} {p : Addr} (s : Sm H H') (h : H' p = none) : H p = none := by
  cases e : H p with
  | none => rfl
  | some o => rw [s _ _ e] at h; cases h
theorem sm_trans {H H1 H2 : Hp} (a : Sm H H1) (b : Sm H1 H2) : Sm H H2 := fun p o z => b p o (a p o z)
theorem sm_put {H H1 : Hp} {p : Addr} {o : HO} (s : Sm H H1) (h : H p = none) : Sm H (upd H1 p o) := fun b u e => by
  rw [upd_ne (ne_of_none e h)]
  exact s b u e
theorem sm_L {p : Addr} {H H' : Hp} {xs : List V} (s : Sm H H') (h : asL (H p) = some xs) : asL (H' p) = some xs := by
  cases e : H p with
  | none => rw [e] at h; cases h
  | some o => rw [s p o e, ← e]; exact h
theorem sm_T {p : Addr} {H H' : Hp} {xs : List V} (s : Sm H H') (h : asT (H p) = some xs) : asT (H' p) = some xs := by
  cases e : H p with
  | none => rw [e] at h; cases h
  | some o => rw [s p o e, ← e]; exact h
theorem sm_S {p : Addr} {H H' : Hp} {xs : List V} (s : Sm H H') (h : asS (H p) = some xs) : asS (H' p) = some xs := by
  cases e : H p with
  | none => rw [e] at h; cases h
  | some o => rw [s p o e, ← e]; exact h
theorem take_map_succ {α β : Type} {xs : List α} {i : Nat} {x : α} {f : α → β} (h : xs[i]? = some x) : (xs.take (i + 1)).map f = (xs.take i).map f ++ [f x] := by
  have hi := (List.getElem?_eq_some_iff.mp h)
  obtain ⟨hl, e⟩ := hi
  rw [List.take_add_one, h]
  simp
/-- a comprehension over a list, one value for each item -/
theorem made_map {a Dd : Addr} {xs : List V} {te : TE} {vs : List Nat} {Qd : Hp → Prop} (f : V → V) (hl : asL (H a) = some xs) (hD : H Dd = none) (hz : xs.length < sizeLine) (hw : ∀ x, wipe ((wipe σ vs).set n (some x)) vs = wipe σ vs)
    (he : ∀ (i : Nat) (x : V) (H' : Hp) (Q : VK), xs[i]? = some x → Sm H H' → (∀ H2, Sm H' H2 → Q (f x) H2) → te ((wipe σ vs).set n (some x)) H' Q) (hd : ∀ H', Sm H H' → H' Dd = some (.lst (xs.map f)) → Qd H') : Made (Itl K a) (gName n) tYes te vs σ Dd H Qd := by
  refine made_list (fun i H' => Sm H H' ∧ H' Dd = some (.lst ((xs.take i).map f))) ⟨sm_new (fun _ _ h => h) hD, upd_same⟩ (fun i H' _ p => sm_L p.1 hl) (fun i x H' hx p => ⟨hw x, ?_⟩) fun H' p => hd H' p.1 (by rw [← List.take_length (l := xs)]; exact p.2)
  refine iteT (B := Sm H H' ∧ H' Dd = some (.lst ((xs.take (i + 1)).map f))) ?_
  refine he i x H' _ hx p.1 fun H2 s2 => ⟨(xs.take i).map f, s2 _ _ p.2, ?_, ?_, ?_⟩
  · rw [List.length_map, List.length_take]; omega
  · exact sm_put (fun b o z => s2 b o (p.1 b o z)) hD
  · rw [upd_same, take_map_succ hx]
/-- .. over a list that stands for good -/
theorem made_mapS {a Dd : Addr} {xs : List V} {te : TE} {vs : List Nat} {Qd : Hp → Prop} (f : V → V) (hl : ∀ H', Sm H H' → SqL K H' a xs) (hD : H Dd = none) (hz : xs.length < sizeLine) (hw : ∀ x, wipe ((wipe σ vs).set n (some x)) vs = wipe σ vs)
    (he : ∀ (i : Nat) (x : V) (H' : Hp) (Q : VK), xs[i]? = some x → Sm H H' → (∀ H2, Sm H' H2 → Q (f x) H2) → te ((wipe σ vs).set n (some x)) H' Q) (hd : ∀ H', Sm H H' → H' Dd = some (.lst (xs.map f)) → Qd H') : Made (Itl K a) (gName n) tYes te vs σ Dd H Qd := by
  refine lc_list (K := K) (fun i H' => Sm H H' ∧ H' Dd = some (.lst ((xs.take i).map f))) ⟨sm_new (fun _ _ h => h) hD, upd_same⟩ (fun i H' _ p => hl H' p.1) (fun i x H' hx p => ⟨hw x, ?_⟩) fun H' p => hd H' p.1 (by rw [← List.take_length (l := xs)]; exact p.2)
  refine iteT (B := Sm H H' ∧ H' Dd = some (.lst ((xs.take (i + 1)).map f))) ?_
  refine he i x H' _ hx p.1 fun H2 s2 => ⟨(xs.take i).map f, s2 _ _ p.2, ?_, ?_, ?_⟩
  · rw [List.length_map, List.length_take]; omega
  · exact sm_put (fun b o z => s2 b o (p.1 b o z)) hD
  · rw [upd_same, take_map_succ hx]
/-- .. over a range -/
theorem made_mapR {lo : Int} {m : Nat} {Dd : Addr} {te : TE} {vs : List Nat} {Qd : Hp → Prop} (f : Nat → V) (hD : H Dd = none) (hz : m < sizeLine) (hw : ∀ x, wipe ((wipe σ vs).set n (some x)) vs = wipe σ vs)
    (he : ∀ (i : Nat) (H' : Hp) (Q : VK), i < m → Sm H H' → (∀ H2, Sm H' H2 → Q (f i) H2) → te ((wipe σ vs).set n (some (.int (lo + (i : Nat))))) H' Q) (hd : ∀ H', Sm H H' → H' Dd = some (.lst ((List.range m).map f)) → Qd H') : Made (Itr lo m) (gName n) tYes te vs σ Dd H Qd := by
  refine made_range (fun i H' => Sm H H' ∧ H' Dd = some (.lst ((List.range i).map f))) ⟨sm_new (fun _ _ h => h) hD, upd_same⟩ (fun i H' hi p => ⟨hw _, ?_⟩) fun H' p => hd H' p.1 p.2
  refine iteT (B := Sm H H' ∧ H' Dd = some (.lst ((List.range (i + 1)).map f))) ?_
  refine he i H' _ hi p.1 fun H2 s2 => ⟨(List.range i).map f, s2 _ _ p.2, ?_, ?_, ?_⟩
  · rw [List.length_map, List.length_range]; omega
  · exact sm_put (fun b o z => s2 b o (p.1 b o z)) hD
  · rw [upd_same, List.range_succ, List.map_append]
    rfl
/-- a comprehension over two lists of one length -/
theorem made_zip {a b Dd : Addr} {xs ys : List V} {tt : TT} {te : TE} {vs : List Nat} {Qd : Hp → Prop} (hl : xs.length = ys.length) (Pv : Nat → Hp → Prop) (h0 : Pv 0 (upd H Dd (.lst [])))
    (hq : ∀ i H, Pv i H → asL (H a) = some xs ∧ asL (H b) = some ys)
    (hs : ∀ (i : Nat) (x y : V) (T : Addr) (H : Hp), xs[i]? = some x → ys[i]? = some y → Pv i H → H T = none → g (.ref T) (wipe σ vs) (upd H T (.tup [x, y])) fun σ2 H2 => wipe σ2 vs = wipe σ vs ∧ tt σ2 H2 fun b H3 =>
      if b = true then te σ2 H3 fun y H4 => ∃ acc, H4 Dd = some (.lst acc) ∧ acc.length < sizeLine ∧ Pv (i + 1) (upd H4 Dd (.lst (acc ++ [y]))) else Pv (i + 1) H3)
    (hd : ∀ H, Pv xs.length H → Qd H) : Made (Itz K a b) g tt te vs σ Dd H Qd := by
  refine ⟨fun i m H => m = xs.length - i ∧ i ≤ xs.length ∧ Pv i H, ⟨xs.length, by simp, Nat.zero_le _, h0⟩, ?_⟩
  rintro i m H2 ⟨rfl, hi, p⟩
  obtain ⟨q1, q2⟩ := hq i H2 p
  by_cases hlt : i < xs.length
  · have hly : i < ys.length := by omega
    refine .inr ⟨⟨xs, ys, xs[i], ys[i], asL_seq q1, asL_seq q2, by simp [hlt], by simp [hly]⟩, Pv (i + 1), fun H' p' => ⟨xs.length - (i + 1), by omega, rfl, hlt, p'⟩, ?_⟩
    rintro v H' ⟨T, x, y, rfl, hT, rfl, hx, hy⟩
    exact hs i x y T H2 (hx xs (asL_seq q1)) (hy ys (asL_seq q2)) p hT
  · have e : i = xs.length := by omega
    subst e
    exact .inl ⟨⟨xs, ys, asL_seq q1, asL_seq q2, .inl (Nat.le_refl _)⟩, hd H2 p⟩
theorem loop_zip {a b : Addr} {xs ys : List V} {tb : TS} (hl : xs.length = ys.length) (Pv : Nat → L2.St → Hp → Prop) (h0 : Pv 0 σ H) (hq : ∀ i σ H, Pv i σ H → asL (H a) = some xs ∧ asL (H b) = some ys)
    (hs : ∀ (i : Nat) (x y : V) (T : Addr) (σ : L2.St) (H : Hp), xs[i]? = some x → ys[i]? = some y → Pv i σ H → H T = none → g (.ref T) σ (upd H T (.tup [x, y])) fun σ2 H2 => tb { D with nx := Pv (i + 1), ct := Pv (i + 1), bk := D.nx } σ2 H2)
    (hd : ∀ σ H, Pv xs.length σ H → D.nx σ H) : Loop (Itz K a b) g tb D σ H := RZ.for_zipL hl Pv h0 (fun i σ H p => ⟨asL_seq (hq i σ H p).1, asL_seq (hq i σ H p).2⟩) hs hd
theorem loop_rev {a : Addr} {xs : List V} {m : Nat} {tb : TS} (hm : m = xs.length) (Pv : Nat → L2.St → Hp → Prop) (h0 : Pv 0 σ H) (hl : ∀ i σ H, i ≤ xs.length → Pv i σ H → asL (H a) = some xs)
    (hs : ∀ (i : Nat) (x : V) (σ : L2.St) (H : Hp), i < xs.length → xs[xs.length - 1 - i]? = some x → Pv i σ H → g x σ H fun σ2 H2 => tb { D with nx := Pv (i + 1), ct := Pv (i + 1), bk := D.nx } σ2 H2) (hd : ∀ σ H, Pv xs.length σ H → D.nx σ H) : Loop (Itv K a m) g tb D σ H := by
  subst hm
  refine ⟨fun i m σ H => m = xs.length - i ∧ i ≤ xs.length ∧ Pv i σ H, ⟨xs.length, by simp, Nat.zero_le _, h0⟩, ?_⟩
  rintro i m σ2 H2 ⟨rfl, hi, p⟩
  have q := asL_seq (K := K) (hl i σ2 H2 hi p)
  by_cases hlt : i < xs.length
  · have hj : xs.length - 1 - i < xs.length := by omega
    refine .inr ⟨⟨hlt, xs, xs[xs.length - 1 - i], q, by simp [hj]⟩, Pv (i + 1), fun σ' H' p' => ⟨xs.length - (i + 1), by omega, rfl, hlt, p'⟩, ?_⟩
    rintro x H' ⟨rfl, hx⟩
    exact hs i x σ2 H' hlt (hx xs q) p
  · have e : i = xs.length := by omega
    subst e
    exact .inl ⟨Nat.le_refl _, hd σ2 H2 p⟩
theorem made_zipmap {a b Dd : Addr} {xs ys : List V} {te : TE} {vs : List Nat} {m : Nat} {Qd : Hp → Prop} (f : V → V → V) (ha : asL (H a) = some xs) (hb : asL (H b) = some ys) (hl : xs.length = ys.length) (hD : H Dd = none) (hz : xs.length < sizeLine)
    (hw : ∀ x y, wipe (((wipe σ vs).set m (some x)).set n (some y)) vs = wipe σ vs)
    (he : ∀ (i : Nat) (x y : V) (H' : Hp) (Q : VK), xs[i]? = some x → ys[i]? = some y → Sm H H' → (∀ H2, Sm H' H2 → Q (f x y) H2) → te (((wipe σ vs).set m (some x)).set n (some y)) H' Q)
    (hd : ∀ H', Sm H H' → H' Dd = some (.lst (List.zipWith f xs ys)) → Qd H') : Made (Itz K a b) (gTupF 2 (gCons (gName m) (gCons (gName n) gNil))) tYes te vs σ Dd H Qd := by
  refine made_zip hl (fun i H' => Sm H H' ∧ H' Dd = some (.lst (List.zipWith f (xs.take i) (ys.take i)))) ⟨sm_new (fun _ _ h => h) hD, upd_same⟩ (fun i H' p => ⟨sm_L p.1 ha, sm_L p.1 hb⟩) (fun i x y T H' hx hy p hT => ?_)
    fun H' p => hd H' p.1 (by have e := p.2; rw [List.take_length, hl, List.take_length] at e; exact e)
  have e1 : asT (upd H' T (.tup [x, y]) T) = some [x, y] := by rw [upd_same] <;> rfl
  rw [u_gtup, e1]
  refine ⟨rfl, x, [y], rfl, y, [], rfl, rfl, hw x y, ?_⟩
  have s1 : Sm H (upd H' T (.tup [x, y])) := sm_new p.1 hT
  have d1 : upd H' T (.tup [x, y]) Dd = some (.lst (List.zipWith f (xs.take i) (ys.take i))) := by
    rw [upd_ne (ne_of_none p.2 hT)]; exact p.2
  refine iteT (B := Sm H (upd H' T (.tup [x, y])) ∧ (upd H' T (.tup [x, y])) Dd = some (.lst (List.zipWith f (xs.take (i + 1)) (ys.take (i + 1))))) ?_
  refine he i x y _ _ hx hy s1 fun H2 s2 => ⟨_, s2 _ _ d1, ?_, ?_, ?_⟩
  · rw [List.length_zipWith, List.length_take]; omega
  · exact sm_put (fun b o z => s2 b o (s1 b o z)) hD
  · rw [upd_same, List.take_add_one, List.take_add_one, hx, hy, List.zipWith_append]
    · rfl
    · rw [List.length_take, List.length_take, hl]
end
end XB

/-! Errors: several clauses with and without a name, the making of an error with fields, isinstance of a caught one. -/
namespace XB
open PySem PySem.Spec PyProof.Rows L2 L2N
abbrev Sui := Addr → Value → Option Addr → TS
/-- the ends of a suite whose clause binds the name in slot i -/
def unb (i : Nat) (D : Ends) : Ends := { nx := fun σ H => D.nx (σ.set i none) H, rt := D.rt, bk := fun σ H => D.bk (σ.set i none) H, ct := fun σ H => D.ct (σ.set i none) H }
def suiAt (o : Option Nat) (ts : Sui) (a : Addr) (cls : Value) (d : Option Addr) (D : Ends) (σ : L2.St) (H : Hp) : Prop := match o with
  | none => ts a cls d D σ H
  | some i => ts a cls d (unb i D) (σ.set i (some (.ref a))) H
def wX (K : PySem.W.Frag) (Wout : WX) (D : Ends) : List (Value × Option Nat × Sui) → WX
  | [] => Wout
  | (c, o, ts) :: r => fun cls d σ H => ∃ b, PySem.W.exmOne K cls c = some b ∧ (b = true → ∀ a, H a = none → suiAt o ts a cls d D σ H) ∧ (b = false → wX K Wout D r cls d σ H)
def tTryX (K : PySem.W.Frag) (tb : WX → TS) (Wout : WX) (l : List (Value × Option Nat × Sui)) : TS := fun D σ H => tb (wX K Wout D l) D σ H
/-- a suite holds for every error that may come -/
def SuOk (X : Cx) (sts : List Stmt) (ts : Sui) : Prop := ∀ (a : Addr) (oe : Obj) (cls : Value) (d : Option Addr) (pn : List (Addr × Obj)), Zn cls d oe → (∃ fv, oe.data = .fields fv) → PSs (X.suite a ((a, oe) :: pn)) sts (ts a cls d)
inductive HdX (X : Cx) : List ExceptHandler → List (Value × Option Nat × Sui) → Prop
  | nil : HdX X [] []
  | plain {x : Str} {c : Value} {ts : Sui} {s0 : Stmt} {sr : List Stmt} {p1 p2 : Pos} {hs : List ExceptHandler} {l : List (Value × Option Nat × Sui)} (nm : Names X x c) (su : SuOk X (s0 :: sr) ts) (r : HdX X hs l) :
      HdX X (.ExceptHandler (some (.Name x p1)) none (s0 :: sr) p2 :: hs) ((c, none, ts) :: l)
  | as {x n : Str} {i : Nat} {c : Value} {ts : Sui} {s0 : Stmt} {sr : List Stmt} {p1 p2 : Pos} {hs : List ExceptHandler} {l : List (Value × Option Nat × Sui)} (nd : X.N.Nodup) (at_ : X.N[i]? = some n) (loc : X.env.kindOf n = some .local) (nm : Names X x c) (su : SuOk X (s0 :: sr) ts) (r : HdX X hs l) :
      HdX X (.ExceptHandler (some (.Name x p1)) (some n) (s0 :: sr) p2 :: hs) ((c, some i, ts) :: l)
section
variable {X : Cx}
theorem ps_tryX {body : List Stmt} {h0 : ExceptHandler} {hr : List ExceptHandler} {l : List (Value × Option Nat × Sui)} {pos : Pos} {tb : WX → TS} {Wout : WX} (stk : X.stack = X.env :: X.outer) (frm : X.env.frame = some X.env.locals) (tk : L2N.Takes X Wout)
    (bd : ∀ (W : WX) (pn : List (Addr × Obj)) (xe : Value → Shared → Prop), L2N.Takes (X.tr pn xe) W → PassesOwn (model X.prog X.w) X.A X.env xe → PSs (X.tr pn xe) body (tb W))
    (hd : HdX X (h0 :: hr) l) : PS X (.Try body (h0 :: hr) [] [] pos) (tTryX X.K tb Wout l) := by
  refine ⟨fun pins s σ H D I hyp => ?_⟩
  have okX := I.ok
  have frs2 : X.A.frames = some (X.env :: X.outer) := okX.frames.trans (by rw [stk])
  refine wpAny_Try_except ?_
  refine wpAny_mono ((bd (wX X.K Wout D l) (X.pn ++ pins) (fun er sa => wpAny (model X.prog X.w) X.A (noteFrame er X.env)
    (fun _ sb => wpAny (model X.prog X.w) X.A (setFlight er none) (fun _ sc => wpAny (model X.prog X.w) X.A (handleBy er X.env (h0 :: hr)) (SP X pins D) X.xe sc) X.xe sb) X.xe sa)
    (fun er st thrown => ?caught) PassesOwn.looking).run [] s σ H D (I.toTry _) hyp) (fun fl st done => ?went) (fun er st z => z)
  case caught =>
    obtain ⟨ea, G, sI, pinsT, σ2, H2, cls, d, rfl, Itry, nb, upS, sky, nea, eos, bare, wish⟩ := thrown
    have J : Inv X pins σ2 H2 sI := Itry.ofTry okX
    have sky2 : Sky G (X.env :: X.outer) ea (Zn cls d) X.env.locals st.heap := stk ▸ sky
    show wpAny (model X.prog X.w) X.A (noteFrame (.ref ea) X.env) _ _ _
    refine L2N.Sky.land Zn.steady frs2 frm sky2 fun ha fla upa => ?_
    have Ja : Inv X pins σ2 H2 { st with heap := ha } := J.landed nb fla.1 (upS.trans upa) eos bare
    obtain ⟨oa, va, ga, za, da⟩ := fla.there
    have out : ea ∉ frs (X.env :: X.outer) := fun inn => by
      obtain ⟨_, o2, g2, fv⟩ := fla.2.2.1.mem inn
      rw [ga] at g2
      cases g2
      exact fv _ da
    have ne1 : ea ≠ X.env.locals := fun z => out (List.mem_filterMap.mpr ⟨X.env, List.mem_cons_self, by rw [frm, z]⟩)
    have ne2 : ea ∉ X.fs := fun inn => by
      obtain ⟨e2, m2, q2⟩ := List.mem_filterMap.mp inn
      exact out (List.mem_filterMap.mpr ⟨e2, List.mem_cons_of_mem _ m2, q2⟩)
    have Sa := Ja.suite ga da nea ne1 ne2
    -- what a clause's test tells
    have asks : ∀ {x : Str} {c : Value} {b : Bool} {np : Pos} {Q : Value → Shared → Prop} {E : Value → Shared → Prop}, Names X x c → (∀ sx, sx = { st with heap := ha } → Q c sx) →
        wpAny (model X.prog X.w) (X.A.mark (some (.ref ea))) (eval (.Name x np) X.env) Q E { st with heap := ha } := fun {x c b np Q E} nm q => by
      obtain ⟨gl, dbg, k1 | ⟨k1, k2, k3⟩⟩ := nm
      · exact ld_glob (X := X.suite ea ((ea, oa) :: (X.pn ++ pins))) Sa gl k1 (q _ rfl) dbg
      · exact ld_blt (X := X.suite ea ((ea, oa) :: (X.pn ++ pins))) Sa gl k1 k2 (q _ rfl) k3 dbg
    have ty : PySem.W.Looks (model X.prog X.w) ha (typeOf (.ref ea)) cls := fun A Q E s5 k q => wpAny_typeOf_ref (k _ _ ga) (za.1 ▸ q)
    have walk : ∀ {hs2 : List ExceptHandler} {l2 : List (Value × Option Nat × Sui)}, HdX X hs2 l2 → wX X.K Wout D l2 cls d σ2 H2 → wpAny (model X.prog X.w) X.A (handleBy (.ref ea) X.env hs2) (SP X pins D) X.xe { st with heap := ha } := by
      intro hs2 l2 hok
      induction hok with
      | nil =>
        intro wl
        refine wpAny_handleBy_nil ?_
        obtain ⟨r1, r2, r3, ox, vx, T, oT, tx, gx, zx, dx, t1, rx⟩ := id fla
        unfold PySem.passOn
        refine wpAny_bind (wpAny_field gx dx t1 ?_)
        have nn : ¬ ((Value.ref T == Value.none) = true) := by simp
        rw [if_neg nn]
        have up9 : wpAny (model X.prog X.w) X.A (setFlight (.ref ea) X.env.frame) (fun _ s9 => wpAny (model X.prog X.w) X.A (throw (.ref ea) : Sem Flow) (SP X pins D) X.xe s9) X.xe { st with heap := ha } := by
          rw [frm]
          refine HandSPX.setFlight_upZ fla fun hb hhb upb => wpAny_throw (tk _ _ ?_)
          exact ⟨ea, G, sI, pins, σ2, H2, cls, d, rfl, J, nb, (upS.trans upa).trans upb, .inr (.inr (stk.symm ▸ hhb)), nea, eos, bare, wl⟩
        first
          | exact wpAny_bind (wpAny_pure (wpAny_bind up9))
          | exact wpAny_bind up9
      | @plain x c ts s0 sr p1 p2 hs3 l3 nm su r ih =>
        intro wl
        obtain ⟨b, hb, yes, no⟩ := wl
        refine wpAny_handleBy_cons (codeAny_handlers_test ?_) (by intro q; cases q)
        have LM := PySem.W.exm_one (M := model X.prog X.w) Ja.kIn ty hb
        refine asks (b := b) nm fun sx ex => ?_
        subst ex
        refine LM.here ?_
        cases b with
        | false => exact ih (no rfl)
        | true =>
          refine codeAny_handlers_suite ?_
          refine HandSPX.lands_againZ fla fun hb2 flb upb => ?_
          have Jb : Inv X pins σ2 H2 { st with heap := hb2 } := J.landed nb flb.1 ((upS.trans upa).trans upb) eos bare
          obtain ⟨ob, vb, gb, zb, db⟩ := flb.there
          have Sb := Jb.suite gb db nea ne1 ne2
          refine wpAny_mono ((su ea ob cls d (X.pn ++ pins) zb ⟨_, db⟩).run [] _ _ H2 _ Sb (yes rfl ea nea)) (fun f s6 res => ?_) (fun _ _ z => False.elim z)
          cases f with
          | next => obtain ⟨σ6, H6, S6, q6⟩ := res; exact ⟨_, _, S6.unsuite okX, q6⟩
          | brk => obtain ⟨σ6, H6, S6, q6⟩ := res; exact ⟨_, _, S6.unsuite okX, q6⟩
          | cont => obtain ⟨σ6, H6, S6, q6⟩ := res; exact ⟨_, _, S6.unsuite okX, q6⟩
          | ret u => obtain ⟨v6, σ6, H6, S6, r6, q6⟩ := res; exact ⟨_, _, _, S6.unsuite okX, r6, q6⟩
      | @as x n i c ts s0 sr p1 p2 hs3 l3 nd at_ loc nm su r ih =>
        intro wl
        obtain ⟨b, hb, yes, no⟩ := wl
        have hloc : Loc X.env.scope n := .inl loc
        refine wpAny_handleBy_cons (codeAny_handlers_test ?_) (by intro q; cases q)
        have LM := PySem.W.exm_one (M := model X.prog X.w) Ja.kIn ty hb
        refine asks (b := b) nm fun sx ex => ?_
        subst ex
        refine LM.here ?_
        cases b with
        | false => exact ih (no rfl)
        | true =>
          refine codeAny_handlers_suite_as ?_
          refine HandSPX.lands_againZ fla fun hb2 flb upb => ?_
          have Jb : Inv X pins σ2 H2 { st with heap := hb2 } := J.landed nb flb.1 ((upS.trans upa).trans upb) eos bare
          obtain ⟨ob, vb, gb, zb, db⟩ := flb.there
          have Sb := Jb.suite gb db nea ne1 ne2
          refine store_ok (X := X.suite ea ((ea, ob) :: (X.pn ++ pins))) (v := .ref ea) Sb nd at_ hloc rfl (fun s5 S5 => ?_) (.inr loc)
          refine wpAny_mono ((su ea ob cls d (X.pn ++ pins) zb ⟨_, db⟩).run [] s5 _ H2 _ S5 (yes rfl ea nea)) (fun f s6 res => ?_) (fun _ _ z => False.elim z)
          have fin : ∀ {σ6 : L2.St} {H6 : Hp} {Q : Shared → Prop}, Inv (X.suite ea ((ea, ob) :: (X.pn ++ pins))) [] σ6 H6 s6 → (∀ s7, Inv X pins (σ6.set i none) H6 s7 → Q s7) →
              wpAny (model X.prog X.w) X.A (do bindName X.env n .none; unbindBehindTheSuite X.env n p2) (fun _ s7 => Q s7) X.xe s6 := fun {σ6 H6 Q} S6 k => gone_ok (S6.unsuite okX) nd at_ loc k
          cases f with
          | next => obtain ⟨σ6, H6, S6, q6⟩ := res; exact fin S6 fun s7 J7 => ⟨_, _, J7, q6⟩
          | brk => obtain ⟨σ6, H6, S6, q6⟩ := res; exact fin S6 fun s7 J7 => ⟨_, _, J7, q6⟩
          | cont => obtain ⟨σ6, H6, S6, q6⟩ := res; exact fin S6 fun s7 J7 => ⟨_, _, J7, q6⟩
          | ret u => obtain ⟨v6, σ6, H6, S6, r6, q6⟩ := res; exact fin S6 fun s7 J7 => ⟨_, _, _, J7, r6, q6⟩
    exact walk hd wish
  case went =>
    cases fl with
    | next => obtain ⟨σ2, H2, J2, q⟩ := done; exact wpAny_execs_nil ⟨σ2, H2, J2.ofTry okX, q⟩
    | brk => obtain ⟨σ2, H2, J2, q⟩ := done; exact ⟨σ2, H2, J2.ofTry okX, q⟩
    | cont => obtain ⟨σ2, H2, J2, q⟩ := done; exact ⟨σ2, H2, J2.ofTry okX, q⟩
    | ret u => obtain ⟨v, σ2, H2, J2, r, q⟩ := done; exact ⟨v, σ2, H2, J2.ofTry okX, r, q⟩
/-- C(e, ..), C an error's class with its own __init__; what is made has no context -/
theorem pmk_N {CX : CXT} {x : Str} {e : Expr} {es : List Expr} {ta : TA} {p pos : Pos} {C fI : Addr} {k : Nat} {fd : FuncData} {ps : List Str} {sp : Sp} (T : OexC X.K C)
    (iC : PySem.W.findIn X.K (.ref C) "__init__" = some (some (.ref fI))) (tI : PySem.W.typeIn X.K (.ref fI) = some (.type "function")) (F1 : FnOk X.prog X.w X.K X.mg X.base CX k fI fd ps sp) (hr : Room (k + 1) X.A)
    (hb : Binds X.K fd ps []) (hx : Passes CX X (fun _ _ _ => False)) (hg : Gl X x) (hm : X.mg x = some (.ref C)) (ha : PA X (e :: es) ta) (hdb : (x == ("__debug__" : Str)) = false := by decide)
    (he : starEach (e :: es) X.env = (false, eval e X.env) :: starEach es X.env := by rfl) (hpl : (backTo pos (starEach es X.env)).any (·.1) = false := by rfl) : L2N.PMk X (.Call (.Name x p) (e :: es) [] pos) (tMkO C sp [] ta) := by
  intro pins s σ H Q I hyp
  obtain ⟨nm, qn, N, bs, bm, sn, sub, ab, col, dd, m0, m1, m2, m3, m5, lkC, okB⟩ := T.cls
  refine wpAny_Call_Name_kw (ld_glob I hg hm ?_ hdb)
  refine PySem.W.callWith_K (h₀ := X.base) I.ok.mod.kin T.kC (thn (ha.run pos pins s σ H _ I hyp) fun us st ⟨vs, H1, I1, rel, short, next⟩ => ⟨I1.kIn, ?_⟩) he hpl
  show wpAny _ _ (call (.ref C) us) _ _ _
  obtain ⟨hp, gs, dr, tk, os⟩ := st
  have sz1 : hp.objs.size ≤ hp.objs.size + 1 := Nat.le_succ _
  have fresh : H1 (hp.objs.size + 1) = none := I1.hok.fresh sz1
  have pro := next (hp.objs.size + 1) fresh
  rw [List.append_nil] at pro
  have keeps : ∀ b o, hp.get? b = some o → ((hp.push (PySem.W.kdv_tup us)).push (PySem.HandSPX.excO C hp.objs.size)).get? b = some o := fun b o z => Heap.get?_push_of_some _ (Heap.get?_push_of_some _ z)
  have stands : ((hp.push (PySem.W.kdv_tup us)).push (PySem.HandSPX.excO C hp.objs.size)).get? (hp.objs.size + 1) = some (PySem.HandSPX.excO C hp.objs.size) := by heap_get
  have Inew : Inv X pins σ (upd H1 (hp.objs.size + 1) (exo (hp.objs.size + 1) C none)) ⟨(hp.push (PySem.W.kdv_tup us)).push (PySem.HandSPX.excO C hp.objs.size), gs, dr, tk, os⟩ :=
    I1.laid (t' := tk) (h' := (hp.push (PySem.W.kdv_tup us)).push (PySem.HandSPX.excO C hp.objs.size)) (o := exo (hp.objs.size + 1) C none) (a := hp.objs.size + 1) keeps sz1 (exo_ok stands)
  have rel2 : Vals (V.ref (hp.objs.size + 1) :: vs) (Value.ref (hp.objs.size + 1) :: us) := .cons rfl rel
  have len2 : (Value.ref (hp.objs.size + 1) :: us ++ []).length = ps.length := by
    have z := rel2.length
    rw [F1.len _ _ _ _ pro] at z
    rw [List.append_nil]
    exact z.symm
  have fits : us.length ≤ sizeLine := by
    rw [← Paired.length rel, sizeLine_eq]
    omega
  have bnd := hb _ (Value.ref (hp.objs.size + 1) :: us) Inew.kIn len2
  rw [List.append_nil] at bnd
  refine wpAny_call (PySem.HandSPX.call_own F.excBase_ValueError (fun Y => PySem.HandSPX.refsVE_contains Y bm okB) (I1.kIn _ _ lkC) (PySem.W.looks_findIn I1.kIn iC) (fun me => PySem.W.bind_fn I1.kIn me tI) fits
    (codeAny_mono (F1.run _ X.stack _ _ ⟨Value.ref (hp.objs.size + 1) :: us, []⟩ (Value.ref (hp.objs.size + 1) :: us) _ _ (fun _ _ _ => False) (hr.make C us []) (Inew.env0.make C us []) bnd rel2 pro) fun r s2 res => ?_))
  cases r with
  | error er => exact hx pins σ _ _ er s2 Inew res
  | ok fl =>
    cases fl with
    | ret u =>
      obtain ⟨v, H2, os2, bare2, un2, hok2, rv, ev, d, fs, ea, ed, hd1, q2⟩ := res
      subst ev
      obtain ⟨h2, g2, d2, t2, osx⟩ := s2
      obtain ⟨t0, G, J, kG, gone, there, na⟩ := mk_end0 (d2 := d2) (t2 := t2) I1 sz1 keeps un2 hok2 os2 bare2 ea ed hd1
      refine ⟨rv, hp.objs.size + 1, _, _, ⟨G, g2, d2, t2, osx⟩, _, .ref C, some d, rfl, J, kG, gone, there, ⟨rfl, rfl, fun fv z => ?_⟩, rfl, rfl, na, rfl, bare2, raises_own T.exC T.tyC, q2⟩
      cases z
      rfl
    | next => exact False.elim res
    | brk => exact False.elim res
    | cont => exact False.elim res
end
/-- the fields that an error's __init__ stores, the last one first -/
def flds : List Str → List V → List (Str × V) → List (Str × V)
  | f :: fs, v :: vs, acc => flds fs vs ((f, v) :: acc)
  | _, _, acc => acc
/-- __init__(self, f1, ..): the fields are stored in order -/
def sp_einit (C : Addr) (names : List Str) : Sp := fun vs H Q _ => ∃ (a : Addr) (ws : List V), vs = .ref a :: ws ∧ ws.length = names.length ∧ H a = some (exo a C none) ∧
  ∀ (d : Addr) (H' : Hp), H d = none → d ≠ a → H' a = some (exo a C (some d)) → H' d = some (exd d (flds names ws [])) → (∀ b, b ≠ a → b ≠ d → H' b = H b) → Q .non H'
/-- raise C(e, ..): an error of the class, whose own dict at d, new, holds the fields -/
def tRaiseF (C : Addr) (names : List Str) (Wout : WX) (ta : TA) : TS := fun D σ H => ta σ H fun vs H1 => vs.length = names.length ∧ vs.length ≤ 1000 ∧
  ∀ (d : Addr) (H' : Hp), H1 d = none → H' d = some (.xd (flds names vs [])) → (∀ b o, H1 b = some o → H' b = some o) → Wout (.ref C) (some d) σ H'
theorem mko_of {C : Addr} {names : List Str} {ta : TA} {σ : L2.St} {H : Hp} {Q : XK} (m : ∀ (R R' : List V → Hp → Prop), (∀ vs H1, R vs H1 → R' vs H1) → ta σ H R → ta σ H R')
    (h : ta σ H fun vs H1 => vs.length = names.length ∧ vs.length ≤ 1000 ∧ ∀ (d : Addr) (H' : Hp), H1 d = none → H' d = some (.xd (flds names vs [])) → (∀ b o, H1 b = some o → H' b = some o) → Q (.ref C) (some d) H') :
    tMkO C (sp_einit C names) [] ta σ H Q := m _ _ (fun vs H1 ⟨l1, l2, k⟩ => ⟨l2, fun a na => by
  rw [List.append_nil]
  refine ⟨a, vs, rfl, l1, upd_same, fun d H' nd ne ha hd rest => ⟨rfl, d, _, ha, hd, ?_, ?_⟩⟩
  · rw [upd_ne ne] at nd; exact nd
  · rw [upd_ne ne] at nd
    refine k d _ nd upd_same fun b o hb => ?_
    have nba : b ≠ a := ne_of_none hb na
    have nbd : b ≠ d := ne_of_none hb nd
    rw [upd_ne nbd, del_ne nba, rest b nba nbd, upd_ne nba]
    exact hb⟩) h
theorem u_try {K : PySem.W.Frag} {tb : WX → TS} {W : WX} {l : List (Value × Option Nat × Sui)} {D : Ends} {σ : L2.St} {H : Hp} : tTryX K tb W l D σ H = tb (wX K W D l) D σ H := rfl
theorem u_sui {i : Nat} {ts : Sui} {a : Addr} {cls : Value} {d : Option Addr} {D : Ends} {σ : L2.St} {H : Hp} : suiAt (some i) ts a cls d D σ H = ts a cls d (unb i D) (σ.set i (some (.ref a))) H := rfl
theorem u_sui0 {ts : Sui} {a : Addr} {cls : Value} {d : Option Addr} {D : Ends} {σ : L2.St} {H : Hp} : suiAt none ts a cls d D σ H = ts a cls d D σ H := rfl
theorem u_unb_rt {i : Nat} {D : Ends} : (unb i D).rt = D.rt := rfl
theorem u_unb_nx {i : Nat} {D : Ends} {σ : L2.St} {H : Hp} : (unb i D).nx σ H = D.nx (σ.set i none) H := rfl
theorem u_xf {a C : Addr} {cls : Value} {d : Option Addr} {f : Str} {te : TE} {σ : L2.St} {H : Hp} {Q : VK} : tXf a cls d C f te σ H Q = te σ H fun x H1 => x = .ref a ∧ cls = .ref C ∧ ∃ (dd : Addr) (fs : List (Str × V)) (v : V), d = some dd ∧ H1 dd = some (.xd fs) ∧ fs.lookup f = some v ∧ Q v H1 := rfl
/-- the clause that takes the error *)-/
theorem wX_yes {K : PySem.W.Frag} {W : WX} {D : Ends} {c : Value} {o : Option Nat} {ts : Sui} {r : List (Value × Option Nat × Sui)} {cls : Value} {d : Option Addr} {σ : L2.St} {H : Hp} (h : PySem.W.exmOne K cls c = some true) (k : ∀ a, H a = none → suiAt o ts a cls d D σ H) :
    wX K W D ((c, o, ts) :: r) cls d σ H := ⟨true, h, fun _ => k, fun z => (by cases z)⟩
theorem wX_no {K : PySem.W.Frag} {W : WX} {D : Ends} {c : Value} {o : Option Nat} {ts : Sui} {r : List (Value × Option Nat × Sui)} {cls : Value} {d : Option Addr} {σ : L2.St} {H : Hp} (h : PySem.W.exmOne K cls c = some false) (k : wX K W D r cls d σ H) :
    wX K W D ((c, o, ts) :: r) cls d σ H := ⟨false, h, fun z => (by cases z), fun _ => k⟩
theorem u_WE {W : WX} {σ : L2.St} {cls : Value} {d : Option Addr} {H : Hp} : WE W σ cls d H = W cls d σ H := rfl
theorem u_raise {C : Addr} {names : List Str} {W : WX} {ta : TA} {D : Ends} {σ : L2.St} {H : Hp} : tRaiseF C names W ta D σ H = ta σ H fun vs H1 => vs.length = names.length ∧ vs.length ≤ 1000 ∧
  ∀ (d : Addr) (H' : Hp), H1 d = none → H' d = some (.xd (flds names vs [])) → (∀ b o, H1 b = some o → H' b = some o) → W (.ref C) (some d) σ H' := rfl
/-- an argument list bears a weaker wish -/
def MonA (ta : TA) : Prop := ∀ (σ : L2.St) (H : Hp) (R R' : List V → Hp → Prop), (∀ vs H1, R vs H1 → R' vs H1) → ta σ H R → ta σ H R'
def MonT (te : TE) : Prop := ∀ (σ : L2.St) (H : Hp) (R R' : VK), (∀ v H1, R v H1 → R' v H1) → te σ H R → te σ H R'
theorem mon_nil : MonA tNil := fun σ H R R' k h => k _ _ h
theorem mon_cons {te : TE} {tr : TA} (h1 : MonT te) (h2 : MonA tr) : MonA (tCons te tr) := fun σ H R R' k h => h1 σ H _ _ (fun v H1 q => h2 σ H1 _ _ (fun vs H2 q2 => k _ _ q2) q) h
theorem mon_var {i : Nat} : MonT (tVar i) := fun σ H R R' k ⟨v, e, q⟩ => ⟨v, e, k _ _ q⟩
theorem mon_c {v : V} : MonT (tC v) := fun σ H R R' k q => k _ _ q
section
variable {X : Cx}
theorem ps_raiseF {CX : CXT} {x : Str} {e : Expr} {es : List Expr} {ta : TA} {p pos pos2 : Pos} {C fI : Addr} {k : Nat} {fd : FuncData} {ps names : List Str} {W : WX} (hc : X.calm = true) (T : OexC X.K C)
    (iC : PySem.W.findIn X.K (.ref C) "__init__" = some (some (.ref fI))) (tI : PySem.W.typeIn X.K (.ref fI) = some (.type "function")) (F1 : FnOk X.prog X.w X.K X.mg X.base CX k fI fd ps (sp_einit C names)) (hr : Room (k + 1) X.A)
    (hb : Binds X.K fd ps []) (hx : Passes CX X (fun _ _ _ => False)) (hg : Gl X x) (hm : X.mg x = some (.ref C)) (tk : L2N.Takes X W) (mon : MonA ta) (ha : PA X (e :: es) ta) (hdb : (x == ("__debug__" : Str)) = false := by decide)
    (he : starEach (e :: es) X.env = (false, eval e X.env) :: starEach es X.env := by rfl) (hpl : (backTo pos (starEach es X.env)).any (·.1) = false := by rfl) :
    PS X (.Raise (some (.Call (.Name x p) (e :: es) [] pos)) none pos2) (tRaiseF C names W ta) :=
  ⟨fun pins s σ H D I q => (L2N.ps_raise hc tk (pmk_N T iC tI F1 hr hb hx hg hm ha hdb he hpl)).run pins s σ H D I (mko_of (Q := fun cls d H' => W cls d σ H') (fun R R' => mon σ H R R') q)⟩
theorem takesN0 {X : Cx} : L2N.Takes X (fun _ _ _ _ => False) := fun _ _ z => by
  obtain ⟨_, _, _, _, _, _, _, _, _, _, _, _, _, _, _, _, no⟩ := z
  exact no.elim
theorem pass0S {X : Cx} {E : L2.St → XK} : ∀ σ, PassesAt CX0 X σ (E σ) := fun _ _ _ _ _ _ _ z => z.elim
theorem passE {X : Cx} {E : XK} : Passes CX0 X E := fun _ _ _ _ _ _ _ z => z.elim
/-- a def that may raise -/
theorem okN {P : Program} {w : World} {K : PySem.W.Frag} {mg : Str → Option Value} {base : Heap} {x qual : Str} {st : Stmt} {f : Addr} {fd : FuncData} {N ps : List Str} {k : Nat} {sp : Sp} (F : Fun K x qual st f fd) (S : FnScope N ps (defScope st))
    (len : ∀ vs H Q E, sp vs H Q E → vs.length = ps.length)
    (hbody : ∀ (cdv : Value) (A : Around) (outer : List Env) (s : Shared) (H : Hp) (vs : List V) (Q : VK) (E : XK), Room k (A.deeper (envOfC qual (defScope st) s.heap.objs.size f cdv)) → sp vs H Q E →
      ∃ t, PSs (cxOf (L2N.CX P w) P w K mg base N qual (defScope st) f cdv A outer s H E) (defBody st) t ∧ t { nx := fun _ H' => Q .non H', rt := Q } (start N vs) H) : FnOk P w K mg base (L2N.CX P w) (k + 1) f fd ps sp := by
  obtain ⟨oc, od, kV, doc, pm, an, cdv, ct, osl, rfl, lk, hcd⟩ := F.ex
  exact fn_of lk hcd S len fun A outer s H vs Q E hr hsp => hbody cdv A outer s H vs Q E hr hsp
end
end XB

/-! isinstance of a caught error that has its own dict. -/
namespace XB
open PySem PySem.Spec PySem.Calls PyProof.Rows PySem.W
section
variable {prog : Program} {w : World} {A : Around} {E : Value → Shared → Prop} {s : Shared} {K : Frag} {x D : Addr} {ox : Obj} {od : Option Obj}
theorem err_class {Q : Option Value → Shared → Prop} (T : L2.ExcC K D) (hf : findObj K D od "__class__" = some (.bind (.builtin "getset_descriptor.__get__") (.builtin "object.__class__")))
    (X : K.In s.heap) (I : InstAt s.heap x ox D od) (h : Q (some (.ref D)) { s with toks := s.toks + 1 }) : wpAny (model prog w) A (getAttr? (.ref x) "__class__") Q E s := by
  obtain ⟨hp, gs, dr, tk, os⟩ := s
  have lk0 := I.type (M := model prog w)
  have lk1 := looks_findIn (M := model prog w) X T.hg
  have lk2 := looks_findIn (M := model prog w) X T.hk
  have lk3 := looks_find (M := model prog w) X I hf
  have isB : Looks (model prog w) hp (isInstance (.ref x) (.type "BaseException")) true := lk0.andThen (looks_subIn X T.hs)
  have e0 : (false && onTheHeap (Value.builtin "BaseException.__getattribute__")) = false := rfl
  have e2 : (Value.builtin "BaseException.__getattribute__" == Value.builtin "object.__getattribute__") = false := by decide +kernel
  have e1 : (onTheHeap (Value.ref D) && Value.builtin "BaseException.__getattribute__" == Value.builtin "object.__getattribute__") = false := by rw [e2] <;> rfl
  unfold getAttr? getAttrBy? getAttrBy
  refine wpAny_bind (wpAny_mkText (wpAny_bind (wpAny_attempt (wpAny_holding (wpAny_bind (lk0.at (wpAny_bind (lk1.at ?go))))))))
  case go =>
    show wpAny _ _ (if (onTheHeap (Value.ref D) && Value.builtin "BaseException.__getattribute__" == Value.builtin "object.__getattribute__") = true then _ else _) _ _ _
    rw [e1]
    rw [if_neg Bool.false_ne_true]
    unfold getAttrByItsOwn hookBefore
    refine wpAny_bind ?own
    case own =>
      rw [if_pos (show onTheHeap (Value.ref D) = true from rfl)]
      refine lk2.at (wpAny_bind (wpAny_attempt (wpAny_holding ?inner)))
      case inner =>
        unfold callGetattribute
        rw [e0]
        rw [if_neg Bool.false_ne_true]
        unfold boundAndCalled
        rw [PySem.F.excAttr_ValueError.ga.bind (.ref x)]
        refine wpAny_bind (wpAny_pure ?called)
        case called =>
          show wpAny _ _ (call (.builtin "BaseException.__getattribute__") [.ref x, .str "__class__" tk]) _ _ _
          refine wpAny_call (codeAny_call_builtin PySem.F.excAttr_ValueError.ga.plain PySem.F.entry_bexc_ga ?slot)
          case slot =>
            refine @check_slot (model prog w) _ _ ⟨hp, gs, dr, tk + 1, os⟩ "BaseException.__getattribute__" "BaseException" "__getattribute__" (.ref x) [.str "__class__" tk] [] _ (by decide +kernel) (by decide +kernel) isB (PySem.F.args_bexc_ga (.ref x) (.str "__class__" tk)) ?body
            case body =>
              unfold Builtin.«object.__getattribute__»
              refine wpAny_bind (wpAny_of_eq (a := ((Value.ref x : Value), [Value.str "__class__" tk])) (by first | rfl | (simp only [slotArgs] <;> rfl)) ?rest)
              case rest =>
                refine wpAny_bind (wpAny_pure (wpAny_bind (lk0.at (wpAny_bind (lk3.at ?get)))))
                case get =>
                  show wpAny _ _ (holding [Value.builtin "object.__class__"] (call (.builtin "getset_descriptor.__get__") [.builtin "object.__class__", .ref x, .ref D]) >>= ret) _ _ _
                  refine wpAny_bind (wpAny_holding (wpAny_call (class_get (s := ⟨hp, gs, dr, tk + 1, os⟩) (ox := ox) (od := od) X I T.hm ?out)))
                  case out =>
                    refine wpAny_pure ?end_
                    case end_ =>
                      show wpAny _ _ (handedOut (.ref D)) _ _ _
                      rw [handedOut_of (v := .ref D) rfl]
                      first
                        | exact wpAny_pure (wpAny_pure h)
                        | exact wpAny_pure h
                        | exact wpAny_pure (wpAny_bind (wpAny_pure (wpAny_pure h)))
theorem err_kit (T : L2.ExcC K D) (hf : findObj K D od "__class__" = some (.bind (.builtin "getset_descriptor.__get__") (.builtin "object.__class__"))) : KitX K (.ref x) (.ref D) (fun hp => InstAt hp x ox D od) where
  ty := fun _ _ _ I => I.type
  it := fun _ _ X _ => by
    obtain ⟨cd, hc, _⟩ := any_some T.hd
    unfold clsIn at hc
    split at hc
    · rename_i o2 d2 c2 l2 at2
      intro A2 Q2 E2 s2 k q
      unfold isType loadHead
      exact wpAny_bind (wpAny_loadPart (k _ _ (X _ _ at2)) (wpAny_pure q))
    · cases hc
  ne := fun hp tp dd its n sl X at_ => by
    obtain ⟨cd, hc, _⟩ := any_some T.hd
    refine Bool.eq_false_iff.mpr fun z => ?_
    have same : D = tp := Value.ref.inj (beq_iff_eq.mp z)
    subst same
    unfold clsIn at hc
    split at hc
    · rename_i o2 d2 c2 l2 at2
      have y := (X _ _ at2).symm.trans at_
      cases y
    · cases hc
  ca := fun X I k => err_class T hf X I k
end
open L2
/-- what the class at D must say, that isinstance asks its instances rightly -/
structure ErrC (K : PySem.W.Frag) (D : Addr) : Prop where
  ex : L2.ExcC K D
def fIsE (K : PySem.W.Frag) (D a : Addr) (cls : Value) (d : Option Addr) : RL := fun xs H Q => ∃ (c : V) (cv : Value) (b : Bool) (dd : Addr) (fs : List (Str × V)), xs = [.ref a, c] ∧ (∀ u, RelV c u → u = cv) ∧ cls = .ref D ∧ d = some dd ∧ H dd = some (.xd fs) ∧
  PySem.W.kitOne K (.ref D) cv = some b ∧ Q (.bl b) H
def fIsET (K : PySem.W.Frag) (D a : Addr) (cls : Value) (d : Option Addr) : RL := fun xs H Q => ∃ (tp : Addr) (cs : List V) (us : List Value) (b : Bool) (dd : Addr) (fs : List (Str × V)), xs = [.ref a, .ref tp] ∧ H tp = some (.tup cs) ∧ Paired ClsV cs us ∧ cls = .ref D ∧ d = some dd ∧ H dd = some (.xd fs) ∧
  PySem.W.kitAny K (.ref D) us = some b ∧ Q (.bl b) H
section
variable {X : Cx} {a D : Addr} {oe : Obj} {cls : Value} {d : Option Addr} {pn : List (Addr × Obj)}
theorem err_at {pins : List (Addr × Obj)} {σ : L2.St} {H : Hp} {s : Shared} {dd : Addr} {fs : List (Str × V)} (I : Inv (X.suite a ((a, oe) :: pn)) pins σ H s) (hz : L2N.Zn (.ref D) (some dd) oe) (hf : ∃ fv, oe.data = .fields fv) (hx : H dd = some (.xd fs)) :
    ∃ od, PySem.W.InstAt s.heap a oe D (some od) := by
  obtain ⟨at_, _⟩ := I.pin (a, oe) (List.mem_append_left _ List.mem_cons_self)
  have ob : ObjOk (X.suite a ((a, oe) :: pn)).prog (X.suite a ((a, oe) :: pn)).w H s.heap dd (.xd fs) := I.hok dd _ hx
  obtain ⟨mA, hns, _⟩ := ob
  obtain ⟨od, ho, _⟩ := lookIn_ns hns
  obtain ⟨fv, hd⟩ := hf
  exact ⟨od, at_, hz.1, by unfold PySem.W.notCls; rw [hd] <;> rfl, by rw [hz.2.1]; exact ho⟩
theorem c_isE (T : L2.ExcC X.K D) (hz : L2N.Zn cls d oe) (hf : ∃ fv, oe.data = .fields fv) : CallR (X.suite a ((a, oe) :: pn)) (.builtin "isinstance") (fIsE X.K D a cls d) := by
  intro pins s σ H xs us Q I r h
  obtain ⟨c, cv, b, dd, fs, rfl, hcv, rfl, rfl, hx, e, q⟩ := h
  obtain ⟨u1, u2, rfl, r1, r2⟩ := vals2 r
  cases (show u1 = Value.ref a from r1)
  have ec := hcv _ r2
  subst ec
  obtain ⟨od, J⟩ := err_at I hz hf hx
  exact PySem.W.kia_one (err_kit T (PySem.W.findObj_data (by obtain ⟨cd, hc, _⟩ := PySem.W.any_some T.hd; rw [hc] <;> rfl) T.ha T.hn T.ht)) I.kIn J e (fun z => nomatch z) fun tk => ⟨.bl b, H, I.kept (t' := tk) fun _ _ z => z, rfl, q⟩
theorem c_isET (T : L2.ExcC X.K D) (hz : L2N.Zn cls d oe) (hf : ∃ fv, oe.data = .fields fv) : CallR (X.suite a ((a, oe) :: pn)) (.builtin "isinstance") (fIsET X.K D a cls d) := by
  intro pins s σ H xs us Q I r h
  obtain ⟨tp, cs, ws, b, dd, fs, rfl, hT, k, rfl, rfl, hx, e, q⟩ := h
  obtain ⟨u1, u2, rfl, r1, r2⟩ := vals2 r
  cases (show u1 = Value.ref a from r1)
  cases (show u2 = Value.ref tp from r2)
  obtain ⟨od, J⟩ := err_at I hz hf hx
  have ot : ObjOk (X.suite a ((a, oe) :: pn)).prog (X.suite a ((a, oe) :: pn)).w H s.heap tp (.tup cs) := I.hok tp _ hT
  obtain ⟨_, its, rv, o, h1, h2, n, h3⟩ := ot
  have e3 := ClsV.all k rv
  subst e3
  obtain ⟨oc, odd, dt, sl⟩ := o
  simp only at h2 h3
  subst h2 h3
  exact PySem.W.kia_tup (err_kit T (PySem.W.findObj_data (by obtain ⟨cd, hc, _⟩ := PySem.W.any_some T.hd; rw [hc] <;> rfl) T.ha T.hn T.ht)) I.kIn J h1 e (fun z => nomatch z) fun tk => ⟨.bl b, H, I.kept (t' := tk) fun _ _ z => z, rfl, q⟩
end
end XB

/-! Texts: not in, slices, str of a number, loops over a text. -/
namespace XB
open PySem L2
def fNin (K : PySem.W.Frag) : R2 := fun x y H Q => match x, y with
  | .str ⟨⟨[c]⟩⟩, .str z => Q (.bl (!decide (c ∈ z.cps.toList))) H
  | x, .ref p => (match asS (H p) with
    | some xs => flatV x = true ∧ xs.all flatV = true ∧ Q (.bl (!inV x xs)) H
    | none => False)
  | _, _ => False
section
variable {X : Cx}
theorem op_ninF : OpR X (compareOp .NotIn) (fNin X.K) := op_imp (op_notIn_seq.or op_notIn_sign) fun x y H Q h => by
  unfold fNin at h
  split at h
  · exact .inr ⟨_, _, rfl, rfl, h⟩
  · split at h
    · rename_i e
      obtain ⟨h1, h2, h3⟩ := h
      exact .inl ⟨_, _, rfl, (asS_or e).elim (fun e => .inl (asL_seq e)) (fun e => .inr (asT_seq e)), h1, h2, h3⟩
    · exact h.elim
  · exact h.elim
/-- a slice of a text too -/
def fSl2 : V → Option Int → Option Int → Hp → VK → Prop := fun x lo hi H Q => match x with
  | .str z => z.length ≤ sizeLine ∧ Q (.str (Txt.slice z lo hi)) H
  | x => fSl x lo hi H Q
theorem sl_F2 : SlR X fSl2 := fun pins s σ H x v vl vu lo hi sl Q I rx hs pl pu h => by
  refine (C8.sl_txt.or sl_F) pins s σ H x v vl vu lo hi sl Q I rx hs pl pu ?_
  unfold fSl2 at h
  split at h
  · exact .inl ⟨_, rfl, h.1, h.2⟩
  · exact .inr h
def fStrI : RL := fun xs H Q => match xs with
  | [.int i] => i.natAbs.log2 < 1920 ∧ Q (.str (toString i)) H
  | _ => False
theorem c_strI : CallR X (.type "str") fStrI := fun pins s σ H xs us Q I r h => by
  refine call_str_int pins s σ H xs us Q I r ?_
  unfold fStrI at h
  split at h
  · exact ⟨_, rfl, h.1, h.2⟩
  · exact h.elim
end
section
variable {K : PySem.W.Frag} {H : Hp} {Q : VK} {σ : L2.St} {v : V} {D : Ends} {g : TG} {n : Nat}
theorem u_strI {te : TE} {R : It → Hp → Prop} : iStr te σ H R = te σ H fun v H1 => ∃ x, v = .str x ∧ R (Its x) H1 := rfl
theorem f_nin1 {c : Nat} {z : Str} : fNin K (.str ⟨⟨[c]⟩⟩) (.str z) H Q = Q (.bl (!decide (c ∈ z.cps.toList))) H := rfl
theorem f_in1 {c : Nat} {z : Str} : fIn K (.str ⟨⟨[c]⟩⟩) (.str z) H Q = Q (.bl (decide (c ∈ z.cps.toList))) H := rfl
theorem f_slS {z : Str} {lo hi : Option Int} : fSl2 (.str z) lo hi H Q = (z.length ≤ sizeLine ∧ Q (.str (Txt.slice z lo hi)) H) := rfl
theorem f_slR {p : Addr} {lo hi : Option Int} : fSl2 (.ref p) lo hi H Q = fSl (.ref p) lo hi H Q := rfl
theorem f_strI {i : Int} : fStrI [.int i] H Q = (i.natAbs.log2 < 1920 ∧ Q (.str (toString i)) H) := rfl
end
section
variable {K : PySem.W.Frag} {H : Hp} {σ : L2.St} {D : Ends} {g : TG} {n : Nat}
/-- a loop over a text's signs -/
theorem loop_str {z : Str} {tb : TS} (Pv : Nat → L2.St → Hp → Prop) (h0 : Pv 0 σ H)
    (hs : ∀ i c σ H, z.cps[i]? = some c → Pv i σ H → g (.str ⟨#[c]⟩) σ H fun σ2 H2 => tb { D with nx := Pv (i + 1), ct := Pv (i + 1), bk := D.nx } σ2 H2) (hd : ∀ σ H, Pv z.cps.size σ H → D.nx σ H) : Loop (Its z) g tb D σ H := by
  refine ⟨fun i m σ H => m = z.cps.size - i ∧ i ≤ z.cps.size ∧ Pv i σ H, ⟨z.cps.size, rfl, Nat.zero_le _, h0⟩, ?_⟩
  rintro i m σ H ⟨rfl, hi, p⟩
  by_cases hlt : i < z.cps.size
  · refine .inr ⟨hlt, Pv (i + 1), fun σ' H' p' => ⟨z.cps.size - (i + 1), by omega, rfl, hlt, p'⟩, fun x H' y => ?_⟩
    obtain ⟨e, c, hc, rfl⟩ := y
    subst e
    exact hs i c σ _ hc p
  · have e : i = z.cps.size := by omega
    subst e
    exact .inl ⟨Nat.le_refl _, hd σ H p⟩
/-- a list made of a text's signs, each by f -/
theorem made_mapStr {z : Str} {Dd : Addr} {te : TE} {vs : List Nat} {Qd : Hp → Prop} (f : Nat → V) (hD : H Dd = none) (hz : z.cps.size < sizeLine) (hw : ∀ x, wipe ((wipe σ vs).set n (some x)) vs = wipe σ vs)
    (he : ∀ (i c : Nat) (H' : Hp) (Q : VK), z.cps[i]? = some c → Sm H H' → (∀ H2, Sm H' H2 → Q (f c) H2) → te ((wipe σ vs).set n (some (.str ⟨#[c]⟩))) H' Q) (hd : ∀ H', Sm H H' → H' Dd = some (.lst (z.cps.toList.map f)) → Qd H') : Made (Its z) (gName n) tYes te vs σ Dd H Qd := by
  refine ⟨fun i m H' => m = z.cps.size - i ∧ i ≤ z.cps.size ∧ Sm H H' ∧ H' Dd = some (.lst ((z.cps.toList.take i).map f)), ⟨z.cps.size, rfl, Nat.zero_le _, sm_new (fun _ _ h => h) hD, upd_same⟩, ?_⟩
  rintro i m H' ⟨rfl, hi, s1, h1⟩
  by_cases hlt : i < z.cps.size
  · refine .inr ⟨hlt, fun H' => Sm H H' ∧ H' Dd = some (.lst ((z.cps.toList.take (i + 1)).map f)), fun H' p' => ⟨z.cps.size - (i + 1), by omega, rfl, hlt, p'⟩, fun x H2 y => ?_⟩
    obtain ⟨e, c, hc, rfl⟩ := y
    subst e
    refine ⟨hw _, ?_⟩
    refine iteT (B := Sm H H2 ∧ H2 Dd = some (.lst ((z.cps.toList.take (i + 1)).map f))) ?_
    refine he i c _ _ hc s1 fun H3 s3 => ⟨(z.cps.toList.take i).map f, s3 _ _ h1, ?_, ?_, ?_⟩
    · rw [List.length_map, List.length_take]
      have : z.cps.toList.length = z.cps.size := Array.length_toList
      omega
    · exact sm_put (fun b o q => s3 b o (s1 b o q)) hD
    · have hc2 : z.cps.toList[i]? = some c := by rw [Array.getElem?_toList]; exact hc
      rw [upd_same, take_map_succ hc2]
  · have e : i = z.cps.size := by omega
    subst e
    refine .inl ⟨Nat.le_refl _, hd _ s1 ?_⟩
    have : z.cps.toList.length = z.cps.size := Array.length_toList
    rw [h1, ← this, List.take_length]
end
end XB

/-! Empty dicts among the data; a thing of the heap == a text. -/
namespace XB
open PySem PySem.Spec PySem.Calls PyProof.Rows PySem.W
section
variable {M : Model} {prog : Program} {w : World} {A : Around} {E : Value → Shared → Prop} {s : Shared}
theorem dict_declines {a : Addr} {z : Str} {u : Tok} (da : s.TypeIs (.ref a) "dict") {Q : Value → Shared → Prop} (h : Q .notImplemented s) : wpAny (model prog w) A (call (.builtin "dict.__eq__") [.ref a, .str z u]) Q E s := by
  refine wpAny_call_entry PySem.F.slot_dict_eq da PySem.F.entry_dict_eq ?_ (PySem.F.args_dict_eq_2 _ _)
  show wpAny _ _ (Builtin.Dict.dictSlotArgs "__eq__" ⟨[.ref a, .str z u], []⟩ >>= _) _ _ s
  refine wpAny_bind ?_
  unfold Builtin.Dict.dictSlotArgs
  refine wpAny_bind (wpAny_notOrdered_dict da ?_)
  show wpAny _ _ (pure (Value.ref a, Value.str z u)) _ _ s
  refine wpAny_pure ?_
  refine wpAny_bind (wpAny_isInstance (T := "str") (typeIs_str s z u) PySem.F.sub_str_dict ?_)
  simp only [Bool.not_false, if_true]
  obtain ⟨hp, g, d, tk, os⟩ := s
  wp_walk
  exact ⟨_, rfl, h⟩
theorem str_declines (z : Str) (u : Tok) (a : Addr) (ob : Obj) (hd : ∃ es ep, ob.data = .dict es ep) : Meets (Builtin.«str.__eq__» ⟨[.str z u, .ref a], []⟩) (fun _ R s => s.heap.get? a = some ob ∧ R (.ok (.ret .notImplemented)) s) := by
  obtain ⟨es, ep, hd⟩ := hd
  obtain ⟨c, dd, dt, sl⟩ := ob
  simp only at hd
  subst hd
  exact .of_wp fun prog w A R s h => by
    obtain ⟨hp, g, d, tk, os⟩ := s
    obtain ⟨hl, h⟩ := h
    wp_walk using wpAny_loadPart' hl, wpAny_load hl
    exact ⟨_, rfl, h⟩
end
section
variable {prog : Program} {w : World} {A : Around} {s : Shared}
theorem rc_dict_str {a : Addr} {ob : Obj} (z : Str) (u : Tok) (da : s.TypeIs (.ref a) "dict") (ha : s.heap.get? a = some ob) (hd : ∃ es ep, ob.data = .dict es ep) (hu : A.units < cLine) {E Q : Value → Shared → Prop} (h : Q (.bool false) s) :
    wpAny (model prog w) A (richCompare .Eq (.ref a) (.str z u)) Q E s :=
  SeqAt.rc_eq_decline_or (k := false) da (typeIs_str s z u) (by decide) PySem.F.sub_str_dict PySem.F.slot_dict_eq PySem.F.slot_str_eq_refl
    (fun _ hq => dict_declines da hq)
    (fun _ hq => call_meets PySem.F.slot_str_eq_refl (typeIs_str s z u) PySem.F.entry_str_eq (PySem.F.args_str_eq_2 _ _) (str_declines z u a ob hd) ⟨ha, hq⟩)
    (fun _ hq => wpAny_of_eq (rfl : isSame (.ref a) (.str z u) = pure false) hq) (.inr hu) h
end
open L2
section
variable {X : Cx}
/-- what stands in the heap == a text: False -/
def rEqRS (K : PySem.W.Frag) : R2 := fun x y H Q => ∃ p z, x = .ref p ∧ y = .str z ∧ ((∃ xs, SqL K H p xs) ∨ (∃ xs, SqT K H p xs) ∨ ∃ kvs, H p = some (.dK kvs)) ∧ Q (.bl false) H
theorem op_eqRS (hu : X.A.units < cLine) : OpR X (compareOp .Eq) (rEqRS X.K) := by
  intro pins s σ H x y v u Q I rx ry h
  obtain ⟨p, z, rfl, rfl, h, q⟩ := h
  cases (show v = Value.ref p from rx)
  obtain ⟨t, rfl⟩ : ∃ t, u = .str z t := ry
  rcases h with ⟨xs, h⟩ | ⟨xs, h⟩ | ⟨kvs, h⟩
  · obtain ⟨its, _, pl, _⟩ := I.list h
    exact SeqAt.RcAt.list_str z t pl.isList hu X.prog X.w _ _ ⟨.bl false, H, I, rfl, q⟩
  · obtain ⟨its, _, pl, _⟩ := I.tuple h
    exact SeqAt.RcAt.tuple_str z t pl hu X.prog X.w _ _ ⟨.bl false, H, I, rfl, q⟩
  · obtain ⟨_, ya, va, ra, da⟩ := (show ObjOk X.prog X.w H s.heap p (.dK kvs) from I.hok p _ h)
    obtain ⟨o, es, ep, ho, _, hd, _⟩ := id da
    exact rc_dict_str z t da.typeIs ho ⟨es, ep, hd⟩ hu ⟨.bl false, H, I, rfl, q⟩
def fEqX (K : PySem.W.Frag) : R2 := fun x y H Q => match x, y with
  | .ref p, .str _ => (match H p with
    | some (.dK _) => Q (.bl false) H
    | _ => (match asS (H p) with
      | some _ => Q (.bl false) H
      | none => False))
  | x, y => fEq K x y H Q
theorem op_eqX (hu : X.A.units + 64 < cLine) : OpR X (compareOp .Eq) (fEqX X.K) := op_imp ((op_eqRS (by omega)).or (op_eqF hu)) fun x y H Q h => by
  unfold fEqX at h
  split at h
  · rename_i p z
    split at h
    · rename_i kvs e
      exact .inl ⟨p, z, rfl, rfl, .inr (.inr ⟨kvs, e⟩), h⟩
    · split at h
      · rename_i xs e
        refine .inl ⟨p, z, rfl, rfl, ?_, h⟩
        rcases asS_or e with e | e
        · exact .inl ⟨xs, asL_seq e⟩
        · exact .inr (.inl ⟨xs, asT_seq e⟩)
      · exact h.elim
  · exact .inr h
/-- two tuples put together -/
def fAddT : R2 := fun x y H Q => match x, y with
  | .ref a, .ref b => (match asT (H a), asT (H b) with
    | some xs, some ys => xs ≠ [] ∧ ys ≠ [] ∧ xs.length + ys.length ≤ sizeLine ∧ ∀ p, H p = none → Q (.ref p) (upd H p (.tup (xs ++ ys)))
    | _, _ => False)
  | _, _ => False
theorem op_addT : OpR X (binaryOp .Add) fAddT := op_imp op_catT fun x y H Q h => by
  unfold fAddT at h
  split at h
  · split at h
    · rename_i e1 e2
      exact ⟨_, _, _, _, rfl, rfl, asT_seq e1, asT_seq e2, h.1, h.2.2.1, fun z => absurd z h.2.1, fun _ => h.2.2.2⟩
    · exact h.elim
  · exact h.elim
/-- len, of a dict too -/
def fLen2 : RL := fun xs H Q => match xs with
  | [.ref p] => (match H p with
    | some (.dK kvs) => Q (.int (kvs.length : Nat)) H
    | _ => (match asS (H p) with
      | some ys => Q (.int (ys.length : Nat)) H
      | none => False))
  | xs => fLen xs H Q
theorem c_len2 : CallR X (.builtin "len") fLen2 := call_imp (c_len.or L2.call_lenD) fun xs H Q h => by
  unfold fLen2 at h
  split at h
  · rename_i p
    split at h
    · rename_i kvs e
      exact .inr ⟨p, kvs, rfl, e, h⟩
    · refine .inl ?_
      show (match asS (H p) with
        | some ys => Q (.int (ys.length : Nat)) H
        | none => False)
      exact h
  · exact .inl h
end
section
variable {K : PySem.W.Frag} {H : Hp} {Q : VK} {σ : L2.St} {D : Ends} {g : TG} {tb : TS} {n : Nat}
theorem f_lenL {p : Addr} {xs : List V} (h : asS (H p) = some xs) : fLen2 [.ref p] H Q = Q (.int (xs.length : Nat)) H := by
  unfold fLen2
  dsimp only
  split
  · rename_i e
    rw [e] at h
    cases h
  · rw [h]
theorem f_lenD {p : Addr} {kvs : List (Key × V)} (h : H p = some (.dK kvs)) : fLen2 [.ref p] H Q = Q (.int (kvs.length : Nat)) H := by
  unfold fLen2
  dsimp only
  rw [h]
theorem f_eqRS {p : Addr} {z : Str} {xs : List V} (h : asS (H p) = some xs) : fEqX K (.ref p) (.str z) H Q = Q (.bl false) H := by
  unfold fEqX
  dsimp only
  split
  · rfl
  · rw [h]
theorem f_eqDS {p : Addr} {z : Str} {kvs : List (Key × V)} (h : H p = some (.dK kvs)) : fEqX K (.ref p) (.str z) H Q = Q (.bl false) H := by
  unfold fEqX
  dsimp only
  rw [h]
theorem f_eqXS {a b : Str} : fEqX K (.str a) (.str b) H Q = Q (.bl (decide (a = b))) H := rfl
theorem f_eqXn {b : Str} : fEqX K .non (.str b) H Q = (scal V.non (.str b) = true ∧ Q (.bl (decide (V.non = .str b))) H) := rfl
theorem f_eqXb {a : Bool} {b : Str} : fEqX K (.bl a) (.str b) H Q = (scal (V.bl a) (.str b) = true ∧ Q (.bl (decide (V.bl a = .str b))) H) := rfl
theorem f_eqXi {a : Int} {b : Str} : fEqX K (.int a) (.str b) H Q = (scal (V.int a) (.str b) = true ∧ Q (.bl (decide (V.int a = .str b))) H) := rfl
theorem f_addT {a b : Addr} {xs ys : List V} (h1 : asT (H a) = some xs) (h2 : asT (H b) = some ys) : fAddT (.ref a) (.ref b) H Q = (xs ≠ [] ∧ ys ≠ [] ∧ xs.length + ys.length ≤ sizeLine ∧ ∀ p, H p = none → Q (.ref p) (upd H p (.tup (xs ++ ys)))) := by
  unfold fAddT
  dsimp only
  rw [h1, h2]
theorem u_tupI {te : TE} {R : It → Hp → Prop} : iTup K te σ H R = te σ H fun x H1 => ∃ a, x = .ref a ∧ (∃ xs, SqT K H1 a xs) ∧ R (Itt K a) H1 := rfl
theorem loop_tup {a : Addr} {xs : List V} {g : TG} {tb : TS} {D : Ends} (Pv : Nat → L2.St → Hp → Prop) (h0 : Pv 0 σ H) (hl : ∀ i σ H, i ≤ xs.length → Pv i σ H → asT (H a) = some xs)
    (hs : ∀ i x σ H, xs[i]? = some x → Pv i σ H → g x σ H fun σ2 H2 => tb { D with nx := Pv (i + 1), ct := Pv (i + 1), bk := D.nx } σ2 H2) (hd : ∀ σ H, Pv xs.length σ H → D.nx σ H) : Loop (Itt K a) g tb D σ H :=
  for_tup (K := K) Pv h0 (fun i σ H h p => asT_seq (hl i σ H h p)) hs hd
/-- a comprehension over a tuple, one value for each item -/
theorem made_mapT {a Dd : Addr} {xs : List V} {te : TE} {vs : List Nat} {Qd : Hp → Prop} (f : V → V) (hl : asT (H a) = some xs) (hD : H Dd = none) (hz : xs.length < sizeLine) (hw : ∀ x, wipe ((wipe σ vs).set n (some x)) vs = wipe σ vs)
    (he : ∀ (i : Nat) (x : V) (H' : Hp) (Q : VK), xs[i]? = some x → Sm H H' → (∀ H2, Sm H' H2 → Q (f x) H2) → te ((wipe σ vs).set n (some x)) H' Q) (hd : ∀ H', Sm H H' → H' Dd = some (.lst (xs.map f)) → Qd H') : Made (Itt K a) (gName n) tYes te vs σ Dd H Qd := by
  refine lc_tup (K := K) (fun i H' => Sm H H' ∧ H' Dd = some (.lst ((xs.take i).map f))) ⟨sm_new (fun _ _ h => h) hD, upd_same⟩ (fun i H' _ p => asT_seq (sm_T p.1 hl)) (fun i x H' hx p => ⟨hw x, ?_⟩) fun H' p => hd H' p.1 (by rw [← List.take_length (l := xs)]; exact p.2)
  refine iteT (B := Sm H H' ∧ H' Dd = some (.lst ((xs.take (i + 1)).map f))) ?_
  refine he i x H' _ hx p.1 fun H2 s2 => ⟨(xs.take i).map f, s2 _ _ p.2, ?_, ?_, ?_⟩
  · rw [List.length_map, List.length_take]; omega
  · exact sm_put (fun b o z => s2 b o (p.1 b o z)) hD
  · rw [upd_same, take_map_succ hx]
/-- .. over a list, by the data that its items stand for -/
theorem made_mapD {a Dd : Addr} {xs : List V} {ds : List PyData} {te : TE} {vs : List Nat} {Qd : Hp → Prop} (f : PyData → V) (hl : asL (H a) = some xs) (hD : H Dd = none) (ll : xs.length = ds.length) (hz : ds.length < sizeLine) (hw : ∀ x, wipe ((wipe σ vs).set n (some x)) vs = wipe σ vs)
    (he : ∀ (i : Nat) (x : V) (d : PyData) (H' : Hp) (Q : VK), xs[i]? = some x → ds[i]? = some d → Sm H H' → (∀ H2, Sm H' H2 → Q (f d) H2) → te ((wipe σ vs).set n (some x)) H' Q) (hd : ∀ H', Sm H H' → H' Dd = some (.lst (ds.map f)) → Qd H') : Made (Itl K a) (gName n) tYes te vs σ Dd H Qd := by
  refine made_list (fun i H' => Sm H H' ∧ H' Dd = some (.lst ((ds.take i).map f))) ⟨sm_new (fun _ _ h => h) hD, upd_same⟩ (fun i H' _ p => sm_L p.1 hl) (fun i x H' hx p => ⟨hw x, ?_⟩) fun H' p => hd H' p.1 (by rw [← List.take_length (l := ds), ← ll]; exact p.2)
  have hi := (List.getElem?_eq_some_iff.mp hx).1
  have hdi : ds[i]? = some (ds[i]'(by omega)) := by simp
  refine iteT (B := Sm H H' ∧ H' Dd = some (.lst ((ds.take (i + 1)).map f))) ?_
  refine he i x _ H' _ hx hdi p.1 fun H2 s2 => ⟨(ds.take i).map f, s2 _ _ p.2, ?_, ?_, ?_⟩
  · rw [List.length_map, List.length_take]; omega
  · exact sm_put (fun b o z => s2 b o (p.1 b o z)) hD
  · rw [upd_same, take_map_succ hdi]
theorem at_last {xs : List V} {v : V} {q : V → Prop} (h : xs[xs.length - 1]? = some v) (hq : q v) : atV xs (-1) q := by
  have hl := (List.getElem?_eq_some_iff.mp h).1
  have e : atI xs (-1) = some v := by
    unfold atI ixN
    rw [if_neg (by omega), if_pos (by omega)]
    have e2 : (-1 + ((xs.length : Nat) : Int)).toNat = xs.length - 1 := by omega
    simp only [e2, Option.bind_some]
    exact h
  unfold atV
  rw [e]
  exact hq
theorem asS_dK {kvs : List (Key × V)} : asS (some (.dK kvs)) = none := rfl
/-- a walk over an empty dict -/
theorem lock_empty {d : Addr} (hσ : σ[n]? = some (some (.ref d))) (hd : H d = some (.dK [])) (q : D.nx σ H) : tLock (tFor (iKeys (tVar n)) g tb) D σ H := by
  refine ⟨d, _, hd, (by trivial), fun od => ⟨_, hσ, d, od, rfl, .inl ⟨[], upd_same, ?_⟩⟩⟩
  refine ⟨fun i m σ' H' => σ' = σ ∧ H' = upd H d (.frz od (.dK [])), ⟨0, rfl, rfl⟩, ?_⟩
  rintro i m σ' H' ⟨rfl, rfl⟩
  refine .inl ⟨⟨upd_same, Nat.zero_le _⟩, upd_same, ?_⟩
  have e : upd (upd H d (.frz od (.dK []))) d (.dK []) = H := by
    rw [upd_upd]
    funext b
    by_cases hb : b = d
    · rw [hb, upd_same, hd]
    · rw [upd_ne hb]
  rw [e]
  exact q
end
end XB

/-! More words: rows of two kinds, tuples in parts, texts in order, sorted. -/
namespace XB
open PySem PySem.Spec PySem.Calls PyProof.Rows PySem.W
section
variable {prog : Program} {w : World} {A : Around} {E : Value → Shared → Prop} {s : Shared}
open PySem.SeqAt
open PySem.AutoSeq1 (wpAny_loadPart')
open PySem.MeetsSeq PySem.MeetsSeq2 PySem.MeetsSeq3
/-- two tuples whose first things are unlike texts -/
theorem tuple_first (l b : Addr) (n n2 : Nat) (dd dd2 : Option Addr) (sl sl2 : Array (Option Value)) (x y : Str) (t u : Tok) (r r2 : List Value) (hne : (x == y) = false) :
    Meets (Builtin.«tuple.__lt__» ⟨[.ref l, .ref b], []⟩)
      (fun _ R s => s.heap.get? l = some { cls := .type "tuple", dict := dd, data := .seq (Value.str x t :: r).toArray n, slots := sl } ∧ s.heap.get? b = some { cls := .type "tuple", dict := dd2, data := .seq (Value.str y u :: r2).toArray n2, slots := sl2 } ∧
        R (.ok (.ret (.bool (decide (x.cps.toList < y.cps.toList))))) s) :=
  .of_wp fun prog w A R s h => by
    obtain ⟨hp, g, d, tk, os⟩ := s; obtain ⟨hl, hb, h⟩ := h
    have f2 := AutoSeq1.sub_tuple_tuple
    wp_walk using wpAny_loadPart' hl, wpAny_loadPart' hb, wpAny_forIn_list _ (fun rest b s' => b.1 = none ∧ s' = ⟨hp, g, d, tk, os⟩ ∧ ∃ z, rest = (Value.str x t, Value.str y u) :: z) _
    case turn =>
      rintro ⟨p, q⟩ rest b s' ⟨hb', rfl, z, hz⟩
      injection hz with h1 h2
      injection h1 with h3 h4
      subst h3 h4 h2
      have he := SeqAt.EqAt.str_str (A := A.in1) (s := ⟨hp, g, d, tk, os⟩) x t y u
      rw [hne] at he
      refine wpAny_bind (he prog w _ _ ?_)
      have hri := DT.rcLt_str A.in1 ⟨hp, g, d, tk, os⟩ x t y u prog w
      wp_walk using hri
      exact ⟨_, rfl, by simpa using h⟩
    case fin =>
      rintro ⟨b1, b2⟩ s' ⟨hb', rfl, z, hz⟩
      cases hz
    case h =>
      exact ⟨rfl, rfl, _, rfl⟩
theorem lt_first {l b : Addr} {x y : Str} {t u : Tok} {r r2 : List Value} {Q : Value → Shared → Prop} (hl : IsTup s.heap l (Value.str x t :: r).toArray) (hb : IsTup s.heap b (Value.str y u :: r2).toArray) (hne : (x == y) = false) (hu : A.units < cLine)
    (h : Q (.bool (decide (x.cps.toList < y.cps.toList))) s) : wpAny (model prog w) A (compareOp .Lt (.ref l) (.ref b)) Q E s := by
  obtain ⟨⟨cls, dd, data, sl⟩, ho, hc, n, hd⟩ := id hl
  obtain ⟨⟨cls2, dd2, data2, sl2⟩, ho2, hc2, n2, hd2⟩ := id hb
  simp only at hc hd hc2 hd2
  subst hc hd hc2 hd2
  exact richCompare_meets_room (op := .Lt) ⟨_, ho, rfl⟩ ⟨_, ho2, rfl⟩ PySem.F.slot_tuple_lt PySem.F.entry_tuple_lt (PySem.F.args_tuple_lt_2 _ _) (tuple_first l b n n2 dd dd2 sl sl2 x y t u r r2 hne)
    ⟨ho, ho2, show Value.bool (decide (x.cps.toList < y.cps.toList)) ≠ Value.notImplemented ∧ Q (.bool (decide (x.cps.toList < y.cps.toList))) s from ⟨(fun z => nomatch z), h⟩⟩ hu
end
open L2
section
variable {X : Cx}
def rLtTS (K : PySem.W.Frag) : R2 := fun x y H Q => ∃ a b z w xs ys, x = .ref a ∧ y = .ref b ∧ SqT K H a (.str z :: xs) ∧ SqT K H b (.str w :: ys) ∧ z ≠ w ∧ Q (.bl (decide (z.cps.toList < w.cps.toList))) H
theorem op_ltTS (hu : X.A.units < cLine) : OpR X (compareOp .Lt) (rLtTS X.K) := by
  intro pins s σ H x y v u Q I rx ry h
  obtain ⟨a, b, z, w, xs, ys, rfl, rfl, ha, hb, hne, q⟩ := h
  cases rx
  cases ry
  obtain ⟨its, r1, p1, _⟩ := I.tuple ha
  obtain ⟨its2, r2, p2, _⟩ := I.tuple hb
  cases r1 with
  | cons e1 r1 =>
    cases r2 with
    | cons e2 r2 =>
      obtain ⟨t, rfl⟩ := e1
      obtain ⟨t2, rfl⟩ := e2
      exact lt_first p1 p2 (by simpa using hne) hu ⟨.bl _, H, I, rfl, q⟩
def ltS (a b : Str) : Bool := decide (a.cps.toList < b.cps.toList)
def fLtX : R2 := fun x y H Q => match x, y with
  | .int i, .int j => Q (.bl (decide (i < j))) H
  | .str i, .str j => Q (.bl (ltS i j)) H
  | .ref a, .ref b => (match asT (H a), asT (H b) with
    | some (.str z :: _), some (.str w :: _) => z ≠ w ∧ Q (.bl (ltS z w)) H
    | _, _ => False)
  | _, _ => False
theorem op_ltX (hu : X.A.units + 64 < cLine) : OpR X (compareOp .Lt) fLtX := op_imp (op_lt.or (op_lt_str.or (op_ltTS (by omega)))) fun x y H Q h => by
  unfold fLtX at h
  split at h
  · exact .inl ⟨_, _, rfl, rfl, h⟩
  · exact .inr (.inl ⟨_, _, rfl, rfl, h⟩)
  · split at h
    · rename_i e1 e2
      exact .inr (.inr ⟨_, _, _, _, _, _, rfl, rfl, asT_seq e1, asT_seq e2, h.1, h.2⟩)
    · exact h.elim
  · exact h.elim
/-- + of any two tuples, lists, numbers, texts -/
def fAddA : R2 := fun x y H Q => match x, y with
  | .ref a, .ref b => (match asT (H a), asT (H b) with
    | some xs, some ys => xs.length + ys.length ≤ sizeLine ∧ (xs = [] → Q (.ref b) H) ∧ (xs ≠ [] → ys = [] → Q (.ref a) H) ∧ (xs ≠ [] → ys ≠ [] → ∀ p, H p = none → Q (.ref p) (upd H p (.tup (xs ++ ys))))
    | _, _ => fAdd (.ref a) (.ref b) H Q)
  | x, y => fAdd x y H Q
theorem op_addA : OpR X (binaryOp .Add) fAddA := op_imp (op_catA.or op_addF) fun x y H Q h => by
  unfold fAddA at h
  split at h
  · split at h
    · rename_i e1 e2
      exact .inl ⟨_, _, _, _, rfl, rfl, asT_seq e1, asT_seq e2, h⟩
    · exact .inr h
  · exact .inr h
def fSlA : V → Option Int → Option Int → Hp → VK → Prop := fun x lo hi H Q => match x with
  | .ref a => (match asT (H a) with
    | some xs => (HT.sIx xs.length 0 lo = 0 ∧ HT.sIx xs.length xs.length hi = xs.length → Q (.ref a) H) ∧ (¬ (HT.sIx xs.length 0 lo = 0 ∧ HT.sIx xs.length xs.length hi = xs.length) → ∀ p, H p = none → Q (.ref p) (upd H p (.tup (cutV xs lo hi))))
    | none => fSl2 (.ref a) lo hi H Q)
  | x => fSl2 x lo hi H Q
theorem sl_FA : SlR X fSlA := fun pins s σ H x v vl vu lo hi sl Q I rx hs pl pu h => by
  refine (sl_tupA.or sl_F2) pins s σ H x v vl vu lo hi sl Q I rx hs pl pu ?_
  unfold fSlA at h
  split at h
  · split at h
    · rename_i e
      exact .inl ⟨_, _, rfl, asT_seq e, h⟩
    · exact .inr h
  · exact .inr h
/-- sorted, of a list of texts -/
def fSortS : RL := fun vs H Q => match vs with
  | [.ref a] => (match asL (H a) with
    | some xs => ∃ zs : List Str, xs = zs.map V.str ∧ zs.length < 64 ∧ ∀ (ys : List Str) (p : Addr), ys.Perm zs → sortedS ys = true → H p = none → Q (.ref p) (upd H p (.lst (ys.map V.str)))
    | none => False)
  | _ => False
theorem c_sortS : CallR X (.builtin "sorted") fSortS := call_imp cr_sortedS fun vs H Q h => by
  unfold fSortS at h
  split at h
  · split at h
    · rename_i e
      obtain ⟨zs, rfl, hl, q⟩ := h
      exact ⟨_, zs, rfl, asL_seq e, hl, q⟩
    · exact h.elim
  · exact h.elim
/-- .. of a dict of texts -/
def fSortD : RL := fun vs H Q => match vs with
  | [.ref a] => (match H a with
    | some (.dK kvs) => ∃ zs : List Str, kvs.map (·.1) = zs.map Sum.inr ∧ zs.length < 64 ∧ ∀ (ys : List Str) (p : Addr), ys.Perm zs → sortedS ys = true → H p = none → Q (.ref p) (upd H p (.lst (ys.map V.str)))
    | _ => False)
  | _ => False
theorem c_sortD (hc : X.calm = true) : CallR X (.builtin "sorted") fSortD := call_imp (call_sortedD hc) fun vs H Q h => by
  unfold fSortD at h
  split at h
  · split at h
    · rename_i e
      obtain ⟨zs, hk, hl, q⟩ := h
      exact ⟨_, _, zs, rfl, .inl e, hk, hl, q⟩
    · exact h.elim
  · exact h.elim
/-- a walk over a list or a tuple -/
def iSeq (K : PySem.W.Frag) (n : Nat) : TI := fun σ H R => iList K (tVar n) σ H R ∨ iTup K (tVar n) σ H R
theorem pi_seq {tg e : Expr} {n : Nat} (h1 : PI X tg e (iList X.K (tVar n))) (h2 : PI X tg e (iTup X.K (tVar n))) : PI X tg e (iSeq X.K n) :=
  ⟨fun pins s σ H R I h => h.elim (fun h => h1.run pins s σ H R I h) fun h => h2.run pins s σ H R I h⟩
end
end XB

/-! Own classes: calls with wishes at the slots, own operators. -/
namespace XB
open PySem PySem.Spec PyProof.Rows L2
section
variable {X : Cx} {CX : CXT} {k : Nat} {f C : Addr} {fd : FuncData} {ps : List Str} {sp : Sp} {dvs : List V} {ds : List Value} {pins : List (Addr × PySem.Obj)} {σ : L2.St} {H : Hp} {s : Shared}
/-- how a call of the def at f ends -/
theorem went_fnW {E0 : XK} {Q : VK} {us : List Value} {vs : List V} (F : FnOk X.prog X.w X.K X.mg X.base CX k f fd ps sp) (room : Room k X.A) (bind : Binds X.K fd ps ds) (dv : Vals dvs ds)
    (pass : PassesAt CX X σ E0) (I : Inv X pins σ H s) (rel : Vals vs us) (h : sp (vs ++ dvs) H Q E0) :
    codeAny (model X.prog X.w) X.A (Code.call (.ref f) ⟨us, []⟩) (fun r s' => match r with
      | .ok (.ret u) => EP X pins σ Q u s'
      | .ok _ => False
      | .error e => X.xe e s') s := by
  have both : Vals (vs ++ dvs) (us ++ ds) := rel.append dv
  have len : (us ++ ds).length = ps.length := by
    rw [← both.length]
    exact F.len _ _ _ _ h
  refine codeAny_mono (F.run X.A X.stack s H ⟨us, []⟩ (us ++ ds) (vs ++ dvs) Q E0 room I.env0 (bind s us I.kIn len) both h) fun r s' hq => ?_
  cases r with
  | error e => exact pass pins H s e s' I hq
  | ok fl =>
    cases fl with
    | ret u => exact I.after hq
    | _ => exact hq.elim
theorem run_fnW {E0 : XK} {Q : VK} {us : List Value} {vs : List V} (F : FnOk X.prog X.w X.K X.mg X.base CX k f fd ps sp) (room : Room k X.A) (bind : Binds X.K fd ps ds) (dv : Vals dvs ds)
    (pass : PassesAt CX X σ E0) (I : Inv X pins σ H s) (rel : Vals vs us) (h : sp (vs ++ dvs) H Q E0) : wpAny (model X.prog X.w) X.A (call (.ref f) us) (EP X pins σ Q) X.xe s :=
  wpAny_call (codeAny_mono (went_fnW F room bind dv pass I rel h) fun r s' hq => by
    cases r with
    | error e => exact hq
    | ok fl =>
      cases fl with
      | ret u => exact hq
      | _ => exact hq.elim)
/-- an own method that an operator calls -/
structure OpM (K : PySem.W.Frag) (C : Addr) (m : Str) (f : Addr) : Prop where
  at_ : PySem.W.findIn K (.ref C) m = some (some (.ref f))
  fn : PySem.W.isFn K (.ref f) = true
def rInW (C : Addr) (sp : Sp) (flip : Bool) : R2 := fun x y H Q => ∃ a dx fs, y = .ref a ∧ H a = some (.ins C dx fs) ∧ sp [.ref a, x] H (fun v H' => ∃ b, v = .bl b ∧ Q (.bl (xor flip b)) H') E0
theorem op_inW (m : OpM X.K C "__contains__" f) (F : FnOk X.prog X.w X.K X.mg X.base CX0 k f fd ps sp) (room : Room k X.A) (bind : Binds X.K fd ps []) : OpR X (compareOp .In) (rInW C sp false) := by
  intro pins s σ H x y v u Q I rx ry ⟨a, dx, fs, ey, ha, h⟩
  subst ey
  cases ry
  obtain ⟨mA, J, _⟩ := ins_get I.hok ha
  obtain ⟨od, J, _⟩ := J.look
  obtain ⟨m0, hF⟩ := I.fr
  refine PySem.W.in_K hF I.ok.mod.kin J m.at_ m.fn (wpAny_mono (run_fnW (dvs := []) (ds := []) (vs := [.ref a, x]) F room bind .nil (fun _ _ _ _ _ _ z => z.elim) I (.cons rfl (.cons rx .nil)) h) (fun r s' hq => ?_) fun _ _ z => z)
  obtain ⟨z, H', I', rz, b, rfl, q⟩ := hq
  cases rz
  refine wpAny_truthy_bool ⟨.bl b, H', I', rfl, ?_⟩
  rw [Bool.false_xor] at q
  exact q
theorem op_notInW (m : OpM X.K C "__contains__" f) (F : FnOk X.prog X.w X.K X.mg X.base CX0 k f fd ps sp) (room : Room k X.A) (bind : Binds X.K fd ps []) : OpR X (compareOp .NotIn) (rInW C sp true) := by
  intro pins s σ H x y v u Q I rx ry ⟨a, dx, fs, ey, ha, h⟩
  subst ey
  cases ry
  obtain ⟨mA, J, _⟩ := ins_get I.hok ha
  obtain ⟨od, J, _⟩ := J.look
  obtain ⟨m0, hF⟩ := I.fr
  refine PySem.W.notIn_K hF I.ok.mod.kin J m.at_ m.fn (wpAny_mono (run_fnW (dvs := []) (ds := []) (vs := [.ref a, x]) F room bind .nil (fun _ _ _ _ _ _ z => z.elim) I (.cons rfl (.cons rx .nil)) h) (fun r s' hq => ?_) fun _ _ z => z)
  obtain ⟨z, H', I', rz, b, rfl, q⟩ := hq
  cases rz
  refine wpAny_truthy_bool ⟨.bl (!b), H', I', rfl, ?_⟩
  rw [Bool.true_xor] at q
  exact q
theorem op_or {op : Value → Value → Sem Value} {r r' : R2} (h : OpR X op r) (h' : OpR X op r') : OpR X op (fun x y H Q => r x y H Q ∨ r' x y H Q) := by
  intro pins s σ H x y v u Q I rx ry z
  exact z.elim (h pins s σ H x y v u Q I rx ry) (h' pins s σ H x y v u Q I rx ry)
/-- == of two instances of one class by its own __eq__ -/
def rEqW (C : Addr) (sp : Sp) : R2 := fun x y H Q => ∃ a b dx dy fs gs, x = .ref a ∧ y = .ref b ∧ H a = some (.ins C dx fs) ∧ H b = some (.ins C dy gs) ∧ sp [.ref a, .ref b] H (fun v H' => (∃ b, v = .bl b) ∧ Q v H') E0
theorem op_eqW (m : OpM X.K C "__eq__" f) (F : FnOk X.prog X.w X.K X.mg X.base CX0 k f fd ps sp) (room : Room k X.A) (bind : Binds X.K fd ps []) : OpR X (compareOp .Eq) (rEqW C sp) := by
  intro pins s σ H x y v u Q I rx ry ⟨a, b, dx, dy, fs, gs, ex, ey, ha, hb, h⟩
  subst ex ey
  cases rx
  cases ry
  obtain ⟨mA, J, _⟩ := ins_get I.hok ha
  obtain ⟨od, J, _⟩ := J.look
  obtain ⟨mB, J2, _⟩ := ins_get I.hok hb
  obtain ⟨od2, J2, _⟩ := J2.look
  obtain ⟨m0, hF⟩ := I.fr
  refine PySem.W.cmp_K (op := .Eq) (tb := .ref C) (Room.units0 room) hF I.ok.mod.kin J J2.type (by simp [PySem.W.notFirst]) m.at_ m.fn ?_
  refine wpAny_mono (run_fnW (dvs := []) (ds := []) (vs := [.ref a, .ref b]) F room bind .nil (fun _ _ _ _ _ _ z => z.elim) I (.cons rfl (.cons rfl .nil)) h) (fun r s' hq => ?_) fun _ _ z => z
  obtain ⟨z, H', I', rz, ⟨c, rfl⟩, q⟩ := hq
  cases rz
  exact ⟨.bl c, H', I', rfl, q⟩
end
/-! ### instances made, class methods, methods -/
/-- C(..): __init__'s promise at a new instance, its wishes at the slots -/
def tMakeS (C : Addr) (sp : Sp) (dvs : List V) (E : L2.St → XK) (t : TA) : TE := fun σ H Q => t σ H fun vs H1 =>
  ∀ x dx, H1 x = none → H1 dx = none → dx ≠ x → sp (.ref x :: (vs ++ dvs)) (upd (upd H1 dx (.own x)) x (.ins C dx [])) (fun v H2 => v = .non ∧ Q (.ref x) H2) (E σ)
def tCMethS (C : Addr) (sp : Sp) (E : L2.St → XK) (ta : TE) (t : TA) : TE := fun σ H Q => ta σ H fun x H1 => x = .ref C ∧ t σ H1 fun vs H2 => sp (.ref C :: vs) H2 Q (E σ)
def tMethS (C : Addr) (m : Str) (sp : Sp) (E : L2.St → XK) (ta : TE) (t : TA) : TE := fun σ H Q => ta σ H fun x H1 =>
  ∃ a dx fs, x = .ref a ∧ H1 a = some (.ins C dx fs) ∧ fs.lookup m = none ∧ t σ H1 fun vs H2 => sp (x :: vs) H2 Q (E σ)
section
variable {X : Cx} {CX : CXT} {k : Nat} {f C : Addr} {fd : FuncData} {ps : List Str} {sp : Sp} {dvs : List V} {ds : List Value} {E : L2.St → XK} {x m : Str} {p pos apos : Pos} {e o : Expr} {es : List Expr} {ta : TE} {t : TA} {pl : Sem Bool}
theorem made_W {pins : List (Addr × PySem.Obj)} {σ : L2.St} {H : Hp} {s : Shared} {E1 : XK} {Q : VK} {us : List Value} {vs : List V} (M : Mk X.K C f) (F : FnOk X.prog X.w X.K X.mg X.base CX k f fd ps sp) (room : Room (k + 1) X.A)
    (bind : Binds X.K fd ps ds) (dv : Vals dvs ds) (pass : PassesAt CX X σ E1) (I : Inv X pins σ H s) (rel : Vals vs us)
    (h : ∀ a dx, H a = none → H dx = none → dx ≠ a → sp (.ref a :: (vs ++ dvs)) (upd (upd H dx (.own a)) a (.ins C dx [])) (fun v H2 => v = .non ∧ Q (.ref a) H2) E1) :
    wpAny (model X.prog X.w) X.A (call (.ref C) us) (EP X pins σ Q) X.xe s := by
  have hz := h (s.heap.objs.size + 1) s.heap.objs.size (I.hok.fresh (Nat.le_succ _)) (I.hok.fresh (Nat.le_refl _)) (Nat.ne_of_lt (Nat.lt_succ_self _))
  have J : Inv X pins σ _ _ := Inv.made (C := C) I
  have both : Vals (V.ref (s.heap.objs.size + 1) :: (vs ++ dvs)) (Value.ref (s.heap.objs.size + 1) :: (us ++ ds)) := .cons rfl (rel.append dv)
  have len : (Value.ref (s.heap.objs.size + 1) :: us ++ ds).length = ps.length := by
    have q := both.length
    rw [F.len _ _ _ _ hz] at q
    exact q.symm
  refine wpAny_call (make_map (f := f) I.kIn M.makes M.init (beq_iff_eq.mp M.fn) (codeAny_mono
    (F.run _ X.stack _ _ ⟨Value.ref (s.heap.objs.size + 1) :: us, []⟩ (Value.ref (s.heap.objs.size + 1) :: (us ++ ds)) _ _ E1 (room.make C us []) (J.env0.make C us []) (bind _ (Value.ref (s.heap.objs.size + 1) :: us) J.kIn len) both hz) fun r s' hq => ?_))
  cases r with
  | error e => exact pass pins _ _ e s' J hq
  | ok fl =>
    cases fl with
    | ret u =>
      obtain ⟨v, H', J', rv, ev, q⟩ := J.after hq
      subst ev
      exact ⟨rv, .ref (s.heap.objs.size + 1), H', J', rfl, q⟩
    | _ => exact hq.elim
theorem pe_makeS (M : Mk X.K C f) (F : FnOk X.prog X.w X.K X.mg X.base CX k f fd ps sp) (room : Room (k + 1) X.A) (hg : Gl X x) (hm : X.mg x = some (.ref C)) (bind : Binds X.K fd ps ds) (dv : Vals dvs ds) (pass : ∀ σ, PassesAt CX X σ (E σ)) (ha : PA X (e :: es) t)
    (hdb : (x == ("__debug__" : Str)) = false := by decide) (hst : starEach (e :: es) X.env = (false, eval e X.env) :: starEach es X.env := by rfl) (hpl : (backTo pos (starEach es X.env)).any (·.1) = false := by rfl) :
    PE X (.Call (.Name x p) (e :: es) [] pos) (tMakeS C sp dvs E t) :=
  ⟨fun pins s σ H Q I h => by
    refine wpAny_Call_Name_kw (ld_glob I hg hm ?_ hdb)
    exact PySem.W.callWith_K (h₀ := X.base) I.ok.mod.kin M.kp (thn (ha.run pos pins s σ H _ I h) fun us s1 ⟨vs, H1, J, rel, q⟩ => ⟨J.kIn, made_W M F room bind dv (pass σ) J rel q⟩) hst hpl⟩
/-- the class held by a local name -/
def tMakeL (i : Nat) (C : Addr) (sp : Sp) (dvs : List V) (E : L2.St → XK) (t : TA) : TE := fun σ H Q => σ[i]? = some (some (.ref C)) ∧ tMakeS C sp dvs E t σ H Q
theorem pe_makeL {i : Nat} (hd1 : (x == ("__debug__" : Str)) = false) (hd2 : (x == ("__classdict__" : Str)) = false) (M : Mk X.K C f) (F : FnOk X.prog X.w X.K X.mg X.base CX k f fd ps sp) (room : Room (k + 1) X.A) (hN : X.N[i]? = some x) (hv : Vis X.env.scope x) (bind : Binds X.K fd ps ds) (dv : Vals dvs ds) (pass : ∀ σ, PassesAt CX X σ (E σ)) (ha : PA X (e :: es) t)
    (hst : starEach (e :: es) X.env = (false, eval e X.env) :: starEach es X.env := by rfl) (hpl : (backTo pos (starEach es X.env)).any (·.1) = false := by rfl)
    (hev : eval (.Call (.Name x p) (e :: es) [] pos) X.env = (do callWith pos (← eval (.Name x p) X.env) [] (backTo pos (starEach (e :: es) X.env)) (backToKw pos (keywordEach [] X.env))) := by rfl) :
    PE X (.Call (.Name x p) (e :: es) [] pos) (tMakeL i C sp dvs E t) :=
  ⟨fun pins s σ H Q I h => by
    obtain ⟨hi, h⟩ := h
    refine Call_ (thn ((pe_var (pos := p) hN hv hd1 hd2).run pins s σ H (fun v H1 => v = .ref C ∧ H1 = H) I ⟨_, hi, rfl, rfl⟩) fun u s1 ⟨v, H1, J, rv, ev, eH⟩ => ?_) hev
    subst ev
    rw [eH] at J
    obtain rfl : u = Value.ref C := rv
    exact PySem.W.callWith_K (h₀ := X.base) J.ok.mod.kin M.kp (thn (ha.run pos pins s1 σ H _ J h) fun us s2 ⟨vs, H2, J2, rel, q⟩ => ⟨J2.kIn, made_W M F room bind dv (pass σ) J2 rel q⟩) hst hpl⟩
theorem pe_cmethS {mc : Value} {r g : Addr} (ho : PE X o ta) (rd : ClX.CRead X.K C mc) (c : ClX.CMet X.K C mc m r g) (F : FnOk X.prog X.w X.K X.mg X.base CX k g fd ps sp) (room : Room k X.A) (bind : Binds X.K fd ps []) (pass : ∀ σ, PassesAt CX X σ (E σ)) (ha : PA X (e :: es) t)
    (hst : starEach (e :: es) X.env = (false, eval e X.env) :: starEach es X.env := by rfl) (hpl : (backTo pos (starEach es X.env)).any (·.1) = false := by rfl)
    (hev : eval (.Call (.Attribute o m apos) (e :: es) [] pos) X.env = (do
      let ov ← eval o X.env
      standAt apos.atName
      let (fn, first) ← holding [ov] (getMethod ov m pl)
      callWith pos fn first (backTo pos (starEach (e :: es) X.env)) (backToKw pos (keywordEach [] X.env))) := by rfl) :
    PE X (.Call (.Attribute o m apos) (e :: es) [] pos) (tCMethS C sp E ta t) :=
  ⟨fun pins s σ H Q I h => by
    refine PySem.W.methodCall_KW (pl := pl) (thn (ho.run pins s σ H _ I h) fun u s1 ⟨y, H1, J, ry, ey, q⟩ => ?_) hev
    subst ey
    obtain rfl : u = Value.ref C := ry
    refine ClX.getmethcm_ok J rd c fun s2 J2 => ?_
    refine ClX.callwith_cm J2 (ClX.base_none J (Nat.le_refl _)) c.fi (thn (ha.run pos _ s2 σ H1 _ J2 q) fun us s3 ⟨vs, H2, J3, rel, q2⟩ => ⟨⟨ClX.pin_at J3, J3.kIn⟩, ?_⟩) hst hpl
    refine thn (wpAny_call (PySem.W.method_call (ClX.pin_at J3) (went_fnW (us := .ref C :: us) (vs := .ref C :: vs) (dvs := []) (ds := []) F room bind .nil (pass σ) J3 (.cons rfl rel) (by rw [List.append_nil]; exact q2)))) fun _ _ z => ClX.unpinE z⟩
theorem pe_methS (ho : PE X o ta) (c : Cls X.K C) (hm : Meth X.K C m f) (F : FnOk X.prog X.w X.K X.mg X.base CX k f fd ps sp) (room : Room k X.A) (bind : Binds X.K fd ps []) (pass : ∀ σ, PassesAt CX X σ (E σ)) (ha : PA X (e :: es) t)
    (hst : starEach (e :: es) X.env = (false, eval e X.env) :: starEach es X.env := by rfl) (hpl : (backTo pos (starEach es X.env)).any (·.1) = false := by rfl)
    (hev : eval (.Call (.Attribute o m apos) (e :: es) [] pos) X.env = (do
      let ov ← eval o X.env
      standAt apos.atName
      let (fn, first) ← holding [ov] (getMethod ov m pl)
      callWith pos fn first (backTo pos (starEach (e :: es) X.env)) (backToKw pos (keywordEach [] X.env))) := by rfl) :
    PE X (.Call (.Attribute o m apos) (e :: es) [] pos) (tMethS C m sp E ta t) :=
  ⟨fun pins s σ H Q I h => by
    refine PySem.W.methodCall_KW (pl := pl) (thn (ho.run pins s σ H _ I h) fun u s1 ⟨y, H1, J, ry, a, dx, fs, ey, ea, l, q⟩ => ?_) hev
    subst ey
    obtain rfl : u = Value.ref a := ry
    refine getmeth_ok J ea c hm l ?_
    exact PySem.W.callWith_K (h₀ := X.base) (first := [.ref a]) J.ok.mod.kin hm.kp (thn (ha.run pos pins s1 σ H1 _ J q) fun us s2 ⟨vs, H2, J2, rel, q2⟩ => ⟨J2.kIn, run_fnW (us := .ref a :: us) (vs := .ref a :: vs) (dvs := []) (ds := []) F room bind .nil (pass σ) J2 (.cons rfl rel) (by rw [List.append_nil]; exact q2)⟩) hst hpl⟩
end
end XB

/-! list(o) of an own class whose __iter__ gives the iterator of a dict. -/
namespace XB
open PySem PySem.Spec PyProof.Rows L2
/-- a promise that may speak of how large the heap was at the call -/
structure FnZ (P : Program) (w : World) (K : PySem.W.Frag) (mg : Str → Option Value) (base : Heap) (k : Nat) (f : Addr) (fd : FuncData) (ps : List Str) (sp : Nat → Sp) : Prop where
  len : ∀ (n : Nat) (vs : List V) (H : Hp) (Q : VK) (E : XK), sp n vs H Q E → vs.length = ps.length
  go : ∀ (A : Around) (outer : List Env) (s : Shared) (H : Hp) (args : Args) (us : List Value) (vs : List V) (Q : VK) (E : XK), Room k A → Env0 P w K mg base A outer s H →
    BindsTo s fd args (ps.zip us) → Vals vs us → sp s.heap.objs.size vs H Q E → codeAny (model P w) A (Code.call (Value.ref f) args) (CR CX0 outer P w H s Q E) s
theorem FnZ.mono {P : Program} {w : World} {K : PySem.W.Frag} {mg : Str → Option Value} {base : Heap} {j k : Nat} {f : Addr} {fd : FuncData} {ps : List Str} {sp : Nat → Sp} (h : j ≤ k) (F : FnZ P w K mg base j f fd ps sp) : FnZ P w K mg base k f fd ps sp :=
  ⟨F.len, fun A outer s H args us vs Q E hr => F.go A outer s H args us vs Q E (hr.mono h)⟩
theorem okZ {P : Program} {w : World} {K : PySem.W.Frag} {mg : Str → Option Value} {base : Heap} {x qual : Str} {st : Stmt} {f : Addr} {fd : FuncData} {N ps : List Str} {k : Nat} {sp : Nat → Sp} (F : Fun K x qual st f fd) (S : FnScope N ps (defScope st))
    (len : ∀ n vs H Q E, sp n vs H Q E → vs.length = ps.length)
    (hbody : ∀ (cdv : Value) (A : Around) (outer : List Env) (s : Shared) (H : Hp) (vs : List V) (Q : VK) (E : XK), Room k (A.deeper (envOfC qual (defScope st) s.heap.objs.size f cdv)) → sp s.heap.objs.size vs H Q E →
      ∃ t, PSs (cxOf CX0 P w K mg base N qual (defScope st) f cdv A outer s H E).nox (defBody st) t ∧ t { nx := fun _ H' => Q .non H', rt := Q } (start N vs) H) : FnZ P w K mg base (k + 1) f fd ps sp := by
  obtain ⟨oc, od, kV, doc, pm, an, cdv, ct, osl, rfl, lk, hcd⟩ := F.ex
  refine ⟨len, fun A outer s H args us vs Q E hr e0 bt r hsp => ?_⟩
  have hl := len _ vs H Q E hsp
  have KX := PySem.W.Frag.In.keeps e0.mod.kin fun b o e => (e0.bs b o e).1
  have lim := Heap.NoLimit.keeps e0.mod.nolimit fun b o e => (e0.bs b o e).1
  refine codeAny_call_function (Room.depth hr) (KX f _ lk) rfl S.co S.gen rfl (PySem.W.codeRec_of KX hcd) ?_
  refine bt (model P w) A.in1 _ _ ?_
  refine wpAny_newFunctionEnv_cells S.kind ?_ fun env he s1 x => ?_
  · rintro ⟨n, v⟩ hy
    rcases S.par n (List.of_mem_zip hy).1 with q | q
    · exact .inl q
    · exact .inr ⟨q, PySem.W.cellsFrom_some (defScope st).names (s.heap.objs.size + 1) [] (.inl q)⟩
  · subst he
    refine ⟨Heap.NoLimit.keeps lim x.toInCall.keep, codeAny_func ?_⟩
    obtain ⟨t, ht, hq⟩ := hbody cdv A outer s H vs Q E (Room.deeper hr _) hsp
    have I := inv_start (CX := CX0) (E := E) (cd := cdv) (f := f) (qual := qual) S hr.hd e0 hl r x
    refine wpAny_mono (ht.nox.run [] s1 (L2.start N vs) H _ I hq) (fun fl s' hs => ?_) fun e s' hs => hs
    cases fl with
    | next => obtain ⟨σ', H', J, q⟩ := hs; exact ⟨.non, H', J.os, J.bare, J.base, J.hok, rfl, q⟩
    | ret u => obtain ⟨v, σ', H', J, rv, q⟩ := hs; exact ⟨v, H', J.os, J.bare, J.base, J.hok, rv, q⟩
    | _ => obtain ⟨_, _, _, q⟩ := hs; exact q.elim
/-- an iterator of a dict's keys, not yet used -/
def ItKO (it d n ep : Nat) : HO := .ext fun h => h.IsKeyIter it d 0 n ep
theorem itK_ok {P : Program} {w : World} {H : Hp} {h : Heap} {it d n ep : Nat} (e : h.IsKeyIter it d 0 n ep) : ObjOk P w H h it (ItKO it d n ep) := ⟨e, by obtain ⟨o, ho, _⟩ := e; exact ⟨o, ho⟩, fun h1 h2 q k => q.at fun o z => k o z⟩
/-- iter(d), d a dict that stands as it is known -/
def rIterD (n : Nat) : List V → Hp → VK → Prop := fun xs H Q => ∃ d o kvs, xs = [.ref d] ∧ H d = some (.frz o (.dK kvs)) ∧
  ∀ it es ep, o.data = .dict es ep → H it = none → n ≤ it → Q (.ref it) (upd H it (ItKO it d kvs.length ep))
section
variable {X : Cx}
theorem call_iterD : CallR X (.builtin "iter") (rIterD X.s_0.heap.objs.size) := by
  intro pins s σ H xs us Q I r ⟨d, o, kvs, ex, hd, q⟩
  subst ex
  obtain ⟨u, rfl, ru⟩ := r.one
  cases ru
  obtain ⟨hs, hgd, hx, es, ep, vs, hdt, hsz, kv, hm⟩ := I.frzK hd
  refine Calls.call_function_entry (by decide +kernel) (by decide +kernel) PySem.W.kdk_entry_iter (PySem.W.kdk_args_iter _) ?_
  unfold Builtin.«iter»
  refine wpAny_bind (m := (someArgs "iter" 1 2 _)) (wpAny_of_eq (a := [.ref d]) (by first | rfl | kernel_rfl!) ?_)
  show wpAny _ _ (pyIter (Value.ref d) >>= _) _ _ _
  refine wpAny_bind (iter_keys hs hgd hx hdt ?_)
  refine wpAny_pure ⟨_, rfl, .ref s.heap.objs.size, _, I.laid (t' := s.toks) (fun b u e => Heap.get?_push_of_some _ e) (Nat.le_refl _) (itK_ok (d := d) (n := kvs.length) (ep := ep) ⟨_, Heap.get?_push_size _ rfl, rfl, ?_⟩), rfl, q _ es ep hdt (I.hok.fresh (Nat.le_refl _)) I.sz⟩
  rw [hsz]
  rfl
end
/-- a class with an own __iter__, without __len__ and __length_hint__ -/
structure IterM (K : PySem.W.Frag) (C f : Addr) : Prop where
  it : PySem.W.findIn K (.ref C) "__iter__" = some (some (.ref f))
  fn : PySem.W.isFn K (.ref f) = true
  noL : PySem.W.findIn K (.ref C) "__len__" = some none
  noH : PySem.W.findIn K (.ref C) "__length_hint__" = some none
theorem hint_W {M : Model} {A : Around} {E : Value → Shared → Prop} {Q : Bool → Shared → Prop} {K : PySem.W.Frag} {s : Shared} {a C f : Addr} {ox : PySem.Obj} {od : Option PySem.Obj} (m : IterM K C f) (hK : K.In s.heap) (J : PySem.W.InstAt s.heap a ox C od) (h : Q true s) :
    wpAny M A (Builtin.List.listLengthHint (Value.ref a)) Q E s := by
  unfold Builtin.List.listLengthHint
  refine wpAny_bind (wpAny_bind (J.type.here ((PySem.W.looks_findIn hK m.noL).here ?_)))
  refine PySem.W.KFB.if_not rfl (PySem.W.KFB.if_not rfl ?_)
  exact wpAny_bind (wpAny_bind (J.type.here ((PySem.W.looks_findIn hK m.noH).here (wpAny_pure h))))
theorem size_lt_none {h : Heap} {a : Addr} (e : h.objs.size ≤ a) : h.get? a = none := by
  cases z : h.get? a with
  | none => rfl
  | some o => exact absurd (Nat.lt_of_lt_of_le (Heap.lt_size z) e) (Nat.lt_irrefl _)
/-- list(o) -/
def rListW (C : Addr) (sp : Nat → Sp) : List V → Hp → VK → Prop := fun xs H Q => ∃ a dx fs, xs = [.ref a] ∧ H a = some (.ins C dx fs) ∧ ∀ n, sp n [.ref a] H (fun v H' => ∃ it d o kvs es ep, v = .ref it ∧ n ≤ it ∧ H' it = some (ItKO it d kvs.length ep) ∧
  o.data = .dict es ep ∧ H' d = some (.frz o (.dK kvs)) ∧ (∃ dx gs, H' a = some (.ins C dx gs)) ∧ ∀ q, H q = none → H' q = none → Q (.ref q) (upd (ItX.dropH H' it) q (.lst (kvs.map fun kv => kV kv.1)))) E0
section
variable {X : Cx} {C f a it d q n : Addr} {fd : FuncData} {ps : List Str} {sp : Nat → Sp} {pins : List (Addr × PySem.Obj)} {σ : L2.St} {H : Hp} {s : Shared} {A1 : Around}
/-- the loop of list.extend over the iterator -/
theorem loop_W {o : PySem.Obj} {kvs : List (Key × V)} {es : Array DictEntry} {ep c0 : Nat} {R : Result → Shared → Prop} (hh : A1.in1.handled = none) (I : Inv X pins σ H s) (hI : H it = some (ItKO it d kvs.length ep)) (hda : o.data = .dict es ep) (hD : H d = some (.frz o (.dK kvs)))
    (y : X.s_0.heap.objs.size ≤ it) (hq : s.heap.get? q = some { cls := .type "list", data := .seq #[] c0 }) (nq : H q = none) (fq : FpOk X pins (ItX.dropH H it) q)
    (hR : ∀ s', Inv X pins σ (upd (ItX.dropH H it) q (.lst (kvs.map fun kv => kV kv.1))) s' → R (.ok (.ret .none)) s') :
    codeAny (model X.prog X.w) A1 (.builtin "list.extend.loop" ⟨[.ref q, .ref it, .none], []⟩) R s := by
  obtain ⟨hs, hgd, hx, es', ep', vs, hdt, hsz, kv, hm⟩ := I.frzK hD
  have e2 : es' = es ∧ ep' = ep := by
    rw [hda] at hdt
    cases hdt
    exact ⟨rfl, rfl⟩
  obtain ⟨rfl, rfl⟩ := e2
  have hki : s.heap.IsKeyIter it d 0 kvs.length ep' := (I.hok it _ hI).1
  have lk : kvs.length = vs.length := Paired.length kv
  have le : kvs.length ≤ sizeLine := by
    obtain ⟨_, z, _⟩ := I.hok d _ hD
    exact z
  have nd : d ≠ it := ne_of hD hI (fun z => nomatch z)
  have nqi : q ≠ it := fun e => by rw [e, hI] at nq; cases nq
  have nqd : q ≠ d := fun e => by rw [e, hD] at nq; cases nq
  have W := Walks.dictKeys (prog := X.prog) (w := X.w) (knd := mixKind X.prog X.w) hh it d nd vs ep'
  refine codeAny_extend_loopS W.toS (by rw [← lk]; exact le) q (by simp [nqi, nqd]) .none vs.length 0 _ #[] c0 (by omega) (Nat.zero_le _) ⟨by rw [← lk]; exact hki, hm⟩ hq (ItemsOf.nil _) fun s' acc' c' mv hq' hacc => ?_
  rw [Moved.eq_with mv]
  have fi := ItX.inv_fp I hI y
  have J := ItX.inv_drop I hI
  have el : acc'.toList.length = acc'.size := by simp
  refine hR _ (J.step (g' := s.gens) (d' := s.drawn) (ch := [q, it]) (fun b hb => ?_) (fun b o' _ _ hc e _ => mv.heap b o' (by simpa using hc) e) (fun b o' _ _ hc e _ => ⟨o'.slots, mv.heap b o' (by simpa using hc) e⟩) (fun b o' hc e z => ?_)
    (fun b o' hc e => ⟨o', mv.heap b o' (by simpa using hc) e⟩) (fun b xs e => ?_) (fun b o' u e => ?_) (fun b ps e => ⟨#[], ?_⟩) (fun m hm' => ?_) (fun b u e => ?_) J.bare)
  all_goals have ndq : ∀ {b u}, ItX.dropH H it b = some u → b ≠ q := fun {b u} e z => by rw [z, ItX.dropH_ne nqi, nq] at e; cases e
  · rcases List.mem_cons.mp hb with rfl | hb
    · exact ⟨fq.2.2.2.1, fq.2.1, fq.2.2.2.2.1, fq.2.2.2.2.2⟩
    · rw [List.mem_singleton] at hb
      subst hb
      exact ⟨fi.2.2.2.1, fi.2.1, fi.2.2.2.2.1, fi.2.2.2.2.2⟩
  · rw [upd_ne (fun e' => hc (by simp [e']))]
    exact z
  · rw [upd_ne (ndq e)]
    exact e
  · rw [upd_ne (ndq e)]
    exact e
  · rw [upd_ne (ndq e), e]
    simp
  · obtain ⟨o', es2, ep2, ho, r⟩ := hm'
    exact ⟨o', es2, ep2, mv.heap _ o' (by simp [Ne.symm fq.2.1, Ne.symm fi.2.1]) ho, r⟩
  · by_cases hb : b = q
    · subst hb
      rw [upd_same] at e
      cases e
      refine ⟨by rw [List.length_map]; exact le, acc'.toList, c', ?_, by rw [Array.toArray_toList]; exact hq'⟩
      refine vals_of_at (by rw [List.length_map, el, hacc.1, lk]) fun j x w h1 h2 => ?_
      obtain ⟨k, z, hk, hi⟩ := hacc.2 j w (by rw [← Array.getElem?_toList]; exact h2)
      have e1 : (kvs.map (·.1))[j]? = some k := by
        rw [KV.keys kv, List.getElem?_map, hk] <;> rfl
      have e2 : (kvs.map fun kv => kV kv.1)[j]? = some (kV k) := by
        rw [show (kvs.map fun kv => kV kv.1) = (kvs.map (·.1)).map kV by rw [List.map_map] <;> rfl, List.getElem?_map, e1] <;> rfl
      rw [e2] at h1
      cases h1
      exact keyIs_rel hi
    · rw [upd_ne hb] at e
      have nbi : b ≠ it := fun z => by rw [z, ItX.dropH_same] at e; cases e
      refine (J.hok b u e).stay (fun c v hc z => mv.heap c v ?_ z) (fun c z => by rw [upd_ne (ndq z)]; exact z) fun c xs z => by rw [upd_ne (ndq z)]; exact z
      rcases hc with z | z
      · rw [z]
        simp [hb, nbi]
      · have k1 : c ≠ q := ndq z
        have k2 : c ≠ it := fun w => by rw [w, ItX.dropH_same] at z; cases z
        simp [k1, k2]
theorem call_listW (hc : X.calm = true) (m : IterM X.K C f) (F : FnZ X.prog X.w X.K X.mg X.base n f fd ps sp) (bind : Binds X.K fd ps []) (room : Room (n + 2) X.A) : CallR X (.type "list") (rListW C sp) := by
  intro pins s σ H xs us Q I rv ⟨a, dx, fs, ex, ha, hsp⟩
  subst ex
  obtain ⟨u, rfl, ru⟩ := rv.one
  cases ru
  have sb : Sub X n X.A.in1.in1 := Sub.in1 (Sub.in1 (⟨room, rfl⟩ : Sub X (n + 2) X.A))
  refine callType_codes (Q₁ := fun obj t => obj = .ref s.heap.objs.size ∧ t = { s with heap := s.heap.push { cls := .type "list", data := .seq #[] } }) PySem.F.called_list (PySem.F.typeCall_list_1 _) PySem.F.entry_list_init (code_list_new _ ⟨rfl, rfl⟩) fun obj t ht => ?_
  obtain ⟨rfl, rfl⟩ := ht
  have hS : (s.heap.push { cls := .type "list", data := .seq #[] }).get? s.heap.objs.size = some { cls := .type "list", data := .seq #[] } := Heap.get?_push_size _ rfl
  refine ⟨⟨_, hS, rfl⟩, PySem.F.args_list_init_2 _ _, ?_⟩
  have fr : H s.heap.objs.size = none := I.hok.fresh (Nat.le_refl _)
  show wpAny _ _ (do let old ← Builtin.List.listItems (.ref s.heap.objs.size); Builtin.List.listUpdate (.ref s.heap.objs.size) (fun _ => #[]); letGo old.toList.reverse; Builtin.List.listExtendWith (.ref s.heap.objs.size) (Value.ref a) .none) _ _ _
  refine wpAny_bind ?_
  unfold Builtin.List.listItems
  refine wpAny_bind (wpAny_seqItems hS rfl (wpAny_pure ?_))
  show wpAny _ _ (updateSeq s.heap.objs.size (fun _ => #[]) >>= fun _ => letGo (#[] : Array Value).toList.reverse >>= fun _ => Builtin.List.listExtendWith (.ref s.heap.objs.size) (Value.ref a) .none) _ _ _
  refine wpAny_bind (wpAny_updateSeq hS rfl ?_)
  have hS2 := Heap.get?_update_self (Obj.mapSeq (fun _ => (#[] : Array Value))) hS rfl
  refine wpAny_bind (wpAny_letGo ?_)
  -- the list is pinned while __iter__ runs
  generalize eo : Obj.mapSeq (fun _ => (#[] : Array Value)) { cls := Value.type "list", data := .seq #[] } = o2 at hS2
  have ho2 : ∃ c0, o2 = { cls := .type "list", data := .seq #[] c0 } := by
    subst eo
    exact ⟨_, rfl⟩
  obtain ⟨c0, rfl⟩ := ho2
  generalize eh : (s.heap.push { cls := Value.type "list", data := .seq #[] }).update s.heap.objs.size (Obj.mapSeq (fun _ => (#[] : Array Value))) = h2 at hS2
  have kp : ∀ b u, s.heap.get? b = some u → h2.get? b = some u := fun b u e => by
    subst eh
    exact (Heap.get?_update_other _ _ (Nat.ne_of_gt (Heap.lt_size e))).trans (Heap.get?_push_of_some _ e)
  have I2 : Inv X ((s.heap.objs.size, { cls := .type "list", data := .seq #[] c0 }) :: pins) σ H { s with heap := h2, toks := s.toks } := ClX.pin_new I kp (Nat.le_refl _) hS2 (fun v z => nomatch z)
  have fpq : ∀ {G : Hp}, G s.heap.objs.size = none → FpOk X pins G s.heap.objs.size := fun {G} z => Inv.fpOk (H := H) I (Nat.le_refl _) z
  have sz : X.s_0.heap.objs.size ≤ s.heap.objs.size := I.sz
  have sz2 : X.s_0.heap.objs.size ≤ h2.objs.size := I2.sz
  generalize s.heap.objs.size = q at *
  have hne : q ≠ a := fun e => by rw [e, ha] at fr; cases fr
  obtain ⟨mA, J, _⟩ := ins_get I2.hok ha
  obtain ⟨od, J, _⟩ := J.look
  obtain ⟨m0, hF⟩ := I2.fr
  unfold Builtin.List.listExtendWith
  refine wpAny_bind (J.type.here ?_)
  rw [show Builtin.List.listSameRef (.ref q) (.ref a) = false by simp [Builtin.List.listSameRef, hne]]
  simp only [show (Value.ref C == Value.type "list") = false from rfl, show (Value.ref C == Value.type "tuple") = false from rfl, Bool.or_false, Bool.false_eq_true, if_false]
  refine wpAny_bind (PySem.W.owit_iter hF I2.ok.mod.kin J m.it m.fn ?_)
  have e0 : Env0 X.prog X.w X.K X.mg X.base X.A.in1.in1 X.stack { s with heap := h2, toks := s.toks } H := by
    have e := I2.env0
    exact ⟨by rw [sb.fr]; exact e.frames, e.mod, e.bs, e.bsz, e.funs, e.frf, e.hok, e.bare⟩
  have hz := hsp h2.objs.size
  have hl := F.len _ _ _ _ _ hz
  refine wpAny_call (codeAny_mono (F.go X.A.in1.in1 X.stack _ H ⟨[.ref a], []⟩ [.ref a] [.ref a] _ E0 sb.room e0 (by
    have := bind { s with heap := h2, toks := s.toks } [.ref a] I2.kIn (by simpa using hl)
    simpa using this) (.cons rfl .nil) hz) fun r s' hq' => ?_)
  cases r with
  | error e => exact (show False from hq').elim
  | ok fl =>
    cases fl with
    | ret u =>
      obtain ⟨v, H', I', rv, it, d, o, kvs, es, ep, ev, hn, hI, hda, hD, ⟨dy, gs, ha'⟩, q2⟩ := I2.after hq'
      subst ev
      cases rv
      have hit : s'.heap.IsKeyIter it d 0 kvs.length ep := (I'.hok it _ hI).1
      have hq2 := ClX.pin_at I'
      have nq2 := ClX.pin_un I'
      have I3 := ClX.unpin I'
      have nqi : q ≠ it := fun e => by rw [← e, nq2] at hI; cases hI
      have q3 := q2 q fr nq2
      have fin : ∀ (s4 : Shared) (c1 : Nat), Inv X pins σ H' s4 → s4.heap.get? q = some { cls := .type "list", data := .seq #[] c1 } → codeAny (model X.prog X.w) X.A.in1 (.builtin "list.extend.loop" ⟨[.ref q, .ref it, .none], []⟩)
          (wants (fun r s₂ => r = .none ∧ EP X pins σ Q (.ref q) s₂) X.xe) s4 := fun s4 c1 I4 hq4 =>
        loop_W (I4.ok.hd hc) I4 hI hda hD (Nat.le_trans sz2 hn) hq4 nq2 (fpq (by rw [ItX.dropH_ne nqi]; exact nq2)) fun s5 I5 => ⟨rfl, .ref q, _, I5, rfl, q3⟩
      unfold PySem.W.OwitIt
      refine wpAny_specialOf (name := Str.ofString "__next__") hit.typeIs PySem.F.slot_dict_keyiterator_next.lookup ?_
      obtain ⟨mB, J', _⟩ := ins_get I3.hok ha'
      obtain ⟨od', J', _⟩ := J'.look
      refine wpAny_bind (wpAny_holding (hint_W m I3.kIn J' ?_))
      refine wpAny_ite_split (fun _ => ?_) (fun _ => wpAny_pure ⟨plainId_quiet PySem.F.plain_extend_loop _, fin s' c0 I3 hq2⟩)
      refine wpAny_bind (wpAny_rule ?_)
      refine wpAny_bind ?_
      show wpAny _ _ (updateSeq q (·.push .none) >>= fun _ => updateSeq q (·.pop)) _ _ _
      refine wpAny_bind (wpAny_updateSeq hq2 rfl ?_)
      have hq3 := Heap.get?_update_self (Obj.mapSeq (·.push Value.none)) hq2 rfl
      refine wpAny_updateSeq (hz := by seq_fits) hq3 rfl ?_
      have hq4 := Heap.get?_update_self (Obj.mapSeq (·.pop)) hq3 rfl
      refine wpAny_pure ⟨plainId_quiet PySem.F.plain_extend_loop _, fin _ _ (I3.turned (t' := s'.toks) (fun b o' hb e => (Heap.get?_update_other _ _ (Ne.symm hb)).trans ((Heap.get?_update_other _ _ (Ne.symm hb)).trans e)) nq2 ?_ ?_ ?_ ?_) hq4⟩
      · exact (fpq (G := H') nq2).2.1
      · exact (fpq (G := H') nq2).2.2.2.1
      · exact (fpq (G := H') nq2).2.2.2.2.1
      · exact (fpq (G := H') nq2).2.2.2.2.2
    | _ => exact (show False from hq').elim
end
end XB

/-! Data compared, sorted, looked up; fields of own classes. -/
namespace XB
open PySem PySem.Spec PyProof.Rows L2
/-! ### the least and the greatest of two texts -/
section
variable {prog : Program} {w : World} {A : Around} {E : Value → Shared → Prop} {s : Shared}
def ltZ (x y : Str) : Bool := decide (x.cps.toList < y.cps.toList)
def twoV (x y : Str) (t u : Tok) : Array Value := #[.str x t, .str y u]
def twoZ (x y : Str) : Nat → Str := fun i => if i = 0 then x else y
theorem twoV_at {x y : Str} {t u : Tok} {i : Nat} {v : Value} (h : (twoV x y t u)[i]? = some v) : ∃ r, v = .str (twoZ x y i) r := by
  match i, h with
  | 0, h => exact ⟨t, by cases h; rfl⟩
  | 1, h => exact ⟨u, by cases h; rfl⟩
  | n + 2, h => simp [twoV] at h
theorem cmpS_lt {P : Nat → Value → Prop} (val : Nat → Str) (hv : ∀ i v, P i v → ∃ t, v = .str (val i) t) : CmpOf prog w A .Lt P (fun i j => ltZ (val i) (val j)) := fun i j vi vj s Q E hi hj h => by
  obtain ⟨t, rfl⟩ := hv i vi hi
  obtain ⟨u, rfl⟩ := hv j vj hj
  exact DT.rcLt_str A s (val i) t (val j) u prog w E Q h
theorem cmpS_gt {P : Nat → Value → Prop} (val : Nat → Str) (hv : ∀ i v, P i v → ∃ t, v = .str (val i) t) : CmpOf prog w A .Gt P (fun i j => ltZ (val j) (val i)) := fun i j vi vj s Q E hi hj h => by
  obtain ⟨t, rfl⟩ := hv i vi hi
  obtain ⟨u, rfl⟩ := hv j vj hj
  exact (PySem.P.gt_str h : wpAny (model prog w) A (compareOp .Gt (.str (val i) t) (.str (val j) u)) Q E s)
theorem two_end {x y : Str} {t u : Tok} {bt : Nat → Nat → Bool} {v : Value} (h : (twoV x y t u)[argBest bt 1]? = some v) : v = if bt 1 0 = true then .str y u else .str x t := by
  cases e : bt 1 0 with
  | true =>
    rw [show argBest bt 1 = 1 by simp [argBest, e]] at h
    cases h
    rfl
  | false =>
    rw [show argBest bt 1 = 0 by simp [argBest, e]] at h
    cases h
    rfl
theorem two_old {h0 h' : Heap} {o1 o2 : PySem.Obj} {wr : List Addr} (hw : ∀ b ∈ wr, h0.objs.size ≤ b) (k : ∀ b o, b ∉ wr → ((h0.push o1).push o2).get? b = some o → h'.get? b = some o) (c : Addr) (o : PySem.Obj) (e : h0.get? c = some o) : h'.get? c = some o :=
  k c o (fun z => absurd (Nat.lt_of_lt_of_le (Heap.lt_size e) (hw c z)) (Nat.lt_irrefl _)) (Heap.get?_push_of_some _ (Heap.get?_push_of_some _ e))
theorem min_twoS {x y : Str} {t u : Tok} {Q : Value → Shared → Prop} (hh : A.handled = none)
    (h : ∀ h' tk, (∀ c o, s.heap.get? c = some o → h'.get? c = some o) → Q (if ltZ y x = true then .str y u else .str x t) { s with heap := h', toks := tk }) : wpAny (model prog w) A (call (.builtin "min") [.str x t, .str y u]) Q E s := by
  have hT : (s.heap.push { cls := .type "tuple", data := .seq (twoV x y t u) }).IsTuple s.heap.objs.size (twoV x y t u) := ⟨_, Heap.get?_push_size _ rfl, rfl, 0, rfl⟩
  have hz : (s.heap.push { cls := .type "tuple", data := .seq #[.str x t, .str y u] }).objs.size = s.heap.objs.size + 1 := Heap.size_push ..
  refine call_min_two (wpAny_pyIter_tuple hT ?_)
  refine ⟨_, [_, s.heap.objs.size], [_], _, _, _, _, rfl, Walks.tuple (A := A.in1) hh _ s.heap.objs.size (by show _ ≠ (s.heap.push _).objs.size; rw [hz]; exact Nat.ne_of_lt (Nat.lt_succ_self _)) (twoV x y t u),
    ⟨⟨_, Heap.get?_push_size _ rfl, rfl, rfl⟩, hT.push _⟩, fun c hc => ?_, by simp [twoV], cmpS_lt (twoZ x y) (fun _ _ z => twoV_at z), fun v h' tk hP hk => ?_⟩
  · show c < ((s.heap.push _).push _).objs.size
    have := hz
    rw [Heap.size_push]
    simp only [List.mem_cons, List.not_mem_nil, or_false] at hc
    rcases hc with rfl | rfl
    · exact Nat.lt_succ_self _
    · rw [hz]; exact Nat.lt_succ_of_lt (Nat.lt_succ_self _)
  · have e := two_end (bt := fun i j => ltZ (twoZ x y i) (twoZ x y j)) (show (twoV x y t u)[argBest _ 1]? = some v from hP)
    rw [e]
    exact h h' tk (two_old (fun b hb => by rw [List.mem_singleton] at hb; rw [hb]; show _ ≤ (s.heap.push _).objs.size; rw [hz]; exact Nat.le_succ _) hk)
theorem max_twoS {x y : Str} {t u : Tok} {Q : Value → Shared → Prop} (hh : A.handled = none)
    (h : ∀ h' tk, (∀ c o, s.heap.get? c = some o → h'.get? c = some o) → Q (if ltZ x y = true then .str y u else .str x t) { s with heap := h', toks := tk }) : wpAny (model prog w) A (call (.builtin "max") [.str x t, .str y u]) Q E s := by
  have hT : (s.heap.push { cls := .type "tuple", data := .seq (twoV x y t u) }).IsTuple s.heap.objs.size (twoV x y t u) := ⟨_, Heap.get?_push_size _ rfl, rfl, 0, rfl⟩
  have hz : (s.heap.push { cls := .type "tuple", data := .seq #[.str x t, .str y u] }).objs.size = s.heap.objs.size + 1 := Heap.size_push ..
  refine call_max_two (wpAny_pyIter_tuple hT ?_)
  refine ⟨_, [_, s.heap.objs.size], [_], _, _, _, _, rfl, Walks.tuple (A := A.in1) hh _ s.heap.objs.size (by show _ ≠ (s.heap.push _).objs.size; rw [hz]; exact Nat.ne_of_lt (Nat.lt_succ_self _)) (twoV x y t u),
    ⟨⟨_, Heap.get?_push_size _ rfl, rfl, rfl⟩, hT.push _⟩, fun c hc => ?_, by simp [twoV], cmpS_gt (twoZ x y) (fun _ _ z => twoV_at z), fun v h' tk hP hk => ?_⟩
  · show c < ((s.heap.push _).push _).objs.size
    have := hz
    rw [Heap.size_push]
    simp only [List.mem_cons, List.not_mem_nil, or_false] at hc
    rcases hc with rfl | rfl
    · exact Nat.lt_succ_self _
    · rw [hz]; exact Nat.lt_succ_of_lt (Nat.lt_succ_self _)
  · have e := two_end (bt := fun i j => ltZ (twoZ x y j) (twoZ x y i)) (show (twoV x y t u)[argBest _ 1]? = some v from hP)
    rw [e]
    exact h h' tk (two_old (fun b hb => by rw [List.mem_singleton] at hb; rw [hb]; show _ ≤ (s.heap.push _).objs.size; rw [hz]; exact Nat.le_succ _) hk)
end
def fMinS : RL := fun vs H Q => match vs with
  | [.str x, .str y] => Q (.str (if ltZ y x = true then y else x)) H
  | [.int i, .int j] => Q (.int (if j < i then j else i)) H
  | _ => False
def fMaxS : RL := fun vs H Q => match vs with
  | [.str x, .str y] => Q (.str (if ltZ x y = true then y else x)) H
  | [.int i, .int j] => Q (.int (if j > i then j else i)) H
  | _ => False
section
variable {X : Cx}
theorem c_minS (hc : X.calm = true) : CallR X (.builtin "min") fMinS := fun pins s σ H xs us Q I r h => by
  unfold fMinS at h
  split at h
  · obtain ⟨u, z, rfl, ⟨t, rfl⟩, ⟨t', rfl⟩⟩ := vals2 r
    refine min_twoS (I.ok.hd hc) fun h' tk k => ⟨_, H, I.kept k, ?_, h⟩
    split <;> exact ⟨_, rfl⟩
  · exact call_min2 hc pins s σ H _ us Q I r ⟨_, _, rfl, h⟩
  · exact h.elim
theorem c_maxS (hc : X.calm = true) : CallR X (.builtin "max") fMaxS := fun pins s σ H xs us Q I r h => by
  unfold fMaxS at h
  split at h
  · obtain ⟨u, z, rfl, ⟨t, rfl⟩, ⟨t', rfl⟩⟩ := vals2 r
    refine max_twoS (I.ok.hd hc) fun h' tk k => ⟨_, H, I.kept k, ?_, h⟩
    split <;> exact ⟨_, rfl⟩
  · exact call_max2 hc pins s σ H _ us Q I r ⟨_, _, rfl, h⟩
  · exact h.elim
end
/-! ### data: a value among values, sorted -/
/-- x in y, y a list or a tuple of data -/
def rInDt (K : PySem.W.Frag) (neg : Bool) : R2 := fun x y H Q => ∃ d ds, Dp K H x d ∧ (Dp K H y (.list ds) ∨ Dp K H y (.tuple ds)) ∧ SeqAt.shaped d = true ∧ SeqAt.shaped (.list ds) = true ∧ Q (.bl (xor neg (ds.any fun z => PyData.eqv z d))) H
section
variable {X : Cx}
theorem op_inDt (hu : X.A.units + 65 < cLine) : OpR X (compareOp .In) (rInDt X.K false) := by
  intro pins s σ H x y v u Q I rx ry ⟨d, ds, hd, he, sd, se, q⟩
  rw [Bool.false_xor] at q
  obtain ⟨as, r1⟩ := Dp.reads I d x v hd rx
  rcases he with he | he
  · obtain ⟨bs, r2⟩ := Dp.reads I _ y u he ry
    exact SeqAt.in_list_reads r2 r1 (SeqAt.canLay_of_shaped se) (SeqAt.canLay_of_shaped sd) (room_in_shaped sd hu) ⟨.bl _, H, I, rfl, q⟩
  · obtain ⟨bs, r2⟩ := Dp.reads I _ y u he ry
    exact SeqAt.in_tuple_reads r2 r1 (SeqAt.canLay_of_shaped se) (SeqAt.canLay_of_shaped sd) (room_in_shaped sd hu) ⟨.bl _, H, I, rfl, q⟩
theorem op_ninDt (hu : X.A.units + 65 < cLine) : OpR X (compareOp .NotIn) (rInDt X.K true) := by
  intro pins s σ H x y v u Q I rx ry ⟨d, ds, hd, he, sd, se, q⟩
  rw [Bool.true_xor] at q
  obtain ⟨as, r1⟩ := Dp.reads I d x v hd rx
  rcases he with he | he
  · obtain ⟨bs, r2⟩ := Dp.reads I _ y u he ry
    exact SeqAt.notIn_list_reads r2 r1 (SeqAt.canLay_of_shaped se) (SeqAt.canLay_of_shaped sd) (room_in_shaped sd hu) ⟨.bl _, H, I, rfl, q⟩
  · obtain ⟨bs, r2⟩ := Dp.reads I _ y u he ry
    exact SeqAt.notIn_tuple_reads r2 r1 (SeqAt.canLay_of_shaped se) (SeqAt.canLay_of_shaped sd) (room_in_shaped sd hu) ⟨.bl _, H, I, rfl, q⟩
/-- sorted(xs), xs a list of data that compare -/
def fSortDt (K : PySem.W.Frag) : RL := fun vs H Q => ∃ (a : Addr) (xs : List V) (ds : List PyData), vs = [.ref a] ∧ SqL K H a xs ∧ DpAll K H xs ds ∧ PySem.W.AllAlike ds ∧ PySem.W.Sortable ds ∧ (∀ d ∈ ds, d.depth ≤ 50) ∧
  ∀ p, H p = none → Q (.ref p) (upd H p (.lst (((xs.zip ds).mergeSort (PySem.W.dataLe false Prod.snd)).map Prod.fst)))
theorem zip_snd : ∀ {xs : List V} {ds : List PyData}, xs.length = ds.length → (xs.zip ds).map Prod.snd = ds
  | [], [], _ => rfl
  | [], _ :: _, h => by simp at h
  | _ :: _, [], h => by simp at h
  | x :: xs, d :: ds, h => by rw [List.zip_cons_cons, List.map_cons, zip_snd (by simpa using h)]
theorem dpAll_len {K : PySem.W.Frag} {H : Hp} : ∀ {xs : List V} {ds : List PyData}, DpAll K H xs ds → xs.length = ds.length
  | [], _, h => by cases h; rfl
  | x :: xs, _, h => by
    cases h with
    | cons _ t => rw [List.length_cons, List.length_cons, dpAll_len t]
theorem each_zip {pins : List (Addr × PySem.Obj)} {σ : L2.St} {H : Hp} {s : Shared} (I : Inv X pins σ H s) : ∀ {xs : List V} {ds : List PyData} {us : List Value}, DpAll X.K H xs ds → Vals xs us →
    PySem.W.EachIs (fun (v : Value) (b : V × PyData) => RelV b.1 v) us (xs.zip ds) ∧ PySem.W.EachIs (fun (v : Value) (b : V × PyData) => ∃ as, Reads s.heap v b.2 as) us (xs.zip ds)
  | [], _, us, h, r => by
    cases h
    cases r
    exact ⟨.nil, .nil⟩
  | x :: xs, _, us, h, r => by
    cases h with
    | cons h t =>
      cases r with
      | cons r rt =>
        obtain ⟨a, b⟩ := each_zip I t rt
        exact ⟨.cons r a, .cons (Dp.reads I _ _ _ h r) b⟩
theorem vals_each : ∀ {us : List Value} {bs : List (V × PyData)}, PySem.W.EachIs (fun (v : Value) (b : V × PyData) => RelV b.1 v) us bs → Vals (bs.map Prod.fst) us
  | _, _, .nil => .nil
  | _, _, .cons r t => .cons r (vals_each t)
theorem c_sortDt (hu : X.A.units + 64 < cLine) : CallR X (.builtin "sorted") (fSortDt X.K) := by
  intro pins s σ H vs us Q I r ⟨a, xs, ds, ex, hs, hd, hal, hk, hdep, q⟩
  subst ex
  obtain ⟨its, rv, hl, hz⟩ := I.list hs
  obtain ⟨u, rfl, ru⟩ := r.one
  cases ru
  obtain ⟨e1, e2⟩ := each_zip I hd rv
  have em := zip_snd (dpAll_len hd)
  refine PySem.W.sorted_data (enc := Prod.snd) (bs := xs.zip ds) hl.isList e1 e2 (by rw [em]; exact hal) (by rw [em]; exact hk) (by rw [List.length_zip]; omega) (fun b hb => ?_) fun out lo eo => ?_
  · have : b.2 ∈ ds := by rw [← em]; exact List.mem_map.mpr ⟨b, hb, rfl⟩
    have := hdep _ this
    omega
  · have rvo := vals_each eo
    have lm : (((xs.zip ds).mergeSort (PySem.W.dataLe false Prod.snd)).map Prod.fst).length ≤ sizeLine := by
      rw [List.length_map, List.length_mergeSort, List.length_zip]
      omega
    obtain ⟨n, hn⟩ := sortedAll_at s.heap its out.toArray
    refine ⟨.ref (s.heap.objs.size + 1), _, I.laid (o := .lst (((xs.zip ds).mergeSort (PySem.W.dataLe false Prod.snd)).map Prod.fst)) (t' := s.toks) (fun b o e => sortedAll_old e) (Nat.le_succ _) ⟨lm, out, n, rvo, ?_⟩, rfl, q _ (I.hok.fresh (Nat.le_succ _))⟩
    exact hn
/-! ### dicts of data compared -/
def eqDD (f g : Key → PyData) (ks ls : List (Key × V)) : Bool := ks.length == ls.length && ks.all fun p => (valV ls p.1).isSome && PyData.eqv (f p.1) (g p.1)
def rEqDD (K : PySem.W.Frag) : R2 := fun x y H Q => ∃ a b ks ls f g, x = .ref a ∧ y = .ref b ∧ H a = some (.dK ks) ∧ H b = some (.dK ls) ∧ (∀ p ∈ ks, Dp K H p.2 (f p.1) ∧ SeqAt.shaped (f p.1) = true) ∧
  (∀ k v, valV ls k = some v → Dp K H v (g k) ∧ SeqAt.shaped (g k) = true) ∧ Q (.bl (eqDD f g ks ls)) H
theorem hits_dd {pins : List (Addr × PySem.Obj)} {σ : L2.St} {H : Hp} {s : Shared} (I : Inv X pins σ H s) (hu : X.A.in1.units + 64 < cLine) {f g : Key → PyData} {ls : List (Key × V)} {vb : List (Key × Value)} (rb : KV ls vb) (hg : ∀ k v, valV ls k = some v → Dp X.K H v (g k) ∧ SeqAt.shaped (g k) = true) :
    ∀ {ks : List (Key × V)} {va : List (Key × Value)}, KV ks va → (∀ p ∈ ks, Dp X.K H p.2 (f p.1) ∧ SeqAt.shaped (f p.1) = true) → PySem.W.KeqHits X.A.in1 s vb va (ks.all fun p => (valV ls p.1).isSome && PyData.eqv (f p.1) (g p.1))
  | [], _, r, _ => by
    cases r
    exact .nil
  | (k, v) :: ks, _, r, h => by
    cases r with
    | @cons _ q _ qs e t =>
      obtain ⟨k', u⟩ := q
      obtain ⟨ek, ru⟩ := e
      have ek : k = k' := ek
      subst ek
      have ih := hits_dd I hu rb hg t fun p hp => h p (List.mem_cons_of_mem _ hp)
      have rr := rb.val k
      rw [List.all_cons]
      cases ev : valV ls k with
      | none =>
        rw [ev] at rr
        exact .miss (RelO.none_of rr)
      | some v' =>
        rw [ev] at rr
        obtain ⟨y, hy, ry⟩ := rr.some_of
        obtain ⟨d1, s1⟩ := h _ List.mem_cons_self
        obtain ⟨d2, s2⟩ := hg k v' ev
        obtain ⟨as, r1⟩ := Dp.reads I _ _ _ d1 ru
        obtain ⟨bs, r2⟩ := Dp.reads I _ _ _ d2 ry
        exact .hit hy (PySem.W.keq_at r1 r2 s1 s2 hu) ih
theorem op_eqDD (hu : X.A.units + 65 < cLine) : OpR X (compareOp .Eq) (rEqDD X.K) := by
  intro pins s σ H x y v u Q I rx ry ⟨a, b, ks, ls, f, g, ex, ey, ea, eb, hf, hg, q⟩
  subst ex ey
  cases rx
  cases ry
  obtain ⟨_, ya, va, ra, da⟩ := (show ObjOk X.prog X.w H s.heap a (.dK ks) from I.hok a _ ea)
  obtain ⟨_, yb, vb, rb, db⟩ := (show ObjOk X.prog X.w H s.heap b (.dK ls) from I.hok b _ eb)
  refine PySem.W.keq_eq (knd := mixKind X.prog X.w) ya yb da db (by omega) (fun _ => hits_dd I (by show X.A.units + 1 + 64 < cLine; omega) rb hg ra hf) ⟨.bl (eqDD f g ks ls), H, I, ?_, q⟩
  unfold eqDD
  rw [ra.length, rb.length]
  rfl
/-! ### fields of own instances -/
def tFldW (C : Addr) (ta : TE) (f : Str) : TE := fun σ H Q => ta σ H fun x H1 => ∃ a dx fs v, x = .ref a ∧ H1 a = some (.ins C dx fs) ∧ fs.lookup f = some v ∧ Q v H1
theorem pe_fldW {C : Addr} {e : Expr} {f : Str} {pos : Pos} {ta : TE} (c : Cls X.K C) (n : NoAttr X.K C f) (he : PE X e ta) (hb : attributeBase e f X.env (eval e X.env) = eval e X.env := by rfl) : PE X (.Attribute e f pos) (tFldW C ta f) :=
  ⟨fun pins s σ H Q I h => attr_of hb (thn (he.run pins s σ H _ I h) fun u s1 ⟨x, H1, J, rx, a, dx, fs, v, ex, ea, l, q⟩ => by
    subst ex
    obtain rfl : u = Value.ref a := rx
    exact getattr_ok J ea c n l fun u2 s2 J2 r2 => ⟨v, H1, J2, r2, q⟩)⟩
def rIsC (C : Addr) : RL := fun xs H Q => ∃ a dx fs, xs = [.ref a, .ref C] ∧ H a = some (.ins C dx fs) ∧ Q (.bl true) H
end
end XB

/-! What the text says of an own class. -/
namespace XB
open PySem PySem.Spec PyProof.Rows L2
/-- a method -/
structure Mtd (K : PySem.W.Frag) (C : Addr) (m qual : Str) (st : Stmt) (ps : List Str) where
  f : Addr
  fd : FuncData
  here : PySem.W.findIn K (.ref C) m = some (some (.ref f))
  isf : PySem.W.isFn K (.ref f) = true
  fn : Fun K m qual st f fd
  bi : Binds K fd ps []
theorem Mtd.meth {K : PySem.W.Frag} {C : Addr} {m qual : Str} {st : Stmt} {ps : List Str} (D : Mtd K C m qual st ps) : Meth K C m D.f := ⟨D.here, D.isf, D.fn.kp⟩
theorem Mtd.op {K : PySem.W.Frag} {C : Addr} {m qual : Str} {st : Stmt} {ps : List Str} (D : Mtd K C m qual st ps) : OpM K C m D.f := ⟨D.here, D.isf⟩
/-- a property -/
structure Prp (K : PySem.W.Frag) (C : Addr) (m qual : Str) (st : Stmt) (ps : List Str) where
  f : Addr
  fd : FuncData
  p : Addr
  pr : PropOf K C m p f
  fn : Fun K m qual st f fd
  bi : Binds K fd ps []
/-- a class method -/
structure Cmt (K : PySem.W.Frag) (C : Addr) (m qual : Str) (st : Stmt) (ps : List Str) where
  f : Addr
  fd : FuncData
  p : Addr
  mc : Value
  rd : ClX.CRead K C mc
  cm : ClX.CMet K C mc m p f
  fn : Fun K m qual st f fd
  bi : Binds K fd ps []
/-- __init__, with defaults -/
structure Ctr (K : PySem.W.Frag) (C : Addr) (qual : Str) (st : Stmt) (ps : List Str) (dvs : List V) where
  f : Addr
  fd : FuncData
  made : Mk K C f
  fn : FunD K "__init__" qual (defArgs st) (defBody st) (defScope st) dvs [] f fd
  bi : Binds K fd ps []
/-- the class itself -/
structure OwnC (K : PySem.W.Frag) (C : Addr) (fs : List Str) where
  cl : Cls K C
  isC : C8.InsC K C
  noLen : PySem.W.findIn K (.ref C) "__len__" = some none
  noHint : PySem.W.findIn K (.ref C) "__length_hint__" = some none
  no : ∀ f ∈ fs, NoAttr K C f
theorem OwnC.iter {K : PySem.W.Frag} {C : Addr} {fs : List Str} {qual : Str} {st : Stmt} {ps : List Str} (c : OwnC K C fs) (D : Mtd K C "__iter__" qual st ps) : IterM K C D.f := ⟨D.here, D.isf, c.noLen, c.noHint⟩
section
variable {X : Cx} {C : Addr}
theorem c_isC (c : C8.InsC X.K C) : CallR X (.builtin "isinstance") (rIsC C) := C8.call_isC c
theorem passP {X : Cx} : Passes CX0 X.nox E0 := fun _ _ _ _ _ _ _ h => h.elim
def tPropW (C : Addr) (sp : Sp) (ta : TE) : TE := tProp C sp [] E0 ta
/-- o.f = e -/
def tOstW (C : Addr) (f : Str) (ta tv : TE) : TS := fun D σ H => tv σ H fun y H1 => ta σ H1 fun x H2 => ∃ a dx fs, x = .ref a ∧ H2 a = some (.ins C dx fs) ∧ fs.length < 1000 ∧ D.nx σ (upd H2 a (.ins C dx (putF f y fs)))
theorem ps_ostW {o value : Expr} {f : Str} {pos pos' : Pos} {ta tv : TE} (c : Cls X.K C) (n : NoAttr X.K C f) (ho : PE X o ta) (hv : PE X value tv) (hs : swapsWith value (some (.Attribute o f pos')) pos.line X.env = pure false) :
    PS X (.Assign [.Attribute o f pos'] value pos) (tOstW C f ta tv) :=
  ⟨fun pins s σ H D I h => plainObj_wpAny_Assign_Attribute (thn (hv.run pins s σ H _ I h) fun u s1 ⟨y, H1, J1, ry, q⟩ => thn (ho.run pins s1 σ H1 _ J1 q) fun ov s2 ⟨x, H2, J2, rx, a, dx, fs, ex, ea, l, q2⟩ => by
    subst ex
    obtain rfl : ov = Value.ref a := rx
    exact setattr_ok J2 ea c n l ry fun s3 J3 => ⟨σ, _, J3, q2⟩) hs⟩
end
end XB

/-! tuple of a dict; lists turned and emptied. -/
namespace XB
open PySem PySem.Spec PyProof.Rows L2
section
variable {prog : Program} {w : World} {A : Around} {E : Value → Shared → Prop} {s : Shared} {d n : Nat} {P : Nat → Value → Prop} {OK : Heap → Prop} {T : String}
theorem collect_D {Q : List Value → Shared → Prop} (src : PySem.W.KdlSrc prog w T d d n P OK) (hh : A.handled = none) (ok : OK s.heap) (hn : n ≤ sizeLine)
    (hQ : ∀ (h' : Heap) (tk : Nat) (acc : Array Value), (∀ b o, s.heap.get? b = some o → h'.get? b = some o) → ItemsOf P acc n → Q acc.toList { s with heap := h', toks := tk }) : wpAny (model prog w) A (collect (.ref d)) Q E s := by
  have lt := (src.there _ ok).1
  unfold collect
  refine wpAny_bind (wpAny_runValue (codeAny_builtin F.entry_proto_collect ?_))
  rw [Around.under_plainId F.plain_proto_collect _]
  show wpAny _ A.in1 (newList [] >>= fun l => again (.builtin "list.__iadd__" ⟨[l, .ref d], []⟩)) _ _ s
  refine wpAny_bind (wpAny_newObj_type ?_)
  refine wpAny_pure ⟨plainId_quiet F.plain_list_iadd _, codeAny_builtin F.entry_list_iadd ?_⟩
  rw [Around.under_plainId F.plain_list_iadd _]
  show wpAny _ A.in1 (Builtin.List.listExtendWith (.ref s.heap.objs.size) (.ref d) (.ref s.heap.objs.size)) _ _ _
  have hS : (s.heap.push { cls := .type "list", data := .seq ([] : List Value).toArray }).get? s.heap.objs.size = some { cls := .type "list", data := .seq #[] 0 } := Heap.get?_push_size _ rfl
  refine wpAny_mono (PySem.W.kdl_extend (A := A) (R := fun rr s' => rr = .ok (.ret (.ref s.heap.objs.size)) ∧ ∃ (h' : Heap) (tk : Nat) (acc : Array Value) (c' : Nat), s' = { s with heap := h', toks := tk } ∧
      (∀ b o, s.heap.get? b = some o → h'.get? b = some o) ∧ h'.get? s.heap.objs.size = some { cls := .type "list", dict := none, data := .seq acc c', slots := #[] } ∧ ItemsOf P acc n)
    (s := { s with heap := s.heap.push { cls := .type "list", data := .seq ([] : List Value).toArray } }) src hh (src.keep _ _ ok fun b _ o e => Heap.get?_push_of_some _ e) _ (Nat.ne_of_gt lt) (Nat.ne_of_gt lt) _ 0 hS
    (fun h' tk acc c' hk e hi => ⟨rfl, h', tk, acc, c', rfl, fun b o q => hk b o (Nat.ne_of_lt (Heap.lt_size q)) (Heap.get?_push_of_some _ q), e, hi⟩) hn) (fun fin s' h => ?_) (fun e s' h => ?_)
  · cases fin with
    | done f =>
      obtain ⟨e, h', tk, acc, c', rfl, hk, hS', hi⟩ := h
      cases e
      show wpAny _ A (load s.heap.objs.size >>= _) _ _ _
      exact wpAny_bind (wpAny_load hS' (wpAny_pure (hQ h' tk acc hk hi)))
    | again c' =>
      refine ⟨h.1, codeAny_mono h.2 fun rr s'' hr' => ?_⟩
      obtain ⟨rfl, h', tk, acc, c', rfl, hk, hS', hi⟩ := hr'
      show wpAny _ A (load s.heap.objs.size >>= _) _ _ _
      exact wpAny_bind (wpAny_load hS' (wpAny_pure (hQ h' tk acc hk hi)))
  · exact absurd h.1 (by simp)
theorem tuple_D {Q : Value → Shared → Prop} (src : PySem.W.KdlSrc prog w "dict" d d n P OK) (hh : A.handled = none) (ok : OK s.heap) (hn : n ≤ sizeLine)
    (h : ∀ (h' : Heap) (tk : Nat) (acc : Array Value), (∀ b o, s.heap.get? b = some o → h'.get? b = some o) → ItemsOf P acc n → Q (.ref h'.objs.size) { s with heap := h'.push { cls := .type "tuple", data := .seq acc }, toks := tk }) :
    wpAny (model prog w) A (call (.type "tuple") [.ref d]) Q E s := by
  refine callType_codes (Q₁ := fun obj s₁ => s₁.TypeIs obj "tuple" ∧ Q obj s₁) F.called_tuple (F.typeCall_tuple_1 _) F.entry_object_init ?_ fun obj s₁ h₁ => ?_
  · refine codeAny_of_tree ?_
    show wpAny _ A.in1.in1 (do checkBuiltinCall "tuple.__new__" ⟨[.type "tuple", .ref d], []⟩; again (.builtin "tuple.__new__" ⟨[.type "tuple", .ref d], []⟩)) _ _ s
    refine wpAny_bind (wpAny_of_eq (F.newCall_tuple_1 _) (wpAny_pure ⟨plainId_quiet F.plain_tuple_new _, codeAny_builtin F.entry_tuple_new ?_⟩))
    rw [Around.under_plainId F.plain_tuple_new _]
    have hsub := sub_tuple_self
    have hinit := init_tuple_lookup
    have hmh := madeHere_tuple
    have hTI : s.TypeIs (.ref d) "dict" := src.type _ ok
    have hh1 : A.in1.in1.handled = none := hh
    wp_walk using wpAny_typeOf hTI, collect_D (A := A.in1.in1) src hh1 ok hn
    intro h' tk acc hk hacc
    show wpAny _ _ (Builtin.Tuple.tupleExact acc.toList.toArray >>= fun v => ret v) _ _ _
    unfold Builtin.Tuple.tupleExact
    refine wpAny_bind (wpAny_newObj_type ?_ (by show acc.toList.toArray.size ≤ sizeLine; simp only [Array.toArray_toList]; rw [hacc.1]; exact hn))
    refine wpAny_pure ?_
    rw [show acc.toList.toArray = acc by simp]
    exact ⟨⟨_, Heap.get?_push_size _ rfl, rfl⟩, h h' tk acc hk hacc⟩
  · exact ⟨h₁.1, F.args_object_init_2 obj _, object_init_meets F.called_tuple.init.lookup F.called_tuple.made (by decide) prog w A.in1 _ s₁ ⟨h₁.1, rfl, h₁.2⟩⟩
end
def rTupleD : RL := fun xs H Q => ∃ p kvs, xs = [.ref p] ∧ H p = some (.dK kvs) ∧ ∀ q, H q = none → Q (.ref q) (upd H q (.tup (kvs.map fun kv => kV kv.1)))
theorem keys_vals {kvs : List (Key × V)} {vs : List (Key × Value)} {acc : Array Value} (kv : KV kvs vs) (h : ItemsOf (fun i v => ∃ k x, vs[i]? = some (k, x) ∧ keyIs k v = true) acc vs.length) : Vals (kvs.map fun kv => kV kv.1) acc.toList := by
  have lk : kvs.length = vs.length := Paired.length kv
  have la : acc.toList.length = vs.length := by rw [Array.length_toList]; exact h.1
  refine vals_of_at (by rw [List.length_map, la, lk]) fun j x w h1 h2 => ?_
  obtain ⟨k, z, hk, hi⟩ := h.2 j w (by rw [← Array.getElem?_toList]; exact h2)
  have e1 : (kvs.map (·.1))[j]? = some k := by
    rw [KV.keys kv, List.getElem?_map, hk] <;> rfl
  rw [show (kvs.map fun kv => kV kv.1) = (kvs.map (·.1)).map kV by rw [List.map_map] <;> rfl, List.getElem?_map, e1] at h1
  cases h1
  exact keyIs_rel hi
section
variable {X : Cx}
theorem call_tuple_dK (hc : X.calm = true) : CallR X (.type "tuple") rTupleD := by
  intro pins s σ H xs us Q I r ⟨p, kvs, e, hk, q⟩
  subst e
  obtain ⟨u, rfl, rx⟩ := r.one
  cases rx
  obtain ⟨z, lo, vs, rk, hd⟩ := (show ObjOk X.prog X.w H s.heap p (.dK kvs) from I.hok p _ hk)
  obtain ⟨ep, hat⟩ := hd.dictAt
  have hl : kvs.length = vs.length := Paired.length rk
  refine tuple_D (PySem.W.kdl_dict (knd := mixKind X.prog X.w) (kvs := vs) (ep := ep) lo) (I.ok.hd hc) hat (by rw [← hl]; exact z) fun h' tk acc hkeep hacc => ?_
  have I2 : Inv X pins σ H { s with heap := h', toks := tk } := I.kept hkeep
  refine ⟨.ref h'.objs.size, _, I2.laid (o := .tup (kvs.map fun kv => kV kv.1)) (t' := tk) (fun b o e => Heap.get?_push_of_some _ e) (Nat.le_refl _) ⟨by rw [List.length_map]; exact z, acc.toList, keys_vals rk hacc, ?_⟩, rfl, q _ (I2.hok.fresh (Nat.le_refl _))⟩
  exact ⟨_, Heap.get?_push_size _ rfl, rfl, 0, by simp⟩
def fReverse : RM := fun x vs H Q => match x, vs with
  | .ref l, [] => (match H l with
    | some (.lst xs) => Q .non (upd H l (.lst xs.reverse))
    | _ => False)
  | _, _ => False
theorem f_reverse {l : Addr} {H : Hp} {Q : VK} : fReverse (.ref l) [] H Q = (match H l with
    | some (.lst xs) => Q .non (upd H l (.lst xs.reverse))
    | _ => False) := rfl
theorem m_reverse : MtR X "list.reverse" fReverse := mt_imp (fun pins s σ H x xs v us Q I rx rs h => mt_reverse pins s σ H x xs v us Q I rx rs h) fun x xs H Q h => by
  unfold fReverse at h
  split at h
  · split at h
    · rename_i e
      exact ⟨_, _, rfl, rfl, e, h⟩
    · exact h.elim
  · exact h.elim
def fClear : RM := fun x vs H Q => match x, vs with
  | .ref l, [] => (match H l with
    | some (.lst xs) => Q .non (upd H l (.lst []))
    | _ => False)
  | _, _ => False
theorem f_clear {l : Addr} {H : Hp} {Q : VK} : fClear (.ref l) [] H Q = (match H l with
    | some (.lst xs) => Q .non (upd H l (.lst []))
    | _ => False) := rfl
theorem m_clear : MtR X "list.clear" fClear := mt_imp (fun pins s σ H x xs v us Q I rx rs h => mt_clear pins s σ H x xs v us Q I rx rs h) fun x xs H Q h => by
  unfold fClear at h
  split at h
  · split at h
    · rename_i e
      exact ⟨_, _, rfl, rfl, e, h⟩
    · exact h.elim
  · exact h.elim
end
end XB

/-! How the words of own classes are read. -/
namespace XB
open PySem L2
section
variable {C : Addr} {sp : Sp} {E : L2.St → XK} {t : TA} {ta tv : TE} {σ : L2.St} {H : Hp} {Q : VK} {f : Str} {dvs : List V} {i : Nat} {D : Ends}
theorem u_fldW : tFldW C ta f σ H Q = ta σ H fun x H1 => ∃ a dx fs v, x = .ref a ∧ H1 a = some (.ins C dx fs) ∧ fs.lookup f = some v ∧ Q v H1 := rfl
theorem u_propW : tProp C sp dvs E0 ta σ H Q = ta σ H fun x H1 => ∃ a dx fs, x = .ref a ∧ H1 a = some (.ins C dx fs) ∧ sp (.ref a :: dvs) H1 Q E0 := rfl
theorem u_makeS : tMakeS C sp dvs E t σ H Q = t σ H fun vs H1 => ∀ x dx, H1 x = none → H1 dx = none → dx ≠ x → sp (.ref x :: (vs ++ dvs)) (upd (upd H1 dx (.own x)) x (.ins C dx [])) (fun v H2 => v = .non ∧ Q (.ref x) H2) (E σ) := rfl
theorem u_makeL : tMakeL i C sp dvs E t σ H Q = (σ[i]? = some (some (.ref C)) ∧ tMakeS C sp dvs E t σ H Q) := rfl
theorem u_cmethS : tCMethS C sp E ta t σ H Q = ta σ H fun x H1 => x = .ref C ∧ t σ H1 fun vs H2 => sp (.ref C :: vs) H2 Q (E σ) := rfl
theorem u_methS : tMethS C f sp E ta t σ H Q = ta σ H fun x H1 => ∃ a dx fs, x = .ref a ∧ H1 a = some (.ins C dx fs) ∧ fs.lookup f = none ∧ t σ H1 fun vs H2 => sp (x :: vs) H2 Q (E σ) := rfl
theorem u_ostW : tOstW C f ta tv D σ H = tv σ H fun y H1 => ta σ H1 fun x H2 => ∃ a dx fs, x = .ref a ∧ H2 a = some (.ins C dx fs) ∧ fs.length < 1000 ∧ D.nx σ (upd H2 a (.ins C dx (putF f y fs))) := rfl
theorem f_isC {x : V} {xs : List V} : rIsC C [x, .ref C] H Q = ∃ a dx fs, [x, .ref C] = [.ref a, .ref C] ∧ H a = some (.ins C dx fs) ∧ Q (.bl true) H := rfl
theorem f_minSS {x y : Str} : fMinS [.str x, .str y] H Q = Q (.str (if ltZ y x = true then y else x)) H := rfl
theorem f_maxSS {x y : Str} : fMaxS [.str x, .str y] H Q = Q (.str (if ltZ x y = true then y else x)) H := rfl
theorem f_minSI {x y : Int} : fMinS [.int x, .int y] H Q = Q (.int (if y < x then y else x)) H := rfl
theorem f_maxSI {x y : Int} : fMaxS [.int x, .int y] H Q = Q (.int (if y > x then y else x)) H := rfl
end
theorem swaps2 {elt tg iter tg1 iter1 : Expr} {ifs ifs1 : List Expr} {scope : PySem.Scope} {ps py : Pos} {y : Str} {l : Nat} {env : Env} (h1 : env.scope.kind = .function) (h2 : env.scope.names.lookup y = some .local) (h3 : (py.line == ps.line) = true)
    (h4 : (scope.names.any fun (n, k) => n == y && (k == .local || k == .cell)) = false) : swapsWith (.ListComp elt [⟨tg, iter, ifs, 0⟩, ⟨tg1, iter1, ifs1, 0⟩] scope ps) (some (.Name y py)) l env = pure true := by
  have kinds : env.kindOf y = some .local := h2
  have block : env.blockKind = .function := by
    unfold Env.blockKind
    rw [h1]
    rfl
  unfold swapsWith
  simp only [block, kinds, h4, Expr.pos, h3]
  rfl
end XB

/-! list(zip(a, b)) of two lists or two tuples. -/
namespace XB
open PySem PySem.Spec PyProof.Rows L2
section
variable {prog : Program} {w : World} {A : Around} {E : Value → Shared → Prop} {s : Shared} {z TI TO T i1 i2 : Addr} {fp1 fp2 : List Addr} {n1 n2 i : Nat} {P1 P2 : Nat → Value → Prop} {St1 St2 : Nat → Heap → Prop} {a1 a2 : Value} {f : Bool} {oT : Obj}
theorem zipH_item {Q : Value → Shared → Prop} (S : ZipSep2 z TI TO i1 i2 fp1 fp2) (D1 : Draws prog w A i1 fp1 n1 P1 St1) (D2 : Draws prog w A i2 fp2 n2 P2 St2)
    (hz : IsZipHeld s.heap z TI TO T f) (hT : s.heap.get? T = some oT) (hTI : IsTupOf2 s.heap TI (.ref i1) (.ref i2)) (st1 : St1 i s.heap) (st2 : St2 i s.heap) (hlt1 : i < n1) (hlt2 : i < n2)
    (hQ : ∀ x1 x2 h' tk, P1 i x1 → P2 i x2 → IsZipHeld h' z TI TO T true → St1 (i + 1) h' → St2 (i + 1) h' → IsTupOf2 h' s.heap.objs.size x1 x2 →
      (∀ c o, c ≠ z → c ≠ i1 → c ≠ i2 → s.heap.get? c = some o → h'.get? c = some o) → Q (.ref s.heap.objs.size) { s with heap := h', toks := tk }) :
    wpAny (model prog w) A (Builtin.«zip.__next__» ⟨[.ref z], []⟩) (fun fin s' => ∃ v, fin = .done (.ret v) ∧ Q v s') E s := by
  obtain ⟨hp, g, d, tk0, os⟩ := s
  show wpAny _ _ (field (.ref z) 2 >>= _) _ _ _
  refine wpAny_bind (wpAny_field hz rfl (x := .bool false) rfl ?_)
  show wpAny _ _ (field (.ref z) 3 >>= _) _ _ _
  refine wpAny_bind (wpAny_field hz rfl (x := .ref TI) rfl ?_)
  refine wpAny_bind (wpAny_seqItems hTI rfl ?_)
  show wpAny _ _ (Builtin.SmallTypes.ownedTupleIsFree (.ref z) >>= _) _ _ _
  refine wpAny_bind (wpAny_tupleHeld_zip hz hT fun g0 hz0 hs0 => ?_)
  replace hs0 : Heap.SameBut z hp g0 := hs0
  simp only [Bool.false_eq_true, if_false]
  refine wpAny_bind ?_
  rw [← Array.forIn_toList]
  simp only [List.forIn_cons, List.forIn_nil]
  refine wpAny_bind (wpAny_bind (wpAny_holding ?_))
  show wpAny _ _ (Builtin.SmallTypes.nextOf (.ref i1) >>= _) _ _ ⟨g0, g, d, tk0, os⟩
  refine wpAny_bind (D1.item i _ _ _ hlt1 (D1.over st1 hs0 S.zf1) fun x1 p1 tk1 hx1 sn1 hp1 => wpAny_pure ?_)
  replace hp1 : Heap.SameBut i1 g0 p1 := hp1
  refine wpAny_pure ?_
  refine wpAny_bind (wpAny_bind (wpAny_holding ?_))
  show wpAny _ _ (Builtin.SmallTypes.nextOf (.ref i2) >>= _) _ _ ⟨p1, g, d, tk1, os⟩
  refine wpAny_bind (D2.item i _ _ _ hlt2 (D2.over (D2.over st2 hs0 S.zf2) hp1 S.sep1_2) fun x2 p2 tk2 hx2 sn2 hp2 => wpAny_pure ?_)
  replace hp2 : Heap.SameBut i2 p1 p2 := hp2
  refine wpAny_pure (wpAny_pure ?_)
  show wpAny _ _ (newTuple [x1, x2] >>= _) _ _ ⟨p2, g, d, tk2, os⟩
  refine wpAny_bind (wpAny_newTuple ?_)
  have hsz : p2.objs.size = hp.objs.size := by rw [hp2.1, hp1.1, hs0.1]
  have hz2 : IsZipHeld p2 z TI TO T true := hp2.extBut _ _ S.zi2 (hp1.extBut _ _ S.zi1 hz0)
  have hk : ∀ c o, c ≠ z → c ≠ i1 → c ≠ i2 → hp.get? c = some o → p2.get? c = some o := fun c o c1 c2 c3 e => hp2.extBut _ _ c3 (hp1.extBut _ _ c2 (hs0.extBut _ _ c1 e))
  have hj1 : St1 (i + 1) p2 := D1.over sn1 hp2 S.sep2_1
  refine wpAny_pure ⟨_, rfl, ?_⟩
  show Q (.ref p2.objs.size) _
  have hpp : IsTupOf2 (p2.push { cls := .type "tuple", data := .seq #[x1, x2] }) p2.objs.size x1 x2 := Heap.get?_push_size _ rfl
  rw [hsz] at hpp ⊢
  exact hQ x1 x2 _ tk2 hx1 hx2 (Heap.get?_push_of_some _ hz2) (D1.frame _ _ _ hj1 fun b _ o e => Heap.get?_push_of_some _ e) (D2.frame _ _ _ sn2 fun b _ o e => Heap.get?_push_of_some _ e) hpp fun c o c1 c2 c3 e => Heap.get?_push_of_some _ (hk c o c1 c2 c3 e)
theorem zipH_end {Q : Fin → Shared → Prop} (S : ZipSep2 z TI TO i1 i2 fp1 fp2) (D1 : Draws prog w A i1 fp1 n1 P1 St1) (D2 : Draws prog w A i2 fp2 n2 P2 St2)
    (hz : IsZipHeld s.heap z TI TO T f) (hT : s.heap.get? T = some oT) (hTI : IsTupOf2 s.heap TI (.ref i1) (.ref i2)) (st1 : St1 i s.heap) (st2 : St2 i s.heap) (hle1 : i ≤ n1) (hle2 : i ≤ n2) (hend : i = n1 ∨ i = n2)
    (hE : ∀ h' tk e, (∀ c o, c ≠ z → c ≠ i1 → c ≠ i2 → s.heap.get? c = some o → h'.get? c = some o) → (∃ o, h'.get? e = some o ∧ o.cls = .type "StopIteration") → E (.ref e) { s with heap := h', toks := tk }) :
    wpAny (model prog w) A (Builtin.«zip.__next__» ⟨[.ref z], []⟩) Q E s := by
  obtain ⟨hp, g, d, tk0, os⟩ := s
  show wpAny _ _ (field (.ref z) 2 >>= _) _ _ _
  refine wpAny_bind (wpAny_field hz rfl (x := .bool false) rfl ?_)
  show wpAny _ _ (field (.ref z) 3 >>= _) _ _ _
  refine wpAny_bind (wpAny_field hz rfl (x := .ref TI) rfl ?_)
  refine wpAny_bind (wpAny_seqItems hTI rfl ?_)
  show wpAny _ _ (Builtin.SmallTypes.ownedTupleIsFree (.ref z) >>= _) _ _ _
  refine wpAny_bind (wpAny_tupleHeld_zip hz hT fun g0 hz0 hs0 => ?_)
  replace hs0 : Heap.SameBut z hp g0 := hs0
  simp only [Bool.false_eq_true, if_false]
  refine wpAny_bind ?_
  rw [← Array.forIn_toList]
  simp only [List.forIn_cons, List.forIn_nil]
  refine wpAny_bind (wpAny_bind (wpAny_holding ?_))
  show wpAny _ _ (Builtin.SmallTypes.nextOf (.ref i1) >>= _) _ _ ⟨g0, g, d, tk0, os⟩
  by_cases hlt1 : i < n1
  · refine wpAny_bind (D1.item i _ _ _ hlt1 (D1.over st1 hs0 S.zf1) fun x1 p1 tk1 hx1 sn1 hp1 => wpAny_pure ?_)
    replace hp1 : Heap.SameBut i1 g0 p1 := hp1
    refine wpAny_pure ?_
    have hi2 : i = n2 := by omega
    refine wpAny_bind (wpAny_bind (wpAny_holding ?_))
    show wpAny _ _ (Builtin.SmallTypes.nextOf (.ref i2) >>= _) _ _ ⟨p1, g, d, tk1, os⟩
    refine wpAny_bind (D2.done ⟨p1, g, d, tk1, os⟩ _ _ (by rw [← hi2]; exact D2.over (D2.over st2 hs0 S.zf2) hp1 S.sep1_2) fun q e hq he => ?_)
    exact hE q tk1 e (fun c o cz c1 c2 x => hq _ _ c2 (hp1.extBut _ _ c1 (hs0.extBut _ _ cz x))) he
  · have hi1 : i = n1 := by omega
    refine wpAny_bind (D1.done ⟨g0, g, d, tk0, os⟩ _ _ (by rw [← hi1]; exact D1.over st1 hs0 S.zf1) fun q e hq he => ?_)
    exact hE q tk0 e (fun c o cz c1 c2 x => hq _ _ c1 (hs0.extBut _ _ cz x)) he
theorem next_zipH_item {Q : Option Value → Shared → Prop} (S : ZipSep2 z TI TO i1 i2 fp1 fp2) (D1 : Draws prog w A.in1 i1 fp1 n1 P1 St1) (D2 : Draws prog w A.in1 i2 fp2 n2 P2 St2)
    (hz : IsZipHeld s.heap z TI TO T f) (hT : s.heap.get? T = some oT) (hTI : IsTupOf2 s.heap TI (.ref i1) (.ref i2)) (st1 : St1 i s.heap) (st2 : St2 i s.heap) (hlt1 : i < n1) (hlt2 : i < n2)
    (hQ : ∀ x1 x2 h' tk, P1 i x1 → P2 i x2 → IsZipHeld h' z TI TO T true → St1 (i + 1) h' → St2 (i + 1) h' → IsTupOf2 h' s.heap.objs.size x1 x2 →
      (∀ c o, c ≠ z → c ≠ i1 → c ≠ i2 → s.heap.get? c = some o → h'.get? c = some o) → Q (some (.ref s.heap.objs.size)) { s with heap := h', toks := tk }) :
    wpAny (model prog w) A (pyNext (.ref z)) Q E s := by
  have hTy : s.TypeIs (.ref z) "zip" := ⟨_, hz, rfl⟩
  unfold pyNext
  exact wpAny_bind (wpAny_attempt (wpAny_callSpecial?_slot (name := Str.ofString "__next__") hTy F.slot_zip_next
    (wpAny_call_entry F.slot_zip_next hTy F.entry_zip_next
      (zipH_item S D1 D2 hz hT hTI st1 st2 hlt1 hlt2 fun x1 x2 h' tk y1 y2 b1 d1 d2 b5 b7 => wpAny_pure (hQ x1 x2 h' tk y1 y2 b1 d1 d2 b5 b7)) (F.args_zip_next_1 _))))
theorem next_zipH_end {Q : Option Value → Shared → Prop} (S : ZipSep2 z TI TO i1 i2 fp1 fp2) (D1 : Draws prog w A.in1 i1 fp1 n1 P1 St1) (D2 : Draws prog w A.in1 i2 fp2 n2 P2 St2)
    (hz : IsZipHeld s.heap z TI TO T f) (hT : s.heap.get? T = some oT) (hTI : IsTupOf2 s.heap TI (.ref i1) (.ref i2)) (st1 : St1 i s.heap) (st2 : St2 i s.heap) (hle1 : i ≤ n1) (hle2 : i ≤ n2) (hend : i = n1 ∨ i = n2)
    (hQ : ∀ h' tk, (∀ c o, c ≠ z → c ≠ i1 → c ≠ i2 → s.heap.get? c = some o → h'.get? c = some o) → Q none { s with heap := h', toks := tk }) : wpAny (model prog w) A (pyNext (.ref z)) Q E s := by
  have hTy : s.TypeIs (.ref z) "zip" := ⟨_, hz, rfl⟩
  unfold pyNext
  refine wpAny_bind (wpAny_attempt (wpAny_callSpecial?_slot (name := Str.ofString "__next__") hTy F.slot_zip_next
    (wpAny_call_entry F.slot_zip_next hTy F.entry_zip_next (zipH_end S D1 D2 hz hT hTI st1 st2 hle1 hle2 hend fun h' tk e hk he => ?_) (F.args_zip_next_1 _))))
  obtain ⟨o, ho, hc⟩ := he
  refine wpAny_bind (wpAny_isInstance (T := "StopIteration") (b := true) ⟨o, ho, hc⟩ isSubtype_stop ?_)
  exact wpAny_pure (hQ _ _ hk)
end
/-- the pairs of items of two lists, as far as n -/
def ZipTo (H : Hp) (n : Nat) (us xs ys : List V) : Prop := us.length = n ∧ ∀ (j : Nat) (u x y : V), us[j]? = some u → xs[j]? = some x → ys[j]? = some y → ∃ T, u = .ref T ∧ H T = some (.tup [x, y])
theorem ZipTo.mono {H H' : Hp} {n : Nat} {us xs ys : List V} (h : ZipTo H n us xs ys) (k : ∀ b o, H b = some o → H' b = some o) : ZipTo H' n us xs ys := ⟨h.1, fun j u x y a b c => by
  obtain ⟨T, e, hT⟩ := h.2 j u x y a b c
  exact ⟨T, e, k _ _ hT⟩⟩
section
variable {X : Cx} {pins : List (Addr × PySem.Obj)} {σ : L2.St} {H : Hp} {A1 : Around} {R : Result → Shared → Prop} {z TI TO i1 i2 q : Addr} {fp1 fp2 : List Addr} {P1 P2 : Nat → Value → Prop} {St1 St2 : Nat → Heap → Prop} {xs ys : List V}
def Zst (z TI TO : Addr) (i : Nat) (H : Hp) (h : Heap) : Prop := (i = 0 ∧ IsZip h z TI TO .none ∧ ∃ a b, IsTupOf2 h TO a b) ∨ ∃ T f x y, IsZipHeld h z TI TO T f ∧ H T = some (.tup [x, y])
theorem loop_lz (S : ZipSep2 z TI TO i1 i2 fp1 fp2) (D1 : Draws X.prog X.w A1.in1.in1 i1 fp1 xs.length P1 St1) (D2 : Draws X.prog X.w A1.in1.in1 i2 fp2 ys.length P2 St2) (q1 : q ∉ fp1) (q2 : q ∉ fp2) (qz : q ≠ z) (qI : q ≠ TI) (qO : q ≠ TO)
    (r1 : ∀ i u, P1 i u → ∃ x, xs[i]? = some x ∧ RelV x u) (r2 : ∀ i u, P2 i u → ∃ y, ys[i]? = some y ∧ RelV y u) (hn : xs.length ≤ sizeLine) {B : Nat} (hB : ∀ c ∈ [z, TI, TO, i1, i2, q], c < B)
    (hR : ∀ s' H' ts acc c, Inv X pins σ H' s' → (∀ b o, H b = some o → H' b = some o) → H' q = none → s'.heap.get? q = some { cls := .type "list", data := .seq acc c } → Vals ts acc.toList → ZipTo H' (min xs.length ys.length) ts xs ys → R (.ok (.ret .none)) s') :
    ∀ (k i : Nat) (s : Shared) (H1 : Hp) (acc : Array Value) (c : Nat) (ts : List V), min xs.length ys.length - i = k → i ≤ min xs.length ys.length → Inv X pins σ H1 s → B ≤ s.heap.objs.size → (∀ b o, H b = some o → H1 b = some o) → (∀ c ∈ [z, TI, TO, i1, i2, q], FpOk X pins H1 c) →
      Zst z TI TO i H1 s.heap → IsTupOf2 s.heap TI (.ref i1) (.ref i2) → St1 i s.heap → St2 i s.heap → s.heap.get? q = some { cls := .type "list", data := .seq acc c } → Vals ts acc.toList → ZipTo H1 i ts xs ys →
      codeAny (model X.prog X.w) A1 (.builtin "list.extend.loop" ⟨[.ref q, .ref z, .none], []⟩) R s := by
  intro k
  induction k with
  | zero =>
    intro i s H1 acc c ts hk hi I hbs hs hf hz hTI st1 st2 hq ht hzt
    have hin : i = min xs.length ys.length := by omega
    refine codeAny_builtin F.entry_extend_loop ?_
    rw [Around.under_plainId F.plain_extend_loop _]
    show wpAny _ A1.in1 (pyNext (.ref z) >>= _) _ _ s
    have fin : ∀ (h' : Heap) (tk : Nat), (∀ c o, c ≠ z → c ≠ TO → c ≠ i1 → c ≠ i2 → s.heap.get? c = some o → h'.get? c = some o) → R (.ok (.ret .none)) { s with heap := h', toks := tk } := fun h' tk hk => by
      have I2 : Inv X pins σ H1 { s with heap := h', toks := tk } := I.turnedL (ch := [z, TI, TO, i1, i2, q]) (fun c o hb e => hk c o (fun q' => hb (by simp [q'])) (fun q' => hb (by simp [q'])) (fun q' => hb (by simp [q'])) (fun q' => hb (by simp [q'])) e) hf
      refine hR _ H1 ts acc c I2 hs (hf q (by simp)).1 ?_ ht (by rw [← hin]; exact hzt)
      exact hk q _ qz qO (fun e => q1 (by rw [e]; exact S.mem1)) (fun e => q2 (by rw [e]; exact S.mem2)) hq
    rcases hz with ⟨_, hz, a, b, hTO⟩ | ⟨T, f, x, y, hz, hT⟩
    · refine wpAny_bind (wpAny_pyNext_zipD2_end S D1 D2 hz hTI hTO st1 st2 (by omega) (by omega) (by omega) fun h' tk hk => ?_)
      exact wpAny_pure (fin h' tk hk)
    · obtain ⟨oT, hoT⟩ : ∃ o, s.heap.get? T = some o := by
        obtain ⟨_, its, _, o, ho, _⟩ := I.hok T _ hT
        exact ⟨o, ho⟩
      refine wpAny_bind (next_zipH_end S D1 D2 hz hoT hTI st1 st2 (by omega) (by omega) (by omega) fun h' tk hk => ?_)
      exact wpAny_pure (fin h' tk fun c o c1 _ c2 c3 e => hk c o c1 c2 c3 e)
  | succ k ih =>
    intro i s H1 acc c ts hk0 hi I hbs hs hf hz hTI st1 st2 hq ht hzt
    have hlt : i < min xs.length ys.length := by omega
    refine codeAny_builtin F.entry_extend_loop ?_
    rw [Around.under_plainId F.plain_extend_loop _]
    show wpAny _ A1.in1 (pyNext (.ref z) >>= _) _ _ s
    have q3 : q ≠ i1 := fun e => q1 (by rw [e]; exact S.mem1)
    have q4 : q ≠ i2 := fun e => q2 (by rw [e]; exact S.mem2)
    have nw : H1 s.heap.objs.size = none := I.hok.fresh (Nat.le_refl _)
    have tl : ts.length = acc.size := by rw [← Array.length_toList]; exact ht.length
    have step : ∀ (x1 x2 : Value) (h' : Heap) (tk : Nat) (f : Bool), P1 i x1 → P2 i x2 → IsZipHeld h' z TI TO s.heap.objs.size f ∨ (∃ T x y, IsZipHeld h' z TI TO T true ∧ H1 T = some (.tup [x, y])) → St1 (i + 1) h' → St2 (i + 1) h' → IsTupOf2 h' s.heap.objs.size x1 x2 →
        (∀ c o, c ≠ z → c ≠ TO → c ≠ i1 → c ≠ i2 → s.heap.get? c = some o → h'.get? c = some o) →
        wpAny (model X.prog X.w) A1.in1 (updateSeq q (·.push (.ref s.heap.objs.size)) >>= fun _ => again (.builtin "list.extend.loop" ⟨[.ref q, .ref z, .none], []⟩)) (fun fin s' => match fin with
          | Fin.done f => R (Except.ok f) s'
          | Fin.again c' => c'.quiet = true ∧ codeAny (model X.prog X.w) A1 c' R s') (fun e s' => R (.error e) s') { s with heap := h', toks := tk } := fun x1 x2 h' tk f p1 p2 hz' j1 j2 hT hk => by
      obtain ⟨x, hx, rx⟩ := r1 i x1 p1
      obtain ⟨y, hy, ry⟩ := r2 i x2 p2
      have new : ObjOk X.prog X.w (upd H1 s.heap.objs.size (.tup [x, y])) h' s.heap.objs.size (.tup [x, y]) :=
        ⟨by show 2 ≤ sizeLine; decide, [x1, x2], .cons rx (.cons ry .nil), ⟨_, hT, rfl, _, rfl⟩⟩
      have I1 : Inv X pins σ (upd H1 s.heap.objs.size (.tup [x, y])) { s with heap := h', toks := tk } :=
        I.turnedNew (ch := [z, TI, TO, i1, i2, q]) (fun c o hb e => hk c o (fun q' => hb (by simp [q'])) (fun q' => hb (by simp [q'])) (fun q' => hb (by simp [q'])) (fun q' => hb (by simp [q'])) e) hf (Nat.le_refl _) new
      have hq' := hk q _ qz qO q3 q4 hq
      have hf' : ∀ c ∈ [z, TI, TO, i1, i2, q], FpOk X pins (upd H1 s.heap.objs.size (.tup [x, y])) c := fun c hc => by
        have f := hf c hc
        refine ⟨?_, f.2⟩
        rw [upd_ne (Nat.ne_of_lt (Nat.lt_of_lt_of_le (hB c hc) hbs))]
        exact f.1
      have nsz : ∀ {b o}, H1 b = some o → b ≠ s.heap.objs.size := fun {b o} e z => by rw [z, nw] at e; cases e
      have fq := hf' q (by simp)
      have la : acc.size ≤ sizeLine := by
        have e1 : acc.size = i := by rw [← tl, hzt.1]
        have e2 : i ≤ xs.length := Nat.le_of_lt (Nat.lt_of_lt_of_le hlt (Nat.min_le_left _ _))
        rw [e1]
        exact Nat.le_trans e2 hn
      refine wpAny_bind (wpAny_updateSeq hq' rfl (wpAny_pure ⟨plainId_quiet F.plain_extend_loop _, ih (i + 1) _ (upd H1 s.heap.objs.size (.tup [x, y])) (acc.push (.ref s.heap.objs.size)) _ (ts ++ [.ref s.heap.objs.size]) (by omega) hlt ?_ ?_ ?_ hf' ?_ ?_ ?_ ?_ (Heap.get?_update_self _ hq' rfl) ?_ ?_⟩) la (by rw [Array.size_push]; exact Nat.succ_le_succ la))
      · exact I1.turned (t' := tk) (fun b o hb e => (Heap.get?_update_other _ _ (Ne.symm hb)).trans e) fq.1 fq.2.1 fq.2.2.2.1 fq.2.2.2.2.1 fq.2.2.2.2.2
      · refine Nat.le_trans hbs (Nat.le_of_lt ?_)
        exact Heap.lt_size (Heap.get?_update_other _ _ (Nat.ne_of_lt (Nat.lt_of_lt_of_le (hB q (by simp)) hbs)) |>.trans hT)
      · exact fun b o e => by rw [upd_ne (nsz (hs b o e))]; exact hs b o e
      · rcases hz' with hz' | ⟨T, x0, y0, hz', hT0⟩
        · exact .inr ⟨_, f, x, y, (Heap.get?_update_other _ _ qz).trans hz', upd_same⟩
        · exact .inr ⟨T, true, x0, y0, (Heap.get?_update_other _ _ qz).trans hz', by rw [upd_ne (nsz hT0)]; exact hT0⟩
      · exact (Heap.get?_update_other _ _ qI).trans (hk _ _ S.TIz S.TITO S.TIi1 S.TIi2 hTI)
      · exact D1.frame _ _ _ j1 fun b hb o e => (Heap.get?_update_other _ _ (fun z : q = b => q1 (by rw [z]; exact hb))).trans e
      · exact D2.frame _ _ _ j2 fun b hb o e => (Heap.get?_update_other _ _ (fun z : q = b => q2 (by rw [z]; exact hb))).trans e
      · rw [Array.toList_push]
        exact Paired.snoc ht rfl
      · refine ⟨by rw [List.length_append, hzt.1]; rfl, fun j u x0 y0 h1 h2 h3 => ?_⟩
        rcases Nat.lt_or_ge j i with hj | hj
        · rw [List.getElem?_append_left (by rw [hzt.1]; exact hj)] at h1
          obtain ⟨T, e, hT0⟩ := hzt.2 j u x0 y0 h1 h2 h3
          exact ⟨T, e, by rw [upd_ne (nsz hT0)]; exact hT0⟩
        · have hj2 : j = i := by
            have := (List.getElem?_eq_some_iff.mp h1).1
            rw [List.length_append, hzt.1] at this
            have : j < i + 1 := this
            omega
          subst hj2
          rw [List.getElem?_append_right (by rw [hzt.1]; exact Nat.le_refl _), hzt.1, Nat.sub_self] at h1
          cases h1
          rw [hx] at h2
          rw [hy] at h3
          cases h2
          cases h3
          exact ⟨_, rfl, upd_same⟩
    rcases hz with ⟨i0, hz, a, b, hTO⟩ | ⟨T, f, x, y, hz, hT⟩
    · refine wpAny_bind (wpAny_pyNext_zipD2_item S D1 D2 hz hTI hTO st1 st2 (by omega) (by omega) fun x1 x2 h' tk p1 p2 hz' hTO' j1 j2 hT hsz hk => ?_)
      exact step x1 x2 h' tk false p1 p2 (.inl hz') j1 j2 hT hk
    · obtain ⟨oT, hoT⟩ : ∃ o, s.heap.get? T = some o := by
        obtain ⟨_, its, _, o, ho, _⟩ := I.hok T _ hT
        exact ⟨o, ho⟩
      refine wpAny_bind (next_zipH_item S D1 D2 hz hoT hTI st1 st2 (by omega) (by omega) fun x1 x2 h' tk p1 p2 hz' j1 j2 hT' hk => ?_)
      exact step x1 x2 h' tk true p1 p2 (.inr ⟨T, x, y, hz', hT⟩) j1 j2 hT' fun c o c1 _ c2 c3 e => hk c o c1 c2 c3 e
end
theorem zip_no_len : typeLookup (.type "zip") "__len__" = pure none := by rw [typeLookup_type, builtinLookup_eq_fast]; kernel_rfl
theorem zip_no_hint : typeLookup (.type "zip") "__length_hint__" = pure none := by rw [typeLookup_type, builtinLookup_eq_fast]; kernel_rfl
theorem sep_of {z TI TO i1 i2 a b : Addr} (D : ZipApart z TI TO i1 i2 a b) : ZipSep2 z TI TO i1 i2 [i1, a] [i2, b] where
  TIz := D.TIz
  TOz := D.TOz
  TITO := D.TITO
  TIi1 := D.TIi1
  mem1 := by simp
  zf1 := by simp [D.i1z.symm, D.l1z.symm]
  Tf1 := by simp [D.TOi1, D.l1TO.symm]
  TIi2 := D.TIi2
  mem2 := by simp
  zf2 := by simp [D.i2z.symm, D.l2z.symm]
  Tf2 := by simp [D.TOi2, D.l2TO.symm]
  sep1_2 := by simp [D.i12, D.l2i1.symm]
  sep2_1 := by simp [D.i12.symm, D.l1i2.symm]
/-- list(zip(..)) -/
def tListZip (K : PySem.W.Frag) (ta : TA) : TE := fun σ H Q => ta σ H fun vs H1 => ∃ a b xs ys, vs = [.ref a, .ref b] ∧ ((SqL K H1 a xs ∧ SqL K H1 b ys) ∨ (SqT K H1 a xs ∧ SqT K H1 b ys)) ∧
  ∀ D H2 us, H1 D = none → (∀ b o, H1 b = some o → H2 b = some o) → H2 D = some (.lst us) → ZipTo H2 (min xs.length ys.length) us xs ys → Q (.ref D) H2
section
variable {X : Cx} {pins : List (Addr × PySem.Obj)} {σ : L2.St} {H H0 : Hp} {Q : VK} {z TI TO i1 i2 a b0 : Addr} {P1 P2 : Nat → Value → Prop} {St1 St2 : Nat → Heap → Prop} {xs ys : List V} {s : Shared}
/-- a list that was not looked at is looked at now -/
theorem inv_track {q : Addr} {ts : List V} {acc : Array Value} {c0 : Nat} (I : Inv X pins σ H s) (nq : H q = none) (fq : FpOk X pins H q) (hq : s.heap.get? q = some { cls := .type "list", data := .seq acc c0 }) (hv : Vals ts acc.toList) (le : ts.length ≤ sizeLine) :
    Inv X pins σ (upd H q (.lst ts)) s := by
  have ndq : ∀ {b u}, H b = some u → b ≠ q := fun {b u} e z => by rw [z, nq] at e; cases e
  refine I.step (h' := s.heap) (t' := s.toks) (g' := s.gens) (d' := s.drawn) (ch := [q]) (fun b hb => ?_) (fun b o' _ _ hc e _ => e) (fun b o' _ _ hc e _ => ⟨o'.slots, e⟩) (fun b o' hc e z => ?_)
    (fun b o' hc e => ⟨o', e⟩) (fun b xs e => ?_) (fun b o' u e => ?_) (fun b ps e => ⟨#[], ?_⟩) (fun m hm' => ?_) (fun b u e => ?_) I.bare
  · rw [List.mem_singleton] at hb
    subst hb
    exact ⟨fq.2.2.2.1, fq.2.1, fq.2.2.2.2.1, fq.2.2.2.2.2⟩
  · rw [upd_ne (fun e' => hc (by simp [e']))]
    exact z
  · rw [upd_ne (ndq e)]
    exact e
  · rw [upd_ne (ndq e)]
    exact e
  · rw [upd_ne (ndq e), e]
    simp
  · exact hm'
  · by_cases hb : b = q
    · subst hb
      rw [upd_same] at e
      cases e
      exact ⟨le, acc.toList, c0, hv, by rw [Array.toArray_toList]; exact hq⟩
    · rw [upd_ne hb] at e
      exact (I.hok b u e).stay (fun c v hc z => z) (fun c z => by rw [upd_ne (ndq z)]; exact z) fun c xs z => by rw [upd_ne (ndq z)]; exact z
theorem list_of_zip (hc : X.calm = true) (S : ZipSep2 z TI TO i1 i2 [i1, a] [i2, b0]) (D1 : Draws X.prog X.w X.A.in1.in1.in1 i1 [i1, a] xs.length P1 St1) (D2 : Draws X.prog X.w X.A.in1.in1.in1 i2 [i2, b0] ys.length P2 St2)
    (r1 : ∀ i u, P1 i u → ∃ x, xs[i]? = some x ∧ RelV x u) (r2 : ∀ i u, P2 i u → ∃ y, ys[i]? = some y ∧ RelV y u) (hn : xs.length ≤ sizeLine) (I : Inv X pins σ H s) (hf : ∀ c ∈ [z, TI, TO, i1, i2], FpOk X pins H c) (hlt : ∀ c ∈ [z, TI, TO, i1, i2, a, b0], c < s.heap.objs.size)
    (hz : IsZip s.heap z TI TO .none) (hTI : IsTupOf2 s.heap TI (.ref i1) (.ref i2)) (hTO : ∃ a b, IsTupOf2 s.heap TO a b) (st1 : St1 0 s.heap) (st2 : St2 0 s.heap)
    (q0 : ∀ D H2 us, H D = none → (∀ b o, H b = some o → H2 b = some o) → H2 D = some (.lst us) → ZipTo H2 (min xs.length ys.length) us xs ys → Q (.ref D) H2) :
    wpAny (model X.prog X.w) X.A (call (.type "list") [.ref z]) (EP X pins σ Q) X.xe s := by
  refine callType_codes (Q₁ := fun obj t => obj = .ref s.heap.objs.size ∧ t = { s with heap := s.heap.push { cls := .type "list", data := .seq #[] } }) PySem.F.called_list (PySem.F.typeCall_list_1 _) PySem.F.entry_list_init (code_list_new _ ⟨rfl, rfl⟩) fun obj t ht => ?_
  obtain ⟨rfl, rfl⟩ := ht
  have hS : (s.heap.push { cls := .type "list", data := .seq #[] }).get? s.heap.objs.size = some { cls := .type "list", data := .seq #[] } := Heap.get?_push_size _ rfl
  refine ⟨⟨_, hS, rfl⟩, PySem.F.args_list_init_2 _ _, ?_⟩
  have fr : H s.heap.objs.size = none := I.hok.fresh (Nat.le_refl _)
  show wpAny _ _ (do let old ← Builtin.List.listItems (.ref s.heap.objs.size); Builtin.List.listUpdate (.ref s.heap.objs.size) (fun _ => #[]); letGo old.toList.reverse; Builtin.List.listExtendWith (.ref s.heap.objs.size) (Value.ref z) .none) _ _ _
  refine wpAny_bind ?_
  unfold Builtin.List.listItems
  refine wpAny_bind (wpAny_seqItems hS rfl (wpAny_pure ?_))
  show wpAny _ _ (updateSeq s.heap.objs.size (fun _ => #[]) >>= fun _ => letGo (#[] : Array Value).toList.reverse >>= fun _ => Builtin.List.listExtendWith (.ref s.heap.objs.size) (Value.ref z) .none) _ _ _
  refine wpAny_bind (wpAny_updateSeq hS rfl ?_)
  have hS2 := Heap.get?_update_self (Obj.mapSeq (fun _ => (#[] : Array Value))) hS rfl
  refine wpAny_bind (wpAny_letGo ?_)
  generalize eo : Obj.mapSeq (fun _ => (#[] : Array Value)) { cls := Value.type "list", data := .seq #[] } = o2 at hS2
  have ho2 : ∃ c0, o2 = { cls := .type "list", data := .seq #[] c0 } := by
    subst eo
    exact ⟨_, rfl⟩
  obtain ⟨c0, rfl⟩ := ho2
  generalize eh : (s.heap.push { cls := Value.type "list", data := .seq #[] }).update s.heap.objs.size (Obj.mapSeq (fun _ => (#[] : Array Value))) = h2 at hS2
  have kp : ∀ b u, s.heap.get? b = some u → h2.get? b = some u := fun b u e => by
    subst eh
    exact (Heap.get?_update_other _ _ (Nat.ne_of_gt (Heap.lt_size e))).trans (Heap.get?_push_of_some _ e)
  have I2 : Inv X pins σ H { s with heap := h2, toks := s.toks } := I.kept kp
  have fq : FpOk X pins H s.heap.objs.size := I.fpOk (Nat.le_refl _) fr
  have hne : ∀ c ∈ [z, TI, TO, i1, i2, a, b0], s.heap.objs.size ≠ c := fun c hc => Nat.ne_of_gt (hlt c hc)
  have hTy : ({ s with heap := h2, toks := s.toks } : Shared).TypeIs (.ref z) "zip" := ⟨_, kp _ _ hz, rfl⟩
  have hB : s.heap.objs.size < h2.objs.size := Heap.lt_size hS2
  have hz2 := kp _ _ hz
  have hTI2 := kp _ _ hTI
  obtain ⟨y1, y2, hTO⟩ := hTO
  have hTO2 := kp _ _ hTO
  have st12 := D1.frame 0 _ h2 st1 fun b _ o e => kp b o e
  have st22 := D2.frame 0 _ h2 st2 fun b _ o e => kp b o e
  have hlt2 : ∀ c ∈ [z, TI, TO, i1, i2, s.heap.objs.size], c < h2.objs.size := fun c hc => by
    have e' : c = z ∨ c = TI ∨ c = TO ∨ c = i1 ∨ c = i2 ∨ c = s.heap.objs.size := by simpa using hc
    rcases e' with e | e | e | e | e | e
    · exact Nat.lt_trans (hlt c (by simp [e])) hB
    · exact Nat.lt_trans (hlt c (by simp [e])) hB
    · exact Nat.lt_trans (hlt c (by simp [e])) hB
    · exact Nat.lt_trans (hlt c (by simp [e])) hB
    · exact Nat.lt_trans (hlt c (by simp [e])) hB
    · rw [e]; exact hB
  have hf2 : ∀ c ∈ [z, TI, TO, i1, i2, s.heap.objs.size], FpOk X pins H c := fun c hc => by
    have e' : c = z ∨ c = TI ∨ c = TO ∨ c = i1 ∨ c = i2 ∨ c = s.heap.objs.size := by simpa using hc
    rcases e' with e | e | e | e | e | e
    · exact hf c (by simp [e])
    · exact hf c (by simp [e])
    · exact hf c (by simp [e])
    · exact hf c (by simp [e])
    · exact hf c (by simp [e])
    · rw [e]; exact fq
  clear hS
  generalize s.heap.objs.size = q at *
  unfold Builtin.List.listExtendWith
  refine wpAny_bind (wpAny_typeOf hTy ?_)
  have h1 : Builtin.List.listSameRef (.ref q) (.ref z) = false := by simp [Builtin.List.listSameRef, hne z (by simp)]
  have h2' : (Value.type "zip" == Value.type "list") = false := by decide
  have h3 : (Value.type "zip" == Value.type "tuple") = false := by decide
  simp only [h1, h2', h3, Bool.or_false, Bool.false_eq_true, if_false]
  refine wpAny_bind (wpAny_pyIter_zip hz2 ?_)
  refine wpAny_bind (wpAny_holding ?_)
  unfold Builtin.List.listLengthHint
  refine wpAny_bind (wpAny_specialOf hTy zip_no_len ?_)
  show wpAny _ _ (specialOf (Value.ref z) (Str.ofString "__length_hint__") >>= _) _ _ _
  refine wpAny_bind (wpAny_specialOf hTy zip_no_hint ?_)
  refine wpAny_pure ?_
  show wpAny _ _ (rule "list.extend.makes-room" >>= fun _ => Builtin.List.listTouch (.ref q) >>= fun _ => again (.builtin "list.extend.loop" ⟨[.ref q, .ref z, .none], []⟩)) _ _ _
  refine wpAny_bind (wpAny_rule ?_)
  refine wpAny_bind ?_
  show wpAny _ _ (updateSeq q (·.push .none) >>= fun _ => updateSeq q (·.pop)) _ _ _
  refine wpAny_bind (wpAny_updateSeq hS2 rfl ?_)
  have hq3 := Heap.get?_update_self (Obj.mapSeq (·.push Value.none)) hS2 rfl
  refine wpAny_updateSeq (hz := by seq_fits) hq3 rfl ?_
  have hq4 := Heap.get?_update_self (Obj.mapSeq (·.pop)) hq3 rfl
  have oth : ∀ b o, b ≠ q → h2.get? b = some o → ((h2.update q (Obj.mapSeq (·.push Value.none))).update q (Obj.mapSeq (·.pop))).get? b = some o :=
    fun b o hb e => (Heap.get?_update_other _ _ (Ne.symm hb)).trans ((Heap.get?_update_other _ _ (Ne.symm hb)).trans e)
  have I4 : Inv X pins σ H { s with heap := (h2.update q (Obj.mapSeq (·.push Value.none))).update q (Obj.mapSeq (·.pop)), toks := s.toks } := I2.turned (t' := s.toks) oth fq.1 fq.2.1 fq.2.2.2.1 fq.2.2.2.2.1 fq.2.2.2.2.2
  refine wpAny_pure ⟨plainId_quiet PySem.F.plain_extend_loop _, ?_⟩
  have n1 := hne i1 (by simp)
  have n2 := hne i2 (by simp)
  have n3 := hne a (by simp)
  have n4 := hne b0 (by simp)
  have nz := hne z (by simp)
  have nI := hne TI (by simp)
  have nO := hne TO (by simp)
  refine loop_lz (H := H) (A1 := X.A.in1) S D1 D2 (by simp [n1, n3]) (by simp [n2, n4]) nz nI nO r1 r2 hn hlt2 (fun s' H' ts acc c I' k nq hq' hv hzt => ?_) _ 0 _ H #[] _ [] rfl (Nat.zero_le _) I4 ?_ (fun _ _ e => e) hf2 (.inl ⟨rfl, oth _ _ nz.symm hz2, y1, y2, oth _ _ nO.symm hTO2⟩)
    (oth _ _ nI.symm hTI2) (D1.frame 0 _ _ st12 fun b hb o e => oth b o (fun z => ?_) e) (D2.frame 0 _ _ st22 fun b hb o e => oth b o (fun z => ?_) e) hq4 .nil ⟨rfl, fun j u x y h => by simp at h⟩
  · have fq' : FpOk X pins H' q := ⟨nq, fq.2⟩
    have I5 := inv_track I' nq fq' hq' hv (by rw [hzt.1]; exact Nat.le_trans (Nat.min_le_left _ _) hn)
    refine ⟨rfl, .ref q, _, I5, rfl, q0 q _ ts fq.1 (fun b o e => ?_) upd_same (hzt.mono fun b o e => ?_)⟩
    · rw [upd_ne (fun z => by rw [z, fq.1] at e; cases e)]
      exact k b o e
    · rw [upd_ne (fun z => by rw [z, nq] at e; cases e)]
      exact e
  · show h2.objs.size ≤ ((h2.update q _).update q _).objs.size
    rw [Heap.size_update, Heap.size_update]
    exact Nat.le_refl _
  · have e' : b = i1 ∨ b = a := by simpa using hb
    rcases e' with e | e
    · exact n1 (by rw [← z, e])
    · exact n3 (by rw [← z, e])
  · have e' : b = i2 ∨ b = b0 := by simpa using hb
    rcases e' with e | e
    · exact n2 (by rw [← z, e])
    · exact n4 (by rw [← z, e])
theorem vals_back : ∀ {xs : List V} {us : List Value} {i : Nat} {u : Value}, Vals xs us → us.toArray[i]? = some u → ∃ x, xs[i]? = some x ∧ RelV x u
  | _, _, _, _, .nil, e => by simp at e
  | _, _, 0, _, .cons r _, e => by simp at e; subst e; exact ⟨_, rfl, r⟩
  | _, _, i + 1, u, .cons _ t, e => by
    obtain ⟨x, h1, h2⟩ := vals_back (i := i) (u := u) t (by simpa using e)
    exact ⟨x, by simpa using h1, h2⟩
theorem pe_listZip {X : Cx} {e e2 : Expr} {ta : TA} {p p2 pos zpos : Pos} (hgl : Gl X "list") (hml : X.mg "list" = none) (hg : Gl X "zip") (hm : X.mg "zip" = none) (ha : PA X [e, e2] ta) (hc : X.calm = true := by rfl)
    (hs : starEach [e, e2] X.env = (false, eval e X.env) :: starEach [e2] X.env := by rfl) (hpl : (backTo zpos (starEach [e2] X.env)).any (·.1) = false := by rfl)
    (hs1 : starEach [.Call (.Name "zip" p2) [e, e2] [] zpos] X.env = (false, eval (.Call (.Name "zip" p2) [e, e2] [] zpos) X.env) :: starEach [] X.env := by rfl) (hpl1 : (backTo pos (starEach [] X.env)).any (·.1) = false := by rfl) :
    PE X (.Call (.Name "list" p) [.Call (.Name "zip" p2) [e, e2] [] zpos] [] pos) (tListZip X.K ta) := by
  refine ⟨fun pins s σ H Q I h => ?_⟩
  refine wpAny_Call_Name_kw (ld_blt I hgl hml (show bootBuiltins ("list" : Str) = some (.type "list") by decide +kernel) ?_)
  refine PyProof.Rows.callWith_type1 (PyProof.Rows.spliced_more ?_ hs1) hs1 hpl1
  refine Call_ (ld_blt I hg hm PyProof.Rows.boot_zip (PyProof.Rows.callWith_type1 (thn (ha.run zpos pins s σ H _ I h) fun us s1 ⟨vs, H1, I1, r1, q1⟩ => ?_) hs hpl))
  obtain ⟨a, b, xs, ys, ex, q1, q⟩ := q1
  subst ex
  cases r1 with
  | cons r rr =>
    cases rr with
    | cons r' rr =>
      cases rr
      cases r
      cases r'
      have fresh5 : ∀ c, c ∈ [s1.heap.objs.size + 4, s1.heap.objs.size + 2, s1.heap.objs.size + 3, s1.heap.objs.size, s1.heap.objs.size + 1] → FpOk X pins H1 c := fun c hcm => by
        have e' : c = s1.heap.objs.size + 4 ∨ c = s1.heap.objs.size + 2 ∨ c = s1.heap.objs.size + 3 ∨ c = s1.heap.objs.size ∨ c = s1.heap.objs.size + 1 := by simpa using hcm
        have hle : s1.heap.objs.size ≤ c := by
          rcases e' with z | z | z | z | z
          · rw [z]; exact Nat.le_add_right _ _
          · rw [z]; exact Nat.le_add_right _ _
          · rw [z]; exact Nat.le_add_right _ _
          · rw [z]; exact Nat.le_refl _
          · rw [z]; exact Nat.le_add_right _ _
        exact I1.fpOk hle (I1.hok.fresh hle)
      have lts : ∀ (h' : Heap), h'.objs.size = s1.heap.objs.size + 5 → a < s1.heap.objs.size → b < s1.heap.objs.size → ∀ c ∈ [s1.heap.objs.size + 4, s1.heap.objs.size + 2, s1.heap.objs.size + 3, s1.heap.objs.size, s1.heap.objs.size + 1, a, b], c < h'.objs.size := fun h' e la lb c hcm => by
        have e' : c = s1.heap.objs.size + 4 ∨ c = s1.heap.objs.size + 2 ∨ c = s1.heap.objs.size + 3 ∨ c = s1.heap.objs.size ∨ c = s1.heap.objs.size + 1 ∨ c = a ∨ c = b := by simpa using hcm
        rw [e]
        generalize s1.heap.objs.size = m at *
        rcases e' with z | z | z | z | z | z | z
        · rw [z]; exact Nat.lt_succ_self _
        · rw [z]; exact Nat.add_lt_add_left (by decide) _
        · rw [z]; exact Nat.add_lt_add_left (by decide) _
        · rw [z]; exact Nat.lt_add_of_pos_right (by decide)
        · rw [z]; exact Nat.add_lt_add_left (by decide) _
        · rw [z]; exact Nat.lt_of_lt_of_le la (Nat.le_add_right _ _)
        · rw [z]; exact Nat.lt_of_lt_of_le lb (Nat.le_add_right _ _)
      have hh : X.A.in1.in1.in1.handled = none := I1.ok.hd hc
      rcases q1 with ⟨hqx, hqy⟩ | ⟨hqx, hqy⟩
      · obtain ⟨its, rv, p1, lx⟩ := I1.list hqx
        obtain ⟨its2, rv2, p2, _⟩ := I1.list hqy
        refine call_zip_2 p1.isList p2.isList fun h' hz hTI hTO h1 h2 hsz hk => ?_
        have I2 : Inv X pins σ H1 { s1 with heap := h' } := I1.kept (t' := s1.toks) hk
        have D := PySem.W.ktu_apart s1.heap.objs.size a b p1.lt p2.lt
        have D1 := Draws.list (prog := X.prog) (w := X.w) hh s1.heap.objs.size a D.l1i1 its.toArray
        have D2 := Draws.list (prog := X.prog) (w := X.w) hh (s1.heap.objs.size + 1) b D.l2i2 its2.toArray
        have e1 : its.toArray.size = xs.length := by simp [rv.length]
        have e2 : its2.toArray.size = ys.length := by simp [rv2.length]
        rw [e1] at D1
        rw [e2] at D2
        refine PyProof.Rows.spliced_none ?_
        exact list_of_zip hc (sep_of D) D1 D2 (fun i u e => vals_back rv e) (fun i u e => vals_back rv2 e) lx I2 fresh5 (lts h' hsz p1.lt p2.lt) hz hTI ⟨_, _, hTO⟩ ⟨h1, (p1.isList).at fun o e => hk _ _ e⟩ ⟨h2, (p2.isList).at fun o e => hk _ _ e⟩ q
      · obtain ⟨its, rv, p1, lx⟩ := I1.tuple hqx
        obtain ⟨its2, rv2, p2, _⟩ := I1.tuple hqy
        obtain ⟨o1, ho1, _⟩ := id p1
        obtain ⟨o2, ho2, _⟩ := id p2
        have la := Heap.lt_size ho1
        have lb := Heap.lt_size ho2
        have t1 : s1.heap.IsTuple a its.toArray := p1
        have t2 : s1.heap.IsTuple b its2.toArray := p2
        refine RZ.call_zipT t1 t2 fun h' hz hTI hTO h1 h2 hsz hk => ?_
        have I2 : Inv X pins σ H1 { s1 with heap := h' } := I1.kept (t' := s1.toks) hk
        have D := PySem.W.ktu_apart s1.heap.objs.size a b la lb
        have D1 := Draws.tuple (prog := X.prog) (w := X.w) hh s1.heap.objs.size a D.l1i1 its.toArray
        have D2 := Draws.tuple (prog := X.prog) (w := X.w) hh (s1.heap.objs.size + 1) b D.l2i2 its2.toArray
        have e1 : its.toArray.size = xs.length := by simp [rv.length]
        have e2 : its2.toArray.size = ys.length := by simp [rv2.length]
        rw [e1] at D1
        rw [e2] at D2
        refine PyProof.Rows.spliced_none ?_
        exact list_of_zip hc (sep_of D) D1 D2 (fun i u e => vals_back rv e) (fun i u e => vals_back rv2 e) lx I2 fresh5 (lts h' hsz la lb) hz hTI ⟨_, _, hTO⟩ ⟨h1, t1.at fun o e => hk _ _ e⟩ ⟨h2, t2.at fun o e => hk _ _ e⟩ q
end
end XB

/-! A dict made by a walk and named at once. -/
namespace XB
open PySem PySem.Spec PyProof.Rows L2
theorem sw_dict {kx vx : Expr} {gs : List Comprehension} {sc : Scope} {ps py : Pos} {y : Str} {l : Nat} {env : Env} (h1 : env.scope.kind = .function) (h2 : env.scope.names.lookup y = some .local) (h3 : (py.line == ps.line) = true)
    (h4 : (sc.names.any fun (n, k) => n == y && (k == .local || k == .cell)) = false) : swapsWith (.DictComp kx vx gs sc ps) (some (.Name y py)) l env = pure true := by
  have kinds : env.kindOf y = some .local := h2
  have block : env.blockKind = .function := by
    unfold Env.blockKind
    rw [h1]
    rfl
  unfold swapsWith
  simp only [block, kinds, h4, Expr.pos, h3]
  rfl
section
variable {X : Cx}
/-- in each block of names -/
abbrev InBlk (X : Cx) (scope : Scope) (P : Cx → Prop) : Prop := ∀ (s : Shared) (H : Hp) (C : Addr) (cl : List (Str × Addr)) (fp : List Addr), P (X.blk s H scope (compEnvC scope cl C X.env) fp)
theorem set_dict {n : Nat} {y : Str} {p1 p2 p3 : Pos} {kx vx tg iter : Expr} {ifs : List Expr} {scope : Scope} {own : List (Str × Nat)} {wi : TI} {g : TG} {tt : TT} {tk tv : TE} (calm : X.calm = true) (nd : X.N.Nodup) (hn : X.N[n]? = some y) (loc : X.env.scope.names.lookup y = some .local)
    (sw : swapsWith (.DictComp kx vx [⟨tg, iter, ifs, 0⟩] scope p1) (some (.Name y p2)) p3.line X.env = pure true) (pi_ : PI X tg iter wi) (blk : BlkOk X.N X.env.scope scope own)
    (pg_ : InBlk X scope fun Y => PG Y tg g) (pt_ : InBlk X scope fun Y => PTs Y ifs tt) (pk_ : InBlk X scope fun Y => PE Y kx tk) (pv_ : InBlk X scope fun Y => PE Y vx tv) (fs : ∀ x, foldedSetIterable iter X.env x = pure x := by intro _; rfl) :
    PS X (.Assign [.Name y p2] (.DictComp kx vx [⟨tg, iter, ifs, 0⟩] scope p1) p3) (tAsg (tDc wi g tt tk tv (own.map (·.2))) (gName n)) := by
  refine ⟨fun pins s σ H D I h0 => ?_⟩
  rw [exec_Assign_Name_used y p2 (.DictComp kx vx [⟨tg, iter, ifs, 0⟩] scope p1) p3 sw]
  refine wpAny_bind (wpAny_standAt ?_)
  refine wpAny_bind ?_
  show wpAny _ X.A (do let _ ← comprehension (.DictComp kx vx [⟨tg, iter, ifs, 0⟩] scope p1) scope X.env (firstIterPos [⟨tg, iter, ifs, 0⟩] p1) newDict false (eval iter X.env) (some (assign (.Name y p2) X.env))) _ _ s
  have k0 : tDc wi g tt tk tv (own.map (·.2)) σ H (fun z H1 => gName n z σ H1 D.nx) := h0
  refine wpAny_bind (thn (dc_core (Qf := fun _ z => SP X pins D .next z) calm nd I pi_ blk pg_ pt_ pk_ pv_ fs k0 fun L C z m H1 J q ns fp => ?_) fun _ z hz => wpAny_pure (wpAny_pure hz))
  show wpAny _ _ (assign (.Name y p2) X.env (.ref L)) _ _ _
  obtain ⟨g0, g1, g2, g3, g4, g5⟩ := fp
  refine wpAny_assign_Name (store_ok2 (v := V.ref L) J nd hn (.inl loc) rfl (fun z2 J2 ⟨a, sb, ha⟩ => ?_) (.inr loc))
  have apart : C ≠ a := by
    rcases ha with e | e
    · rw [e]; exact g1
    · exact fun c => g4 y a e c.symm
  exact ⟨m, ns.sameBut sb apart, fun h3 sb3 => ⟨_, H1, J2.turned (t' := z2.toks) (fun b o hb e => (sb3.2 b hb).trans e) g0 g1 g3 g4 g5, q⟩⟩
end
theorem u65 {k : Nat} {A : Around} (r : Room k A) : A.units + 65 < cLine := by have := r.un; omega
theorem lt_none {n : Nat} (h : n + 64 < cLine) : n < cLine := by omega
theorem pass_no {X : Cx} {σ : L2.St} : PassesAt (L2N.CX X.prog X.w) X σ E0 := fun _ _ _ _ _ _ c => by
  obtain ⟨_, _, _, _, _, _, _, _, _, _, _, _, h⟩ := c
  exact h.elim
section
variable {K : PySem.W.Frag} {x qual : Str} {st : Stmt} {f T : Addr} {oc : Value} {od an : Option Addr} {osl : Array (Option Value)} {kV doc pm cdv ct : Value} {oT : PySem.Obj} {eT : Addr} {nT : Nat}
theorem fund_mk (l : K.lookup f = some ⟨oc, od, .func (PySem.W.fnOf x qual (defArgs st) (defBody st) (defScope st) (.ref T) kV doc pm an cdv ct), osl⟩) (lT : K.lookup T = some oT) (hT : oT.data = .seq #[.ref eT] nT)
    (c : PySem.W.codeIn K cdv qual = true) (k : PySem.W.keepIn K (.ref f) = true) : FunD K x qual (defArgs st) (defBody st) (defScope st) [.ref eT] [] f (PySem.W.fnOf x qual (defArgs st) (defBody st) (defScope st) (.ref T) kV doc pm an cdv ct) :=
  ⟨⟨oc, od, .ref T, kV, doc, pm, an, cdv, ct, osl, rfl, l, c, .inr ⟨by simp, T, oT, [.ref eT], nT, rfl, lT, hT, .cons rfl .nil⟩, .inl rfl⟩, k⟩
theorem fund_mk0 (l : K.lookup f = some ⟨oc, od, .func (PySem.W.fnOf x qual (defArgs st) (defBody st) (defScope st) .none kV doc pm an cdv ct), osl⟩)
    (c : PySem.W.codeIn K cdv qual = true) (k : PySem.W.keepIn K (.ref f) = true) : FunD K x qual (defArgs st) (defBody st) (defScope st) [] [] f (PySem.W.fnOf x qual (defArgs st) (defBody st) (defScope st) .none kV doc pm an cdv ct) :=
  ⟨⟨oc, od, .none, kV, doc, pm, an, cdv, ct, osl, rfl, l, c, .inl ⟨rfl, rfl⟩, .inl rfl⟩, k⟩
/-- all arguments are written: the one default is not looked at -/
theorem fund_bi {params : Arguments} {body : List Stmt} {scope : Scope} {v : V} {fd : FuncData} {ps : List Str} (F : FunD K x qual params body scope [v] [] f fd) {n : Nat} (hn : n = ps.length)
    (h : ∀ (T : Addr) (kV doc pm : Value) (an : Option Addr) (cdv ct : Value) (us its : List Value), us.length = ps.length → its.length = 1 →
      ∃ k, bindArgs (PySem.W.fnOf x qual params body scope (.ref T) kV doc pm an cdv ct) ⟨us, []⟩ = seqItems? (.ref T) >>= k ∧ k (some its.toArray) = pure (ps.zip us)) : Binds K fd ps [] := by
  obtain ⟨ds, hv, b⟩ := F.binds1 (ps := ps) ps.length 1 (by simp) (by simp) fun T kV doc pm an cdv ct us its hl hi => by
    obtain ⟨k, e1, e2⟩ := h T kV doc pm an cdv ct us its hl hi
    refine ⟨k, e1, ?_⟩
    rw [e2, List.drop_of_length_le (by rw [hi]; exact Nat.le_refl _), List.append_nil]
  cases hv
  exact b
end
end XB

/-! The helpers that draw. -/
namespace XB
open PySem L2
theorem upd_ne' {H : Hp} {a b : Addr} {o : HO} (h : a ≠ b) : upd H a o b = H b := upd_ne (Ne.symm h)
local macro_rules | `(tactic| walk_at "s") => `(tactic| try simp only [u_var, u_c, u_op, u_un, u_nil, u_cons, u_cb, u_call, u_callS, u_tup, u_lst, u_test, u_B, u_and, u_or, u_not, u_andV, u_orV, u_notV, u_ifE, u_chain, u_sl, u_noPart, u_part, u_bm, u_bm0, u_rev, u_lc, u_try, u_sui, u_sui0, u_unb_rt, u_unb_nx, u_xf, u_WE, w_nil, w_cons, u_raise, u_rng1, u_rng2, u_next, u_ret, u_gname, u_gnil, u_gcons, u_gsub, u_gtup,
  f_add, f_addS, f_addR, f_sub, f_mul, f_mulR, f_mod, f_div, f_pow, f_neg, f_cmp, f_eq, f_eqB, f_eqS, f_ne, f_neB, f_neS, f_isN, f_notN, f_isB, f_ix, f_ixS, f_int, f_intB, f_len, f_lenS, f_max, f_min, f_abs, f_list, f_tuple, f_all, f_sum, f_isi, f_isiT, f_append, f_insert, f_pop, f_sl, f_set, u_fldW, u_propW, u_makeS, u_makeL, u_cmethS, u_methS, u_ostW, f_isC, f_minSS, f_maxSS, f_reverse,
  kitS, tys, List.isEmpty_cons, Option.map_some, kt_NoneType_int, kt_NoneType_bool, kt_NoneType_str, kt_NoneType_list, kt_NoneType_tuple, kt_NoneType_dict, kt_int_int, kt_int_bool, kt_int_str, kt_int_list, kt_int_tuple, kt_int_dict, kt_bool_int, kt_bool_bool, kt_bool_str, kt_bool_list, kt_bool_tuple, kt_bool_dict, kt_str_int, kt_str_bool, kt_str_str, kt_str_list, kt_str_tuple, kt_str_dict, kt_list_int, kt_list_bool, kt_list_str, kt_list_list, kt_list_tuple, kt_list_dict, kt_tuple_int, kt_tuple_bool, kt_tuple_str, kt_tuple_list, kt_tuple_tuple, kt_tuple_dict, kt_dict_int, kt_dict_bool, kt_dict_str, kt_dict_list, kt_dict_tuple, kt_dict_dict, asL_lst, asL_frz, asL_tup, asT_tup, asS_lst, asS_frz, asS_tup, tyN_non, tyN_bl, tyN_int, tyN_str, atV_lit, ixN_lit, upd_same, upd_ne, upd_ne',
  List.getElem?_cons_zero, List.getElem?_cons_succ, List.set_cons_zero, List.set_cons_succ, List.append_nil, List.length_cons, List.length_nil, Option.some.injEq, exists_eq_left', exists_eq_left, exists_and_left, V.bl.injEq, V.int.injEq, V.str.injEq, V.ref.injEq, Bool.not_eq_true, Bool.not_true, Bool.not_false, decide_true, decide_false, decide_eq_true_eq, decide_eq_false_iff_not, Bool.false_eq_true, if_true, if_false, ite_true, ite_false, reduceCtorEq, true_and, and_true, Nat.reduceAdd, Nat.reduceLT, Nat.zero_add, ne_eq, not_false_eq_true, not_true_eq_false, List.cons.injEq, and_assoc])
local macro_rules | `(tactic| walk_at "S") => `(tactic| try simp only [u_var, u_c, u_op, u_un, u_nil, u_cons, u_cb, u_call, u_callS, u_tup, u_lst, u_test, u_B, u_and, u_or, u_not, u_andV, u_orV, u_notV, u_ifE, u_chain, u_sl, u_noPart, u_part, u_bm, u_bm0, u_rev, u_lc, u_try, u_sui, u_sui0, u_unb_rt, u_unb_nx, u_xf, u_WE, w_nil, w_cons, u_raise, u_rng1, u_rng2, u_next, u_ret, u_gname, u_gnil, u_gcons, u_gsub, u_gtup,
  f_add, f_addS, f_addR, f_sub, f_mul, f_mulR, f_mod, f_div, f_pow, f_neg, f_cmp, f_eq, f_eqB, f_eqS, f_ne, f_neB, f_neS, f_isN, f_notN, f_isB, f_ix, f_ixS, f_int, f_intB, f_len, f_lenS, f_max, f_min, f_abs, f_list, f_tuple, f_all, f_sum, f_isi, f_isiT, f_append, f_insert, f_pop, f_sl, f_set, u_fldW, u_propW, u_makeS, u_makeL, u_cmethS, u_methS, u_ostW, f_isC, f_minSS, f_maxSS, f_reverse,
  kitS, tys, List.isEmpty_cons, Option.map_some, kt_NoneType_int, kt_NoneType_bool, kt_NoneType_str, kt_NoneType_list, kt_NoneType_tuple, kt_NoneType_dict, kt_int_int, kt_int_bool, kt_int_str, kt_int_list, kt_int_tuple, kt_int_dict, kt_bool_int, kt_bool_bool, kt_bool_str, kt_bool_list, kt_bool_tuple, kt_bool_dict, kt_str_int, kt_str_bool, kt_str_str, kt_str_list, kt_str_tuple, kt_str_dict, kt_list_int, kt_list_bool, kt_list_str, kt_list_list, kt_list_tuple, kt_list_dict, kt_tuple_int, kt_tuple_bool, kt_tuple_str, kt_tuple_list, kt_tuple_tuple, kt_tuple_dict, kt_dict_int, kt_dict_bool, kt_dict_str, kt_dict_list, kt_dict_tuple, kt_dict_dict, asL_lst, asL_frz, asL_tup, asT_tup, asS_lst, asS_frz, asS_tup, tyN_non, tyN_bl, tyN_int, tyN_str, atV_lit, ixN_lit, upd_same, upd_ne, upd_ne',
  List.getElem?_cons_zero, List.getElem?_cons_succ, List.set_cons_zero, List.set_cons_succ, List.append_nil, List.length_cons, List.length_nil, Option.some.injEq, exists_eq_left', exists_eq_left, exists_and_left, V.bl.injEq, V.int.injEq, V.str.injEq, V.ref.injEq, Bool.not_eq_true, Bool.not_true, Bool.not_false, decide_true, decide_false, decide_eq_true_eq, decide_eq_false_iff_not, Bool.false_eq_true, if_true, if_false, ite_true, ite_false, reduceCtorEq, true_and, and_true, Nat.reduceAdd, Nat.reduceLT, Nat.zero_add, ne_eq, not_false_eq_true, not_true_eq_false, List.cons.injEq, and_assoc, *])
/-- all that stood stands, but for what stood at st; and st goes on with the numbers that it had -/
def Kp (st : Addr) (H H' : Hp) : Prop := (∀ a o, a ≠ st → H a = some o → H' a = some o) ∧ ∀ c r, H st = some (.lst (c :: r)) → ∃ r', H' st = some (.lst (c :: r'))
theorem Kp.refl (st : Addr) (H : Hp) : Kp st H H := ⟨fun _ _ _ h => h, fun _ r h => ⟨r, h⟩⟩
theorem Kp.trans {st : Addr} {H H1 H2 : Hp} (a : Kp st H H1) (b : Kp st H1 H2) : Kp st H H2 := ⟨fun x o n h => b.1 x o n (a.1 x o n h), fun c r h => by
  obtain ⟨r1, h1⟩ := a.2 c r h
  exact b.2 c r1 h1⟩
theorem Kp.put {st : Addr} {H H1 : Hp} {x : V} {r r' : List V} (a : Kp st H H1) (e : H1 st = some (.lst (x :: r))) : Kp st H (upd H1 st (.lst (x :: r'))) := ⟨fun x u n h => by
  rw [upd_ne n]
  exact a.1 x u n h, fun c z h => by
  obtain ⟨r1, h1⟩ := a.2 c z h
  rw [e] at h1
  cases h1
  exact ⟨r', upd_same⟩⟩
theorem Kp.new {st p : Addr} {H H1 : Hp} {o : HO} (a : Kp st H H1) (h : H1 p = none) : Kp st H (upd H1 p o) := ⟨fun x u n e => by
  rw [upd_ne (ne_of_none (a.1 x u n e) h)]
  exact a.1 x u n e, fun c z e => by
  obtain ⟨r1, h1⟩ := a.2 c z e
  exact ⟨r1, by rw [upd_ne (ne_of_none h1 h)]; exact h1⟩⟩
/-- the store of the draws: the script's numbers, the place, what is left of a great one, the count, the seed -/
def StL (H : Hp) (st c : Addr) (ns : List Int) (a b d e : Int) : Prop :=
  H st = some (.lst [.ref c, .int a, .int b, .int d, .int e]) ∧ H c = some (.lst (ns.map V.int)) ∧ c ≠ st ∧ 0 ≤ a ∧ ns.length ≤ 1000
def StAt (H : Hp) (st : Addr) : Prop := ∃ (c : Addr) (ns : List Int) (a b d e : Int), StL H st c ns a b d e
theorem StAt.new {H : Hp} {st p : Addr} {o : HO} (s : StAt H st) (h : H p = none) : StAt (upd H p o) st := by
  obtain ⟨c, ns, a, b, d, e, h1, h2, h3, h4, h5⟩ := s
  exact ⟨c, ns, a, b, d, e, by rw [upd_ne (ne_of_none h1 h)]; exact h1, by rw [upd_ne (ne_of_none h2 h)]; exact h2, h3, h4, h5⟩
theorem Kp.asS {st p : Addr} {H H' : Hp} {xs : List V} (k : Kp st H H') (n : p ≠ st) (h : XB.asS (H p) = some xs) : XB.asS (H' p) = some xs := by
  cases e : H p with
  | none => rw [e] at h; cases h
  | some o => rw [k.1 p o n e, ← e]; exact h
theorem Kp.asL {st p : Addr} {H H' : Hp} {xs : List V} (k : Kp st H H') (n : p ≠ st) (h : XB.asL (H p) = some xs) : XB.asL (H' p) = some xs := by
  cases e : H p with
  | none => rw [e] at h; cases h
  | some o => rw [k.1 p o n e, ← e]; exact h
theorem StAt.sm {H H' : Hp} {st : Addr} (s : StAt H st) (k : Sm H H') : StAt H' st := by
  obtain ⟨c, ns, a, b, d, e, h1, h2, h3, h4, h5⟩ := s
  exact ⟨c, ns, a, b, d, e, k _ _ h1, k _ _ h2, h3, h4, h5⟩
theorem StAt.ne {H : Hp} {st p : Addr} (s : StAt H st) (h : H p = none) : p ≠ st := by
  obtain ⟨c, ns, a, b, d, e, h1, _⟩ := s
  exact (ne_of_none h1 h).symm
theorem kp_sm {H H' : Hp} {st : Addr} (k : Sm H H') : Kp st H H' := ⟨fun a o _ h => k a o h, fun c r h => ⟨r, k _ _ h⟩⟩
structure CA where
  (CrossError BadShape Repeated UnknownTown SameTown Web : Addr)
theorem below {base many : Int} (h : 0 < base) (hb : base = many ∨ base = 1) (x : Int) : x % base < many ∨ x % base = 0 := by
  have h1 := Int.emod_lt_of_pos x h
  have h2 := Int.emod_nonneg x (show base ≠ 0 by omega)
  rcases hb with e | e
  · rw [← e]; exact .inl h1
  · rw [e] at h1 h2 ⊢; exact .inr (by omega)
theorem log_small {base : Int} (h : 0 < base) (hb : base < 2 ^ 64) : base.natAbs.log2 < 9000 := by
  have h1 : base.natAbs < 2 ^ 64 := by omega
  have h2 := (Nat.log2_lt (n := base.natAbs) (k := 64) (by omega)).mpr h1
  omega
def sp_l_mixed (K : PySem.W.Frag) (C : CA) : Sp := fun vs H Q _ => ∃ a k : Int, vs = [.int a, .int k] ∧ ∀ r : Int, 0 ≤ r → r < 2147483629 → Q (.int r) H
def rd_l_mixed (K : PySem.W.Frag) (C : CA) (E : XK) : TS :=
  (tSeq (tAsg (tOp fMod (tCB fInt (tCons (tOp fAdd (tOp fAdd (tOp fMul (tCB fInt (tCons (tVar 0) tNil)) (tC (.int 48271))) (tOp fMul (tVar 1) (tC (.int 69621)))) (tC (.int 1))) tNil)) (tC (.int 2147483647))) (gName 2)) (tSeq (tAsg (tOp fMod (tCB fInt (tCons (tOp fAdd (tOp fAdd (tOp fMul (tVar 2) (tVar 2)) (tOp fMul (tVar 1) (tC (.int 40692)))) (tC (.int 7))) tNil)) (tC (.int 2147483399))) (gName 3)) (tRet (tOp fMod (tCB fInt (tCons (tOp fAdd (tOp fMul (tVar 3) (tVar 3)) (tVar 2)) tNil)) (tC (.int 2147483629))))))
theorem pure_l_mixed {K : PySem.W.Frag} {C : CA} (vs : List V) (H : Hp) (Q : VK) (E : XK) (h : sp_l_mixed K C vs H Q E) : rd_l_mixed K C E { nx := fun _ H' => Q .non H', rt := Q } (start [("cell" : Str), ("k" : Str), ("first" : Str), ("second" : Str)] vs) H := by
  obtain ⟨a, k, rfl, q⟩ := h
  show rd_l_mixed K C E _ [some (.int a), some (.int k), none, none] H
  unfold rd_l_mixed
  refine q_asg ?_
  walk_at "s"
  refine ⟨.inr ⟨by decide, by decide⟩, .inr ⟨by decide, by decide⟩, by decide, ?_⟩
  refine q_asg ?_
  have h1 := Int.emod_nonneg (a * 48271 + k * 69621 + 1) (show (2147483647 : Int) ≠ 0 by decide)
  have h2 := Int.emod_lt_of_pos (a * 48271 + k * 69621 + 1) (show (0 : Int) < 2147483647 by decide)
  generalize (a * 48271 + k * 69621 + 1) % 2147483647 = f at h1 h2 ⊢
  walk_at "s"
  refine ⟨.inl ⟨by omega, by omega⟩, .inr ⟨by decide, by decide⟩, by decide, ?_⟩
  have h3 := Int.emod_nonneg (f * f + k * 40692 + 7) (show (2147483399 : Int) ≠ 0 by decide)
  have h4 := Int.emod_lt_of_pos (f * f + k * 40692 + 7) (show (0 : Int) < 2147483399 by decide)
  generalize (f * f + k * 40692 + 7) % 2147483399 = s at h3 h4 ⊢
  refine ⟨.inl ⟨by omega, by omega⟩, by decide, ?_⟩
  exact q _ (Int.emod_nonneg _ (by decide)) (Int.emod_lt_of_pos _ (by decide))
def sp_l_take (K : PySem.W.Frag) (C : CA) : Sp := fun vs H Q _ => ∃ (st : Addr) (many : Int), vs = [.ref st, .int many] ∧ StAt H st ∧ many < 2 ^ 64 ∧
  ∀ (r : Int) (H' : Hp), 0 ≤ r → (r < many ∨ r = 0) → Kp st H H' → StAt H' st → Q (.int r) H'
def rd_l_take (K : PySem.W.Frag) (C : CA) (E : XK) : TS :=
  (tSeq (tAsg (tCB fMax (tCons (tC (.int 1)) (tCons (tVar 1) tNil))) (gName 2)) (tSeq (tAsg (tOp fAdd (tOp fIx (tVar 0) (tC (.int 3))) (tC (.int 1))) (gSub (tVar 0) (tC (.int 3)) fSet)) (Evl.tCut (tIfS (tAnd (tTest (tOp (fEq K) (tOp fIx (tVar 0) (tC (.int 2))) (tC (.int 0)))) (tTest (tOp fLt (tOp fIx (tVar 0) (tC (.int 1))) (tCB fLen (tCons (tOp fIx (tVar 0) (tC (.int 0))) tNil))))) (tSeq (tAsg (tCB fInt (tCons (tOp fIx (tOp fIx (tVar 0) (tC (.int 0))) (tOp fIx (tVar 0) (tC (.int 1)))) tNil)) (gName 3)) (tSeq (tAsg (tOp fAdd (tOp fIx (tVar 0) (tC (.int 1))) (tC (.int 1))) (gSub (tVar 0) (tC (.int 1)) fSet)) (tSeq (tIfS (tTest (tOp fLt (tVar 3) (tOp fPow (tC (.int 10)) (tC (.int 18))))) (tRet (tOp fMod (tCB fInt (tCons (tCallS (sp_l_mixed K C) (fun _ => E0) (tCons (tVar 3) (tCons (tOp fIx (tVar 0) (tC (.int 3))) tNil))) tNil)) (tVar 2))) tNext) (tAsg (tVar 3) (gSub (tVar 0) (tC (.int 2)) fSet))))) tNext) (tSeq (tIfS (tTest (tOp (fEq K) (tOp fIx (tVar 0) (tC (.int 2))) (tC (.int 0)))) (tRet (tOp fMod (tCB fInt (tCons (tCallS (sp_l_mixed K C) (fun _ => E0) (tCons (tOp fIx (tVar 0) (tC (.int 4))) (tCons (tOp fIx (tVar 0) (tC (.int 3))) tNil))) tNil)) (tVar 2))) tNext) (tSeq (tAsg (tOp fMod (tCB fInt (tCons (tOp fIx (tVar 0) (tC (.int 2))) tNil)) (tVar 2)) (gName 4)) (tSeq (tAsg (tOp fDiv (tCB fInt (tCons (tOp fIx (tVar 0) (tC (.int 2))) tNil)) (tVar 2)) (gSub (tVar 0) (tC (.int 2)) fSet)) (tRet (tVar 4))))))))
theorem pure_l_take {K : PySem.W.Frag} {C : CA} (vs : List V) (H : Hp) (Q : VK) (E : XK) (h : sp_l_take K C vs H Q E) : rd_l_take K C E { nx := fun _ H' => Q .non H', rt := Q } (start [("store" : Str), ("many" : Str), ("base" : Str), ("cell" : Str), ("digit" : Str)] vs) H := by
  obtain ⟨st, many, rfl, ⟨c, ns, a, b, d, e, h1, h2, h3, h4, h5⟩, hm, q⟩ := h
  show rd_l_take K C E _ [some (.ref st), some (.int many), none, none, none] H
  unfold rd_l_take
  refine q_asg ?_
  walk_at "s"
  have hb1 : 0 < max 1 many := by omega
  have hb2 : max 1 many = many ∨ max 1 many = 1 := by omega
  have hb3 : max 1 many < 2 ^ 64 := by omega
  generalize max 1 many = base at hb1 hb2 hb3 ⊢
  refine q_asg ?_
  walk_at "S"
  have k1 : Kp st H (upd H st (HO.lst [V.ref c, V.int a, V.int b, V.int (d + 1), V.int e])) := (Kp.refl st H).put h1
  refine ⟨fun σ' H' => ∃ a' b' d' v, σ' = [some (.ref st), some (.int many), some (.int base), v, none] ∧ StL H' st c ns a' b' d' e ∧ Kp st H H', q_if1 ?_, ?_⟩
  · walk_at "S"
    by_cases cb : b = 0
    · by_cases ca : a < (List.map V.int ns).length
      · rw [if_pos cb, if_pos ca]
        subst cb
        rw [List.length_map] at ca
        obtain ⟨n, rfl⟩ : ∃ n : Nat, a = n := ⟨a.toNat, by omega⟩
        have hn : n < ns.length := by omega
        have hx : (List.map V.int ns)[n]? = some (V.int ns[n]) := by simp [hn]
        refine q_asg ?_
        walk_at "S"
        refine at_nat hx ?_
        walk_at "S"
        refine q_asg ?_
        walk_at "S"
        refine q_if ?_
        walk_at "S"
        refine ⟨⟨by decide, by decide, by decide⟩, ?_⟩
        split
        · walk_at "S"
          refine ⟨_, _, rfl, fun r r0 r1 => ?_⟩
          walk_at "s"
          refine ⟨hb1, ?_⟩
          refine q _ _ (Int.emod_nonneg r (show base ≠ 0 by omega)) ?_ (k1.put upd_same) ⟨c, ns, _, _, _, _, upd_same, ?_, h3, ?_, h5⟩
          · exact below hb1 hb2 r
          · rw [upd_ne h3, upd_ne h3]; exact h2
          · omega
        · walk_at "S"
          refine q_asg1 ?_
          walk_at "S"
          refine ⟨_, _, _, ⟨upd_same, ?_, h3, ?_, h5⟩, (k1.put upd_same).put upd_same⟩
          · rw [upd_ne h3, upd_ne h3, upd_ne h3]; exact h2
          · omega
      · rw [if_pos cb, if_neg ca]
        walk_at "s"
        exact ⟨_, _, _, upd_same, by rw [upd_ne h3]; exact h2, h3, h4, h5⟩
    · rw [if_neg cb]
      walk_at "s"
      exact ⟨_, _, _, upd_same, by rw [upd_ne h3]; exact h2, h3, h4, h5⟩
  · rintro σ' H' ⟨a', b', d', v, rfl, ⟨g1, g2, g3, g4, g5⟩, k2⟩
    refine q_if ?_
    walk_at "S"
    split
    · walk_at "S"
      refine ⟨_, _, rfl, fun r r0 r1 => ?_⟩
      walk_at "s"
      refine ⟨hb1, ?_⟩
      refine q _ _ (Int.emod_nonneg r (show base ≠ 0 by omega)) ?_ k2 ⟨c, ns, _, _, _, _, g1, g2, g3, g4, g5⟩
      exact below hb1 hb2 r
    · walk_at "S"
      refine q_asg ?_
      walk_at "S"
      refine q_asg ?_
      walk_at "S"
      refine ⟨⟨hb1, log_small hb1 hb3⟩, q _ _ (Int.emod_nonneg b' (show base ≠ 0 by omega)) (below hb1 hb2 b') (k2.put g1) ⟨c, ns, _, _, _, _, upd_same, ?_, h3, g4, h5⟩⟩
      rw [upd_ne h3]; exact g2
theorem take_ok {K : PySem.W.Frag} {C : CA} {H : Hp} {Q : VK} {E : XK} {st : Addr} {many : Int} (hs : StAt H st) (hm : many < 2 ^ 64)
    (q : ∀ (r : Int) (H' : Hp), 0 ≤ r → (r < many ∨ r = 0) → Kp st H H' → StAt H' st → Q (.int r) H') : sp_l_take K C [.ref st, .int many] H Q E := ⟨_, _, rfl, hs, hm, q⟩
def sp_l_great (K : PySem.W.Frag) (C : CA) : Sp := fun vs H Q _ => ∃ (st : Addr) (many : Int), vs = [.ref st, .int many] ∧ StAt H st ∧
  ∀ (r : Int) (H' : Hp), 0 ≤ r → (r < many ∨ r = 0) → Kp st H H' → StAt H' st → Q (.int r) H'
def rd_l_great (K : PySem.W.Frag) (C : CA) (E : XK) : TS :=
  (tSeq (tAsg (tC (.int 0)) (gName 2)) (tSeq (tFor (iRng1 (tCons (tC (.int 12)) tNil)) (gName 3) (tAsg (tOp fAdd (tOp fMul (tVar 2) (tC (.int 1000))) (tCallS (sp_l_take K C) (fun _ => E0) (tCons (tVar 0) (tCons (tC (.int 1000)) tNil)))) (gName 2))) (tRet (tOp fMod (tCB fInt (tCons (tVar 2) tNil)) (tCB fMax (tCons (tC (.int 1)) (tCons (tVar 1) tNil)))))))
theorem pure_l_great {K : PySem.W.Frag} {C : CA} (vs : List V) (H : Hp) (Q : VK) (E : XK) (h : sp_l_great K C vs H Q E) : rd_l_great K C E { nx := fun _ H' => Q .non H', rt := Q } (start [("store" : Str), ("many" : Str), ("number" : Str), ("k" : Str)] vs) H := by
  obtain ⟨st, many, rfl, hs, q⟩ := h
  show rd_l_great K C E _ [some (.ref st), some (.int many), none, none] H
  unfold rd_l_great
  refine q_asg ?_
  walk_at "S"
  refine q_for ?_
  walk_at "S"
  refine ⟨by decide, by decide, ?_⟩
  refine loop_range (fun i σ H1 => ∃ (n : Int) (v : Option V), σ = [some (.ref st), some (.int many), some (.int n), v] ∧ Kp st H H1 ∧ StAt H1 st) ⟨_, _, rfl, Kp.refl _ _, hs⟩ ?_ ?_
  · rintro i σ H1 hi ⟨n, v, rfl, k1, s1⟩
    walk_at "s"
    refine q_asg1 ?_
    walk_at "s"
    refine ⟨.inr ⟨by decide, by decide⟩, take_ok s1 (by decide) fun r H2 _ _ k2 s2 => ?_⟩
    walk_at "s"
    exact ⟨k1.trans k2, s2⟩
  · rintro σ H1 ⟨n, v, rfl, k1, s1⟩
    walk_at "s"
    have hb1 : 0 < max 1 many := by omega
    have hb2 : max 1 many = many ∨ max 1 many = 1 := by omega
    exact ⟨hb1, q _ _ (Int.emod_nonneg _ (by omega)) (below hb1 hb2 n) k1 s1⟩
theorem great_ok {K : PySem.W.Frag} {C : CA} {H : Hp} {Q : VK} {E : XK} {st : Addr} {many : Int} (hs : StAt H st)
    (q : ∀ (r : Int) (H' : Hp), 0 ≤ r → (r < many ∨ r = 0) → Kp st H H' → StAt H' st → Q (.int r) H') : sp_l_great K C [.ref st, .int many] H Q E := ⟨_, _, rfl, hs, q⟩
def sp_l_edge (K : PySem.W.Frag) (C : CA) : Sp := fun vs H Q _ => ∃ (st : Addr) (lo hi : Int), vs = [.ref st, .int lo, .int hi] ∧ StAt H st ∧
  ∀ (r : Int) (H' : Hp), lo ≤ r → (r ≤ hi ∨ r = lo) → Kp st H H' → StAt H' st → Q (.int r) H'
theorem edge_ok {K : PySem.W.Frag} {C : CA} {H : Hp} {Q : VK} {E : XK} {st : Addr} {lo hi : Int} (hs : StAt H st)
    (q : ∀ (r : Int) (H' : Hp), lo ≤ r → (r ≤ hi ∨ r = lo) → Kp st H H' → StAt H' st → Q (.int r) H') : sp_l_edge K C [.ref st, .int lo, .int hi] H Q E := ⟨_, _, _, rfl, hs, q⟩
def rd_l_edge (K : PySem.W.Frag) (C : CA) (E : XK) : TS :=
  (tSeq (tIfS (tTest (tOp fLe (tVar 2) (tVar 1))) (tRet (tVar 1)) tNext) (tSeq (tAsg (tCallS (sp_l_take K C) (fun _ => E0) (tCons (tVar 0) (tCons (tC (.int 6)) tNil))) (gName 3)) (tSeq (tIfS (tTest (tOp (fEq K) (tVar 3) (tC (.int 0)))) (tRet (tVar 1)) tNext) (tSeq (tIfS (tTest (tOp (fEq K) (tVar 3) (tC (.int 1)))) (tRet (tVar 2)) tNext) (tSeq (tIfS (tTest (tOp fLt (tOp fSub (tVar 2) (tVar 1)) (tC (.int 1000000)))) (tRet (tOp fAdd (tVar 1) (tCallS (sp_l_take K C) (fun _ => E0) (tCons (tVar 0) (tCons (tOp fAdd (tOp fSub (tVar 2) (tVar 1)) (tC (.int 1))) tNil))))) tNext) (tRet (tOp fAdd (tVar 1) (tCallS (sp_l_great K C) (fun _ => E0) (tCons (tVar 0) (tCons (tOp fAdd (tOp fSub (tVar 2) (tVar 1)) (tC (.int 1))) tNil))))))))))
theorem pure_l_edge {K : PySem.W.Frag} {C : CA} (vs : List V) (H : Hp) (Q : VK) (E : XK) (h : sp_l_edge K C vs H Q E) : rd_l_edge K C E { nx := fun _ H' => Q .non H', rt := Q } (start [("store" : Str), ("low" : Str), ("high" : Str), ("form" : Str)] vs) H := by
  obtain ⟨st, lo, hi, rfl, hs, q⟩ := h
  show rd_l_edge K C E _ [some (.ref st), some (.int lo), some (.int hi), none] H
  unfold rd_l_edge
  refine q_if ?_
  walk_at "s"
  refine ite2 (fun c1 => q _ _ (Int.le_refl _) (.inr rfl) (Kp.refl _ _) hs) fun c1 => ?_
  refine q_asg ?_
  walk_at "s"
  refine take_ok hs (by decide) fun r H1 r0 r1 k1 s1 => ?_
  refine q_if ?_
  walk_at "s"
  refine ite2 (fun c2 => q _ _ (Int.le_refl _) (.inr rfl) k1 s1) fun c2 => ?_
  refine q_if ?_
  walk_at "s"
  refine ite2 (fun c3 => q _ _ (by omega) (.inl (Int.le_refl _)) k1 s1) fun c3 => ?_
  refine q_if ?_
  walk_at "s"
  refine ite2 (fun c4 => ?_) fun c4 => ?_
  · refine take_ok s1 (by omega) fun r H2 r0 r1 k2 s2 => ?_
    walk_at "s"
    exact q _ _ (by omega) (by omega) (k1.trans k2) s2
  · refine great_ok s1 fun r H2 r0 r1 k2 s2 => ?_
    walk_at "s"
    exact q _ _ (by omega) (by omega) (k1.trans k2) s2
def sp_l_pick (K : PySem.W.Frag) (C : CA) : Sp := fun vs H Q _ => ∃ (st p : Addr) (xs : List V), vs = [.ref st, .ref p] ∧ StAt H st ∧ asS (H p) = some xs ∧ p ≠ st ∧ xs.length < 2 ^ 60 ∧
  (xs = [] → Q .non H) ∧ ∀ (n : Nat) (v : V) (H' : Hp), xs[n]? = some v → Kp st H H' → StAt H' st → Q v H'
def rd_l_pick (K : PySem.W.Frag) (C : CA) (E : XK) : TS :=
  (tSeq (tIfS (tTest (tOp (fEq K) (tCB fLen (tCons (tVar 1) tNil)) (tC (.int 0)))) (tRet (tC .non)) tNext) (tRet (tOp fIx (tVar 1) (tCallS (sp_l_take K C) (fun _ => E0) (tCons (tVar 0) (tCons (tCB fLen (tCons (tVar 1) tNil)) tNil))))))
theorem pure_l_pick {K : PySem.W.Frag} {C : CA} (vs : List V) (H : Hp) (Q : VK) (E : XK) (h : sp_l_pick K C vs H Q E) : rd_l_pick K C E { nx := fun _ H' => Q .non H', rt := Q } (start [("store" : Str), ("row" : Str)] vs) H := by
  obtain ⟨st, p, xs, rfl, hs, hp, hne, hl, q0, q⟩ := h
  show rd_l_pick K C E _ [some (.ref st), some (.ref p)] H
  unfold rd_l_pick
  refine q_if ?_
  walk_at "s"
  rw [hp]
  walk_at "s"
  refine ite2 (fun c => ?_) fun c => ?_
  · walk_at "s"
    exact q0 (by cases xs with | nil => rfl | cons _ _ => simp at c; omega)
  · walk_at "s"
    refine take_ok hs (by omega) fun r H1 r0 r1 k1 s1 => ?_
    walk_at "s"
    obtain ⟨n, rfl⟩ : ∃ n : Nat, r = n := ⟨r.toNat, by omega⟩
    have hn : n < xs.length := by omega
    rw [k1.asS hne hp]
    exact at_nat (v := xs[n]) (by simp [hn]) (q n _ _ (by simp [hn]) k1 s1)
end XB

/-! The program's numbers. -/
namespace XB
open PySem L2
local macro_rules | `(tactic| walk_at "s") => `(tactic| try simp only [u_var, u_c, u_op, u_un, u_nil, u_cons, u_cb, u_call, u_callS, u_tup, u_lst, u_test, u_B, u_and, u_or, u_not, u_andV, u_orV, u_notV, u_ifE, u_chain, u_sl, u_noPart, u_part, u_bm, u_bm0, u_rev, u_lc, u_try, u_sui, u_sui0, u_unb_rt, u_unb_nx, u_xf, u_WE, w_nil, w_cons, u_raise, u_rng1, u_rng2, u_next, u_ret, u_gname, u_gnil, u_gcons, u_gsub, u_gtup,
  f_add, f_addS, f_addR, f_sub, f_mul, f_mulR, f_mod, f_div, f_pow, f_neg, f_cmp, f_eq, f_eqB, f_eqS, f_ne, f_neB, f_neS, f_isN, f_notN, f_isB, f_ix, f_ixS, f_int, f_intB, f_len, f_lenS, f_max, f_min, f_abs, f_list, f_tuple, f_all, f_sum, f_isi, f_isiT, f_append, f_insert, f_pop, f_sl, f_set, u_fldW, u_propW, u_makeS, u_makeL, u_cmethS, u_methS, u_ostW, f_isC, f_minSS, f_maxSS, f_reverse,
  kitS, tys, List.isEmpty_cons, Option.map_some, kt_NoneType_int, kt_NoneType_bool, kt_NoneType_str, kt_NoneType_list, kt_NoneType_tuple, kt_NoneType_dict, kt_int_int, kt_int_bool, kt_int_str, kt_int_list, kt_int_tuple, kt_int_dict, kt_bool_int, kt_bool_bool, kt_bool_str, kt_bool_list, kt_bool_tuple, kt_bool_dict, kt_str_int, kt_str_bool, kt_str_str, kt_str_list, kt_str_tuple, kt_str_dict, kt_list_int, kt_list_bool, kt_list_str, kt_list_list, kt_list_tuple, kt_list_dict, kt_tuple_int, kt_tuple_bool, kt_tuple_str, kt_tuple_list, kt_tuple_tuple, kt_tuple_dict, kt_dict_int, kt_dict_bool, kt_dict_str, kt_dict_list, kt_dict_tuple, kt_dict_dict, asL_lst, asL_frz, asL_tup, asT_tup, asS_lst, asS_frz, asS_tup, tyN_non, tyN_bl, tyN_int, tyN_str, atV_lit, ixN_lit, upd_same, upd_ne, upd_ne',
  List.getElem?_cons_zero, List.getElem?_cons_succ, List.set_cons_zero, List.set_cons_succ, List.append_nil, List.length_cons, List.length_nil, Option.some.injEq, exists_eq_left', exists_eq_left, exists_and_left, V.bl.injEq, V.int.injEq, V.str.injEq, V.ref.injEq, Bool.not_eq_true, Bool.not_true, Bool.not_false, decide_true, decide_false, decide_eq_true_eq, decide_eq_false_iff_not, Bool.false_eq_true, if_true, if_false, ite_true, ite_false, reduceCtorEq, true_and, and_true, Nat.reduceAdd, Nat.reduceLT, Nat.zero_add, ne_eq, not_false_eq_true, not_true_eq_false, List.cons.injEq, and_assoc])
local macro_rules | `(tactic| walk_at "S") => `(tactic| try simp only [u_var, u_c, u_op, u_un, u_nil, u_cons, u_cb, u_call, u_callS, u_tup, u_lst, u_test, u_B, u_and, u_or, u_not, u_andV, u_orV, u_notV, u_ifE, u_chain, u_sl, u_noPart, u_part, u_bm, u_bm0, u_rev, u_lc, u_try, u_sui, u_sui0, u_unb_rt, u_unb_nx, u_xf, u_WE, w_nil, w_cons, u_raise, u_rng1, u_rng2, u_next, u_ret, u_gname, u_gnil, u_gcons, u_gsub, u_gtup,
  f_add, f_addS, f_addR, f_sub, f_mul, f_mulR, f_mod, f_div, f_pow, f_neg, f_cmp, f_eq, f_eqB, f_eqS, f_ne, f_neB, f_neS, f_isN, f_notN, f_isB, f_ix, f_ixS, f_int, f_intB, f_len, f_lenS, f_max, f_min, f_abs, f_list, f_tuple, f_all, f_sum, f_isi, f_isiT, f_append, f_insert, f_pop, f_sl, f_set, u_fldW, u_propW, u_makeS, u_makeL, u_cmethS, u_methS, u_ostW, f_isC, f_minSS, f_maxSS, f_reverse,
  kitS, tys, List.isEmpty_cons, Option.map_some, kt_NoneType_int, kt_NoneType_bool, kt_NoneType_str, kt_NoneType_list, kt_NoneType_tuple, kt_NoneType_dict, kt_int_int, kt_int_bool, kt_int_str, kt_int_list, kt_int_tuple, kt_int_dict, kt_bool_int, kt_bool_bool, kt_bool_str, kt_bool_list, kt_bool_tuple, kt_bool_dict, kt_str_int, kt_str_bool, kt_str_str, kt_str_list, kt_str_tuple, kt_str_dict, kt_list_int, kt_list_bool, kt_list_str, kt_list_list, kt_list_tuple, kt_list_dict, kt_tuple_int, kt_tuple_bool, kt_tuple_str, kt_tuple_list, kt_tuple_tuple, kt_tuple_dict, kt_dict_int, kt_dict_bool, kt_dict_str, kt_dict_list, kt_dict_tuple, kt_dict_dict, asL_lst, asL_frz, asL_tup, asT_tup, asS_lst, asS_frz, asS_tup, tyN_non, tyN_bl, tyN_int, tyN_str, atV_lit, ixN_lit, upd_same, upd_ne, upd_ne',
  List.getElem?_cons_zero, List.getElem?_cons_succ, List.set_cons_zero, List.set_cons_succ, List.append_nil, List.length_cons, List.length_nil, Option.some.injEq, exists_eq_left', exists_eq_left, exists_and_left, V.bl.injEq, V.int.injEq, V.str.injEq, V.ref.injEq, Bool.not_eq_true, Bool.not_true, Bool.not_false, decide_true, decide_false, decide_eq_true_eq, decide_eq_false_iff_not, Bool.false_eq_true, if_true, if_false, ite_true, ite_false, reduceCtorEq, true_and, and_true, Nat.reduceAdd, Nat.reduceLT, Nat.zero_add, ne_eq, not_false_eq_true, not_true_eq_false, List.cons.injEq, and_assoc, *])
/-- a value of a built-in class -/
def Ty (v : V) (H : Hp) : Prop := ∃ t, tyN v H = some t
theorem ty_cases {v : V} {H : Hp} (h : Ty v H) : v = .non ∨ (∃ b, v = .bl b) ∨ (∃ i, v = .int i) ∨ (∃ z, v = .str z) ∨ ∃ p, v = .ref p ∧
    ((tyN (.ref p) H = some "list" ∧ ∃ xs, asL (H p) = some xs) ∨ (tyN (.ref p) H = some "tuple" ∧ ∃ xs, asT (H p) = some xs ∧ asL (H p) = none) ∨ (tyN (.ref p) H = some "dict" ∧ asS (H p) = none)) := by
  obtain ⟨t, h⟩ := h
  cases v with
  | non => exact .inl rfl
  | bl b => exact .inr (.inl ⟨b, rfl⟩)
  | int i => exact .inr (.inr (.inl ⟨i, rfl⟩))
  | str z => exact .inr (.inr (.inr (.inl ⟨z, rfl⟩)))
  | ref p =>
    refine .inr (.inr (.inr (.inr ⟨p, rfl, ?_⟩)))
    dsimp only [tyN] at h ⊢
    split at h
    · rename_i xs e; rw [e]; exact .inl ⟨rfl, xs, rfl⟩
    · rename_i o xs e; rw [e]; exact .inl ⟨rfl, xs, rfl⟩
    · rename_i xs e; rw [e]; exact .inr (.inl ⟨rfl, xs, rfl, rfl⟩)
    · rename_i o xs e; rw [e]; exact .inr (.inl ⟨rfl, xs, rfl, rfl⟩)
    · rename_i kvs e; rw [e]; exact .inr (.inr ⟨rfl, rfl⟩)
    · rename_i kvs e; rw [e]; exact .inr (.inr ⟨rfl, rfl⟩)
    · rename_i o kvs e; rw [e]; exact .inr (.inr ⟨rfl, rfl⟩)
    · cases h
  | byt b => cases h
  | flt b => cases h
  | ty n => cases h
def isI : V → Bool
  | .int _ => true
  | _ => false
def isNum : V → Bool
  | .int i => decide (0 ≤ i)
  | _ => false
def baseOk : V → Bool
  | .int i => decide (1 ≤ i) && decide (i ≤ 1000)
  | _ => false
/-- the list that the value is -/
def lstOf (v : V) (H : Hp) : Option (List V) := match v with
  | .ref p => asL (H p)
  | _ => none
def basesOk (v : V) (H : Hp) : Bool := match lstOf v H with
  | some xs => decide (xs.length ≤ 60) && xs.all baseOk
  | none => false
theorem tyN_mono {v : V} {H H' : Hp} {t : String} (s : ∀ b o, H b = some o → H' b = some o) (h : tyN v H = some t) : tyN v H' = some t := by
  cases v with
  | ref p =>
    dsimp only [tyN] at h ⊢
    cases e : H p with
    | none => rw [e] at h; cases h
    | some o => rw [e] at h; rw [s p o e]; exact h
  | _ => exact h
theorem asS_of_L {o : Option HO} {xs : List V} (h : asL o = some xs) : asS o = some xs := by
  unfold asS
  rw [h]
def sp_check (K : PySem.W.Frag) (C : CA) : Sp := fun vs H Q E => ∃ (b : Bool) (z : Str), vs = [.bl b, .str z] ∧ (b = true → Q .non H) ∧
  (b = false → ∀ (d : Addr) (H' : Hp), H d = none → H' d = some (.xd [(("parameter" : Str), V.str z)]) → (∀ b o, H b = some o → H' b = some o) → E (.ref C.BadShape) (some d) H')
def rd_check (K : PySem.W.Frag) (C : CA) (E : XK) : TS :=
  (tIfS (tNot (tB (tVar 0))) (tRaiseF C.BadShape [("parameter" : Str)] (fun cls d _ H => E cls d H) (tCons (tVar 1) tNil)) tNext)
theorem pure_check {K : PySem.W.Frag} {C : CA} (vs : List V) (H : Hp) (Q : VK) (E : XK) (h : sp_check K C vs H Q E) : rd_check K C E { nx := fun _ H' => Q .non H', rt := Q } (start [("fits" : Str), ("parameter" : Str)] vs) H := by
  obtain ⟨b, z, rfl, q1, q2⟩ := h
  show rd_check K C E _ [some (.bl b), some (.str z)] H
  unfold rd_check
  refine q_if1 ?_
  walk_at "s"
  cases b with
  | true => walk_at "s"; exact q1 rfl
  | false =>
    walk_at "s"
    exact ⟨by decide, fun d H' a b c => q2 rfl d H' a b c⟩
/-- digits for good bases -/
def digitsIn : List V → List Int → Bool
  | [], [] => true
  | .int d :: ds, b :: bs => decide (0 ≤ d) && decide (d < b) && digitsIn ds bs
  | _, _ => false
def digitOk : V → V → Bool
  | .int d, .int b => decide (0 ≤ d) && decide (d < b)
  | _, _ => false
theorem zip_bools : ∀ {xs : List V} {ns : List Int}, xs.length = ns.length → List.zipWith (fun b d => V.bl (digitOk d b)) (ns.map V.int) xs = (List.zipWith (fun d b => digitOk d (.int b)) xs ns).map V.bl
  | [], [], _ => rfl
  | x :: xs, n :: ns, h => by
    have ih := zip_bools (xs := xs) (ns := ns) (by simpa using h)
    simp only [List.map_cons, List.zipWith_cons_cons, ih]
  | [], _ :: _, h => by simp at h
  | _ :: _, [], h => by simp at h
theorem digits_all : ∀ {xs : List V} {ns : List Int}, xs.length = ns.length → digitsIn xs ns = (List.zipWith (fun d b => digitOk d (.int b)) xs ns).all id
  | [], [], _ => rfl
  | x :: xs, n :: ns, h => by
    have ih := digits_all (xs := xs) (ns := ns) (by simpa using h)
    simp only [List.zipWith_cons_cons, List.all_cons, ← ih, id_eq]
    cases x <;> simp [digitsIn, digitOk]
  | [], _ :: _, h => by simp at h
  | _ :: _, [], h => by simp at h
theorem digits_short : ∀ {xs : List V} {ns : List Int}, ¬ xs.length = ns.length → digitsIn xs ns = false
  | [], [], h => absurd rfl h
  | x :: xs, n :: ns, h => by
    have ih := digits_short (xs := xs) (ns := ns) (by simpa using h)
    cases x <;> simp [digitsIn, ih]
  | [], _ :: _, _ => rfl
  | x :: _, [], _ => by cases x <;> rfl
def digitsOk (v : V) (H : Hp) (ns : List Int) : Bool := match lstOf v H with
  | some xs => digitsIn xs ns
  | none => false
/-- .. and so are the parts of a list -/
def TyD (v : V) (H : Hp) : Prop := Ty v H ∧ ∀ xs, lstOf v H = some xs → ∀ x ∈ xs, Ty x H
theorem Ty.mono {v : V} {H H' : Hp} (h : Ty v H) (s : Sm H H') : Ty v H' := by
  obtain ⟨t, e⟩ := h
  exact ⟨t, tyN_mono s e⟩
theorem lst_ty {H : Hp} {p : Addr} {xs : List V} (h : asL (H p) = some xs) : tyN (.ref p) H = some "list" := by
  dsimp only [tyN]
  cases e : H p with
  | none => rw [e] at h; cases h
  | some o =>
    rw [e] at h
    cases o with
    | lst ys => rfl
    | frz ob u => cases u <;> first | rfl | (cases h)
    | _ => cases h
theorem asL_back {H H' : Hp} {p : Addr} {t : String} {ys : List V} (s : Sm H H') (h : tyN (.ref p) H = some t) (e : asL (H' p) = some ys) : asL (H p) = some ys := by
  dsimp only [tyN] at h
  cases eo : H p with
  | none => rw [eo] at h; cases h
  | some o => rw [s p o eo] at e; exact e
theorem lstOf_mono {v : V} {H H' : Hp} (s : Sm H H') (h : Ty v H) : lstOf v H' = lstOf v H := by
  obtain ⟨t, h⟩ := h
  cases v with
  | ref p =>
    dsimp only [lstOf]
    cases e : H p with
    | none => dsimp only [tyN] at h; rw [e] at h; cases h
    | some o => rw [s p o e]
  | _ => rfl
theorem TyD.mono {v : V} {H H' : Hp} (h : TyD v H) (s : Sm H H') : TyD v H' := ⟨h.1.mono s, fun xs e x hx => (h.2 xs (by rw [← lstOf_mono s h.1]; exact e) x hx).mono s⟩
theorem ints_ty {H : Hp} {ns : List Int} : ∀ x ∈ ns.map V.int, Ty x H := fun x hx => by
  obtain ⟨n, _, rfl⟩ := List.mem_map.mp hx
  exact ⟨"int", rfl⟩
theorem TyD.ints {H : Hp} {p : Addr} {ns : List Int} (h : asL (H p) = some (ns.map V.int)) : TyD (.ref p) H := ⟨⟨_, lst_ty h⟩, fun xs e x hx => by
  have e2 : asL (H p) = some xs := e
  rw [h] at e2
  cases e2
  exact ints_ty x hx⟩
theorem bases_ok {H : Hp} {p : Addr} {ns : List Int} (h : asL (H p) = some (ns.map V.int)) (hl : ns.length ≤ 60) (hb : ∀ n ∈ ns, 1 ≤ n ∧ n ≤ 1000) : basesOk (.ref p) H = true := by
  unfold basesOk lstOf
  simp only [h, List.length_map, hl, decide_true, Bool.true_and, List.all_map, List.all_eq_true]
  intro n hn
  simp [baseOk, hb n hn]
/-- the error's own dict -/
def ErrAt (H H' : Hp) (d : Addr) (fs : List (Str × V)) : Prop := Sm H H' ∧ H' d = some (.xd fs)
def mixV : List Int → List Int → Int → Int
  | b :: bs, d :: ds, a => mixV bs ds (a * b + d)
  | _, _, a => a
theorem mixV_take : ∀ {bs ds : List Int} {i : Nat} {b d a : Int}, bs[i]? = some b → ds[i]? = some d → mixV (bs.take (i + 1)) (ds.take (i + 1)) a = mixV (bs.take i) (ds.take i) a * b + d
  | b0 :: bs, d0 :: ds, 0, b, d, a, h1, h2 => by
    cases h1
    cases h2
    simp [mixV]
  | b0 :: bs, d0 :: ds, i + 1, b, d, a, h1, h2 => by
    have ih := mixV_take (bs := bs) (ds := ds) (i := i) (b := b) (d := d) (a := a * b0 + d0) h1 h2
    simp only [List.take_succ_cons, mixV]
    exact ih
  | [], _, _, _, _, _, h1, _ => by simp at h1
  | _ :: _, [], _, _, _, _, _, h2 => by simp at h2
theorem digitsIn_len : ∀ {ds ns : List Int}, digitsIn (ds.map V.int) ns = true → ds.length = ns.length
  | [], [], _ => rfl
  | d :: ds, n :: ns, h => by
    simp only [List.map_cons, digitsIn, Bool.and_eq_true] at h
    have ih := digitsIn_len h.2
    simp [ih]
  | [], _ :: _, h => by simp [digitsIn] at h
  | _ :: _, [], h => by simp [digitsIn] at h
theorem get_int {ns : List Int} {i : Nat} {x : V} (h : (ns.map V.int)[i]? = some x) : ∃ n, ns[i]? = some n ∧ x = V.int n := by
  rw [List.getElem?_map] at h
  cases e : ns[i]? with
  | none => rw [e] at h; cases h
  | some n => rw [e] at h; exact ⟨n, rfl, (Option.some.inj h).symm⟩
def prodL (ns : List Int) : Int := ns.foldl (· * ·) 1
/-- digits, the lowest first -/
def lowD : List Int → Int → List Int
  | b :: bs, x => x % b :: lowD bs (x / b)
  | [], _ => []
def lowQ : List Int → Int → Int
  | b :: bs, x => lowQ bs (x / b)
  | [], x => x
theorem lowD_take : ∀ {bs : List Int} {i : Nat} {b x : Int}, bs[i]? = some b → lowD (bs.take (i + 1)) x = lowD (bs.take i) x ++ [lowQ (bs.take i) x % b]
  | b0 :: bs, 0, b, x, h => by cases h; rfl
  | b0 :: bs, i + 1, b, x, h => by
    have ih := lowD_take (bs := bs) (i := i) (b := b) (x := x / b0) h
    simp only [List.take_succ_cons, lowD, lowQ, ih, List.cons_append]
  | [], _, _, _, h => by simp at h
theorem lowQ_take : ∀ {bs : List Int} {i : Nat} {b x : Int}, bs[i]? = some b → lowQ (bs.take (i + 1)) x = lowQ (bs.take i) x / b
  | b0 :: bs, 0, b, x, h => by cases h; rfl
  | b0 :: bs, i + 1, b, x, h => by
    have ih := lowQ_take (bs := bs) (i := i) (b := b) (x := x / b0) h
    simp only [List.take_succ_cons, lowQ, ih]
  | [], _, _, _, h => by simp at h
theorem prodL_take {bs : List Int} {i : Nat} {b : Int} (h : bs[i]? = some b) : prodL (bs.take (i + 1)) = prodL (bs.take i) * b := by
  unfold prodL
  rw [List.take_add_one, h, List.foldl_append]
  rfl
theorem lowD_len : ∀ {bs : List Int} {x : Int}, (lowD bs x).length = bs.length
  | [], _ => rfl
  | _ :: bs, x => by simp [lowD, lowD_len (bs := bs)]
def digs (ns : List Int) (x : Int) : List Int := (lowD ns.reverse x).reverse
end XB

/-! The law's helpers. -/
namespace XB
open PySem L2
local macro_rules | `(tactic| walk_at "s") => `(tactic| try simp only [u_var, u_c, u_op, u_un, u_nil, u_cons, u_cb, u_call, u_callS, u_tup, u_lst, u_test, u_B, u_and, u_or, u_not, u_andV, u_orV, u_notV, u_ifE, u_chain, u_sl, u_noPart, u_part, u_bm, u_bm0, u_rev, u_lc, u_try, u_sui, u_sui0, u_unb_rt, u_unb_nx, u_xf, u_WE, w_nil, w_cons, u_raise, u_rng1, u_rng2, u_next, u_ret, u_gname, u_gnil, u_gcons, u_gsub, u_gtup,
  f_add, f_addS, f_addR, f_sub, f_mul, f_mulR, f_mod, f_div, f_pow, f_neg, f_cmp, f_eq, f_eqB, f_eqS, f_ne, f_neB, f_neS, f_isN, f_notN, f_isB, f_ix, f_ixS, f_int, f_intB, f_len, f_lenS, f_max, f_min, f_abs, f_list, f_tuple, f_all, f_sum, f_isi, f_isiT, f_append, f_insert, f_pop, f_sl, f_set, u_fldW, u_propW, u_makeS, u_makeL, u_cmethS, u_methS, u_ostW, f_isC, f_minSS, f_maxSS, f_reverse,
  kitS, tys, List.isEmpty_cons, Option.map_some, kt_NoneType_int, kt_NoneType_bool, kt_NoneType_str, kt_NoneType_list, kt_NoneType_tuple, kt_NoneType_dict, kt_int_int, kt_int_bool, kt_int_str, kt_int_list, kt_int_tuple, kt_int_dict, kt_bool_int, kt_bool_bool, kt_bool_str, kt_bool_list, kt_bool_tuple, kt_bool_dict, kt_str_int, kt_str_bool, kt_str_str, kt_str_list, kt_str_tuple, kt_str_dict, kt_list_int, kt_list_bool, kt_list_str, kt_list_list, kt_list_tuple, kt_list_dict, kt_tuple_int, kt_tuple_bool, kt_tuple_str, kt_tuple_list, kt_tuple_tuple, kt_tuple_dict, kt_dict_int, kt_dict_bool, kt_dict_str, kt_dict_list, kt_dict_tuple, kt_dict_dict, asL_lst, asL_frz, asL_tup, asT_tup, asS_lst, asS_frz, asS_tup, tyN_non, tyN_bl, tyN_int, tyN_str, atV_lit, ixN_lit, upd_same, upd_ne, upd_ne',
  List.getElem?_cons_zero, List.getElem?_cons_succ, List.set_cons_zero, List.set_cons_succ, List.append_nil, List.length_cons, List.length_nil, Option.some.injEq, exists_eq_left', exists_eq_left, exists_and_left, V.bl.injEq, V.int.injEq, V.str.injEq, V.ref.injEq, Bool.not_eq_true, Bool.not_true, Bool.not_false, decide_true, decide_false, decide_eq_true_eq, decide_eq_false_iff_not, Bool.false_eq_true, if_true, if_false, ite_true, ite_false, reduceCtorEq, true_and, and_true, Nat.reduceAdd, Nat.reduceLT, Nat.zero_add, ne_eq, not_false_eq_true, not_true_eq_false, List.cons.injEq, and_assoc])
local macro_rules | `(tactic| walk_at "S") => `(tactic| try simp only [u_var, u_c, u_op, u_un, u_nil, u_cons, u_cb, u_call, u_callS, u_tup, u_lst, u_test, u_B, u_and, u_or, u_not, u_andV, u_orV, u_notV, u_ifE, u_chain, u_sl, u_noPart, u_part, u_bm, u_bm0, u_rev, u_lc, u_try, u_sui, u_sui0, u_unb_rt, u_unb_nx, u_xf, u_WE, w_nil, w_cons, u_raise, u_rng1, u_rng2, u_next, u_ret, u_gname, u_gnil, u_gcons, u_gsub, u_gtup,
  f_add, f_addS, f_addR, f_sub, f_mul, f_mulR, f_mod, f_div, f_pow, f_neg, f_cmp, f_eq, f_eqB, f_eqS, f_ne, f_neB, f_neS, f_isN, f_notN, f_isB, f_ix, f_ixS, f_int, f_intB, f_len, f_lenS, f_max, f_min, f_abs, f_list, f_tuple, f_all, f_sum, f_isi, f_isiT, f_append, f_insert, f_pop, f_sl, f_set, u_fldW, u_propW, u_makeS, u_makeL, u_cmethS, u_methS, u_ostW, f_isC, f_minSS, f_maxSS, f_reverse,
  kitS, tys, List.isEmpty_cons, Option.map_some, kt_NoneType_int, kt_NoneType_bool, kt_NoneType_str, kt_NoneType_list, kt_NoneType_tuple, kt_NoneType_dict, kt_int_int, kt_int_bool, kt_int_str, kt_int_list, kt_int_tuple, kt_int_dict, kt_bool_int, kt_bool_bool, kt_bool_str, kt_bool_list, kt_bool_tuple, kt_bool_dict, kt_str_int, kt_str_bool, kt_str_str, kt_str_list, kt_str_tuple, kt_str_dict, kt_list_int, kt_list_bool, kt_list_str, kt_list_list, kt_list_tuple, kt_list_dict, kt_tuple_int, kt_tuple_bool, kt_tuple_str, kt_tuple_list, kt_tuple_tuple, kt_tuple_dict, kt_dict_int, kt_dict_bool, kt_dict_str, kt_dict_list, kt_dict_tuple, kt_dict_dict, asL_lst, asL_frz, asL_tup, asT_tup, asS_lst, asS_frz, asS_tup, tyN_non, tyN_bl, tyN_int, tyN_str, atV_lit, ixN_lit, upd_same, upd_ne, upd_ne',
  List.getElem?_cons_zero, List.getElem?_cons_succ, List.set_cons_zero, List.set_cons_succ, List.append_nil, List.length_cons, List.length_nil, Option.some.injEq, exists_eq_left', exists_eq_left, exists_and_left, V.bl.injEq, V.int.injEq, V.str.injEq, V.ref.injEq, Bool.not_eq_true, Bool.not_true, Bool.not_false, decide_true, decide_false, decide_eq_true_eq, decide_eq_false_iff_not, Bool.false_eq_true, if_true, if_false, ite_true, ite_false, reduceCtorEq, true_and, and_true, Nat.reduceAdd, Nat.reduceLT, Nat.zero_add, ne_eq, not_false_eq_true, not_true_eq_false, List.cons.injEq, and_assoc, *])
/-- item by item -/
def All2 (R : V → PyData → Prop) (xs : List V) (ds : List PyData) : Prop := xs.length = ds.length ∧ ∀ (i : Nat) (x : V) (d : PyData), xs[i]? = some x → ds[i]? = some d → R x d
def Flat (m : Nat) (v : V) (d : PyData) : Prop := (v = .non ∧ d = .none) ∨ (∃ b, v = .bl b ∧ d = .bool b) ∨ (∃ i, v = .int i ∧ d = .int i) ∨ ∃ z : Str, (v = .str z ∧ z.length ≤ m) ∧ d = .str z
/-- v stands for the data d, at most n deep, of texts and rows of at most m -/
def RpM (m : Nat) (H : Hp) : Nat → V → PyData → Prop
  | 0, v, d => Flat m v d
  | n + 1, v, d => Flat m v d ∨ (∃ p xs ds, v = .ref p ∧ asL (H p) = some xs ∧ d = .list ds ∧ xs.length ≤ m ∧ All2 (RpM m H n) xs ds) ∨
    (∃ p xs ds, v = .ref p ∧ asT (H p) = some xs ∧ d = .tuple ds ∧ xs.length ≤ m ∧ All2 (RpM m H n) xs ds) ∨ ∃ p, v = .ref p ∧ H p = some (.dK []) ∧ d = .dict []
abbrev Rp := RpM 1000
theorem Flat.wide {m k : Nat} {v : V} {d : PyData} (hk : m ≤ k) (h : Flat m v d) : Flat k v d := by
  rcases h with h | h | h | ⟨z, ⟨e1, e2⟩, e3⟩
  · exact .inl h
  · exact .inr (.inl h)
  · exact .inr (.inr (.inl h))
  · exact .inr (.inr (.inr ⟨z, ⟨e1, Nat.le_trans e2 hk⟩, e3⟩))
theorem RpM.mono {m : Nat} {H H' : Hp} (s : Sm H H') : ∀ {n : Nat} {v : V} {d : PyData}, RpM m H n v d → RpM m H' n v d
  | 0, _, _, h => h
  | n + 1, v, d, h => by
    rcases h with h | ⟨p, xs, ds, e1, e2, e3, e4, e5, e6⟩ | ⟨p, xs, ds, e1, e2, e3, e4, e5, e6⟩ | ⟨p, e1, e2, e3⟩
    · exact .inl h
    · exact .inr (.inl ⟨p, xs, ds, e1, sm_L s e2, e3, e4, e5, fun i x d hx hd => RpM.mono s (e6 i x d hx hd)⟩)
    · exact .inr (.inr (.inl ⟨p, xs, ds, e1, sm_T s e2, e3, e4, e5, fun i x d hx hd => RpM.mono s (e6 i x d hx hd)⟩))
    · exact .inr (.inr (.inr ⟨p, e1, s _ _ e2, e3⟩))
theorem RpM.wide {m k : Nat} (hk : m ≤ k) {H : Hp} : ∀ {n : Nat} {v : V} {d : PyData}, RpM m H n v d → RpM k H n v d
  | 0, _, _, h => Flat.wide hk h
  | n + 1, v, d, h => by
    rcases h with h | ⟨p, xs, ds, e1, e2, e3, e4, e5, e6⟩ | ⟨p, xs, ds, e1, e2, e3, e4, e5, e6⟩ | ⟨p, e1, e2, e3⟩
    · exact .inl (h.wide hk)
    · exact .inr (.inl ⟨p, xs, ds, e1, e2, e3, Nat.le_trans e4 hk, e5, fun i x d hx hd => RpM.wide hk (e6 i x d hx hd)⟩)
    · exact .inr (.inr (.inl ⟨p, xs, ds, e1, e2, e3, Nat.le_trans e4 hk, e5, fun i x d hx hd => RpM.wide hk (e6 i x d hx hd)⟩))
    · exact .inr (.inr (.inr ⟨p, e1, e2, e3⟩))
theorem RpM.up {m : Nat} {H : Hp} : ∀ {n : Nat} {v : V} {d : PyData}, RpM m H n v d → RpM m H (n + 1) v d
  | 0, _, _, h => .inl h
  | n + 1, v, d, h => by
    rcases h with h | ⟨p, xs, ds, e1, e2, e3, e4, e5, e6⟩ | ⟨p, xs, ds, e1, e2, e3, e4, e5, e6⟩ | ⟨p, e1, e2, e3⟩
    · exact .inl h
    · exact .inr (.inl ⟨p, xs, ds, e1, e2, e3, e4, e5, fun i x d hx hd => RpM.up (e6 i x d hx hd)⟩)
    · exact .inr (.inr (.inl ⟨p, xs, ds, e1, e2, e3, e4, e5, fun i x d hx hd => RpM.up (e6 i x d hx hd)⟩))
    · exact .inr (.inr (.inr ⟨p, e1, e2, e3⟩))
theorem tup_ty {H : Hp} {p : Addr} {xs : List V} (h : asT (H p) = some xs) : tyN (.ref p) H = some "tuple" := by
  dsimp only [tyN]
  cases e : H p with
  | none => rw [e] at h; cases h
  | some o =>
    rw [e] at h
    cases o with
    | tup ys => rfl
    | frz ob u => cases u <;> first | rfl | (cases h)
    | _ => cases h
theorem asS_of_T {o : Option HO} {xs : List V} (h : asT o = some xs) : asS o = some xs := by
  cases o with
  | none => cases h
  | some u =>
    cases u with
    | tup ys => exact h
    | frz ob w => cases w <;> first | exact h | (cases h)
    | _ => cases h
/-- both stand for one data: they are the same -/
def sp_sameN (n : Nat) : Sp := fun vs H Q _ => ∃ v1 v2 d, vs = [v1, v2] ∧ Rp H n v1 d ∧ Rp H n v2 d ∧ ∀ H', Sm H H' → Q (.bl true) H'
def sp_same_in : Nat → Sp
  | 0 => fun _ _ _ _ => False
  | n + 1 => sp_sameN n
def sp_l_same (K : PySem.W.Frag) (C : CA) : Sp := sp_sameN 6
def rd_l_same (K : PySem.W.Frag) (C : CA) (spR : Sp) (E : XK) : TS :=
  (tSeq (tIfS (tOr (tTest (tOp fIsN (tVar 0) (tC .non))) (tTest (tOp fIsN (tVar 1) (tC .non)))) (tRet (tAndV (tOp fIsN (tVar 0) (tC .non)) (tOp fIsN (tVar 1) (tC .non)))) tNext) (tSeq (tIfS (tOr (tB (tCB fIsi (tCons (tVar 0) (tCons (tC (.ty "bool")) tNil)))) (tB (tCB fIsi (tCons (tVar 1) (tCons (tC (.ty "bool")) tNil))))) (tRet (tAndV (tCB fIsi (tCons (tVar 0) (tCons (tC (.ty "bool")) tNil))) (tAndV (tCB fIsi (tCons (tVar 1) (tCons (tC (.ty "bool")) tNil))) (tOp (fEq K) (tVar 0) (tVar 1))))) tNext) (tSeq (tIfS (tOr (tB (tCB fIsi (tCons (tVar 0) (tCons (tC (.ty "int")) tNil)))) (tB (tCB fIsi (tCons (tVar 1) (tCons (tC (.ty "int")) tNil))))) (tRet (tAndV (tCB fIsi (tCons (tVar 0) (tCons (tC (.ty "int")) tNil))) (tAndV (tCB fIsi (tCons (tVar 1) (tCons (tC (.ty "int")) tNil))) (tOp (fEq K) (tVar 0) (tVar 1))))) tNext) (tSeq (tIfS (tOr (tB (tCB fIsi (tCons (tVar 0) (tCons (tC (.ty "str")) tNil)))) (tB (tCB fIsi (tCons (tVar 1) (tCons (tC (.ty "str")) tNil))))) (tRet (tAndV (tCB fIsi (tCons (tVar 0) (tCons (tC (.ty "str")) tNil))) (tAndV (tCB fIsi (tCons (tVar 1) (tCons (tC (.ty "str")) tNil))) (tOp (fEq K) (tVar 0) (tVar 1))))) tNext) (tSeq (tIfS (tOr (tB (tCB fIsi (tCons (tVar 0) (tCons (tC (.ty "dict")) tNil)))) (tB (tCB fIsi (tCons (tVar 1) (tCons (tC (.ty "dict")) tNil))))) (tSeq (tIfS (tOr (tNot (tB (tCB fIsi (tCons (tVar 0) (tCons (tC (.ty "dict")) tNil))))) (tOr (tNot (tB (tCB fIsi (tCons (tVar 1) (tCons (tC (.ty "dict")) tNil))))) (tTest (tOp (fNe K) (tCB fLen2 (tCons (tVar 0) tNil)) (tCB fLen2 (tCons (tVar 1) tNil)))))) (tRet (tC (.bl false))) tNext) (tSeq (tLock (tFor (iKeys (tVar 0)) (gName 2) tNever)) (tRet (tC (.bl true))))) tNext) (tSeq (tIfS (tOr (tB (tCB fIsiT (tCons (tVar 0) (tCons (tTup (tCons (tC (.ty "list")) (tCons (tC (.ty "tuple")) tNil))) tNil)))) (tB (tCB fIsiT (tCons (tVar 1) (tCons (tTup (tCons (tC (.ty "list")) (tCons (tC (.ty "tuple")) tNil))) tNil))))) (tSeq (tIfS (tOr (tTest (tOp (fNe K) (tCB fIsi (tCons (tVar 0) (tCons (tC (.ty "list")) tNil))) (tCB fIsi (tCons (tVar 1) (tCons (tC (.ty "list")) tNil))))) (tTest (tOp (fNe K) (tCB fIsi (tCons (tVar 0) (tCons (tC (.ty "tuple")) tNil))) (tCB fIsi (tCons (tVar 1) (tCons (tC (.ty "tuple")) tNil)))))) (tRet (tC (.bl false))) tNext) (tSeq (tIfS (tTest (tOp (fNe K) (tCB fLen2 (tCons (tVar 0) tNil)) (tCB fLen2 (tCons (tVar 1) tNil)))) (tRet (tC (.bl false))) tNext) (tSeq (tFor (iRng1 (tCons (tCB fLen2 (tCons (tVar 0) tNil)) tNil)) (gName 3) (tIfS (tNot (tB (tCallS spR (fun _ => E0) (tCons (tOp fIx (tVar 0) (tVar 3)) (tCons (tOp fIx (tVar 1) (tVar 3)) tNil))))) (tRet (tC (.bl false))) tNext)) (tRet (tC (.bl true)))))) tNext) (tSeq tNever tNever)))))))
theorem pure_l_sameN {K : PySem.W.Frag} {C : CA} (n : Nat) (vs : List V) (H : Hp) (Q : VK) (E : XK) (h : sp_sameN n vs H Q E) : rd_l_same K C (sp_same_in n) E { nx := fun _ H' => Q .non H', rt := Q } (start [("one" : Str), ("other" : Str), ("key" : Str), ("k" : Str), ("alike" : Str), ("found" : Str)] vs) H := by
  obtain ⟨v1, v2, d, rfl, r1, r2, q⟩ := h
  show rd_l_same K C _ E _ [some v1, some v2, none, none, none, none] H
  unfold rd_l_same
  have flat : Flat 1000 v1 d → Flat 1000 v2 d → rd_l_same K C (sp_same_in n) E { nx := fun _ H' => Q .non H', rt := Q } [some v1, some v2, none, none, none, none] H := fun f1 f2 => by
    have q0 := q H fun _ _ z => z
    unfold rd_l_same
    rcases f1 with ⟨rfl, rfl⟩ | ⟨b, rfl, rfl⟩ | ⟨i, rfl, rfl⟩ | ⟨z, ⟨rfl, _⟩, rfl⟩
    · rcases f2 with ⟨rfl, _⟩ | ⟨b, rfl, e⟩ | ⟨i, rfl, e⟩ | ⟨z, ⟨rfl, _⟩, e⟩
      · refine q_if ?_
        walk_at "s"
        exact q0
      all_goals cases e
    · rcases f2 with ⟨rfl, e⟩ | ⟨b2, rfl, e⟩ | ⟨i, rfl, e⟩ | ⟨z, ⟨rfl, _⟩, e⟩
      · cases e
      · cases e
        refine q_if ?_
        walk_at "s"
        refine q_if ?_
        walk_at "s"
        exact q0
      all_goals cases e
    · rcases f2 with ⟨rfl, e⟩ | ⟨b2, rfl, e⟩ | ⟨i2, rfl, e⟩ | ⟨z, ⟨rfl, _⟩, e⟩
      · cases e
      · cases e
      · cases e
        refine q_if ?_
        walk_at "s"
        refine q_if ?_
        walk_at "s"
        refine q_if ?_
        walk_at "s"
        exact q0
      · cases e
    · rcases f2 with ⟨rfl, e⟩ | ⟨b2, rfl, e⟩ | ⟨i2, rfl, e⟩ | ⟨z2, ⟨rfl, _⟩, e⟩
      · cases e
      · cases e
      · cases e
      · cases e
        refine q_if ?_
        walk_at "s"
        refine q_if ?_
        walk_at "s"
        refine q_if ?_
        walk_at "s"
        refine q_if ?_
        walk_at "s"
        exact q0
  cases n with
  | zero => exact flat r1 r2
  | succ n =>
    rcases r1 with f1 | ⟨p1, xs, ds, rfl, e1, rfl, l1, a1⟩ | ⟨p1, xs, ds, rfl, e1, rfl, l1, a1⟩ | ⟨p1, rfl, e1, rfl⟩
    · rcases r2 with f2 | ⟨p2, ys, ds2, rfl, e2, rfl, l2, a2⟩ | ⟨p2, ys, ds2, rfl, e2, rfl, l2, a2⟩ | ⟨p2, rfl, e2, rfl⟩
      · exact flat f1 f2
      · rcases f1 with ⟨_, e⟩ | ⟨_, _, e⟩ | ⟨_, _, e⟩ | ⟨_, _, e⟩ <;> cases e
      · rcases f1 with ⟨_, e⟩ | ⟨_, _, e⟩ | ⟨_, _, e⟩ | ⟨_, _, e⟩ <;> cases e
      · rcases f1 with ⟨_, e⟩ | ⟨_, _, e⟩ | ⟨_, _, e⟩ | ⟨_, _, e⟩ <;> cases e
    · rcases r2 with f2 | ⟨p2, ys, ds2, rfl, e2, e, l2, a2⟩ | ⟨p2, ys, ds2, rfl, e2, e, l2, a2⟩ | ⟨p2, rfl, e2, e⟩
      · rcases f2 with ⟨_, e⟩ | ⟨_, _, e⟩ | ⟨_, _, e⟩ | ⟨_, _, e⟩ <;> cases e
      · cases e
        refine q_if ?_
        walk_at "s"
        refine q_if ?_
        walk_at "s"
        rw [lst_ty e1, lst_ty e2]
        walk_at "s"
        refine q_if ?_
        walk_at "s"
        rw [lst_ty e1, lst_ty e2]
        walk_at "s"
        refine q_if ?_
        walk_at "s"
        rw [lst_ty e1, lst_ty e2]
        walk_at "s"
        refine q_if ?_
        walk_at "s"
        rw [lst_ty e1, lst_ty e2]
        walk_at "s"
        refine q_if ?_
        walk_at "s"
        refine ⟨by decide, fun tp htp => ?_⟩
        have s1 : Sm H (upd H tp (.tup [V.ty "list", V.ty "tuple"])) := sm_new (fun _ _ z => z) htp
        have t1 := upd_same (H := H) (a := tp) (o := .tup [V.ty "list", V.ty "tuple"])
        generalize upd H tp (.tup [V.ty "list", V.ty "tuple"]) = H1 at s1 t1 ⊢
        rw [tyN_mono s1 (lst_ty e1)]
        walk_at "s"
        have e1' := sm_L s1 e1
        have e2' := sm_L s1 e2
        refine q_if ?_
        walk_at "s"
        rw [lst_ty e1', lst_ty e2']
        walk_at "s"
        refine q_if ?_
        walk_at "s"
        simp only [f_lenL (asS_of_L e1'), f_lenL (asS_of_L e2')]
        walk_at "s"
        have ll : xs.length = ys.length := a1.1.trans a2.1.symm
        have l3 : (xs.length : Int) = ys.length := by omega
        simp only [l3, decide_true, Bool.not_true, Bool.false_eq_true, if_false]
        refine q_for ?_
        walk_at "s"
        simp only [f_lenL (asS_of_L e1')]
        walk_at "s"
        refine ⟨by omega, by omega, ?_⟩
        refine loop_range (fun i σ H2 => ∃ v, σ = [some (.ref p1), some (.ref p2), none, v, none, none] ∧ Sm H1 H2) ⟨_, rfl, fun _ _ z => z⟩ ?_ ?_
        · rintro i σ H2 hi ⟨v, rfl, s2⟩
          walk_at "s"
          have hx : i < xs.length := by omega
          have hy : i < ys.length := by omega
          have hd : i < ds.length := by have := a1.1; omega
          refine q_if1 ?_
          walk_at "s"
          rw [asS_of_L (sm_L s2 e1'), asS_of_L (sm_L s2 e2')]
          walk_at "s"
          have ei : (0 : Int) + (i : Nat) = (i : Nat) := Int.zero_add _
          rw [ei]
          refine at_nat (v := xs[i]) (by simp [hx]) (at_nat (v := ys[i]) (by simp [hy]) ?_)
          refine ⟨_, _, ds[i], rfl, (a1.2 i _ _ (by simp [hx]) (by simp [hd])).mono (fun b o z => s2 b o (s1 b o z)), (a2.2 i _ _ (by simp [hy]) (by simp [hd])).mono (fun b o z => s2 b o (s1 b o z)), fun H3 s3 => ?_⟩
          walk_at "s"
          exact fun b o z => s3 b o (s2 b o z)
        · rintro σ H2 ⟨v, rfl, s2⟩
          walk_at "s"
          exact q H2 fun b o z => s2 b o (s1 b o z)
      · cases e
      · cases e
    · rcases r2 with f2 | ⟨p2, ys, ds2, rfl, e2, e, l2, a2⟩ | ⟨p2, ys, ds2, rfl, e2, e, l2, a2⟩ | ⟨p2, rfl, e2, e⟩
      · rcases f2 with ⟨_, e⟩ | ⟨_, _, e⟩ | ⟨_, _, e⟩ | ⟨_, _, e⟩ <;> cases e
      · cases e
      · cases e
        refine q_if ?_
        walk_at "s"
        refine q_if ?_
        walk_at "s"
        rw [tup_ty e1, tup_ty e2]
        walk_at "s"
        refine q_if ?_
        walk_at "s"
        rw [tup_ty e1, tup_ty e2]
        walk_at "s"
        refine q_if ?_
        walk_at "s"
        rw [tup_ty e1, tup_ty e2]
        walk_at "s"
        refine q_if ?_
        walk_at "s"
        rw [tup_ty e1, tup_ty e2]
        walk_at "s"
        refine q_if ?_
        walk_at "s"
        refine ⟨by decide, fun tp htp => ?_⟩
        have s1 : Sm H (upd H tp (.tup [V.ty "list", V.ty "tuple"])) := sm_new (fun _ _ z => z) htp
        have t1 := upd_same (H := H) (a := tp) (o := .tup [V.ty "list", V.ty "tuple"])
        generalize upd H tp (.tup [V.ty "list", V.ty "tuple"]) = H1 at s1 t1 ⊢
        rw [tyN_mono s1 (tup_ty e1)]
        walk_at "s"
        have e1' := sm_T s1 e1
        have e2' := sm_T s1 e2
        refine q_if ?_
        walk_at "s"
        rw [tup_ty e1', tup_ty e2']
        walk_at "s"
        refine q_if ?_
        walk_at "s"
        simp only [f_lenL (asS_of_T e1'), f_lenL (asS_of_T e2')]
        walk_at "s"
        have ll : xs.length = ys.length := a1.1.trans a2.1.symm
        have l3 : (xs.length : Int) = ys.length := by omega
        simp only [l3, decide_true, Bool.not_true, Bool.false_eq_true, if_false]
        refine q_for ?_
        walk_at "s"
        simp only [f_lenL (asS_of_T e1')]
        walk_at "s"
        refine ⟨by omega, by omega, ?_⟩
        refine loop_range (fun i σ H2 => ∃ v, σ = [some (.ref p1), some (.ref p2), none, v, none, none] ∧ Sm H1 H2) ⟨_, rfl, fun _ _ z => z⟩ ?_ ?_
        · rintro i σ H2 hi ⟨v, rfl, s2⟩
          walk_at "s"
          have hx : i < xs.length := by omega
          have hy : i < ys.length := by omega
          have hd : i < ds.length := by have := a1.1; omega
          refine q_if1 ?_
          walk_at "s"
          rw [asS_of_T (sm_T s2 e1'), asS_of_T (sm_T s2 e2')]
          walk_at "s"
          have ei : (0 : Int) + (i : Nat) = (i : Nat) := Int.zero_add _
          rw [ei]
          refine at_nat (v := xs[i]) (by simp [hx]) (at_nat (v := ys[i]) (by simp [hy]) ?_)
          refine ⟨_, _, ds[i], rfl, (a1.2 i _ _ (by simp [hx]) (by simp [hd])).mono (fun b o z => s2 b o (s1 b o z)), (a2.2 i _ _ (by simp [hy]) (by simp [hd])).mono (fun b o z => s2 b o (s1 b o z)), fun H3 s3 => ?_⟩
          walk_at "s"
          exact fun b o z => s3 b o (s2 b o z)
        · rintro σ H2 ⟨v, rfl, s2⟩
          walk_at "s"
          exact q H2 fun b o z => s2 b o (s1 b o z)
      · cases e
    · rcases r2 with f2 | ⟨p2, ys, ds2, rfl, e2, e, l2, a2⟩ | ⟨p2, ys, ds2, rfl, e2, e, l2, a2⟩ | ⟨p2, rfl, e2, e⟩
      · rcases f2 with ⟨_, e⟩ | ⟨_, _, e⟩ | ⟨_, _, e⟩ | ⟨_, _, e⟩ <;> cases e
      · cases e
      · cases e
      · have y1 := tyN_dK e1
        have y2 := tyN_dK e2
        refine q_if ?_
        walk_at "s"
        refine q_if ?_
        walk_at "s"
        rw [y1, y2]
        walk_at "s"
        refine q_if ?_
        walk_at "s"
        rw [y1, y2]
        walk_at "s"
        refine q_if ?_
        walk_at "s"
        rw [y1, y2]
        walk_at "s"
        refine q_if ?_
        walk_at "s"
        rw [y1]
        walk_at "s"
        refine q_if ?_
        walk_at "s"
        rw [y1]
        walk_at "s"
        rw [y2]
        walk_at "s"
        simp only [f_lenD e1, f_lenD e2]
        walk_at "s"
        refine q_seq (lock_empty (n := 0) rfl e1 ?_)
        walk_at "s"
        exact q H fun _ _ z => z
def sp_l_store (K : PySem.W.Frag) (C : CA) : Sp := fun vs H Q _ => ∃ (a : Addr) (ns : List Int), vs = [.ref a] ∧ SqL K H a (ns.map V.int) ∧ ns.length ≤ 63 ∧ ∀ st H', Sm H H' → H st = none → StAt H' st → Q (.ref st) H'
def rd_l_store (K : PySem.W.Frag) (C : CA) (E : XK) : TS :=
  (tSeq (tAsg (tLc (iList K (tVar 0)) (gName 1) tYes (tCB fInt (tCons (tVar 1) tNil)) [1]) (gName 2)) (tSeq (tAsg (tC (.int 0)) (gName 3)) (tSeq (tFor (iList K (tVar 2)) (gName 1) (tAsg (tCallS (sp_l_mixed K C) (fun _ => E0) (tCons (tOp fAdd (tCB fInt (tCons (tVar 1) tNil)) (tVar 3)) (tCons (tCB fLen (tCons (tVar 2) tNil)) tNil))) (gName 3))) (tRet (tLst (tCons (tVar 2) (tCons (tC (.int 0)) (tCons (tC (.int 0)) (tCons (tC (.int 0)) (tCons (tVar 3) tNil))))))))))
theorem pure_l_store {K : PySem.W.Frag} {C : CA} (vs : List V) (H : Hp) (Q : VK) (E : XK) (h : sp_l_store K C vs H Q E) : rd_l_store K C E { nx := fun _ H' => Q .non H', rt := Q } (start [("script" : Str), ("cell" : Str), ("cells" : Str), ("seed" : Str)] vs) H := by
  obtain ⟨a, ns, rfl, hs, hn, q⟩ := h
  show rd_l_store K C E _ [some (.ref a), none, none, none] H
  unfold rd_l_store
  refine q_asg ?_
  walk_at "s"
  rw [u_list]
  walk_at "s"
  refine ⟨⟨_, hs⟩, fun Dd hD => ?_⟩
  refine made_mapS id (fun H' s => L2.Same.seq s hs) hD (by rw [List.length_map]; show _ < 2 ^ 24; omega) (fun _ => rfl) (fun i x H1 Q1 hx s1 q1 => ?_) fun H1 s1 hd => ?_
  · obtain ⟨n, hn, rfl⟩ := get_int hx
    walk_at "s"
    exact q1 H1 fun _ _ z => z
  · rw [List.map_id] at hd
    walk_at "s"
    refine q_asg ?_
    walk_at "s"
    refine q_for ?_
    rw [u_list]
    walk_at "s"
    refine ⟨⟨_, asL_seq (by rw [hd] <;> rfl)⟩, ?_⟩
    refine loop_list (xs := ns.map V.int) (fun i σ H2 => ∃ (v : Option V) (e : Int), σ = [some (.ref a), v, some (.ref Dd), some (.int e)] ∧ H2 = H1) ⟨_, _, rfl, rfl⟩ (fun i σ H2 _ ⟨_, _, _, e⟩ => by rw [e, hd] <;> rfl) ?_ ?_
    · rintro i x σ H2 hx ⟨v, e, rfl, rfl⟩
      obtain ⟨n, hn, rfl⟩ := get_int hx
      walk_at "s"
      refine q_asg1 ?_
      walk_at "s"
      rw [hd]
      walk_at "s"
      refine ⟨_, _, rfl, fun r _ _ => ?_⟩
      walk_at "s"
      exact ⟨r, rfl⟩
    · rintro σ H2 ⟨v, e, rfl, rfl⟩
      walk_at "s"
      refine ⟨by decide, fun st hst => ?_⟩
      have h0 : H st = none := by
        cases eo : H st with
        | none => rfl
        | some o => rw [s1 _ _ eo] at hst; cases hst
      refine q st _ (sm_new s1 hst) h0 ⟨Dd, ns, 0, 0, 0, e, upd_same, ?_, ne_of_none hd hst, by decide, by omega⟩
      rw [upd_ne (ne_of_none hd hst)]
      exact hd
theorem Kp.put' {st p : Addr} {H H1 : Hp} {o : HO} (a : Kp st H H1) (h : H p = none) (n : p ≠ st) : Kp st H (upd H1 p o) := ⟨fun x u m e => by
  rw [upd_ne (ne_of_none e h)]
  exact a.1 x u m e, fun c r e => by
  obtain ⟨r1, h1⟩ := a.2 c r e
  exact ⟨r1, by rw [upd_ne n.symm]; exact h1⟩⟩
theorem StAt.put' {H H1 : Hp} {st p : Addr} {o : HO} (s : StAt H st) (h : H p = none) (k : Kp st H H1) (s1 : StAt H1 st) : StAt (upd H1 p o) st := by
  have n := s.ne h
  obtain ⟨c, ns, a, b, d, e, h1, h2, _⟩ := s
  obtain ⟨c', ns', a', b', d', e', g1, g2, g3, g4, g5⟩ := s1
  obtain ⟨r1, e1⟩ := k.2 _ _ h1
  rw [g1] at e1
  cases e1
  exact ⟨c, ns', a', b', d', e', by rw [upd_ne n.symm]; exact g1, by rw [upd_ne (ne_of_none h2 h)]; exact g2, g3, g4, g5⟩
theorem asS_at {H : Hp} {p : Addr} {xs : List V} (h : H p = some (.lst xs)) : asS (H p) = some xs := by rw [h]; rfl
theorem asL_at {H : Hp} {p : Addr} {xs : List V} (h : H p = some (.lst xs)) : asL (H p) = some xs := by rw [h]; rfl
theorem pick_ok {K : PySem.W.Frag} {C : CA} {H : Hp} {Q : VK} {E : XK} {st p : Addr} {xs : List V} (hs : StAt H st) (hp : asS (H p) = some xs) (n : p ≠ st) (hl : xs.length < 2 ^ 60) (h0 : xs ≠ [])
    (q : ∀ (n : Nat) (v : V) (H' : Hp), xs[n]? = some v → Kp st H H' → StAt H' st → Q v H') : sp_l_pick K C [.ref st, .ref p] H Q E := ⟨_, _, _, rfl, hs, hp, n, hl, fun e => absurd e h0, q⟩
theorem cut_to {xs : List V} {i : Int} (h : 0 ≤ i) : cutV xs none (some i) = xs.take i.toNat := by
  obtain ⟨n, rfl⟩ : ∃ n : Nat, i = n := ⟨i.toNat, by omega⟩
  unfold cutV
  rw [HT.sIx_none, List.drop_zero, HT.sIx_nat, Nat.sub_zero, Int.toNat_natCast, ← List.take_eq_take_min]
theorem cut_from {xs : List V} {i : Int} (h : 0 ≤ i) : cutV xs (some i) none = xs.drop i.toNat := by
  obtain ⟨n, rfl⟩ : ∃ n : Nat, i = n := ⟨i.toNat, by omega⟩
  unfold cutV
  rw [HT.sIx_none, HT.sIx_nat, Int.toNat_natCast]
  by_cases c : n ≤ xs.length
  · rw [Nat.min_eq_left c, List.take_of_length_le (by rw [List.length_drop]; omega)]
  · rw [List.drop_eq_nil_of_le (by omega), List.drop_eq_nil_of_le (by omega), List.take_nil]
end XB

/-! Texts drawn. -/
namespace XB
open PySem L2
local macro_rules | `(tactic| walk_at "s") => `(tactic| try simp only [u_var, u_c, u_op, u_un, u_nil, u_cons, u_cb, u_call, u_callS, u_tup, u_lst, u_test, u_B, u_and, u_or, u_not, u_andV, u_orV, u_notV, u_ifE, u_chain, u_sl, u_noPart, u_part, u_bm, u_bm0, u_rev, u_lc, u_try, u_sui, u_sui0, u_unb_rt, u_unb_nx, u_xf, u_WE, w_nil, w_cons, u_raise, u_rng1, u_rng2, u_next, u_ret, u_gname, u_gnil, u_gcons, u_gsub, u_gtup,
  f_add, f_addS, f_addR, f_sub, f_mul, f_mulR, f_mod, f_div, f_pow, f_neg, f_cmp, f_eq, f_eqB, f_eqS, f_ne, f_neB, f_neS, f_isN, f_notN, f_isB, f_ix, f_ixS, f_int, f_intB, f_len, f_lenS, f_max, f_min, f_abs, f_list, f_tuple, f_all, f_sum, f_isi, f_isiT, f_append, f_insert, f_pop, f_sl, f_set, u_fldW, u_propW, u_makeS, u_makeL, u_cmethS, u_methS, u_ostW, f_isC, f_minSS, f_maxSS, f_reverse,
  kitS, tys, List.isEmpty_cons, Option.map_some, kt_NoneType_int, kt_NoneType_bool, kt_NoneType_str, kt_NoneType_list, kt_NoneType_tuple, kt_NoneType_dict, kt_int_int, kt_int_bool, kt_int_str, kt_int_list, kt_int_tuple, kt_int_dict, kt_bool_int, kt_bool_bool, kt_bool_str, kt_bool_list, kt_bool_tuple, kt_bool_dict, kt_str_int, kt_str_bool, kt_str_str, kt_str_list, kt_str_tuple, kt_str_dict, kt_list_int, kt_list_bool, kt_list_str, kt_list_list, kt_list_tuple, kt_list_dict, kt_tuple_int, kt_tuple_bool, kt_tuple_str, kt_tuple_list, kt_tuple_tuple, kt_tuple_dict, kt_dict_int, kt_dict_bool, kt_dict_str, kt_dict_list, kt_dict_tuple, kt_dict_dict, asL_lst, asL_frz, asL_tup, asT_tup, asS_lst, asS_frz, asS_tup, tyN_non, tyN_bl, tyN_int, tyN_str, atV_lit, ixN_lit, upd_same, upd_ne, upd_ne',
  List.getElem?_cons_zero, List.getElem?_cons_succ, List.set_cons_zero, List.set_cons_succ, List.append_nil, List.length_cons, List.length_nil, Option.some.injEq, exists_eq_left', exists_eq_left, exists_and_left, V.bl.injEq, V.int.injEq, V.str.injEq, V.ref.injEq, Bool.not_eq_true, Bool.not_true, Bool.not_false, decide_true, decide_false, decide_eq_true_eq, decide_eq_false_iff_not, Bool.false_eq_true, if_true, if_false, ite_true, ite_false, reduceCtorEq, true_and, and_true, Nat.reduceAdd, Nat.reduceLT, Nat.zero_add, ne_eq, not_false_eq_true, not_true_eq_false, List.cons.injEq, and_assoc])
local macro_rules | `(tactic| walk_at "S") => `(tactic| try simp only [u_var, u_c, u_op, u_un, u_nil, u_cons, u_cb, u_call, u_callS, u_tup, u_lst, u_test, u_B, u_and, u_or, u_not, u_andV, u_orV, u_notV, u_ifE, u_chain, u_sl, u_noPart, u_part, u_bm, u_bm0, u_rev, u_lc, u_try, u_sui, u_sui0, u_unb_rt, u_unb_nx, u_xf, u_WE, w_nil, w_cons, u_raise, u_rng1, u_rng2, u_next, u_ret, u_gname, u_gnil, u_gcons, u_gsub, u_gtup,
  f_add, f_addS, f_addR, f_sub, f_mul, f_mulR, f_mod, f_div, f_pow, f_neg, f_cmp, f_eq, f_eqB, f_eqS, f_ne, f_neB, f_neS, f_isN, f_notN, f_isB, f_ix, f_ixS, f_int, f_intB, f_len, f_lenS, f_max, f_min, f_abs, f_list, f_tuple, f_all, f_sum, f_isi, f_isiT, f_append, f_insert, f_pop, f_sl, f_set, u_fldW, u_propW, u_makeS, u_makeL, u_cmethS, u_methS, u_ostW, f_isC, f_minSS, f_maxSS, f_reverse,
  kitS, tys, List.isEmpty_cons, Option.map_some, kt_NoneType_int, kt_NoneType_bool, kt_NoneType_str, kt_NoneType_list, kt_NoneType_tuple, kt_NoneType_dict, kt_int_int, kt_int_bool, kt_int_str, kt_int_list, kt_int_tuple, kt_int_dict, kt_bool_int, kt_bool_bool, kt_bool_str, kt_bool_list, kt_bool_tuple, kt_bool_dict, kt_str_int, kt_str_bool, kt_str_str, kt_str_list, kt_str_tuple, kt_str_dict, kt_list_int, kt_list_bool, kt_list_str, kt_list_list, kt_list_tuple, kt_list_dict, kt_tuple_int, kt_tuple_bool, kt_tuple_str, kt_tuple_list, kt_tuple_tuple, kt_tuple_dict, kt_dict_int, kt_dict_bool, kt_dict_str, kt_dict_list, kt_dict_tuple, kt_dict_dict, asL_lst, asL_frz, asL_tup, asT_tup, asS_lst, asS_frz, asS_tup, tyN_non, tyN_bl, tyN_int, tyN_str, atV_lit, ixN_lit, upd_same, upd_ne, upd_ne',
  List.getElem?_cons_zero, List.getElem?_cons_succ, List.set_cons_zero, List.set_cons_succ, List.append_nil, List.length_cons, List.length_nil, Option.some.injEq, exists_eq_left', exists_eq_left, exists_and_left, V.bl.injEq, V.int.injEq, V.str.injEq, V.ref.injEq, Bool.not_eq_true, Bool.not_true, Bool.not_false, decide_true, decide_false, decide_eq_true_eq, decide_eq_false_iff_not, Bool.false_eq_true, if_true, if_false, ite_true, ite_false, reduceCtorEq, true_and, and_true, Nat.reduceAdd, Nat.reduceLT, Nat.zero_add, ne_eq, not_false_eq_true, not_true_eq_false, List.cons.injEq, and_assoc, *])
def cl (z : Str) : List Nat := z.cps.toList
theorem cl_len {z : Str} : (cl z).length = z.length := Array.length_toList
theorem cl_add {a b : Str} : cl (a ++ b) = cl a ++ cl b := Array.toList_append
theorem cl_one {c : Nat} : cl (⟨#[c]⟩ : Str) = [c] := rfl
theorem cl_inj {a b : Str} (h : cl a = cl b) : a = b := by
  cases a with
  | mk x =>
    cases b with
    | mk y =>
      have : x = y := Array.ext' h
      rw [this]
def lettersS : Str := ("abcdefghijklmnopqrstuvwxyz" : Str)
def signsS : Str := ("abcdefghijklmnopqrstuvwxyz0123456789" : Str)
def nameS (z : Str) : Bool := decide (1 ≤ z.length) && decide (z.length ≤ 8) && (match z.cps.toList with
  | c :: _ => decide (c ∈ lettersS.cps.toList)
  | [] => false) && z.cps.toList.all fun c => decide (c ∈ signsS.cps.toList)
/-- a letter, then letters and digits -/
def WordOk (z : Str) : Prop := (∃ c t, cl z = c :: t ∧ c ∈ cl lettersS) ∧ ∀ c ∈ cl z, c ∈ cl signsS
theorem letter_sign {c : Nat} (h : c ∈ cl lettersS) : c ∈ cl signsS := by
  have e : ∀ c ∈ cl lettersS, c ∈ cl signsS := by decide +kernel
  exact e c h
theorem name_of {z : Str} (h : WordOk z) (l : z.length ≤ 8) : nameS z = true := by
  obtain ⟨⟨c, t, e, hc⟩, ha⟩ := h
  have l1 : 1 ≤ z.length := by rw [← cl_len, e]; simp
  unfold nameS
  have e' : z.cps.toList = c :: t := e
  have e3 : (z.cps.toList.all fun c => decide (c ∈ signsS.cps.toList)) = true := by
    rw [List.all_eq_true]
    exact fun d hd => decide_eq_true (ha d hd)
  rw [decide_eq_true l1, decide_eq_true l, e3, e']
  simp only [Bool.true_and, Bool.and_true]
  exact decide_eq_true hc
theorem txt_at {z : Str} {r : Int} {q : Nat → Prop} (h0 : 0 ≤ r) (h1 : r < (z.cps.size : Nat)) (k : ∀ c, (cl z)[r.toNat]? = some c → q c) : ∃ c, atI z.cps.toList r = some c ∧ q c := by
  obtain ⟨n, rfl⟩ : ∃ n : Nat, r = n := ⟨r.toNat, by omega⟩
  have hn : n < z.cps.toList.length := by rw [Array.length_toList]; omega
  have e : z.cps.toList[n]? = some z.cps.toList[n] := List.getElem?_eq_getElem hn
  exact ⟨z.cps.toList[n], atI_nat e, k _ e⟩
theorem str_len1 {c : Nat} : (⟨#[c]⟩ : Str).length = 1 := rfl
theorem str_len_add {a b : Str} : (a ++ b).length = a.length + b.length := by
  show (a.cps ++ b.cps).size = a.cps.size + b.cps.size
  exact Array.size_append
def sp_l_word (K : PySem.W.Frag) (C : CA) : Sp := fun vs H Q _ => ∃ (st : Addr) (n : Int), vs = [.ref st, .int n] ∧ StAt H st ∧ 1 ≤ n ∧ n ≤ 8 ∧ ∀ (z : Str) (H' : Hp), WordOk z → (z.length : Int) = n → Kp st H H' → StAt H' st → Q (.str z) H'
def rd_l_word (K : PySem.W.Frag) (C : CA) (E : XK) : TS :=
  (tSeq (tAsg (tC (.str ("abcdefghijklmnopqrstuvwxyz" : Str))) (gName 2)) (tSeq (tAsg (tOp fAdd (tVar 2) (tC (.str ("0123456789" : Str)))) (gName 3)) (tSeq (tAsg (tOp fIx (tVar 2) (tCallS (sp_l_take K C) (fun _ => E0) (tCons (tVar 0) (tCons (tC (.int 26)) tNil)))) (gName 4)) (tSeq (tFor (iRng1 (tCons (tCB fMin (tCons (tC (.int 7)) (tCons (tOp fSub (tVar 1) (tC (.int 1))) tNil))) tNil)) (gName 5) (tAsg (tOp fAdd (tVar 4) (tOp fIx (tVar 3) (tCallS (sp_l_take K C) (fun _ => E0) (tCons (tVar 0) (tCons (tC (.int 36)) tNil))))) (gName 4))) (tRet (tVar 4))))))
theorem pure_l_word {K : PySem.W.Frag} {C : CA} (vs : List V) (H : Hp) (Q : VK) (E : XK) (h : sp_l_word K C vs H Q E) : rd_l_word K C E { nx := fun _ H' => Q .non H', rt := Q } (start [("store" : Str), ("size" : Str), ("letters" : Str), ("signs" : Str), ("word" : Str), ("k" : Str)] vs) H := by
  obtain ⟨st, n, rfl, hs, hm, hn, q⟩ := h
  show rd_l_word K C E _ [some (.ref st), some (.int n), none, none, none, none] H
  unfold rd_l_word
  refine q_asg ?_
  walk_at "s"
  refine q_asg ?_
  walk_at "s"
  refine ⟨by decide +kernel, ?_⟩
  refine q_asg ?_
  walk_at "s"
  refine take_ok hs (by decide) fun r H1 r0 r1 k1 s1 => ?_
  walk_at "s"
  have e1 : (Str.ofString "abcdefghijklmnopqrstuvwxyz").cps.size = 26 := by decide +kernel
  have e2 : (Str.ofString "abcdefghijklmnopqrstuvwxyz" ++ Str.ofString "0123456789").cps.size = 36 := by decide +kernel
  have e3 : Str.ofString "abcdefghijklmnopqrstuvwxyz" ++ Str.ofString "0123456789" = signsS := by decide +kernel
  refine ⟨by decide +kernel, txt_at r0 (by omega) fun c hc => ?_⟩
  have hc1 : c ∈ cl lettersS := List.mem_of_getElem? hc
  rw [e3] at e2 ⊢
  generalize (Str.ofString "abcdefghijklmnopqrstuvwxyz") = lt at e1 ⊢
  refine q_for ?_
  walk_at "s"
  refine ⟨by omega, by omega, ?_⟩
  refine loop_range (fun i σ H2 => ∃ (z : Str) (v : Option V), σ = [some (.ref st), some (.int n), some (.str lt), some (.str signsS), some (.str z), v] ∧ WordOk z ∧ z.length = i + 1 ∧ Kp st H H2 ∧ StAt H2 st)
    ⟨_, _, rfl, ⟨⟨c, [], rfl, hc1⟩, fun d hd => by rw [cl_one, List.mem_singleton] at hd; rw [hd]; exact letter_sign hc1⟩, str_len1, k1, s1⟩ ?_ ?_
  · rintro i σ H2 hi ⟨z, v, rfl, wz, lz, k2, s2⟩
    walk_at "s"
    refine q_asg1 ?_
    walk_at "s"
    refine take_ok s2 (by decide) fun r H3 r0 r1 k3 s3 => ?_
    walk_at "s"
    refine ⟨by show signsS.cps.size ≤ 2 ^ 24; omega, txt_at r0 (by omega) fun d hd => ?_⟩
    have hd1 : d ∈ cl signsS := List.mem_of_getElem? hd
    refine ⟨by rw [str_len1]; show _ ≤ 2 ^ 24; omega, ?_⟩
    obtain ⟨⟨c, t, e, hc⟩, ha⟩ := wz
    refine ⟨⟨⟨c, t ++ [d], by rw [cl_add, e]; rfl, hc⟩, fun x hx => ?_⟩, by rw [str_len_add, str_len1]; omega, k2.trans k3, s3⟩
    rw [cl_add, List.mem_append, cl_one, List.mem_singleton] at hx
    rcases hx with hx | rfl
    · exact ha x hx
    · exact hd1
  · rintro σ H2 ⟨z, v, rfl, wz, lz, k2, s2⟩
    walk_at "s"
    exact q z H2 wz (by omega) k2 s2
theorem word_ok {K : PySem.W.Frag} {C : CA} {H : Hp} {Q : VK} {E : XK} {st : Addr} {n : Int} (hs : StAt H st) (h0 : 1 ≤ n) (h1 : n ≤ 8)
    (q : ∀ (z : Str) (H' : Hp), WordOk z → (z.length : Int) = n → Kp st H H' → StAt H' st → Q (.str z) H') : sp_l_word K C [.ref st, .int n] H Q E := ⟨_, _, rfl, hs, h0, h1, q⟩
theorem perm_move {α : Type} {ls ys xs : List α} {m : Nat} {x : α} (hx : ls[m]? = some x) (p : (ls ++ ys).Perm xs) : ((ls.take m ++ ls.drop (m + 1)) ++ (ys ++ [x])).Perm xs := by
  refine List.Perm.trans ?_ p
  have hm := (List.getElem?_eq_some_iff.mp hx).1
  have e : ls = ls.take m ++ x :: ls.drop (m + 1) := by
    have e1 := (List.getElem?_eq_some_iff.mp hx).2
    rw [← e1, List.getElem_cons_drop, List.take_append_drop]
  have p1 : (ls.take m ++ x :: ls.drop (m + 1)).Perm (x :: (ls.take m ++ ls.drop (m + 1))) := List.perm_middle
  have p2 : ((ls.take m ++ ls.drop (m + 1)) ++ (ys ++ [x])).Perm (x :: (ls.take m ++ ls.drop (m + 1)) ++ ys) := by
    have := List.perm_append_comm (l₁ := (ls.take m ++ ls.drop (m + 1)) ++ ys) (l₂ := [x])
    rw [List.append_assoc] at this
    simpa using this
  refine p2.trans ?_
  have p3 : (x :: (ls.take m ++ ls.drop (m + 1))).Perm ls := by
    refine List.Perm.trans p1.symm ?_
    rw [← e]
  exact p3.append_right ys
/-- drawn out of a list, in any order: a new list of its items -/
def sp_l_some (K : PySem.W.Frag) (C : CA) : Sp := fun vs H Q _ => ∃ (st p : Addr) (n : Int) (xs : List V), vs = [.ref st, .ref p, .int n] ∧ StAt H st ∧ asS (H p) = some xs ∧ p ≠ st ∧ xs.length ≤ 1000 ∧ -(2 ^ 60) ≤ n ∧
  ∀ (o : Addr) (ys : List V) (H' : Hp), H o = none → H' o = some (.lst ys) → ys.length = (min n (xs.length : Nat)).toNat → (∃ rest, (rest ++ ys).Perm xs) → Kp st H H' → StAt H' st → Q (.ref o) H'
def rd_l_some (K : PySem.W.Frag) (C : CA) (E : XK) : TS :=
  (tSeq (tAsg (tCB fList (tCons (tVar 1) tNil)) (gName 3)) (tSeq (tAsg (tLst tNil) (gName 4)) (tSeq (tFor (iRng1 (tCons (tCB fMin (tCons (tVar 2) (tCons (tCB fLen (tCons (tVar 1) tNil)) tNil))) tNil)) (gName 5) (tSeq (tAsg (tCallS (sp_l_take K C) (fun _ => E0) (tCons (tVar 0) (tCons (tCB fLen (tCons (tVar 3) tNil)) tNil))) (gName 6)) (tSeq (tDrop (tBMF "list" fAppend (tVar 4) (tCons (tOp fIx (tVar 3) (tVar 6)) tNil))) (tAsg (tOp fAdd (tSl fSl2 (tVar 3) tNoPart (tPart (tVar 6))) (tSl fSl2 (tVar 3) (tPart (tOp fAdd (tVar 6) (tC (.int 1)))) tNoPart)) (gName 3))))) (tRet (tVar 4)))))
theorem pure_l_some {K : PySem.W.Frag} {C : CA} (vs : List V) (H : Hp) (Q : VK) (E : XK) (h : sp_l_some K C vs H Q E) : rd_l_some K C E { nx := fun _ H' => Q .non H', rt := Q } (start [("store" : Str), ("row" : Str), ("many" : Str), ("left" : Str), ("found" : Str), ("k" : Str), ("at" : Str)] vs) H := by
  obtain ⟨st, p, n, xs, rfl, hs, hp, np, hl, hm, q⟩ := h
  show rd_l_some K C E _ [some (.ref st), some (.ref p), some (.int n), none, none, none, none] H
  unfold rd_l_some
  refine q_asg ?_
  walk_at "s"
  simp only [hp]
  refine fun o1 n1 => al n1 fun H1 t1 g1 => ?_
  refine q_asg ?_
  walk_at "s"
  refine ⟨by decide, fun o2 n2 => al n2 fun H2 t2 g2 => ?_⟩
  have s2 := hs.sm (sm_trans t1 t2)
  have n2' := sm_none t1 n2
  refine q_for ?_
  walk_at "s"
  simp only [sm_S t2 (sm_S t1 hp)]
  walk_at "s"
  refine ⟨by omega, by omega, ?_⟩
  refine loop_range (fun i σ H3 => ∃ (ol : Addr) (ls ys : List V) (v w : Option V), σ = [some (.ref st), some (.ref p), some (.int n), some (.ref ol), some (.ref o2), v, w] ∧ ol ≠ st ∧ ol ≠ o2 ∧ H3 ol = some (.lst ls) ∧ H3 o2 = some (.lst ys) ∧
    ls.length = xs.length - i ∧ ys.length = i ∧ (ls ++ ys).Perm xs ∧ Kp st H H3 ∧ StAt H3 st)
    ⟨o1, xs, [], _, _, rfl, hs.ne n1, ne_of_none g1 n2, t2 _ _ g1, g2, rfl, rfl, by rw [List.append_nil], kp_sm (sm_trans t1 t2), s2⟩ ?_ ?_
  · rintro i σ H3 hi ⟨ol, ls, ys, v, w, rfl, nl, nlo, gl, gy, ll, ly, pm, k3, s3⟩
    walk_at "s"
    refine q_asg ?_
    walk_at "s"
    simp only [asS_at gl]
    walk_at "s"
    refine take_ok s3 (by omega) fun r H4 r0 r1 k4 s4 => ?_
    have gl4 := k4.1 _ _ nl gl
    have gy4 := k4.1 _ _ (hs.ne n2') gy
    refine q_drop ?_
    walk_at "s"
    refine ⟨tyN_lst gy4, ?_⟩
    simp only [asS_at gl4]
    obtain ⟨m, rfl⟩ : ∃ m : Nat, r = m := ⟨r.toNat, by omega⟩
    have hm : m < ls.length := by omega
    refine at_nat (v := ls[m]) (by simp [hm]) ?_
    walk_at "s"
    simp only [gy4]
    refine ⟨by show _ < 2 ^ 24; omega, ?_⟩
    have k5 : Kp st H (upd H4 o2 (.lst (ys ++ [ls[m]]))) := (k3.trans k4).put' n2' (hs.ne n2')
    have s5 : StAt (upd H4 o2 (.lst (ys ++ [ls[m]]))) st := hs.put' n2' (k3.trans k4) s4
    have g5 : (upd H4 o2 (.lst (ys ++ [ls[m]]))) ol = some (.lst ls) := by rw [upd_ne nlo]; exact gl4
    have f5 : (upd H4 o2 (.lst (ys ++ [ls[m]]))) o2 = some (.lst (ys ++ [ls[m]])) := upd_same
    generalize upd H4 o2 (.lst (ys ++ [ls[m]])) = H5 at k5 s5 g5 f5 ⊢
    refine q_asg1 ?_
    walk_at "s"
    simp only [f_slR, f_sl, asL_at g5]
    refine fun pa na => al na fun H6 t6 g6 => ?_
    simp only [asL_at (t6 _ _ g5)]
    refine fun pb nb => al nb fun H7 t7 g7 => ?_
    rw [cut_to (by omega)] at g6
    rw [cut_from (by omega)] at g7
    have e1 : ((m : Nat) : Int).toNat = m := by omega
    have e2 : (((m : Nat) : Int) + 1).toNat = m + 1 := by omega
    rw [e1] at g6
    rw [e2] at g7
    simp only [f_addR, t7 _ _ g6, g7]
    refine ⟨by rw [List.length_take, List.length_drop]; show _ ≤ 2 ^ 24; omega, fun pc nc => ⟨pc, rfl, (s5.sm (sm_trans t6 t7)).ne nc, ?_, _, upd_same, ys ++ [ls[m]], ?_, ?_, ?_, ?_, (k5.trans (kp_sm (sm_trans t6 t7))).new nc, (s5.sm (sm_trans t6 t7)).new nc⟩⟩
    · exact (ne_of_none (t7 _ _ (t6 _ _ f5)) nc).symm
    · rw [upd_ne (ne_of_none (t7 _ _ (t6 _ _ f5)) nc)]
      exact t7 _ _ (t6 _ _ f5)
    · rw [List.length_append, List.length_take, List.length_drop]
      omega
    · rw [List.length_append, List.length_singleton, ly]
    · exact perm_move (by simp [hm]) pm
  · rintro σ H3 ⟨ol, ls, ys, v, w, rfl, nl, nlo, gl, gy, ll, ly, pm, k3, s3⟩
    walk_at "s"
    exact q o2 ys H3 n2' gy ly ⟨ls, pm⟩ k3 s3
theorem some_ok {K : PySem.W.Frag} {C : CA} {H : Hp} {Q : VK} {E : XK} {st p : Addr} {n : Int} {xs : List V} (hs : StAt H st) (hp : asS (H p) = some xs) (np : p ≠ st) (hl : xs.length ≤ 1000) (hn : -(2 ^ 60) ≤ n)
    (q : ∀ (o : Addr) (ys : List V) (H' : Hp), H o = none → H' o = some (.lst ys) → ys.length = (min n (xs.length : Nat)).toNat → (∃ rest, (rest ++ ys).Perm xs) → Kp st H H' → StAt H' st → Q (.ref o) H') : sp_l_some K C [.ref st, .ref p, .int n] H Q E := ⟨_, _, _, _, rfl, hs, hp, np, hl, hn, q⟩
def sp_l_turned (K : PySem.W.Frag) (C : CA) : Sp := fun vs H Q _ => ∃ (st p : Addr) (xs : List V), vs = [.ref st, .ref p] ∧ StAt H st ∧ asS (H p) = some xs ∧ p ≠ st ∧ xs.length ≤ 1000 ∧
  ∀ (o : Addr) (ys : List V) (H' : Hp), H o = none → H' o = some (.lst ys) → ys.Perm xs → Kp st H H' → StAt H' st → Q (.ref o) H'
def rd_l_turned (K : PySem.W.Frag) (C : CA) (E : XK) : TS :=
  (tRet (tCallS (sp_l_some K C) (fun _ => E0) (tCons (tVar 0) (tCons (tVar 1) (tCons (tCB fLen (tCons (tVar 1) tNil)) tNil)))))
theorem pure_l_turned {K : PySem.W.Frag} {C : CA} (vs : List V) (H : Hp) (Q : VK) (E : XK) (h : sp_l_turned K C vs H Q E) : rd_l_turned K C E { nx := fun _ H' => Q .non H', rt := Q } (start [("store" : Str), ("row" : Str)] vs) H := by
  obtain ⟨st, p, xs, rfl, hs, hp, np, hl, q⟩ := h
  show rd_l_turned K C E _ [some (.ref st), some (.ref p)] H
  unfold rd_l_turned
  refine q_ret ?_
  walk_at "s"
  simp only [hp]
  refine some_ok hs hp np hl (by omega) fun o ys H' no ho l m k s => q o ys H' no ho ?_ k s
  obtain ⟨rest, p⟩ := m
  have e := p.length_eq
  rw [List.length_append] at e
  have e0 : rest = [] := List.length_eq_zero_iff.1 (by omega)
  rw [e0] at p
  exact p
/-- names in a new list, all unlike -/
def Names (H : Hp) (o : Addr) (n : Nat) : Prop := ∃ zs : List Str, H o = some (.lst (zs.map V.str)) ∧ zs.length = n ∧ zs.Nodup ∧ ∀ z ∈ zs, nameS z = true
def unS : V → Str
  | .str z => z
  | _ => ⟨#[]⟩
theorem perm_strs {xs : List V} {zs : List Str} (h : xs.Perm (zs.map V.str)) : ∃ ws : List Str, xs = ws.map V.str ∧ ws.Perm zs := by
  have e : ∀ x ∈ xs, ∃ z : Str, x = V.str z := fun x hx => by
    obtain ⟨z, _, rfl⟩ := List.mem_map.1 (h.mem_iff.1 hx)
    exact ⟨z, rfl⟩
  have e2 : ∃ ws : List Str, xs = ws.map V.str := by
    clear h
    induction xs with
    | nil => exact ⟨[], rfl⟩
    | cons x xs ih =>
      obtain ⟨z, rfl⟩ := e x List.mem_cons_self
      obtain ⟨ws, rfl⟩ := ih fun y hy => e y (List.mem_cons_of_mem _ hy)
      exact ⟨z :: ws, rfl⟩
  obtain ⟨ws, rfl⟩ := e2
  refine ⟨ws, rfl, ?_⟩
  have this := h.map unS
  rw [List.map_map, List.map_map] at this
  have e : unS ∘ V.str = id := rfl
  rw [e, List.map_id, List.map_id] at this
  exact this
theorem sub_strs {xs : List V} {zs : List Str} (h : ∃ rest, (rest ++ xs).Perm (zs.map V.str)) : ∃ ws rs : List Str, xs = ws.map V.str ∧ (rs ++ ws).Perm zs := by
  obtain ⟨rest, p⟩ := h
  obtain ⟨us, e, p2⟩ := perm_strs p
  obtain ⟨rs, ws, rfl, rfl, rfl⟩ := List.append_eq_map_iff.1 e
  exact ⟨ws, rs, rfl, p2⟩
end XB

/-! Names drawn: all unlike. -/
namespace XB
open PySem L2
local macro_rules | `(tactic| walk_at "s") => `(tactic| try simp only [u_var, u_c, u_op, u_un, u_nil, u_cons, u_cb, u_call, u_callS, u_tup, u_lst, u_test, u_B, u_and, u_or, u_not, u_andV, u_orV, u_notV, u_ifE, u_chain, u_sl, u_noPart, u_part, u_bm, u_bm0, u_rev, u_lc, u_try, u_sui, u_sui0, u_unb_rt, u_unb_nx, u_xf, u_WE, w_nil, w_cons, u_raise, u_rng1, u_rng2, u_next, u_ret, u_gname, u_gnil, u_gcons, u_gsub, u_gtup,
  f_add, f_addS, f_addR, f_sub, f_mul, f_mulR, f_mod, f_div, f_pow, f_neg, f_cmp, f_eq, f_eqB, f_eqS, f_ne, f_neB, f_neS, f_isN, f_notN, f_isB, f_ix, f_ixS, f_int, f_intB, f_len, f_lenS, f_max, f_min, f_abs, f_list, f_tuple, f_all, f_sum, f_isi, f_isiT, f_append, f_insert, f_pop, f_sl, f_set, u_fldW, u_propW, u_makeS, u_makeL, u_cmethS, u_methS, u_ostW, f_isC, f_minSS, f_maxSS, f_reverse,
  kitS, tys, List.isEmpty_cons, Option.map_some, kt_NoneType_int, kt_NoneType_bool, kt_NoneType_str, kt_NoneType_list, kt_NoneType_tuple, kt_NoneType_dict, kt_int_int, kt_int_bool, kt_int_str, kt_int_list, kt_int_tuple, kt_int_dict, kt_bool_int, kt_bool_bool, kt_bool_str, kt_bool_list, kt_bool_tuple, kt_bool_dict, kt_str_int, kt_str_bool, kt_str_str, kt_str_list, kt_str_tuple, kt_str_dict, kt_list_int, kt_list_bool, kt_list_str, kt_list_list, kt_list_tuple, kt_list_dict, kt_tuple_int, kt_tuple_bool, kt_tuple_str, kt_tuple_list, kt_tuple_tuple, kt_tuple_dict, kt_dict_int, kt_dict_bool, kt_dict_str, kt_dict_list, kt_dict_tuple, kt_dict_dict, asL_lst, asL_frz, asL_tup, asT_tup, asS_lst, asS_frz, asS_tup, tyN_non, tyN_bl, tyN_int, tyN_str, atV_lit, ixN_lit, upd_same, upd_ne, upd_ne',
  List.getElem?_cons_zero, List.getElem?_cons_succ, List.set_cons_zero, List.set_cons_succ, List.append_nil, List.length_cons, List.length_nil, Option.some.injEq, exists_eq_left', exists_eq_left, exists_and_left, V.bl.injEq, V.int.injEq, V.str.injEq, V.ref.injEq, Bool.not_eq_true, Bool.not_true, Bool.not_false, decide_true, decide_false, decide_eq_true_eq, decide_eq_false_iff_not, Bool.false_eq_true, if_true, if_false, ite_true, ite_false, reduceCtorEq, true_and, and_true, Nat.reduceAdd, Nat.reduceLT, Nat.zero_add, ne_eq, not_false_eq_true, not_true_eq_false, List.cons.injEq, and_assoc])
local macro_rules | `(tactic| walk_at "S") => `(tactic| try simp only [u_var, u_c, u_op, u_un, u_nil, u_cons, u_cb, u_call, u_callS, u_tup, u_lst, u_test, u_B, u_and, u_or, u_not, u_andV, u_orV, u_notV, u_ifE, u_chain, u_sl, u_noPart, u_part, u_bm, u_bm0, u_rev, u_lc, u_try, u_sui, u_sui0, u_unb_rt, u_unb_nx, u_xf, u_WE, w_nil, w_cons, u_raise, u_rng1, u_rng2, u_next, u_ret, u_gname, u_gnil, u_gcons, u_gsub, u_gtup,
  f_add, f_addS, f_addR, f_sub, f_mul, f_mulR, f_mod, f_div, f_pow, f_neg, f_cmp, f_eq, f_eqB, f_eqS, f_ne, f_neB, f_neS, f_isN, f_notN, f_isB, f_ix, f_ixS, f_int, f_intB, f_len, f_lenS, f_max, f_min, f_abs, f_list, f_tuple, f_all, f_sum, f_isi, f_isiT, f_append, f_insert, f_pop, f_sl, f_set, u_fldW, u_propW, u_makeS, u_makeL, u_cmethS, u_methS, u_ostW, f_isC, f_minSS, f_maxSS, f_reverse,
  kitS, tys, List.isEmpty_cons, Option.map_some, kt_NoneType_int, kt_NoneType_bool, kt_NoneType_str, kt_NoneType_list, kt_NoneType_tuple, kt_NoneType_dict, kt_int_int, kt_int_bool, kt_int_str, kt_int_list, kt_int_tuple, kt_int_dict, kt_bool_int, kt_bool_bool, kt_bool_str, kt_bool_list, kt_bool_tuple, kt_bool_dict, kt_str_int, kt_str_bool, kt_str_str, kt_str_list, kt_str_tuple, kt_str_dict, kt_list_int, kt_list_bool, kt_list_str, kt_list_list, kt_list_tuple, kt_list_dict, kt_tuple_int, kt_tuple_bool, kt_tuple_str, kt_tuple_list, kt_tuple_tuple, kt_tuple_dict, kt_dict_int, kt_dict_bool, kt_dict_str, kt_dict_list, kt_dict_tuple, kt_dict_dict, asL_lst, asL_frz, asL_tup, asT_tup, asS_lst, asS_frz, asS_tup, tyN_non, tyN_bl, tyN_int, tyN_str, atV_lit, ixN_lit, upd_same, upd_ne, upd_ne',
  List.getElem?_cons_zero, List.getElem?_cons_succ, List.set_cons_zero, List.set_cons_succ, List.append_nil, List.length_cons, List.length_nil, Option.some.injEq, exists_eq_left', exists_eq_left, exists_and_left, V.bl.injEq, V.int.injEq, V.str.injEq, V.ref.injEq, Bool.not_eq_true, Bool.not_true, Bool.not_false, decide_true, decide_false, decide_eq_true_eq, decide_eq_false_iff_not, Bool.false_eq_true, if_true, if_false, ite_true, ite_false, reduceCtorEq, true_and, and_true, Nat.reduceAdd, Nat.reduceLT, Nat.zero_add, ne_eq, not_false_eq_true, not_true_eq_false, List.cons.injEq, and_assoc, *])
theorem slice_a {z : Str} {i : Int} (h : 0 ≤ i) : Txt.slice z none (some i) = ⟨(z.cps.toList.take i.toNat).toArray⟩ := SX.slice_to (a := z.cps.toList) h
theorem slice_b {z : Str} {i : Int} (h : 0 ≤ i) : Txt.slice z (some i) none = ⟨(z.cps.toList.drop i.toNat).toArray⟩ := SX.slice_from (a := z.cps.toList) h
theorem cl_take {z : Str} {i : Int} (h : 0 ≤ i) : cl (Txt.slice z none (some i)) = (cl z).take i.toNat := by rw [slice_a h]; rfl
theorem cl_drop {z : Str} {i : Int} (h : 0 ≤ i) : cl (Txt.slice z (some i) none) = (cl z).drop i.toNat := by rw [slice_b h]; rfl
theorem kp_none' {st p : Addr} {H H1 : Hp} (hs : StAt H st) (k : Kp st H H1) (h : H1 p = none) (s1 : StAt H1 st) : H p = none := by
  cases e : H p with
  | none => rfl
  | some o =>
    rw [k.1 p o (s1.ne h) e] at h
    cases h
theorem get_str {zs : List Str} {i : Nat} {x : V} (h : (zs.map V.str)[i]? = some x) : ∃ z, zs[i]? = some z ∧ x = V.str z := by
  rw [List.getElem?_map] at h
  cases e : zs[i]? with
  | none => rw [e] at h; cases h
  | some z => rw [e] at h; exact ⟨z, rfl, (Option.some.inj h).symm⟩
theorem word_take {z : Str} {i : Nat} (h : WordOk z) : WordOk (Txt.slice z none (some ((i : Nat) + 1))) := by
  obtain ⟨⟨c, t, e, hc⟩, ha⟩ := h
  have e2 : (((i : Nat) : Int) + 1).toNat = i + 1 := by omega
  refine ⟨⟨c, t.take i, by rw [cl_take (by omega), e2, e]; rfl, hc⟩, fun d hd => ?_⟩
  rw [cl_take (by omega)] at hd
  exact ha d (List.mem_of_mem_take hd)
def tenS : List Str := ["0", "1", "2", "9", "10", "11", "19", "20", "90", "99", "100", "101"]
def wordsS : List Str := ["and", "not", "at", "with", "over", "if", "end", "else", "each", "while", "until", "bring", "exchange", "towns", "way", "plan"]
theorem words_ok : wordsS.Nodup ∧ ∀ z ∈ wordsS, nameS z = true := by decide +kernel
theorem ten_ok : tenS.Nodup ∧ ∀ z ∈ tenS, z.length ≤ 3 ∧ ∀ c ∈ cl z, c ∈ cl signsS := by decide +kernel
theorem letters_nodup : (cl lettersS).Nodup ∧ (cl signsS).Nodup := by decide +kernel
theorem nodup_take_drop {α : Type} {l : List α} {m : Nat} {x : α} (h : l.Nodup) (hx : l[m]? = some x) : (l.take m ++ l.drop (m + 1)).Nodup ∧ x ∉ l.take m ++ l.drop (m + 1) ∧ ∀ y ∈ l.take m ++ l.drop (m + 1), y ∈ l := by
  have hm := (List.getElem?_eq_some_iff.mp hx).1
  have e : l = l.take m ++ x :: l.drop (m + 1) := by
    have e1 := (List.getElem?_eq_some_iff.mp hx).2
    rw [← e1, List.getElem_cons_drop, List.take_append_drop]
  have p : l.Perm (x :: (l.take m ++ l.drop (m + 1))) := by
    have := List.perm_middle (a := x) (l₁ := l.take m) (l₂ := l.drop (m + 1))
    rw [← e] at this
    exact this
  have hn := (p.nodup_iff).1 h
  rw [List.nodup_cons] at hn
  exact ⟨hn.2, hn.1, fun y hy => p.mem_iff.2 (List.mem_cons_of_mem _ hy)⟩
/-- the names told so far, and what is left of the letters -/
def Made1 (hd lt : Str) (zs : List Str) : Prop := zs.Nodup ∧ ∀ z ∈ zs, nameS z = true ∧ ∃ ch tl, cl z = cl hd ++ ch :: tl ∧ ch ∉ cl lt
def LtOk (hd lt : Str) : Prop := (cl lt).Nodup ∧ ((cl hd = [] ∧ ∀ c ∈ cl lt, c ∈ cl lettersS) ∨ (WordOk hd ∧ hd.length ≤ 7 ∧ ∀ c ∈ cl lt, c ∈ cl signsS))
theorem made1_step {hd lt tl : Str} {zs : List Str} {m : Nat} {ch : Nat} (h : Made1 hd lt zs) (l : LtOk hd lt) (hc : (cl lt)[m]? = some ch) (ht : ∀ c ∈ cl tl, c ∈ cl signsS) (hl : hd.length + 1 + tl.length ≤ 8) :
    let lt2 : Str := Txt.slice lt none (some (m : Int)) ++ Txt.slice lt (some ((m : Int) + 1)) none
    Made1 hd lt2 (zs ++ [hd ++ (⟨#[ch]⟩ : Str) ++ tl]) ∧ LtOk hd lt2 ∧ lt2.length + 1 = lt.length := by
  intro lt2
  obtain ⟨n1, n2, n3⟩ := nodup_take_drop l.1 hc
  have e2 : cl lt2 = (cl lt).take m ++ (cl lt).drop (m + 1) := by
    show cl (_ ++ _) = _
    rw [cl_add, cl_take (by omega), cl_drop (by omega)]
    have e1 : ((m : Nat) : Int).toNat = m := by omega
    have e3 : (((m : Nat) : Int) + 1).toNat = m + 1 := by omega
    rw [e1, e3]
  have hm := (List.getElem?_eq_some_iff.mp hc).1
  have ec : cl (hd ++ (⟨#[ch]⟩ : Str) ++ tl) = cl hd ++ ch :: cl tl := by rw [cl_add, cl_add, cl_one, List.append_assoc]; rfl
  have hch : ch ∈ cl lt := List.mem_of_getElem? hc
  have hn : nameS (hd ++ (⟨#[ch]⟩ : Str) ++ tl) = true := by
    refine name_of ⟨?_, fun c hcc => ?_⟩ (by rw [str_len_add, str_len_add, str_len1]; exact hl)
    · rcases l.2 with ⟨h1, h2⟩ | ⟨⟨⟨c, t, e, hc1⟩, _⟩, _, _⟩
      · exact ⟨ch, cl tl, by rw [ec, h1]; rfl, h2 ch hch⟩
      · exact ⟨c, t ++ ch :: cl tl, by rw [ec, e]; rfl, hc1⟩
    · rw [ec, List.mem_append, List.mem_cons] at hcc
      rcases hcc with hcc | rfl | hcc
      · rcases l.2 with ⟨h1, _⟩ | ⟨⟨_, ha⟩, _, _⟩
        · rw [h1] at hcc; cases hcc
        · exact ha c hcc
      · rcases l.2 with ⟨_, h2⟩ | ⟨_, _, h2⟩
        · exact letter_sign (h2 _ hch)
        · exact h2 _ hch
      · exact ht c hcc
  refine ⟨⟨?_, fun z hz => ?_⟩, ⟨?_, ?_⟩, ?_⟩
  · rw [List.nodup_append]
    refine ⟨h.1, by simp, fun a ha b hb => ?_⟩
    rw [List.mem_singleton] at hb
    intro e
    obtain ⟨_, c2, t2, e3, nc⟩ := h.2 a ha
    rw [e, hb, ec] at e3
    have e4 := List.append_cancel_left e3
    injection e4 with e4 _
    rw [← e4] at nc
    exact nc hch
  · rcases List.mem_append.1 hz with hz | hz
    · obtain ⟨h1, c2, t2, e3, nc⟩ := h.2 z hz
      refine ⟨h1, c2, t2, e3, fun y => nc ?_⟩
      rw [e2] at y
      exact n3 _ y
    · rw [List.mem_singleton] at hz
      rw [hz]
      exact ⟨hn, ch, cl tl, ec, by rw [e2]; exact n2⟩
  · rw [e2]; exact n1
  · rcases l.2 with ⟨h1, h2⟩ | ⟨h1, h2, h3⟩
    · exact .inl ⟨h1, fun c hc => h2 c (n3 c (by rw [← e2]; exact hc))⟩
    · exact .inr ⟨h1, h2, fun c hc => h3 c (n3 c (by rw [← e2]; exact hc))⟩
  · rw [← cl_len, e2, List.length_append, List.length_take, List.length_drop, ← cl_len (z := lt)]
    omega
/-- names, all unlike, in a new list -/
def sp_l_names (K : PySem.W.Frag) (C : CA) : Sp := fun vs H Q _ => ∃ (st : Addr) (n : Nat), vs = [.ref st, .int n] ∧ StAt H st ∧ n ≤ 12 ∧
  ∀ (o : Addr) (H' : Hp), H o = none → Names H' o n → Kp st H H' → StAt H' st → Q (.ref o) H'
def rd_l_names (K : PySem.W.Frag) (C : CA) (E : XK) : TS :=
  (tSeq (tAsg (tC (.str ("abcdefghijklmnopqrstuvwxyz" : Str))) (gName 2)) (tSeq (tAsg (tCallS (sp_l_take K C) (fun _ => E0) (tCons (tVar 0) (tCons (tC (.int 8)) tNil))) (gName 3)) (Evl.tCut (tIfS (tAnd (tTest (tOp (fEq K) (tVar 3) (tC (.int 0)))) (tTest (tOp fLe (tVar 1) (tC (.int 8))))) (tSeq (tAsg (tCallS (sp_l_word K C) (fun _ => E0) (tCons (tVar 0) (tCons (tC (.int 8)) tNil))) (gName 4)) (tRet (tCallS (sp_l_turned K C) (fun _ => E0) (tCons (tVar 0) (tCons (tLc (iRng1 (tCons (tVar 1) tNil)) (gName 5) tYes (tSl fSl2 (tVar 4) tNoPart (tPart (tOp fAdd (tVar 5) (tC (.int 1))))) [5]) tNil))))) tNext) (tSeq (tIfS (tTest (tOp (fEq K) (tVar 3) (tC (.int 1)))) (tSeq (tAsg (tLst (tCons (tC (.str ("and" : Str))) (tCons (tC (.str ("not" : Str))) (tCons (tC (.str ("at" : Str))) (tCons (tC (.str ("with" : Str))) (tCons (tC (.str ("over" : Str))) (tCons (tC (.str ("if" : Str))) (tCons (tC (.str ("end" : Str))) (tCons (tC (.str ("else" : Str))) (tCons (tC (.str ("each" : Str))) (tCons (tC (.str ("while" : Str))) (tCons (tC (.str ("until" : Str))) (tCons (tC (.str ("bring" : Str))) tNil))))))))))))) (gName 6)) (tRet (tCallS (sp_l_some K C) (fun _ => E0) (tCons (tVar 0) (tCons (tOp fAdd (tVar 6) (tLst (tCons (tC (.str ("exchange" : Str))) (tCons (tC (.str ("towns" : Str))) (tCons (tC (.str ("way" : Str))) (tCons (tC (.str ("plan" : Str))) tNil)))))) (tCons (tVar 1) tNil)))))) tNext) (tSeq (tIfS (tTest (tOp (fEq K) (tVar 3) (tC (.int 2)))) (tSeq (tAsg (tLst (tCons (tC (.str ("0" : Str))) (tCons (tC (.str ("1" : Str))) (tCons (tC (.str ("2" : Str))) (tCons (tC (.str ("9" : Str))) (tCons (tC (.str ("10" : Str))) (tCons (tC (.str ("11" : Str))) (tCons (tC (.str ("19" : Str))) (tCons (tC (.str ("20" : Str))) (tCons (tC (.str ("90" : Str))) (tCons (tC (.str ("99" : Str))) (tCons (tC (.str ("100" : Str))) (tCons (tC (.str ("101" : Str))) tNil))))))))))))) (gName 6)) (tSeq (tAsg (tOp fIx (tVar 2) (tCallS (sp_l_take K C) (fun _ => E0) (tCons (tVar 0) (tCons (tC (.int 26)) tNil)))) (gName 7)) (tRet (tLc (iList K (tCallS (sp_l_some K C) (fun _ => E0) (tCons (tVar 0) (tCons (tVar 6) (tCons (tVar 1) tNil))))) (gName 4) tYes (tOp fAdd (tVar 7) (tVar 4)) [4])))) tNext) (tSeq (tAsg (tC (.str ("" : Str))) (gName 8)) (Evl.tCut (tIfS (tTest (tOp fGt (tVar 3) (tC (.int 4)))) (tSeq (tAsg (tCallS (sp_l_word K C) (fun _ => E0) (tCons (tVar 0) (tCons (tOp fAdd (tC (.int 1)) (tCallS (sp_l_take K C) (fun _ => E0) (tCons (tVar 0) (tCons (tC (.int 7)) tNil)))) tNil))) (gName 8)) (tAsg (tOp fAdd (tVar 2) (tC (.str ("0123456789" : Str)))) (gName 2))) tNext) (tSeq (tAsg (tLst tNil) (gName 9)) (tSeq (tFor (iRng1 (tCons (tVar 1) tNil)) (gName 5) (tSeq (tAsg (tCallS (sp_l_take K C) (fun _ => E0) (tCons (tVar 0) (tCons (tCB fLen (tCons (tVar 2) tNil)) tNil))) (gName 10)) (tSeq (tAsg (tC (.str ("" : Str))) (gName 11)) (Evl.tCut (tIfS (tTest (tOp fGt (tVar 3) (tC (.int 5)))) (tAsg (tSl fSl2 (tCallS (sp_l_word K C) (fun _ => E0) (tCons (tVar 0) (tCons (tC (.int 8)) tNil))) tNoPart (tPart (tCallS (sp_l_take K C) (fun _ => E0) (tCons (tVar 0) (tCons (tOp fSub (tC (.int 8)) (tCB fLen (tCons (tVar 8) tNil))) tNil))))) (gName 11)) tNext) (tSeq (tDrop (tBMF "list" fAppend (tVar 9) (tCons (tOp fAdd (tOp fAdd (tVar 8) (tOp fIx (tVar 2) (tVar 10))) (tVar 11)) tNil))) (tAsg (tOp fAdd (tSl fSl2 (tVar 2) tNoPart (tPart (tVar 10))) (tSl fSl2 (tVar 2) (tPart (tOp fAdd (tVar 10) (tC (.int 1)))) tNoPart)) (gName 2))))))) (tRet (tVar 9)))))))))))
theorem pure_l_names {K : PySem.W.Frag} {C : CA} (vs : List V) (H : Hp) (Q : VK) (E : XK) (h : sp_l_names K C vs H Q E) : rd_l_names K C E { nx := fun _ H' => Q .non H', rt := Q } (start [("store" : Str), ("many" : Str), ("letters" : Str), ("form" : Str), ("word" : Str), ("k" : Str), ("row" : Str), ("stem" : Str), ("head" : Str), ("found" : Str), ("at" : Str), ("tail" : Str)] vs) H := by
  obtain ⟨st, n, rfl, hs, n12, q⟩ := h
  show rd_l_names K C E _ [some (.ref st), some (.int n), none, none, none, none, none, none, none, none, none, none] H
  unfold rd_l_names
  refine q_asg ?_
  walk_at "s"
  refine q_asg ?_
  walk_at "s"
  refine take_ok hs (by decide) fun form H1 f0 f1 k1 s1 => ?_
  have e26 : (Str.ofString "abcdefghijklmnopqrstuvwxyz").cps.size = 26 := by decide +kernel
  have eL : Str.ofString "abcdefghijklmnopqrstuvwxyz" = lettersS := rfl
  rw [eL] at e26 ⊢
  refine ⟨fun σ H' => σ = [some (.ref st), some (.int n), some (.str lettersS), some (.int form), none, none, none, none, none, none, none, none] ∧ H1 = H', q_if1 ?_, ?_⟩
  · walk_at "s"
    refine ite2 (fun c1 => ?_) fun c1 => by trivial
    refine ite2 (fun c8 => ?_) fun c8 => by trivial
    refine q_asg ?_
    walk_at "s"
    refine word_ok s1 (by decide) (by decide) fun wd H2 ww lw k2 s2 => ?_
    walk_at "s"
    refine ⟨by omega, by omega, fun Dd hD => ?_⟩
    have en : ((n : Nat) : Int).toNat = n := by omega
    rw [en]
    have lw8 : wd.length = 8 := by omega
    refine made_mapR (fun k => .str (Txt.slice wd none (some ((k : Nat) + 1)))) hD (by show _ < 2 ^ 24; omega) (fun _ => rfl) (fun i H3 Q1 hi t3 q1 => ?_) fun H3 t3 g3 => ?_
    · have e0 : (0 : Int) + (i : Nat) = (i : Nat) := Int.zero_add _
      walk_at "s"
      simp only [f_slS, e0]
      exact ⟨by show _ ≤ 2 ^ 24; omega, q1 H3 fun _ _ z => z⟩
    · refine ⟨st, Dd, _, rfl, s2.sm t3, asS_at g3, s2.ne hD, by rw [List.length_map, List.length_range]; omega, fun o ys H4 no ho pm k4 s4 => ?_⟩
      have kk := k1.trans (k2.trans ((kp_sm t3).trans k4))
      have em : (List.range n).map (fun k => V.str (Txt.slice wd none (some ((k : Nat) + 1)))) = ((List.range n).map fun k => Txt.slice wd none (some (((k : Nat) : Int) + 1))).map V.str := by rw [List.map_map]; rfl
      rw [em] at pm
      obtain ⟨zs, rfl, p2⟩ := perm_strs pm
      have lens : ∀ k, k < n → (Txt.slice wd none (some (((k : Nat) : Int) + 1))).length = k + 1 := fun k hk => by
        rw [← cl_len, cl_take (by omega), List.length_take, cl_len, lw8]
        omega
      refine q o H4 (kp_none' hs (k1.trans (k2.trans (kp_sm t3))) no (s2.sm t3)) ⟨zs, ho, by rw [p2.length_eq, List.length_map, List.length_range], (p2.nodup_iff).2 ?_, fun z hz => ?_⟩ kk s4
      · refine List.pairwise_map.2 (List.Pairwise.imp_of_mem (fun {a b} ha hb hab e => hab ?_) List.nodup_range)
        rw [List.mem_range] at ha hb
        have e1 := congrArg Str.length e
        rw [lens a ha, lens b hb] at e1
        omega
      · obtain ⟨k, hk, rfl⟩ := List.mem_map.1 (p2.mem_iff.1 hz)
        rw [List.mem_range] at hk
        exact name_of (word_take ww) (by rw [lens k hk]; omega)
  rintro σ H' ⟨rfl, rfl⟩
  refine q_if ?_
  walk_at "s"
  refine ite2 (fun c2 => ?_) fun c2 => ?_
  · refine q_asg ?_
    walk_at "s"
    refine ⟨by show 12 ≤ 2 ^ 24; decide, fun oa na => al na fun H2 t2 g2 => ?_⟩
    refine ⟨by show 4 ≤ 2 ^ 24; decide, fun ob nb => al nb fun H3 t3 g3 => ?_⟩
    simp only [t3 _ _ g2, g3]
    refine ⟨by show 12 + 4 ≤ 2 ^ 24; decide, fun oc nc => al nc fun H4 t4 g4 => ?_⟩
    have t14 := sm_trans t2 (sm_trans t3 t4)
    have g4' : H4 oc = some (.lst (wordsS.map V.str)) := g4
    refine some_ok (s1.sm t14) (asS_at g4') ((s1.sm (sm_trans t2 t3)).ne nc) (by show 16 ≤ 1000; decide) (by omega) fun o ys H5 no ho lo mo k5 s5 => ?_
    have kk := k1.trans ((kp_sm t14).trans k5)
    obtain ⟨zs, rs, rfl, pm⟩ := sub_strs mo
    rw [List.length_map, List.length_map] at lo
    have nn := (pm.nodup_iff).2 words_ok.1
    rw [List.nodup_append] at nn
    exact q o H5 (kp_none' hs (k1.trans (kp_sm t14)) no (s1.sm t14)) ⟨zs, ho, by rw [lo]; show (min (n : Int) 16).toNat = n; omega, nn.2.1, fun z hz => words_ok.2 z (pm.mem_iff.1 (List.mem_append_right _ hz))⟩ kk s5
  refine q_if ?_
  walk_at "s"
  refine ite2 (fun c3 => ?_) fun c3 => ?_
  · refine q_asg ?_
    walk_at "s"
    refine ⟨by show 12 ≤ 2 ^ 24; decide, fun oa na => al na fun H2 t2 g2 => ?_⟩
    refine q_asg ?_
    walk_at "s"
    refine take_ok (s1.sm t2) (by decide) fun r H3 r0 r1 k3 s3 => ?_
    walk_at "s"
    refine ⟨by show lettersS.cps.size ≤ 2 ^ 24; omega, txt_at r0 (by omega) fun ch hch => ?_⟩
    have hch := List.mem_of_getElem? hch
    rw [u_list]
    walk_at "s"
    have g23 : H3 oa = some (.lst (tenS.map V.str)) := k3.1 oa _ (s1.ne na) g2
    refine some_ok s3 (asS_at g23) (s1.ne na) (by show 12 ≤ 1000; decide) (by omega) fun o ys H5 no ho lo mo k5 s5 => ?_
    obtain ⟨zs, rs, rfl, pm⟩ := sub_strs mo
    rw [List.length_map, List.length_map] at lo
    have lz : zs.length = n := by rw [lo]; show (min (n : Int) 12).toNat = n; omega
    have nn := (pm.nodup_iff).2 ten_ok.1
    rw [List.nodup_append] at nn
    have hz : ∀ z ∈ zs, z.length ≤ 3 ∧ ∀ c ∈ cl z, c ∈ cl signsS := fun z hz => ten_ok.2 z (pm.mem_iff.1 (List.mem_append_right _ hz))
    refine ⟨_, rfl, ⟨_, asL_seq (asL_at ho)⟩, fun Dd hD => ?_⟩
    refine made_mapS (fun v => .str ((⟨#[ch]⟩ : Str) ++ unS v)) (fun H' s => asL_seq (asL_at (s _ _ ho))) hD (by rw [List.length_map]; show _ < 2 ^ 24; omega) (fun _ => rfl) (fun i x H6 Q1 hx t6 q1 => ?_) fun H6 t6 g6 => ?_
    · obtain ⟨z, hzz, rfl⟩ := get_str hx
      walk_at "s"
      have := (hz z (List.mem_of_getElem? hzz)).1
      exact ⟨by rw [str_len1]; show _ ≤ 2 ^ 24; omega, q1 H6 fun _ _ z => z⟩
    · have kk : Kp st H H5 := k1.trans ((kp_sm t2).trans (k3.trans k5))
      refine q Dd H6 (kp_none' hs kk hD s5) ⟨zs.map fun z => (⟨#[ch]⟩ : Str) ++ z, ?_, by rw [List.length_map]; exact lz, ?_, fun y hy => ?_⟩ (kk.trans (kp_sm t6)) (s5.sm t6)
      · rw [g6, List.map_map, List.map_map]
        rfl
      · refine List.pairwise_map.2 (List.Pairwise.imp (fun {a b} hab e => hab ?_) nn.2.1)
        have e1 := congrArg cl e
        rw [cl_add, cl_add] at e1
        exact cl_inj (List.append_cancel_left e1)
      · obtain ⟨z, hm, rfl⟩ := List.mem_map.1 hy
        obtain ⟨h3, h4⟩ := hz z hm
        refine name_of ⟨⟨ch, cl z, by rw [cl_add, cl_one]; rfl, hch⟩, fun c hc => ?_⟩ (by rw [str_len_add, str_len1]; omega)
        rw [cl_add, cl_one, List.mem_append, List.mem_singleton] at hc
        rcases hc with rfl | hc
        · exact letter_sign hch
        · exact h4 c hc
  refine q_asg ?_
  walk_at "s"
  refine ⟨fun σ H' => ∃ lt hd : Str, σ = [some (.ref st), some (.int n), some (.str lt), some (.int form), none, none, none, none, some (.str hd), none, none, none] ∧ 26 ≤ lt.length ∧ lt.length ≤ 36 ∧ hd.length ≤ 7 ∧ LtOk hd lt ∧ Kp st H H' ∧ StAt H' st, q_if1 ?_, ?_⟩
  · walk_at "s"
    refine ite2 (fun c4 => ?_) fun c4 => ?_
    · refine q_asg ?_
      walk_at "s"
      refine take_ok s1 (by decide) fun r H2 r0 r1 k2 s2 => ?_
      walk_at "s"
      refine word_ok s2 (by omega) (by omega) fun hd H3 wh lh k3 s3 => ?_
      refine q_asg1 ?_
      walk_at "s"
      have eS : lettersS ++ Str.ofString "0123456789" = signsS := by decide +kernel
      have l36 : signsS.length = 36 := by decide +kernel
      rw [eS, l36]
      exact ⟨by show _ ≤ 2 ^ 24; decide, by decide, by decide, by omega, ⟨letters_nodup.2, .inr ⟨wh, by omega, fun _ h => h⟩⟩, k1.trans (k2.trans k3), s3⟩
    · walk_at "s"
      have l26 : lettersS.length = 26 := e26
      exact ⟨by omega, by omega, by decide +kernel, ⟨letters_nodup.1, .inl ⟨rfl, fun _ h => h⟩⟩, k1, s1⟩
  · rintro σ H2 ⟨lt, hd, rfl, l1, l2, lh, lk, k2, s2⟩
    refine q_asg ?_
    walk_at "s"
    refine ⟨by decide, fun of nf => al nf fun H3 t3 g3 => ?_⟩
    have nf' := kp_none' hs k2 nf s2
    refine q_for ?_
    walk_at "s"
    refine ⟨by omega, by omega, ?_⟩
    have en : ((n : Nat) : Int).toNat = n := by omega
    rw [en]
    refine loop_range (fun i σ H4 => ∃ (lt : Str) (zs : List Str) (v5 v10 v11 : Option V), σ = [some (.ref st), some (.int n), some (.str lt), some (.int form), none, v5, none, none, some (.str hd), some (.ref of), v10, v11] ∧
      26 ≤ lt.length + i ∧ lt.length ≤ 36 ∧ H4 of = some (.lst (zs.map V.str)) ∧ zs.length = i ∧ Made1 hd lt zs ∧ LtOk hd lt ∧ Kp st H H4 ∧ StAt H4 st)
      ⟨lt, [], none, none, none, rfl, by omega, l2, g3, rfl, ⟨by simp, by simp⟩, lk, k2.trans (kp_sm t3), s2.sm t3⟩ ?_ ?_
    · rintro i σ H4 hi ⟨lt, zs, v5, v10, v11, rfl, m1, m2, gf, lz, mk, lk, k4, s4⟩
      walk_at "s"
      refine q_asg ?_
      walk_at "s"
      refine ⟨by show _ ≤ 2 ^ 24; omega, ?_⟩
      refine take_ok s4 (by omega) fun at_ H5 a0 a1 k5 s5 => ?_
      have gf5 := k5.1 _ _ (hs.ne nf') gf
      refine q_asg ?_
      walk_at "s"
      refine ⟨fun σ H' => ∃ tl : Str, σ = [some (.ref st), some (.int n), some (.str lt), some (.int form), none, some (.int (0 + (i : Nat))), none, none, some (.str hd), some (.ref of), some (.int at_), some (.str tl)] ∧ hd.length + 1 + tl.length ≤ 8 ∧ (∀ c ∈ cl tl, c ∈ cl signsS) ∧ Kp st H5 H' ∧ StAt H' st, q_if1 ?_, ?_⟩
      · walk_at "s"
        refine ite2 (fun c5 => ?_) fun c5 => ?_
        · refine q_asg1 ?_
          walk_at "s"
          refine word_ok s5 (by decide) (by decide) fun wd H6 ww lw k6 s6 => ?_
          walk_at "s"
          try refine And.intro (show hd.length ≤ 2 ^ 24 by omega) ?_
          refine take_ok s6 (by omega) fun r H7 r0 r1 k7 s7 => ?_
          simp only [f_slS]
          refine ⟨r, rfl, by show _ ≤ 2 ^ 24; omega, _, rfl, ?_, fun c hc => ?_, k6.trans k7, s7⟩
          · have : (Txt.slice wd none (some r)).length ≤ r.toNat := by
              rw [← cl_len, cl_take r0, List.length_take]
              omega
            omega
          · rw [cl_take r0] at hc
            exact ww.2 c (List.mem_of_mem_take hc)
        · walk_at "s"
          have e0 : (Str.ofString "").length = 0 := by decide +kernel
          exact ⟨by rw [e0]; omega, by decide +kernel, Kp.refl _ _, s5⟩
      · rintro σ H6 ⟨tl, rfl, ltl, ctl, k6, s6⟩
        have gf6 := k6.1 _ _ (hs.ne nf') gf5
        refine q_drop ?_
        walk_at "s"
        refine ⟨tyN_lst gf6, by show _ ≤ 2 ^ 24; omega, txt_at a0 (by show at_ < (lt.length : Nat); omega) fun ch hch => ?_⟩
        simp only [gf6]
        refine ⟨by rw [str_len1]; show _ ≤ 2 ^ 24; omega, by rw [str_len_add, str_len1]; show _ ≤ 2 ^ 24; omega, by rw [List.length_map]; show _ < 2 ^ 24; omega, ?_⟩
        obtain ⟨m, rfl⟩ : ∃ m : Nat, at_ = m := ⟨at_.toNat, by omega⟩
        have em : ((m : Nat) : Int).toNat = m := by omega
        rw [em] at hch
        obtain ⟨mk2, lk2, ll2⟩ := made1_step mk lk hch ctl ltl
        refine q_asg1 ?_
        walk_at "s"
        simp only [f_slS]
        refine ⟨by show _ ≤ 2 ^ 24; omega, by show _ ≤ 2 ^ 24; omega, ?_⟩
        walk_at "s"
        have keep : Kp st H H6 := (k4.trans k5).trans k6
        rw [str_len_add] at ll2
        refine ⟨by show _ ≤ 2 ^ 24; omega, ?_⟩
        rw [str_len_add]
        exact ⟨by omega, by omega, zs ++ [hd ++ (⟨#[ch]⟩ : Str) ++ tl], by rw [List.map_append]; rfl, by rw [List.length_append, lz]; rfl, mk2, lk2, keep.put' nf' (hs.ne nf'), hs.put' nf' keep s6⟩
    · rintro σ H4 ⟨lt, zs, v5, v10, v11, rfl, m1, m2, gf, lz, mk, lk, k4, s4⟩
      walk_at "s"
      exact q of H4 nf' ⟨zs, gf, lz, mk.1, fun z hz => (mk.2 z hz).1⟩ k4 s4
end XB

/-! A text that is none of a list's. -/
namespace XB
open PySem L2
local macro_rules | `(tactic| walk_at "s") => `(tactic| try simp only [u_var, u_c, u_op, u_un, u_nil, u_cons, u_cb, u_call, u_callS, u_tup, u_lst, u_test, u_B, u_and, u_or, u_not, u_andV, u_orV, u_notV, u_ifE, u_chain, u_sl, u_noPart, u_part, u_bm, u_bm0, u_rev, u_lc, u_try, u_sui, u_sui0, u_unb_rt, u_unb_nx, u_xf, u_WE, w_nil, w_cons, u_raise, u_rng1, u_rng2, u_next, u_ret, u_gname, u_gnil, u_gcons, u_gsub, u_gtup,
  f_add, f_addS, f_addR, f_sub, f_mul, f_mulR, f_mod, f_div, f_pow, f_neg, f_cmp, f_eq, f_eqB, f_eqS, f_ne, f_neB, f_neS, f_isN, f_notN, f_isB, f_ix, f_ixS, f_int, f_intB, f_len, f_lenS, f_max, f_min, f_abs, f_list, f_tuple, f_all, f_sum, f_isi, f_isiT, f_append, f_insert, f_pop, f_sl, f_set, u_fldW, u_propW, u_makeS, u_makeL, u_cmethS, u_methS, u_ostW, f_isC, f_minSS, f_maxSS, f_reverse,
  kitS, tys, List.isEmpty_cons, Option.map_some, kt_NoneType_int, kt_NoneType_bool, kt_NoneType_str, kt_NoneType_list, kt_NoneType_tuple, kt_NoneType_dict, kt_int_int, kt_int_bool, kt_int_str, kt_int_list, kt_int_tuple, kt_int_dict, kt_bool_int, kt_bool_bool, kt_bool_str, kt_bool_list, kt_bool_tuple, kt_bool_dict, kt_str_int, kt_str_bool, kt_str_str, kt_str_list, kt_str_tuple, kt_str_dict, kt_list_int, kt_list_bool, kt_list_str, kt_list_list, kt_list_tuple, kt_list_dict, kt_tuple_int, kt_tuple_bool, kt_tuple_str, kt_tuple_list, kt_tuple_tuple, kt_tuple_dict, kt_dict_int, kt_dict_bool, kt_dict_str, kt_dict_list, kt_dict_tuple, kt_dict_dict, asL_lst, asL_frz, asL_tup, asT_tup, asS_lst, asS_frz, asS_tup, tyN_non, tyN_bl, tyN_int, tyN_str, atV_lit, ixN_lit, upd_same, upd_ne, upd_ne',
  List.getElem?_cons_zero, List.getElem?_cons_succ, List.set_cons_zero, List.set_cons_succ, List.append_nil, List.length_cons, List.length_nil, Option.some.injEq, exists_eq_left', exists_eq_left, exists_and_left, V.bl.injEq, V.int.injEq, V.str.injEq, V.ref.injEq, Bool.not_eq_true, Bool.not_true, Bool.not_false, decide_true, decide_false, decide_eq_true_eq, decide_eq_false_iff_not, Bool.false_eq_true, if_true, if_false, ite_true, ite_false, reduceCtorEq, true_and, and_true, Nat.reduceAdd, Nat.reduceLT, Nat.zero_add, ne_eq, not_false_eq_true, not_true_eq_false, List.cons.injEq, and_assoc])
local macro_rules | `(tactic| walk_at "S") => `(tactic| try simp only [u_var, u_c, u_op, u_un, u_nil, u_cons, u_cb, u_call, u_callS, u_tup, u_lst, u_test, u_B, u_and, u_or, u_not, u_andV, u_orV, u_notV, u_ifE, u_chain, u_sl, u_noPart, u_part, u_bm, u_bm0, u_rev, u_lc, u_try, u_sui, u_sui0, u_unb_rt, u_unb_nx, u_xf, u_WE, w_nil, w_cons, u_raise, u_rng1, u_rng2, u_next, u_ret, u_gname, u_gnil, u_gcons, u_gsub, u_gtup,
  f_add, f_addS, f_addR, f_sub, f_mul, f_mulR, f_mod, f_div, f_pow, f_neg, f_cmp, f_eq, f_eqB, f_eqS, f_ne, f_neB, f_neS, f_isN, f_notN, f_isB, f_ix, f_ixS, f_int, f_intB, f_len, f_lenS, f_max, f_min, f_abs, f_list, f_tuple, f_all, f_sum, f_isi, f_isiT, f_append, f_insert, f_pop, f_sl, f_set, u_fldW, u_propW, u_makeS, u_makeL, u_cmethS, u_methS, u_ostW, f_isC, f_minSS, f_maxSS, f_reverse,
  kitS, tys, List.isEmpty_cons, Option.map_some, kt_NoneType_int, kt_NoneType_bool, kt_NoneType_str, kt_NoneType_list, kt_NoneType_tuple, kt_NoneType_dict, kt_int_int, kt_int_bool, kt_int_str, kt_int_list, kt_int_tuple, kt_int_dict, kt_bool_int, kt_bool_bool, kt_bool_str, kt_bool_list, kt_bool_tuple, kt_bool_dict, kt_str_int, kt_str_bool, kt_str_str, kt_str_list, kt_str_tuple, kt_str_dict, kt_list_int, kt_list_bool, kt_list_str, kt_list_list, kt_list_tuple, kt_list_dict, kt_tuple_int, kt_tuple_bool, kt_tuple_str, kt_tuple_list, kt_tuple_tuple, kt_tuple_dict, kt_dict_int, kt_dict_bool, kt_dict_str, kt_dict_list, kt_dict_tuple, kt_dict_dict, asL_lst, asL_frz, asL_tup, asT_tup, asS_lst, asS_frz, asS_tup, tyN_non, tyN_bl, tyN_int, tyN_str, atV_lit, ixN_lit, upd_same, upd_ne, upd_ne',
  List.getElem?_cons_zero, List.getElem?_cons_succ, List.set_cons_zero, List.set_cons_succ, List.append_nil, List.length_cons, List.length_nil, Option.some.injEq, exists_eq_left', exists_eq_left, exists_and_left, V.bl.injEq, V.int.injEq, V.str.injEq, V.ref.injEq, Bool.not_eq_true, Bool.not_true, Bool.not_false, decide_true, decide_false, decide_eq_true_eq, decide_eq_false_iff_not, Bool.false_eq_true, if_true, if_false, ite_true, ite_false, reduceCtorEq, true_and, and_true, Nat.reduceAdd, Nat.reduceLT, Nat.zero_add, ne_eq, not_false_eq_true, not_true_eq_false, List.cons.injEq, and_assoc, *])
theorem slice_seven {z : Str} : (Txt.slice z none (some 7)).length ≤ 7 := by
  rw [← cl_len, cl_take (by decide), List.length_take]
  have : (7 : Int).toNat = 7 := rfl
  omega
theorem flat_texts {zs : List Str} : (zs.map V.str).all flatV = true := by
  rw [List.all_eq_true]
  intro x hx
  obtain ⟨z, _, rfl⟩ := List.mem_map.1 hx
  rfl
theorem f_ninT {K : PySem.W.Frag} {H : Hp} {Q : VK} {z : Str} {p : Addr} {zs : List Str} (h : H p = some (.lst (zs.map V.str))) : fNin K (.str z) (.ref p) H Q = Q (.bl (!inV (.str z) (zs.map V.str))) H := by
  unfold fNin
  split
  · rename_i e1 e2
    cases e2
  · rename_i e
    cases e
    rw [asS_at h]
    show (flatV (.str z) = true ∧ (zs.map V.str).all flatV = true ∧ Q (.bl (!inV (.str z) (zs.map V.str))) H) = _
    rw [flat_texts]
    simp only [flatV, true_and]
  · rename_i n1 n2
    first | exact absurd rfl (n1 p) | exact (n1 p rfl).elim | exact (n2 _ rfl).elim | (simp at n1) | (simp at n2)
end XB

/-! Names. -/
namespace XB
open PySem L2
local macro_rules | `(tactic| walk_at "s") => `(tactic| try simp only [u_var, u_c, u_op, u_un, u_nil, u_cons, u_cb, u_call, u_callS, u_tup, u_lst, u_test, u_B, u_and, u_or, u_not, u_andV, u_orV, u_notV, u_ifE, u_chain, u_sl, u_noPart, u_part, u_bm, u_bm0, u_rev, u_lc, u_try, u_sui, u_sui0, u_unb_rt, u_unb_nx, u_xf, u_WE, w_nil, w_cons, u_raise, u_rng1, u_rng2, u_next, u_ret, u_gname, u_gnil, u_gcons, u_gsub, u_gtup,
  f_add, f_addS, f_addR, f_sub, f_mul, f_mulR, f_mod, f_div, f_pow, f_neg, f_cmp, f_eq, f_eqB, f_eqS, f_ne, f_neB, f_neS, f_isN, f_notN, f_isB, f_ix, f_ixS, f_int, f_intB, f_len, f_lenS, f_max, f_min, f_abs, f_list, f_tuple, f_all, f_sum, f_isi, f_isiT, f_append, f_insert, f_pop, f_sl, f_set, u_fldW, u_propW, u_makeS, u_makeL, u_cmethS, u_methS, u_ostW, f_isC, f_minSS, f_maxSS, f_reverse,
  kitS, tys, List.isEmpty_cons, Option.map_some, kt_NoneType_int, kt_NoneType_bool, kt_NoneType_str, kt_NoneType_list, kt_NoneType_tuple, kt_NoneType_dict, kt_int_int, kt_int_bool, kt_int_str, kt_int_list, kt_int_tuple, kt_int_dict, kt_bool_int, kt_bool_bool, kt_bool_str, kt_bool_list, kt_bool_tuple, kt_bool_dict, kt_str_int, kt_str_bool, kt_str_str, kt_str_list, kt_str_tuple, kt_str_dict, kt_list_int, kt_list_bool, kt_list_str, kt_list_list, kt_list_tuple, kt_list_dict, kt_tuple_int, kt_tuple_bool, kt_tuple_str, kt_tuple_list, kt_tuple_tuple, kt_tuple_dict, kt_dict_int, kt_dict_bool, kt_dict_str, kt_dict_list, kt_dict_tuple, kt_dict_dict, asL_lst, asL_frz, asL_tup, asT_tup, asS_lst, asS_frz, asS_tup, tyN_non, tyN_bl, tyN_int, tyN_str, atV_lit, ixN_lit, upd_same, upd_ne, upd_ne',
  List.getElem?_cons_zero, List.getElem?_cons_succ, List.set_cons_zero, List.set_cons_succ, List.append_nil, List.length_cons, List.length_nil, Option.some.injEq, exists_eq_left', exists_eq_left, exists_and_left, V.bl.injEq, V.int.injEq, V.str.injEq, V.ref.injEq, Bool.not_eq_true, Bool.not_true, Bool.not_false, decide_true, decide_false, decide_eq_true_eq, decide_eq_false_iff_not, Bool.false_eq_true, if_true, if_false, ite_true, ite_false, reduceCtorEq, true_and, and_true, Nat.reduceAdd, Nat.reduceLT, Nat.zero_add, ne_eq, not_false_eq_true, not_true_eq_false, List.cons.injEq, and_assoc])
local macro_rules | `(tactic| walk_at "S") => `(tactic| try simp only [u_var, u_c, u_op, u_un, u_nil, u_cons, u_cb, u_call, u_callS, u_tup, u_lst, u_test, u_B, u_and, u_or, u_not, u_andV, u_orV, u_notV, u_ifE, u_chain, u_sl, u_noPart, u_part, u_bm, u_bm0, u_rev, u_lc, u_try, u_sui, u_sui0, u_unb_rt, u_unb_nx, u_xf, u_WE, w_nil, w_cons, u_raise, u_rng1, u_rng2, u_next, u_ret, u_gname, u_gnil, u_gcons, u_gsub, u_gtup,
  f_add, f_addS, f_addR, f_sub, f_mul, f_mulR, f_mod, f_div, f_pow, f_neg, f_cmp, f_eq, f_eqB, f_eqS, f_ne, f_neB, f_neS, f_isN, f_notN, f_isB, f_ix, f_ixS, f_int, f_intB, f_len, f_lenS, f_max, f_min, f_abs, f_list, f_tuple, f_all, f_sum, f_isi, f_isiT, f_append, f_insert, f_pop, f_sl, f_set, u_fldW, u_propW, u_makeS, u_makeL, u_cmethS, u_methS, u_ostW, f_isC, f_minSS, f_maxSS, f_reverse,
  kitS, tys, List.isEmpty_cons, Option.map_some, kt_NoneType_int, kt_NoneType_bool, kt_NoneType_str, kt_NoneType_list, kt_NoneType_tuple, kt_NoneType_dict, kt_int_int, kt_int_bool, kt_int_str, kt_int_list, kt_int_tuple, kt_int_dict, kt_bool_int, kt_bool_bool, kt_bool_str, kt_bool_list, kt_bool_tuple, kt_bool_dict, kt_str_int, kt_str_bool, kt_str_str, kt_str_list, kt_str_tuple, kt_str_dict, kt_list_int, kt_list_bool, kt_list_str, kt_list_list, kt_list_tuple, kt_list_dict, kt_tuple_int, kt_tuple_bool, kt_tuple_str, kt_tuple_list, kt_tuple_tuple, kt_tuple_dict, kt_dict_int, kt_dict_bool, kt_dict_str, kt_dict_list, kt_dict_tuple, kt_dict_dict, asL_lst, asL_frz, asL_tup, asT_tup, asS_lst, asS_frz, asS_tup, tyN_non, tyN_bl, tyN_int, tyN_str, atV_lit, ixN_lit, upd_same, upd_ne, upd_ne',
  List.getElem?_cons_zero, List.getElem?_cons_succ, List.set_cons_zero, List.set_cons_succ, List.append_nil, List.length_cons, List.length_nil, Option.some.injEq, exists_eq_left', exists_eq_left, exists_and_left, V.bl.injEq, V.int.injEq, V.str.injEq, V.ref.injEq, Bool.not_eq_true, Bool.not_true, Bool.not_false, decide_true, decide_false, decide_eq_true_eq, decide_eq_false_iff_not, Bool.false_eq_true, if_true, if_false, ite_true, ite_false, reduceCtorEq, true_and, and_true, Nat.reduceAdd, Nat.reduceLT, Nat.zero_add, ne_eq, not_false_eq_true, not_true_eq_false, List.cons.injEq, and_assoc, *])
def nameV : V → Bool
  | .str z => nameS z
  | _ => false
/-- a value whose kind is known, no text too long -/
def Tz (v : V) (H : Hp) : Prop := Ty v H ∧ ∀ z, v = .str z → z.length ≤ 1000
theorem f_in1' {K : PySem.W.Frag} {H : Hp} {Q : VK} {c : Nat} {z : Str} : fIn K (.str ⟨#[c]⟩) (.str z) H Q = Q (.bl (decide (c ∈ z.cps.toList))) H := rfl
def sp_is_name (K : PySem.W.Frag) (C : CA) : Sp := fun vs H Q _ => ∃ v, vs = [v] ∧ Tz v H ∧ ∀ H', Sm H H' → Q (.bl (nameV v)) H'
def rd_is_name (K : PySem.W.Frag) (C : CA) (E : XK) : TS :=
  (tSeq (tIfS (tOr (tNot (tB (tCB fIsi (tCons (tVar 0) (tCons (tC (.ty "str")) tNil))))) (tNot (tTest (tChain fLe fLe (tC (.int 1)) (tCB fLen (tCons (tVar 0) tNil)) (tC (.int 8)))))) (tRet (tC (.bl false))) tNext) (tRet (tAndV (tOp (fIn K) (tOp fIx (tVar 0) (tC (.int 0))) (tC (.str ("abcdefghijklmnopqrstuvwxyz" : Str)))) (tCB fAll (tCons (tLc (iStr (tVar 0)) (gName 1) tYes (tOp (fIn K) (tVar 1) (tC (.str ("abcdefghijklmnopqrstuvwxyz0123456789" : Str)))) [1]) tNil)))))
theorem pure_is_name {K : PySem.W.Frag} {C : CA} (vs : List V) (H : Hp) (Q : VK) (E : XK) (h : sp_is_name K C vs H Q E) : rd_is_name K C E { nx := fun _ H' => Q .non H', rt := Q } (start [("value" : Str), ("sign" : Str)] vs) H := by
  obtain ⟨v, rfl, ⟨tv, lz⟩, q⟩ := h
  show rd_is_name K C E _ [some v, none] H
  unfold rd_is_name
  refine q_if ?_
  have no : nameV v = false → Q (.bl false) H := fun e => by
    have := q H fun _ _ z => z
    rw [e] at this
    exact this
  rcases ty_cases tv with rfl | ⟨b, rfl⟩ | ⟨i, rfl⟩ | ⟨z, rfl⟩ | ⟨p, rfl, h⟩
  · walk_at "s"
    exact no rfl
  · walk_at "s"
    exact no rfl
  · walk_at "s"
    exact no rfl
  · have l1 := lz z rfl
    walk_at "s"
    have noS : nameS z = false → Q (.bl false) H := no
    have hlen : z.cps.toList.length = z.length := Array.length_toList
    refine ⟨by show _ ≤ 2 ^ 24; omega, ite2 (fun c1 => ?_) fun c1 => noS ?_⟩
    · by_cases c2 : (z.length : Int) ≤ 8
      · simp only [c2, decide_true, Bool.not_true, Bool.false_eq_true, if_false]
        refine ⟨by show _ ≤ 2 ^ 24; omega, ?_⟩
        have a1 : decide (1 ≤ z.length) = true := decide_eq_true (by omega)
        have a2 : decide (z.length ≤ 8) = true := decide_eq_true (by omega)
        cases ez : z.cps.toList with
        | nil => rw [ez] at hlen; simp at hlen; omega
        | cons c0 t =>
          have q2 : ∀ H', Sm H H' → Q (.bl (decide (c0 ∈ lettersS.cps.toList) && (c0 :: t).all fun c => decide (c ∈ signsS.cps.toList))) H' := fun H' s => by
            have e := q H' s
            have e2 : nameV (.str z) = (decide (c0 ∈ lettersS.cps.toList) && (c0 :: t).all fun c => decide (c ∈ signsS.cps.toList)) := by
              show nameS z = _
              unfold nameS
              rw [a1, a2, ez]
              simp only [Bool.true_and]
            rw [← e2]
            exact e
          refine ⟨c0, (by exact atI_nat (xs := c0 :: t) (j := 0) rfl), ?_⟩
          rw [f_in1']
          refine ⟨_, rfl, ?_⟩
          by_cases c3 : c0 ∈ lettersS.cps.toList
          · rw [decide_eq_true c3] at q2
            have c3' : decide (c0 ∈ (Str.ofString "abcdefghijklmnopqrstuvwxyz").cps.toList) = true := decide_eq_true c3
            rw [if_pos c3', u_strI]
            walk_at "s"
            intro Dd hD
            refine made_mapStr (fun c => .bl (decide (c ∈ signsS.cps.toList))) hD (by show z.length < 2 ^ 24; omega) (fun _ => rfl) (fun i c H2 Q1 hc s1 q1 => ?_) fun H2 s2 g2 => ?_
            · walk_at "s"
              rw [f_in1']
              exact q1 H2 fun _ _ z => z
            · rw [g2]
              refine ⟨z.cps.toList.map fun c => decide (c ∈ signsS.cps.toList), by rw [List.map_map]; rfl, ?_⟩
              have e := q2 H2 s2
              rw [Bool.true_and] at e
              rw [ez, List.all_map]
              exact e
          · rw [decide_eq_false c3] at q2
            have c3' : ¬ decide (c0 ∈ (Str.ofString "abcdefghijklmnopqrstuvwxyz").cps.toList) = true := by
              rw [decide_eq_true_eq]
              exact c3
            rw [if_neg c3']
            exact q2 H fun _ _ z => z
      · simp only [c2, decide_false, Bool.not_false, if_true]
        refine noS ?_
        have a2 : decide (z.length ≤ 8) = false := decide_eq_false (by omega)
        unfold nameS
        rw [a2]
        simp
    · have a1 : decide (1 ≤ z.length) = false := decide_eq_false (by omega)
      unfold nameS
      rw [a1]
      simp
  · have e : ∃ t, tyN (.ref p) H = some t ∧ (t = "list" ∨ t = "tuple" ∨ t = "dict") := by
      rcases h with ⟨h, _⟩ | ⟨h, _⟩ | ⟨h, _⟩
      · exact ⟨_, h, .inl rfl⟩
      · exact ⟨_, h, .inr (.inl rfl)⟩
      · exact ⟨_, h, .inr (.inr rfl)⟩
    obtain ⟨t, e, rfl | rfl | rfl⟩ := e
    all_goals
      walk_at "s"
      simp only [e]
      walk_at "s"
      exact no rfl
end XB

/-! Tables of names. -/
namespace XB
open PySem L2
local macro_rules | `(tactic| walk_at "s") => `(tactic| try simp only [u_var, u_c, u_op, u_un, u_nil, u_cons, u_cb, u_call, u_callS, u_tup, u_lst, u_test, u_B, u_and, u_or, u_not, u_andV, u_orV, u_notV, u_ifE, u_chain, u_sl, u_noPart, u_part, u_bm, u_bm0, u_rev, u_lc, u_try, u_sui, u_sui0, u_unb_rt, u_unb_nx, u_xf, u_WE, w_nil, w_cons, u_raise, u_rng1, u_rng2, u_next, u_ret, u_gname, u_gnil, u_gcons, u_gsub, u_gtup,
  f_add, f_addS, f_addR, f_sub, f_mul, f_mulR, f_mod, f_div, f_pow, f_neg, f_cmp, f_eq, f_eqB, f_eqS, f_ne, f_neB, f_neS, f_isN, f_notN, f_isB, f_ix, f_ixS, f_int, f_intB, f_len, f_lenS, f_max, f_min, f_abs, f_list, f_tuple, f_all, f_sum, f_isi, f_isiT, f_append, f_insert, f_pop, f_sl, f_set, u_fldW, u_propW, u_makeS, u_makeL, u_cmethS, u_methS, u_ostW, f_isC, f_minSS, f_maxSS, f_reverse,
  kitS, tys, List.isEmpty_cons, Option.map_some, kt_NoneType_int, kt_NoneType_bool, kt_NoneType_str, kt_NoneType_list, kt_NoneType_tuple, kt_NoneType_dict, kt_int_int, kt_int_bool, kt_int_str, kt_int_list, kt_int_tuple, kt_int_dict, kt_bool_int, kt_bool_bool, kt_bool_str, kt_bool_list, kt_bool_tuple, kt_bool_dict, kt_str_int, kt_str_bool, kt_str_str, kt_str_list, kt_str_tuple, kt_str_dict, kt_list_int, kt_list_bool, kt_list_str, kt_list_list, kt_list_tuple, kt_list_dict, kt_tuple_int, kt_tuple_bool, kt_tuple_str, kt_tuple_list, kt_tuple_tuple, kt_tuple_dict, kt_dict_int, kt_dict_bool, kt_dict_str, kt_dict_list, kt_dict_tuple, kt_dict_dict, asL_lst, asL_frz, asL_tup, asT_tup, asS_lst, asS_frz, asS_tup, tyN_non, tyN_bl, tyN_int, tyN_str, atV_lit, ixN_lit, upd_same, upd_ne, upd_ne',
  List.getElem?_cons_zero, List.getElem?_cons_succ, List.set_cons_zero, List.set_cons_succ, List.append_nil, List.length_cons, List.length_nil, Option.some.injEq, exists_eq_left', exists_eq_left, exists_and_left, V.bl.injEq, V.int.injEq, V.str.injEq, V.ref.injEq, Bool.not_eq_true, Bool.not_true, Bool.not_false, decide_true, decide_false, decide_eq_true_eq, decide_eq_false_iff_not, Bool.false_eq_true, if_true, if_false, ite_true, ite_false, reduceCtorEq, true_and, and_true, Nat.reduceAdd, Nat.reduceLT, Nat.zero_add, ne_eq, not_false_eq_true, not_true_eq_false, List.cons.injEq, and_assoc])
local macro_rules | `(tactic| walk_at "S") => `(tactic| try simp only [u_var, u_c, u_op, u_un, u_nil, u_cons, u_cb, u_call, u_callS, u_tup, u_lst, u_test, u_B, u_and, u_or, u_not, u_andV, u_orV, u_notV, u_ifE, u_chain, u_sl, u_noPart, u_part, u_bm, u_bm0, u_rev, u_lc, u_try, u_sui, u_sui0, u_unb_rt, u_unb_nx, u_xf, u_WE, w_nil, w_cons, u_raise, u_rng1, u_rng2, u_next, u_ret, u_gname, u_gnil, u_gcons, u_gsub, u_gtup,
  f_add, f_addS, f_addR, f_sub, f_mul, f_mulR, f_mod, f_div, f_pow, f_neg, f_cmp, f_eq, f_eqB, f_eqS, f_ne, f_neB, f_neS, f_isN, f_notN, f_isB, f_ix, f_ixS, f_int, f_intB, f_len, f_lenS, f_max, f_min, f_abs, f_list, f_tuple, f_all, f_sum, f_isi, f_isiT, f_append, f_insert, f_pop, f_sl, f_set, u_fldW, u_propW, u_makeS, u_makeL, u_cmethS, u_methS, u_ostW, f_isC, f_minSS, f_maxSS, f_reverse,
  kitS, tys, List.isEmpty_cons, Option.map_some, kt_NoneType_int, kt_NoneType_bool, kt_NoneType_str, kt_NoneType_list, kt_NoneType_tuple, kt_NoneType_dict, kt_int_int, kt_int_bool, kt_int_str, kt_int_list, kt_int_tuple, kt_int_dict, kt_bool_int, kt_bool_bool, kt_bool_str, kt_bool_list, kt_bool_tuple, kt_bool_dict, kt_str_int, kt_str_bool, kt_str_str, kt_str_list, kt_str_tuple, kt_str_dict, kt_list_int, kt_list_bool, kt_list_str, kt_list_list, kt_list_tuple, kt_list_dict, kt_tuple_int, kt_tuple_bool, kt_tuple_str, kt_tuple_list, kt_tuple_tuple, kt_tuple_dict, kt_dict_int, kt_dict_bool, kt_dict_str, kt_dict_list, kt_dict_tuple, kt_dict_dict, asL_lst, asL_frz, asL_tup, asT_tup, asS_lst, asS_frz, asS_tup, tyN_non, tyN_bl, tyN_int, tyN_str, atV_lit, ixN_lit, upd_same, upd_ne, upd_ne',
  List.getElem?_cons_zero, List.getElem?_cons_succ, List.set_cons_zero, List.set_cons_succ, List.append_nil, List.length_cons, List.length_nil, Option.some.injEq, exists_eq_left', exists_eq_left, exists_and_left, V.bl.injEq, V.int.injEq, V.str.injEq, V.ref.injEq, Bool.not_eq_true, Bool.not_true, Bool.not_false, decide_true, decide_false, decide_eq_true_eq, decide_eq_false_iff_not, Bool.false_eq_true, if_true, if_false, ite_true, ite_false, reduceCtorEq, true_and, and_true, Nat.reduceAdd, Nat.reduceLT, Nat.zero_add, ne_eq, not_false_eq_true, not_true_eq_false, List.cons.injEq, and_assoc, *])
theorem tup_ty' {H : Hp} {p : Addr} {xs : List V} (h : asT (H p) = some xs) : tyN (.ref p) H = some "tuple" := tup_ty h
def isSeqV (v : V) (H : Hp) : Bool := match v with
  | .ref p => (asS (H p)).isSome
  | _ => false
def tupN (k : Int) (v : V) (H : Hp) : Bool := match v with
  | .ref p => (match asT (H p) with
    | some xs => decide ((xs.length : Int) = k)
    | none => false)
  | _ => false
def IsPairs (H : Hp) (v : V) (ps : List (Str × Str)) : Prop := ∃ p xs, v = .ref p ∧ asS (H p) = some xs ∧ xs.length = ps.length ∧ ∀ (i : Nat) (x : V) (pr : Str × Str), xs[i]? = some x → ps[i]? = some pr → ∃ q, x = .ref q ∧ asT (H q) = some [.str pr.1, .str pr.2]
/-- what a value that may be a table is like -/
def Tab (H : Hp) (v : V) : Prop := Ty v H ∧ ∀ p xs, v = .ref p → asS (H p) = some xs → xs.length ≤ 1000 ∧ ∀ x ∈ xs, Ty x H ∧ ∀ q ys, x = .ref q → asT (H q) = some ys → ys.length ≤ 1000 ∧ ∀ y ∈ ys, Tz y H
theorem Tz.mono {v : V} {H H' : Hp} (h : Tz v H) (s : Sm H H') : Tz v H' := ⟨h.1.mono s, h.2⟩
theorem back_S {H H' : Hp} {v : V} {p : Addr} {xs : List V} (s : Sm H H') (h : Ty v H) (e : v = .ref p) (hx : asS (H' p) = some xs) : asS (H p) = some xs := by
  subst e
  obtain ⟨t, h⟩ := h
  dsimp only [tyN] at h
  cases eo : H p with
  | none => rw [eo] at h; cases h
  | some o => rw [s p o eo] at hx; exact hx
theorem back_T {H H' : Hp} {v : V} {p : Addr} {xs : List V} (s : Sm H H') (h : Ty v H) (e : v = .ref p) (hx : asT (H' p) = some xs) : asT (H p) = some xs := by
  subst e
  obtain ⟨t, h⟩ := h
  dsimp only [tyN] at h
  cases eo : H p with
  | none => rw [eo] at h; cases h
  | some o => rw [s p o eo] at hx; exact hx
theorem Tab.mono {v : V} {H H' : Hp} (h : Tab H v) (s : Sm H H') : Tab H' v := ⟨h.1.mono s, fun p xs e hx => by
  obtain ⟨l, k⟩ := h.2 p xs e (back_S s h.1 e hx)
  refine ⟨l, fun x hm => ?_⟩
  obtain ⟨ty, k⟩ := k x hm
  refine ⟨ty.mono s, fun q ys e hy => ?_⟩
  obtain ⟨l2, k2⟩ := k q ys e (back_T s ty e hy)
  exact ⟨l2, fun y hm => (k2 y hm).mono s⟩⟩
theorem IsPairs.mono {v : V} {H H' : Hp} {ps : List (Str × Str)} (h : IsPairs H v ps) (s : Sm H H') : IsPairs H' v ps := by
  obtain ⟨p, xs, e, hx, l, k⟩ := h
  refine ⟨p, xs, e, sm_S s hx, l, fun i x pr h1 h2 => ?_⟩
  obtain ⟨q, e, hq⟩ := k i x pr h1 h2
  exact ⟨q, e, sm_T s hq⟩
theorem IsPairs.unique {v : V} {H : Hp} {ps qs : List (Str × Str)} (h : IsPairs H v ps) (k : IsPairs H v qs) : ps = qs := by
  obtain ⟨p, xs, e, hx, l, a⟩ := h
  obtain ⟨p', xs', e', hx', l', a'⟩ := k
  rw [e] at e'
  cases e'
  rw [hx] at hx'
  cases hx'
  apply List.ext_getElem?
  intro i
  by_cases c : i < xs.length
  · have h1 : xs[i]? = some xs[i] := by simp [c]
    have h2 : ps[i]? = some (ps[i]'(by omega)) := List.getElem?_eq_getElem _
    have h3 : qs[i]? = some (qs[i]'(by omega)) := List.getElem?_eq_getElem _
    obtain ⟨q, e1, hq⟩ := a i _ _ h1 h2
    obtain ⟨q', e2, hq'⟩ := a' i _ _ h1 h3
    rw [e1] at e2
    cases e2
    rw [hq] at hq'
    injection hq' with hq'
    injection hq' with z1 z2
    injection z2 with z2 _
    injection z1 with z1
    injection z2 with z2
    rw [h2, h3]
    congr 1
    exact Prod.ext z1 z2
  · rw [List.getElem?_eq_none_iff.mpr (by omega), List.getElem?_eq_none_iff.mpr (by omega)]
section
variable {K : PySem.W.Frag} {σ : L2.St} {H : Hp} {Q : VK} {n m : Nat}
/-- a list made over a list or tuple -/
theorem seq_made {p : Addr} {xs : List V} {te : TE} {vs : List Nat} {R : Addr → Hp → Prop} (f : V → V) (hσ : σ[n]? = some (some (.ref p))) (hp : asS (H p) = some xs) (hz : xs.length < sizeLine) (hw : ∀ x, wipe ((wipe σ vs).set m (some x)) vs = wipe σ vs)
    (he : ∀ (i : Nat) (x : V) (H' : Hp) (Q : VK), xs[i]? = some x → Sm H H' → (∀ H2, Sm H' H2 → Q (f x) H2) → te ((wipe σ vs).set m (some x)) H' Q) (hd : ∀ D H', H D = none → Sm H H' → H' D = some (.lst (xs.map f)) → R D H') :
    iSeq K n σ H fun J H1 => ∀ D, H1 D = none → Made J (gName m) tYes te vs σ D H1 (R D) := by
  rcases asS_or hp with e | e
  · refine .inl ?_
    rw [u_list]
    exact ⟨_, hσ, p, rfl, ⟨xs, asL_seq e⟩, fun D hD => made_map f e hD hz hw he fun H' s h => hd D H' hD s h⟩
  · refine .inr ?_
    rw [u_tupI]
    exact ⟨_, hσ, p, rfl, ⟨xs, asT_seq e⟩, fun D hD => made_mapT f e hD hz hw he fun H' s h => hd D H' hD s h⟩
/-- .. of pairs -/
theorem made_pairL {a b Dd : Addr} {i1 i2 : Nat} {xs : List V} {ps : List (Str × Str)} {te : TE} {vs : List Nat} {Qd : Hp → Prop} (f : Str × Str → V) (hl : asL (H a) = some xs) (hx : xs.length = ps.length)
    (hq : ∀ (i : Nat) (x : V) (pr : Str × Str), xs[i]? = some x → ps[i]? = some pr → ∃ q, x = .ref q ∧ asT (H q) = some [.str pr.1, .str pr.2]) (hD : H Dd = none) (hz : xs.length < sizeLine) (hw : ∀ x y, wipe (((wipe σ vs).set i1 (some x)).set i2 (some y)) vs = wipe σ vs)
    (he : ∀ (i : Nat) (pr : Str × Str) (H' : Hp) (Q : VK), ps[i]? = some pr → Sm H H' → (∀ H2, Sm H' H2 → Q (f pr) H2) → te (((wipe σ vs).set i1 (some (.str pr.1))).set i2 (some (.str pr.2))) H' Q)
    (hd : ∀ H', Sm H H' → H' Dd = some (.lst (ps.map f)) → Qd H') : Made (Itl K a) (gTupF 2 (gCons (gName i1) (gCons (gName i2) gNil))) tYes te vs σ Dd H Qd := by
  refine made_list (fun i H' => Sm H H' ∧ H' Dd = some (.lst ((ps.take i).map f))) ⟨sm_new (fun _ _ h => h) hD, upd_same⟩ (fun i H' _ p => sm_L p.1 hl) (fun i x H' hxi p => ?_) fun H' p => hd H' p.1 (by rw [← List.take_length (l := ps), ← hx]; exact p.2)
  have hi := (List.getElem?_eq_some_iff.mp hxi).1
  have hpi : ps[i]? = some (ps[i]'(by omega)) := List.getElem?_eq_getElem _
  obtain ⟨q, rfl, hq⟩ := hq i x _ hxi hpi
  rw [u_gtup, sm_T p.1 hq]
  refine ⟨rfl, _, _, rfl, _, _, rfl, rfl, hw _ _, ?_⟩
  refine iteT (B := Sm H H' ∧ H' Dd = some (.lst ((ps.take (i + 1)).map f))) ?_
  refine he i _ H' _ hpi p.1 fun H2 s2 => ⟨(ps.take i).map f, s2 _ _ p.2, ?_, ?_, ?_⟩
  · rw [List.length_map, List.length_take]; omega
  · exact sm_put (fun b o z => s2 b o (p.1 b o z)) hD
  · rw [upd_same, take_map_succ hpi]
theorem made_pairT {a Dd : Addr} {i1 i2 : Nat} {xs : List V} {ps : List (Str × Str)} {te : TE} {vs : List Nat} {Qd : Hp → Prop} (f : Str × Str → V) (hl : asT (H a) = some xs) (hx : xs.length = ps.length)
    (hq : ∀ (i : Nat) (x : V) (pr : Str × Str), xs[i]? = some x → ps[i]? = some pr → ∃ q, x = .ref q ∧ asT (H q) = some [.str pr.1, .str pr.2]) (hD : H Dd = none) (hz : xs.length < sizeLine) (hw : ∀ x y, wipe (((wipe σ vs).set i1 (some x)).set i2 (some y)) vs = wipe σ vs)
    (he : ∀ (i : Nat) (pr : Str × Str) (H' : Hp) (Q : VK), ps[i]? = some pr → Sm H H' → (∀ H2, Sm H' H2 → Q (f pr) H2) → te (((wipe σ vs).set i1 (some (.str pr.1))).set i2 (some (.str pr.2))) H' Q)
    (hd : ∀ H', Sm H H' → H' Dd = some (.lst (ps.map f)) → Qd H') : Made (Itt K a) (gTupF 2 (gCons (gName i1) (gCons (gName i2) gNil))) tYes te vs σ Dd H Qd := by
  refine lc_tup (K := K) (fun i H' => Sm H H' ∧ H' Dd = some (.lst ((ps.take i).map f))) ⟨sm_new (fun _ _ h => h) hD, upd_same⟩ (fun i H' _ p => asT_seq (sm_T p.1 hl)) (fun i x H' hxi p => ?_) fun H' p => hd H' p.1 (by rw [← List.take_length (l := ps), ← hx]; exact p.2)
  have hi := (List.getElem?_eq_some_iff.mp hxi).1
  have hpi : ps[i]? = some (ps[i]'(by omega)) := List.getElem?_eq_getElem _
  obtain ⟨q, rfl, hq⟩ := hq i x _ hxi hpi
  rw [u_gtup, sm_T p.1 hq]
  refine ⟨rfl, _, _, rfl, _, _, rfl, rfl, hw _ _, ?_⟩
  refine iteT (B := Sm H H' ∧ H' Dd = some (.lst ((ps.take (i + 1)).map f))) ?_
  refine he i _ H' _ hpi p.1 fun H2 s2 => ⟨(ps.take i).map f, s2 _ _ p.2, ?_, ?_, ?_⟩
  · rw [List.length_map, List.length_take]; omega
  · exact sm_put (fun b o z => s2 b o (p.1 b o z)) hD
  · rw [upd_same, take_map_succ hpi]
theorem seq_pairs {i1 i2 : Nat} {v : V} {ps : List (Str × Str)} {te : TE} {vs : List Nat} {R : Addr → Hp → Prop} (f : Str × Str → V) (hσ : σ[n]? = some (some v)) (hv : IsPairs H v ps) (hz : ps.length ≤ 1000) (hw : ∀ x y, wipe (((wipe σ vs).set i1 (some x)).set i2 (some y)) vs = wipe σ vs)
    (he : ∀ (i : Nat) (pr : Str × Str) (H' : Hp) (Q : VK), ps[i]? = some pr → Sm H H' → (∀ H2, Sm H' H2 → Q (f pr) H2) → te (((wipe σ vs).set i1 (some (.str pr.1))).set i2 (some (.str pr.2))) H' Q)
    (hd : ∀ D H', H D = none → Sm H H' → H' D = some (.lst (ps.map f)) → R D H') :
    iSeq K n σ H fun J H1 => ∀ D, H1 D = none → Made J (gTupF 2 (gCons (gName i1) (gCons (gName i2) gNil))) tYes te vs σ D H1 (R D) := by
  obtain ⟨p, xs, rfl, hp, hx, hq⟩ := hv
  have hz2 : xs.length < 2 ^ 24 := by omega
  rcases asS_or hp with e | e
  · refine .inl ?_
    rw [u_list]
    exact ⟨_, hσ, p, rfl, ⟨xs, asL_seq e⟩, fun D hD => made_pairL (b := p) f e hx hq hD hz2 hw he fun H' s h => hd D H' hD s h⟩
  · refine .inr ?_
    rw [u_tupI]
    exact ⟨_, hσ, p, rfl, ⟨xs, asT_seq e⟩, fun D hD => made_pairT f e hx hq hD hz2 hw he fun H' s h => hd D H' hD s h⟩
end
def sp_is_series (K : PySem.W.Frag) (C : CA) : Sp := fun vs H Q _ => ∃ v, vs = [v] ∧ Ty v H ∧ ∀ H', Sm H H' → Q (.bl (isSeqV v H)) H'
def rd_is_series (K : PySem.W.Frag) (C : CA) (E : XK) : TS :=
  (tRet (tCB fIsiT (tCons (tVar 0) (tCons (tTup (tCons (tC (.ty "list")) (tCons (tC (.ty "tuple")) tNil))) tNil))))
theorem pure_is_series {K : PySem.W.Frag} {C : CA} (vs : List V) (H : Hp) (Q : VK) (E : XK) (h : sp_is_series K C vs H Q E) : rd_is_series K C E { nx := fun _ H' => Q .non H', rt := Q } (start [("value" : Str)] vs) H := by
  obtain ⟨v, rfl, ty, q⟩ := h
  show rd_is_series K C E _ [some v] H
  unfold rd_is_series
  refine q_ret ?_
  walk_at "s"
  refine ⟨by decide, fun tp ht => al ht fun H1 s1 h1 => ?_⟩
  try simp only [h1]
  have q1 := q H1 s1
  rcases ty_cases ty with rfl | ⟨b, rfl⟩ | ⟨i, rfl⟩ | ⟨z, rfl⟩ | ⟨p, rfl, ⟨e, xs, hx⟩ | ⟨e, xs, hx, _⟩ | ⟨e, hx⟩⟩
  · walk_at "s"; exact q1
  · walk_at "s"; exact q1
  · walk_at "s"; exact q1
  · walk_at "s"; exact q1
  · rw [tyN_mono s1 e]
    walk_at "s"
    have e2 : isSeqV (.ref p) H = true := by show (asS (H p)).isSome = true; rw [asS_of_L hx]; rfl
    rw [e2] at q1
    exact q1
  · rw [tyN_mono s1 e]
    walk_at "s"
    have e2 : isSeqV (.ref p) H = true := by show (asS (H p)).isSome = true; rw [asS_of_T hx]; rfl
    rw [e2] at q1
    exact q1
  · rw [tyN_mono s1 e]
    walk_at "s"
    have e2 : isSeqV (.ref p) H = false := by show (asS (H p)).isSome = false; rw [hx]; rfl
    rw [e2] at q1
    exact q1
def sp_is_tuple_of (K : PySem.W.Frag) (C : CA) : Sp := fun vs H Q _ => ∃ v k, vs = [v, .int k] ∧ Ty v H ∧ Q (.bl (tupN k v H)) H
def rd_is_tuple_of (K : PySem.W.Frag) (C : CA) (E : XK) : TS :=
  (tRet (tAndV (tCB fIsi (tCons (tVar 0) (tCons (tC (.ty "tuple")) tNil))) (tOp (fEq K) (tCB fLen (tCons (tVar 0) tNil)) (tVar 1))))
theorem pure_is_tuple_of {K : PySem.W.Frag} {C : CA} (vs : List V) (H : Hp) (Q : VK) (E : XK) (h : sp_is_tuple_of K C vs H Q E) : rd_is_tuple_of K C E { nx := fun _ H' => Q .non H', rt := Q } (start [("value" : Str), ("parts" : Str)] vs) H := by
  obtain ⟨v, k, rfl, ty, q⟩ := h
  show rd_is_tuple_of K C E _ [some v, some (.int k)] H
  unfold rd_is_tuple_of
  refine q_ret ?_
  rcases ty_cases ty with rfl | ⟨b, rfl⟩ | ⟨i, rfl⟩ | ⟨z, rfl⟩ | ⟨p, rfl, ⟨e, xs, hx⟩ | ⟨e, xs, hx, _⟩ | ⟨e, hx⟩⟩
  · walk_at "s"; exact q
  · walk_at "s"; exact q
  · walk_at "s"; exact q
  · walk_at "s"; exact q
  · walk_at "s"
    rw [e]
    walk_at "s"
    have e2 : tupN k (.ref p) H = false := by
      unfold tupN
      dsimp only
      cases c : asT (H p) with
      | none => rfl
      | some ys => rw [tup_ty c] at e; exact absurd (Option.some.inj e) (by decide)
    rw [e2] at q
    exact q
  · walk_at "s"
    rw [e]
    walk_at "s"
    rw [asS_of_T hx]
    walk_at "s"
    unfold tupN at q
    dsimp only at q
    rw [hx] at q
    exact q
  · walk_at "s"
    rw [e]
    walk_at "s"
    have e2 : tupN k (.ref p) H = false := by
      unfold tupN
      dsimp only
      cases c : asT (H p) with
      | none => rfl
      | some ys => rw [asS_of_T c] at hx; cases hx
    rw [e2] at q
    exact q
def sp_are_names (K : PySem.W.Frag) (C : CA) : Sp := fun vs H Q _ => ∃ p xs, vs = [.ref p] ∧ asS (H p) = some xs ∧ xs.length ≤ 1000 ∧ (∀ x ∈ xs, Tz x H) ∧ ∀ H', Sm H H' → Q (.bl (xs.all nameV)) H'
def rd_are_names (K : PySem.W.Frag) (C : CA) (E : XK) : TS :=
  (tRet (tCB fAll (tCons (tLc (iSeq K 0) (gName 1) tYes (tCallS (sp_is_name K C) (fun _ => E0) (tCons (tVar 1) tNil)) [1]) tNil)))
theorem pure_are_names {K : PySem.W.Frag} {C : CA} (vs : List V) (H : Hp) (Q : VK) (E : XK) (h : sp_are_names K C vs H Q E) : rd_are_names K C E { nx := fun _ H' => Q .non H', rt := Q } (start [("values" : Str), ("value" : Str)] vs) H := by
  obtain ⟨p, xs, rfl, hp, hl, hx, q⟩ := h
  show rd_are_names K C E _ [some (.ref p), none] H
  unfold rd_are_names
  refine q_ret ?_
  walk_at "s"
  refine seq_made (fun x => .bl (nameV x)) rfl hp (by show _ < 2 ^ 24; omega) (fun _ => rfl) (fun i x H1 Q1 hxi s1 q1 => ?_) fun D H1 hD s1 h1 => ?_
  · walk_at "s"
    exact ⟨x, rfl, (hx x (List.mem_of_getElem? hxi)).mono s1, q1⟩
  · rw [h1]
    walk_at "s"
    refine ⟨xs.map nameV, by rw [List.map_map]; rfl, ?_⟩
    have e := q H1 s1
    rw [List.all_map]
    exact e
/-- a pair of names -/
def pairB (H : Hp) (x : V) : Bool := match x with
  | .ref q => (match asT (H q) with
    | some [a, b] => nameV a && nameV b
    | _ => false)
  | _ => false
theorem nameV_str {a : V} (h : nameV a = true) : ∃ z, a = .str z ∧ nameS z = true := by
  cases a with
  | str z => exact ⟨z, rfl, h⟩
  | _ => cases h
theorem pairs_iff {H : Hp} {p : Addr} {xs : List V} (hp : asS (H p) = some xs) : xs.all (pairB H) = true ↔ ∃ ps, IsPairs H (.ref p) ps ∧ ∀ pr ∈ ps, nameS pr.1 = true ∧ nameS pr.2 = true := by
  constructor
  · intro h
    have e : ∃ ps : List (Str × Str), xs.length = ps.length ∧ (∀ (i : Nat) (x : V) (pr : Str × Str), xs[i]? = some x → ps[i]? = some pr → ∃ q, x = .ref q ∧ asT (H q) = some [.str pr.1, .str pr.2]) ∧ ∀ pr ∈ ps, nameS pr.1 = true ∧ nameS pr.2 = true := by
      clear hp
      induction xs with
      | nil => exact ⟨[], rfl, by simp, by simp⟩
      | cons x xs ih =>
        rw [List.all_cons, Bool.and_eq_true] at h
        obtain ⟨ps, l, k, n⟩ := ih h.2
        have hx := h.1
        unfold pairB at hx
        split at hx
        · rename_i q
          split at hx
          · rename_i a b e
            rw [Bool.and_eq_true] at hx
            obtain ⟨z, rfl, hz⟩ := nameV_str hx.1
            obtain ⟨w, rfl, hw⟩ := nameV_str hx.2
            refine ⟨(z, w) :: ps, by simp [l], fun i y pr hy hr => ?_, fun pr hm => ?_⟩
            · cases i with
              | zero => cases hy; cases hr; exact ⟨q, rfl, e⟩
              | succ i => exact k i y pr (by simpa using hy) (by simpa using hr)
            · rcases List.mem_cons.1 hm with rfl | hm
              · exact ⟨hz, hw⟩
              · exact n pr hm
          · cases hx
        · cases hx
    obtain ⟨ps, l, k, n⟩ := e
    exact ⟨ps, ⟨p, xs, rfl, hp, l, k⟩, n⟩
  · rintro ⟨ps, ⟨p', xs', e, hp', l, k⟩, n⟩
    cases e
    rw [hp] at hp'
    cases hp'
    rw [List.all_eq_true]
    intro x hx
    obtain ⟨i, hi, rfl⟩ := List.mem_iff_getElem.1 hx
    have hr : ps[i]? = some (ps[i]'(by omega)) := List.getElem?_eq_getElem _
    obtain ⟨q, e, hq⟩ := k i xs[i] _ (by simp [hi]) hr
    have := n _ (List.mem_of_getElem? hr)
    unfold pairB
    rw [e]
    dsimp only
    rw [hq]
    show (nameS _ && nameS _) = true
    rw [this.1, this.2]
    rfl
def sp_are_name_pairs (K : PySem.W.Frag) (C : CA) : Sp := fun vs H Q _ => ∃ v, vs = [v] ∧ Tab H v ∧ ∀ (b : Bool) (H' : Hp), Sm H H' → (b = true ↔ ∃ ps, IsPairs H v ps ∧ ∀ pr ∈ ps, nameS pr.1 = true ∧ nameS pr.2 = true) → Q (.bl b) H'
def rd_are_name_pairs (K : PySem.W.Frag) (C : CA) (E : XK) : TS :=
  (tRet (tAndV (tCallS (sp_is_series K C) (fun _ => E0) (tCons (tVar 0) tNil)) (tCB fAll (tCons (tLc (iSeq K 0) (gName 1) tYes (tAndV (tCallS (sp_is_tuple_of K C) (fun _ => E0) (tCons (tVar 1) (tCons (tC (.int 2)) tNil))) (tCallS (sp_are_names K C) (fun _ => E0) (tCons (tVar 1) tNil))) [1]) tNil))))
theorem pure_are_name_pairs {K : PySem.W.Frag} {C : CA} (vs : List V) (H : Hp) (Q : VK) (E : XK) (h : sp_are_name_pairs K C vs H Q E) : rd_are_name_pairs K C E { nx := fun _ H' => Q .non H', rt := Q } (start [("value" : Str), ("pair" : Str)] vs) H := by
  obtain ⟨v, rfl, tb, q⟩ := h
  show rd_are_name_pairs K C E _ [some v, none] H
  unfold rd_are_name_pairs
  refine q_ret ?_
  walk_at "s"
  refine ⟨v, rfl, tb.1, fun H1 s1 => ?_⟩
  walk_at "s"
  by_cases c : isSeqV v H = true
  · rw [c]
    simp only [if_true]
    obtain ⟨p, xs, rfl, hp⟩ : ∃ p xs, v = .ref p ∧ asS (H p) = some xs := by
      unfold isSeqV at c
      split at c
      · rename_i p
        cases e : asS (H p) with
        | none => rw [e] at c; cases c
        | some xs => exact ⟨p, xs, rfl, e⟩
      · cases c
    obtain ⟨hl, hx⟩ := tb.2 p xs rfl hp
    refine seq_made (fun x => .bl (pairB H x)) rfl (sm_S s1 hp) (by show _ < 2 ^ 24; omega) (fun _ => rfl) (fun i x H2 Q2 hxi s2 q2 => ?_) fun D H2 hD s2 h2 => ?_
    · have s02 := sm_trans s1 s2
      obtain ⟨tx, kx⟩ := hx x (List.mem_of_getElem? hxi)
      walk_at "s"
      refine ⟨x, 2, rfl, tx.mono s02, ?_⟩
      walk_at "s"
      have q20 := q2 H2 fun _ _ z => z
      by_cases c2 : tupN 2 x H2 = true
      · rw [c2]
        simp only [if_true]
        obtain ⟨r, ys, rfl, hr2⟩ : ∃ r ys, x = .ref r ∧ asT (H2 r) = some ys := by
          unfold tupN at c2
          split at c2
          · rename_i r
            split at c2
            · rename_i ys e
              exact ⟨r, ys, rfl, e⟩
            · cases c2
          · cases c2
        have hr := back_T s02 tx rfl hr2
        obtain ⟨ly, ky⟩ := kx r ys rfl hr
        refine ⟨r, ys, rfl, asS_of_T hr2, ly, fun y hy => (ky y hy).mono s02, fun H3 s3 => ?_⟩
        have e : pairB H (.ref r) = ys.all nameV := by
          have lc : (ys.length : Int) = 2 := by
            unfold tupN at c2
            dsimp only at c2
            rw [hr2] at c2
            exact of_decide_eq_true c2
          match ys, lc, hr with
          | [y1, y2], _, hr =>
            unfold pairB
            dsimp only
            rw [hr]
            simp
        have := q2 H3 s3
        rw [e] at this
        exact this
      · have c2 : tupN 2 x H2 = false := by simpa using c2
        rw [c2]
        simp only [Bool.false_eq_true, if_false]
        have e : pairB H x = false := by
          unfold pairB
          split
          · rename_i r
            split
            · rename_i y1 y2 e
              unfold tupN at c2
              dsimp only at c2
              rw [sm_T s02 e] at c2
              exact absurd c2 (by simp)
            · rfl
          · rfl
        rw [e] at q20
        exact q20
    · rw [h2]
      walk_at "s"
      refine ⟨xs.map (pairB H), by rw [List.map_map]; rfl, ?_⟩
      refine q _ H2 (sm_trans s1 s2) ?_
      rw [List.all_map]
      exact pairs_iff hp
  · have c : isSeqV v H = false := by simpa using c
    rw [c]
    simp only [Bool.false_eq_true, if_false]
    refine q false H1 s1 ⟨fun z => (by cases z), fun z => ?_⟩
    obtain ⟨ps, ⟨p, xs, rfl, hp, _⟩, _⟩ := z
    have e : isSeqV (.ref p) H = true := by show (asS (H p)).isSome = true; rw [hp]; rfl
    rw [e] at c
    cases c
end XB

/-! What is no name. -/
namespace XB
open PySem L2
local macro_rules | `(tactic| walk_at "s") => `(tactic| try simp only [u_var, u_c, u_op, u_un, u_nil, u_cons, u_cb, u_call, u_callS, u_tup, u_lst, u_test, u_B, u_and, u_or, u_not, u_andV, u_orV, u_notV, u_ifE, u_chain, u_sl, u_noPart, u_part, u_bm, u_bm0, u_rev, u_lc, u_try, u_sui, u_sui0, u_unb_rt, u_unb_nx, u_xf, u_WE, w_nil, w_cons, u_raise, u_rng1, u_rng2, u_next, u_ret, u_gname, u_gnil, u_gcons, u_gsub, u_gtup,
  f_add, f_addS, f_addR, f_sub, f_mul, f_mulR, f_mod, f_div, f_pow, f_neg, f_cmp, f_eq, f_eqB, f_eqS, f_ne, f_neB, f_neS, f_isN, f_notN, f_isB, f_ix, f_ixS, f_int, f_intB, f_len, f_lenS, f_max, f_min, f_abs, f_list, f_tuple, f_all, f_sum, f_isi, f_isiT, f_append, f_insert, f_pop, f_sl, f_set, u_fldW, u_propW, u_makeS, u_makeL, u_cmethS, u_methS, u_ostW, f_isC, f_minSS, f_maxSS, f_reverse,
  kitS, tys, List.isEmpty_cons, Option.map_some, kt_NoneType_int, kt_NoneType_bool, kt_NoneType_str, kt_NoneType_list, kt_NoneType_tuple, kt_NoneType_dict, kt_int_int, kt_int_bool, kt_int_str, kt_int_list, kt_int_tuple, kt_int_dict, kt_bool_int, kt_bool_bool, kt_bool_str, kt_bool_list, kt_bool_tuple, kt_bool_dict, kt_str_int, kt_str_bool, kt_str_str, kt_str_list, kt_str_tuple, kt_str_dict, kt_list_int, kt_list_bool, kt_list_str, kt_list_list, kt_list_tuple, kt_list_dict, kt_tuple_int, kt_tuple_bool, kt_tuple_str, kt_tuple_list, kt_tuple_tuple, kt_tuple_dict, kt_dict_int, kt_dict_bool, kt_dict_str, kt_dict_list, kt_dict_tuple, kt_dict_dict, asL_lst, asL_frz, asL_tup, asT_tup, asS_lst, asS_frz, asS_tup, tyN_non, tyN_bl, tyN_int, tyN_str, atV_lit, ixN_lit, upd_same, upd_ne, upd_ne',
  List.getElem?_cons_zero, List.getElem?_cons_succ, List.set_cons_zero, List.set_cons_succ, List.append_nil, List.length_cons, List.length_nil, Option.some.injEq, exists_eq_left', exists_eq_left, exists_and_left, V.bl.injEq, V.int.injEq, V.str.injEq, V.ref.injEq, Bool.not_eq_true, Bool.not_true, Bool.not_false, decide_true, decide_false, decide_eq_true_eq, decide_eq_false_iff_not, Bool.false_eq_true, if_true, if_false, ite_true, ite_false, reduceCtorEq, true_and, and_true, Nat.reduceAdd, Nat.reduceLT, Nat.zero_add, ne_eq, not_false_eq_true, not_true_eq_false, List.cons.injEq, and_assoc])
local macro_rules | `(tactic| walk_at "S") => `(tactic| try simp only [u_var, u_c, u_op, u_un, u_nil, u_cons, u_cb, u_call, u_callS, u_tup, u_lst, u_test, u_B, u_and, u_or, u_not, u_andV, u_orV, u_notV, u_ifE, u_chain, u_sl, u_noPart, u_part, u_bm, u_bm0, u_rev, u_lc, u_try, u_sui, u_sui0, u_unb_rt, u_unb_nx, u_xf, u_WE, w_nil, w_cons, u_raise, u_rng1, u_rng2, u_next, u_ret, u_gname, u_gnil, u_gcons, u_gsub, u_gtup,
  f_add, f_addS, f_addR, f_sub, f_mul, f_mulR, f_mod, f_div, f_pow, f_neg, f_cmp, f_eq, f_eqB, f_eqS, f_ne, f_neB, f_neS, f_isN, f_notN, f_isB, f_ix, f_ixS, f_int, f_intB, f_len, f_lenS, f_max, f_min, f_abs, f_list, f_tuple, f_all, f_sum, f_isi, f_isiT, f_append, f_insert, f_pop, f_sl, f_set, u_fldW, u_propW, u_makeS, u_makeL, u_cmethS, u_methS, u_ostW, f_isC, f_minSS, f_maxSS, f_reverse,
  kitS, tys, List.isEmpty_cons, Option.map_some, kt_NoneType_int, kt_NoneType_bool, kt_NoneType_str, kt_NoneType_list, kt_NoneType_tuple, kt_NoneType_dict, kt_int_int, kt_int_bool, kt_int_str, kt_int_list, kt_int_tuple, kt_int_dict, kt_bool_int, kt_bool_bool, kt_bool_str, kt_bool_list, kt_bool_tuple, kt_bool_dict, kt_str_int, kt_str_bool, kt_str_str, kt_str_list, kt_str_tuple, kt_str_dict, kt_list_int, kt_list_bool, kt_list_str, kt_list_list, kt_list_tuple, kt_list_dict, kt_tuple_int, kt_tuple_bool, kt_tuple_str, kt_tuple_list, kt_tuple_tuple, kt_tuple_dict, kt_dict_int, kt_dict_bool, kt_dict_str, kt_dict_list, kt_dict_tuple, kt_dict_dict, asL_lst, asL_frz, asL_tup, asT_tup, asS_lst, asS_frz, asS_tup, tyN_non, tyN_bl, tyN_int, tyN_str, atV_lit, ixN_lit, upd_same, upd_ne, upd_ne',
  List.getElem?_cons_zero, List.getElem?_cons_succ, List.set_cons_zero, List.set_cons_succ, List.append_nil, List.length_cons, List.length_nil, Option.some.injEq, exists_eq_left', exists_eq_left, exists_and_left, V.bl.injEq, V.int.injEq, V.str.injEq, V.ref.injEq, Bool.not_eq_true, Bool.not_true, Bool.not_false, decide_true, decide_false, decide_eq_true_eq, decide_eq_false_iff_not, Bool.false_eq_true, if_true, if_false, ite_true, ite_false, reduceCtorEq, true_and, and_true, Nat.reduceAdd, Nat.reduceLT, Nat.zero_add, ne_eq, not_false_eq_true, not_true_eq_false, List.cons.injEq, and_assoc, *])
theorem disp_one {σ : L2.St} {H : Hp} {Q : VK} {a b : Str} (q : ∀ p H' kvs, H p = none → Sm H H' → H' p = some (.dK kvs) → Q (.ref p) H') : tDisp [((tC (.str a)), (tC (.str b)))] σ H Q := by
  intro p np
  show (upd H p (.dK [])) p = some (.dK []) ∧ _
  refine ⟨upd_same, [(Sum.inr a, V.str b)], rfl, by show 1 ≤ 15; decide, ?_⟩
  exact q p _ _ np (sm_put (sm_new (fun _ _ z => z) np) np) upd_same
/-- a value that is not at st -/
def Tk (st : Addr) (H : Hp) (v : V) : Prop := Tz v H ∧ v ≠ .ref st
theorem Ty.kp {st : Addr} {v : V} {H H' : Hp} (h : Ty v H) (n : v ≠ .ref st) (k : Kp st H H') : Ty v H' := by
  obtain ⟨t, h⟩ := h
  refine ⟨t, ?_⟩
  cases v with
  | ref p =>
    have np : p ≠ st := fun e => n (by rw [e])
    dsimp only [tyN] at h ⊢
    cases e : H p with
    | none => rw [e] at h; cases h
    | some o => rw [e] at h; rw [k.1 p o np e]; exact h
  | _ => exact h
theorem Tk.kp {st : Addr} {v : V} {H H' : Hp} (h : Tk st H v) (k : Kp st H H') : Tk st H' v := ⟨⟨h.1.1.kp h.2 k, h.1.2⟩, h.2⟩
theorem kp_backT {st q : Addr} {H H' : Hp} {ys : List V} (h : Ty (.ref q) H) (n : q ≠ st) (k : Kp st H H') (e : asT (H' q) = some ys) : asT (H q) = some ys := by
  obtain ⟨t, h⟩ := h
  dsimp only [tyN] at h
  cases eo : H q with
  | none => rw [eo] at h; cases h
  | some o => rw [k.1 q o n eo] at e; exact e
def sp_l_no_name (K : PySem.W.Frag) (C : CA) : Sp := fun vs H Q _ => ∃ (st : Addr), vs = [.ref st] ∧ StAt H st ∧ ∀ (v : V) (H' : Hp), Tk st H' v → nameV v = false → Kp st H H' → StAt H' st → Q v H'
def rd_l_no_name (K : PySem.W.Frag) (C : CA) (E : XK) : TS :=
  (tSeq (tAsg (tLst (tCons (tC (.str ("" : Str))) (tCons (tC (.str ("A" : Str))) (tCons (tC (.str ("1" : Str))) (tCons (tC (.str ("1a" : Str))) (tCons (tC (.str ("-" : Str))) (tCons (tC (.str ("a-" : Str))) (tCons (tC (.str ("a b" : Str))) (tCons (tC (.str (" a" : Str))) (tCons (tC (.str ("a " : Str))) (tCons (tC (.str ("a\n" : Str))) (tCons (tC (.str ("abcdefghi" : Str))) (tCons (tC (.str ("aB" : Str))) (tCons (tC (.str ("a_b" : Str))) (tCons (tC (.str ("$a" : Str))) tNil))))))))))))))) (gName 1)) (tSeq (tAsg (tOp fAdd (tVar 1) (tLst (tCons (tC .non) (tCons (tC (.bl true)) (tCons (tC (.int 0)) (tCons (tC (.int 7)) (tCons (tTup (tCons (tC (.str ("a" : Str))) tNil)) (tCons (tLst (tCons (tC (.str ("a" : Str))) tNil)) (tCons (tDisp (((tC (.str ("a" : Str))), (tC (.str ("a" : Str)))) :: [])) tNil))))))))) (gName 1)) (tRet (tOp fIx (tVar 1) (tCallS (sp_l_take K C) (fun _ => E0) (tCons (tVar 0) (tCons (tCB fLen (tCons (tVar 1) tNil)) tNil)))))))
theorem pure_l_no_name {K : PySem.W.Frag} {C : CA} (vs : List V) (H : Hp) (Q : VK) (E : XK) (h : sp_l_no_name K C vs H Q E) : rd_l_no_name K C E { nx := fun _ H' => Q .non H', rt := Q } (start [("store" : Str), ("row" : Str)] vs) H := by
  obtain ⟨st, rfl, hs, q⟩ := h
  show rd_l_no_name K C E _ [some (.ref st), none] H
  unfold rd_l_no_name
  refine q_asg ?_
  walk_at "s"
  refine ⟨by decide, fun pa na => al na fun H1 t1 h1 => ?_⟩
  refine q_asg ?_
  walk_at "s"
  refine ⟨by decide, fun pb nb => al nb fun H2 t2 h2 => ⟨by decide, fun pc nc => al nc fun H3 t3 h3 => ?_⟩⟩
  refine disp_one fun pd H4 kvs nd t4 h4 => ?_
  walk_at "s"
  refine ⟨by decide, fun pe ne => al ne fun H5 t5 h5 => ?_⟩
  have t15 := sm_trans t2 (sm_trans t3 (sm_trans t4 t5))
  have h15 := t15 _ _ h1
  simp only [f_addR, h15, h5]
  refine ⟨by show 21 ≤ 2 ^ 24; decide, fun pr nr => al nr fun H6 t6 h6 => ?_⟩
  have t16 := sm_trans t15 t6
  have t06 := sm_trans t1 t16
  have s1 := hs.sm t1
  have s2 := s1.sm t2
  have s3 := s2.sm t3
  have s5 := s1.sm t15
  have s6 := s1.sm t16
  walk_at "s"
  refine take_ok s6 (by show (21 : Int) < 2 ^ 64; decide) fun r H7 r0 r1 k7 s7 => ?_
  have gb := k7.1 _ _ (s1.ne nb) (sm_trans t3 (sm_trans t4 (sm_trans t5 t6)) _ _ h2)
  have gc := k7.1 _ _ (s2.ne nc) (sm_trans t4 (sm_trans t5 t6) _ _ h3)
  have gd := k7.1 _ _ (s3.ne nd) (sm_trans t5 t6 _ _ h4)
  have gr := k7.1 _ _ (s5.ne nr) h6
  have kk : Kp st H H7 := (kp_sm t06).trans k7
  have eb := s1.ne nb
  have ec := s2.ne nc
  have ed := s3.ne nd
  have r2 : r < 21 := by
    rcases r1 with r1 | r1
    · exact r1
    · omega
  obtain ⟨n, rfl⟩ : ∃ n : Nat, r = n := ⟨r.toNat, by omega⟩
  have n2 : n < 21 := by omega
  clear r1 r2 r0 h15 h6 h5 h1 h2 h3 h4
  show fIx (.ref pr) (.int (n : Nat)) H7 Q
  unfold fIx
  dsimp only
  rw [asS_at gr]
  dsimp only
  generalize hL : [V.str ("" : Str), V.str ("A" : Str), V.str ("1" : Str), V.str ("1a" : Str), V.str ("-" : Str), V.str ("a-" : Str), V.str ("a b" : Str), V.str (" a" : Str), V.str ("a " : Str), V.str ("a\n" : Str), V.str ("abcdefghi" : Str), V.str ("aB" : Str), V.str ("a_b" : Str), V.str ("$a" : Str)] ++ [V.non, V.bl true, V.int 0, V.int 7, V.ref pb, V.ref pc, V.ref pd] = L at gr ⊢
  have all : ∀ v ∈ L, Tk st H7 v ∧ nameV v = false := by
    subst hL
    intro v hv
    simp only [List.cons_append, List.nil_append, List.mem_cons, List.not_mem_nil, or_false] at hv
    rcases hv with rfl | rfl | rfl | rfl | rfl | rfl | rfl | rfl | rfl | rfl | rfl | rfl | rfl | rfl | rfl | rfl | rfl | rfl | rfl | rfl | rfl
    all_goals first
      | exact ⟨⟨⟨⟨_, rfl⟩, fun z e => by cases e; decide +kernel⟩, fun e => by cases e⟩, by decide +kernel⟩
      | exact ⟨⟨⟨⟨_, rfl⟩, fun z e => by cases e⟩, fun e => by cases e⟩, rfl⟩
      | exact ⟨⟨⟨⟨_, tup_ty (show asT (H7 pb) = some _ by rw [gb]; rfl)⟩, fun z e => by cases e⟩, fun e => by cases e; exact eb rfl⟩, rfl⟩
      | exact ⟨⟨⟨⟨_, lst_ty (asL_at gc)⟩, fun z e => by cases e⟩, fun e => by cases e; exact ec rfl⟩, rfl⟩
      | exact ⟨⟨⟨⟨_, tyN_dK gd⟩, fun z e => by cases e⟩, fun e => by cases e; exact ed rfl⟩, rfl⟩
  have lL : L.length = 21 := by subst hL; rfl
  have hn : L[n]? = some (L[n]'(by omega)) := List.getElem?_eq_getElem _
  refine at_nat hn ?_
  have := all _ (List.mem_of_getElem? hn)
  exact q _ _ this.1 this.2 kk s7
end XB

/-! The first thing that is repeated; towns. -/
namespace XB
open PySem L2
local macro_rules | `(tactic| walk_at "s") => `(tactic| try simp only [u_var, u_c, u_op, u_un, u_nil, u_cons, u_cb, u_call, u_callS, u_tup, u_lst, u_test, u_B, u_and, u_or, u_not, u_andV, u_orV, u_notV, u_ifE, u_chain, u_sl, u_noPart, u_part, u_bm, u_bm0, u_rev, u_lc, u_try, u_sui, u_sui0, u_unb_rt, u_unb_nx, u_xf, u_WE, w_nil, w_cons, u_raise, u_rng1, u_rng2, u_next, u_ret, u_gname, u_gnil, u_gcons, u_gsub, u_gtup,
  f_add, f_addS, f_addR, f_sub, f_mul, f_mulR, f_mod, f_div, f_pow, f_neg, f_cmp, f_eq, f_eqB, f_eqS, f_ne, f_neB, f_neS, f_isN, f_notN, f_isB, f_ix, f_ixS, f_int, f_intB, f_len, f_lenS, f_max, f_min, f_abs, f_list, f_tuple, f_all, f_sum, f_isi, f_isiT, f_append, f_insert, f_pop, f_sl, f_set, u_fldW, u_propW, u_makeS, u_makeL, u_cmethS, u_methS, u_ostW, f_isC, f_minSS, f_maxSS, f_reverse,
  kitS, tys, List.isEmpty_cons, Option.map_some, kt_NoneType_int, kt_NoneType_bool, kt_NoneType_str, kt_NoneType_list, kt_NoneType_tuple, kt_NoneType_dict, kt_int_int, kt_int_bool, kt_int_str, kt_int_list, kt_int_tuple, kt_int_dict, kt_bool_int, kt_bool_bool, kt_bool_str, kt_bool_list, kt_bool_tuple, kt_bool_dict, kt_str_int, kt_str_bool, kt_str_str, kt_str_list, kt_str_tuple, kt_str_dict, kt_list_int, kt_list_bool, kt_list_str, kt_list_list, kt_list_tuple, kt_list_dict, kt_tuple_int, kt_tuple_bool, kt_tuple_str, kt_tuple_list, kt_tuple_tuple, kt_tuple_dict, kt_dict_int, kt_dict_bool, kt_dict_str, kt_dict_list, kt_dict_tuple, kt_dict_dict, asL_lst, asL_frz, asL_tup, asT_tup, asS_lst, asS_frz, asS_tup, tyN_non, tyN_bl, tyN_int, tyN_str, atV_lit, ixN_lit, upd_same, upd_ne, upd_ne',
  List.getElem?_cons_zero, List.getElem?_cons_succ, List.set_cons_zero, List.set_cons_succ, List.append_nil, List.length_cons, List.length_nil, Option.some.injEq, exists_eq_left', exists_eq_left, exists_and_left, V.bl.injEq, V.int.injEq, V.str.injEq, V.ref.injEq, Bool.not_eq_true, Bool.not_true, Bool.not_false, decide_true, decide_false, decide_eq_true_eq, decide_eq_false_iff_not, Bool.false_eq_true, if_true, if_false, ite_true, ite_false, reduceCtorEq, true_and, and_true, Nat.reduceAdd, Nat.reduceLT, Nat.zero_add, ne_eq, not_false_eq_true, not_true_eq_false, List.cons.injEq, and_assoc])
local macro_rules | `(tactic| walk_at "S") => `(tactic| try simp only [u_var, u_c, u_op, u_un, u_nil, u_cons, u_cb, u_call, u_callS, u_tup, u_lst, u_test, u_B, u_and, u_or, u_not, u_andV, u_orV, u_notV, u_ifE, u_chain, u_sl, u_noPart, u_part, u_bm, u_bm0, u_rev, u_lc, u_try, u_sui, u_sui0, u_unb_rt, u_unb_nx, u_xf, u_WE, w_nil, w_cons, u_raise, u_rng1, u_rng2, u_next, u_ret, u_gname, u_gnil, u_gcons, u_gsub, u_gtup,
  f_add, f_addS, f_addR, f_sub, f_mul, f_mulR, f_mod, f_div, f_pow, f_neg, f_cmp, f_eq, f_eqB, f_eqS, f_ne, f_neB, f_neS, f_isN, f_notN, f_isB, f_ix, f_ixS, f_int, f_intB, f_len, f_lenS, f_max, f_min, f_abs, f_list, f_tuple, f_all, f_sum, f_isi, f_isiT, f_append, f_insert, f_pop, f_sl, f_set, u_fldW, u_propW, u_makeS, u_makeL, u_cmethS, u_methS, u_ostW, f_isC, f_minSS, f_maxSS, f_reverse,
  kitS, tys, List.isEmpty_cons, Option.map_some, kt_NoneType_int, kt_NoneType_bool, kt_NoneType_str, kt_NoneType_list, kt_NoneType_tuple, kt_NoneType_dict, kt_int_int, kt_int_bool, kt_int_str, kt_int_list, kt_int_tuple, kt_int_dict, kt_bool_int, kt_bool_bool, kt_bool_str, kt_bool_list, kt_bool_tuple, kt_bool_dict, kt_str_int, kt_str_bool, kt_str_str, kt_str_list, kt_str_tuple, kt_str_dict, kt_list_int, kt_list_bool, kt_list_str, kt_list_list, kt_list_tuple, kt_list_dict, kt_tuple_int, kt_tuple_bool, kt_tuple_str, kt_tuple_list, kt_tuple_tuple, kt_tuple_dict, kt_dict_int, kt_dict_bool, kt_dict_str, kt_dict_list, kt_dict_tuple, kt_dict_dict, asL_lst, asL_frz, asL_tup, asT_tup, asS_lst, asS_frz, asS_tup, tyN_non, tyN_bl, tyN_int, tyN_str, atV_lit, ixN_lit, upd_same, upd_ne, upd_ne',
  List.getElem?_cons_zero, List.getElem?_cons_succ, List.set_cons_zero, List.set_cons_succ, List.append_nil, List.length_cons, List.length_nil, Option.some.injEq, exists_eq_left', exists_eq_left, exists_and_left, V.bl.injEq, V.int.injEq, V.str.injEq, V.ref.injEq, Bool.not_eq_true, Bool.not_true, Bool.not_false, decide_true, decide_false, decide_eq_true_eq, decide_eq_false_iff_not, Bool.false_eq_true, if_true, if_false, ite_true, ite_false, reduceCtorEq, true_and, and_true, Nat.reduceAdd, Nat.reduceLT, Nat.zero_add, ne_eq, not_false_eq_true, not_true_eq_false, List.cons.injEq, and_assoc, *])
section
variable {K : PySem.W.Frag} {σ : L2.St} {H : Hp} {n : Nat}
/-- a loop over a list or tuple that stands -/
theorem seq_for {p : Addr} {xs : List V} {g : TG} {tb : TS} {D : Ends} (Pv : Nat → L2.St → Hp → Prop) (hσ : σ[n]? = some (some (.ref p))) (hp : asS (H p) = some xs) (h0 : Pv 0 σ H) (hl : ∀ i σ' H', i ≤ xs.length → Pv i σ' H' → H' p = H p)
    (hs : ∀ i x σ' H', xs[i]? = some x → Pv i σ' H' → g x σ' H' fun σ2 H2 => tb { D with nx := Pv (i + 1), ct := Pv (i + 1), bk := D.nx } σ2 H2) (hd : ∀ σ' H', Pv xs.length σ' H' → D.nx σ' H') :
    iSeq K n σ H fun J H1 => Loop J g tb D σ H1 := by
  rcases asS_or hp with e | e
  · refine .inl ?_
    rw [u_list]
    exact ⟨_, hσ, p, rfl, ⟨xs, asL_seq e⟩, loop_list Pv h0 (fun i σ' H' hi q => by rw [hl i σ' H' hi q]; exact e) hs hd⟩
  · refine .inr ?_
    rw [u_tupI]
    exact ⟨_, hσ, p, rfl, ⟨xs, asT_seq e⟩, loop_tup Pv h0 (fun i σ' H' hi q => by rw [hl i σ' H' hi q]; exact e) hs hd⟩
theorem asS_there {H H' : Hp} {p : Addr} {xs : List V} (h : asS (H p) = some xs) (s : Sm H H') : H' p = H p := by
  cases e : H p with
  | none => rw [e] at h; cases h
  | some o => exact s _ _ e
theorem sm_asS {H H' : Hp} {p : Addr} {xs : List V} (h : asS (H p) = some xs) (s : Sm H H') : asS (H' p) = some xs := by rw [asS_there h s]; exact h
end
/-- the first of the texts that stands among those ahead of it -/
def firstRep : List Str → List Str → Option Str
  | _, [] => none
  | seen, z :: r => if z ∈ seen then some z else firstRep (seen ++ [z]) r
def optV : Option Str → V
  | none => .non
  | some z => .str z
theorem firstRep_none : ∀ {r seen : List Str}, seen.Nodup → (firstRep seen r = none ↔ (seen ++ r).Nodup)
  | [], seen, h => by simp [firstRep, h]
  | z :: r, seen, h => by
    unfold firstRep
    by_cases c : z ∈ seen
    · rw [if_pos c]
      refine ⟨fun e => (by cases e), fun nd => ?_⟩
      rw [List.nodup_append] at nd
      exact absurd rfl (nd.2.2 z c z List.mem_cons_self)
    · rw [if_neg c]
      have hn : (seen ++ [z]).Nodup := List.nodup_append.2 ⟨h, by simp, fun a ha b hb e => by
        rw [List.mem_singleton] at hb
        subst hb
        subst e
        exact c ha⟩
      rw [firstRep_none hn, List.append_assoc]
      rfl
def sp_first_repeated (K : PySem.W.Frag) (C : CA) : Sp := fun vs H Q _ => ∃ (p : Addr) (zs : List Str), vs = [.ref p] ∧ asS (H p) = some (zs.map V.str) ∧ zs.length ≤ 100 ∧ ∀ (H' : Hp), Sm H H' → Q (optV (firstRep [] zs)) H'
def rd_first_repeated (P : Program) (w : World) (K : PySem.W.Frag) (C : CA) (E : XK) : TS :=
  (tSeq (tAsg (tCB (rSet0K P w) tNil) (gName 1)) (tSeq (tFor (iSeq K 0) (gName 2) (tSeq (tIfS (tTest (tOp (rSInK P w false) (tVar 2) (tVar 1))) (tRet (tVar 2)) tNext) (tDrop (tSAddK P w (tVar 1) (tCons (tVar 2) tNil))))) (tRet (tC .non))))
theorem pure_first_repeated {P : Program} {w : World} {K : PySem.W.Frag} {C : CA} (vs : List V) (H : Hp) (Q : VK) (E : XK) (h : sp_first_repeated K C vs H Q E) : rd_first_repeated P w K C E { nx := fun _ H' => Q .non H', rt := Q } (start [("things" : Str), ("seen" : Str), ("thing" : Str)] vs) H := by
  obtain ⟨p, zs, rfl, hp, hl, q⟩ := h
  show rd_first_repeated P w K C E _ [some (.ref p), none, none] H
  unfold rd_first_repeated
  refine q_asg ?_
  refine ⟨rfl, fun ps ns => ?_⟩
  walk_at "s"
  refine q_for ?_
  have s0 : Sm H (upd H ps (SetK P w ps (fun _ => false) 0)) := sm_new (fun _ _ z => z) ns
  refine seq_for (fun i σ H' => ∃ (x : Option V) (S : Key → Bool) (m : Nat), σ = [some (.ref p), some (.ref ps), x] ∧ Sm H H' ∧ H' ps = some (SetK P w ps S m) ∧ m ≤ i ∧ firstRep [] zs = firstRep (zs.take i) (zs.drop i) ∧ ∀ z, S (Sum.inr z) = true ↔ z ∈ zs.take i) rfl (sm_asS hp s0)
    ⟨none, _, 0, rfl, s0, upd_same, Nat.le_refl _, by simp, by simp⟩ (fun i σ H' _ ⟨_, _, _, _, s, _⟩ => by rw [asS_there hp s, asS_there hp s0]) ?_ ?_
  · rintro i x σ H' hx ⟨u, S, m, rfl, s1, hs, hm, nd, mem⟩
    obtain ⟨z, hz, rfl⟩ := get_str hx
    have hi := (List.getElem?_eq_some_iff.mp hz).1
    have hd : zs.drop i = z :: zs.drop (i + 1) := by rw [List.drop_eq_getElem_cons hi, (List.getElem?_eq_some_iff.mp hz).2]
    walk_at "s"
    refine q_if ?_
    walk_at "s"
    refine ⟨Sum.inr z, ps, S, m, rfl, rfl, hs, ?_⟩
    simp only [Bool.false_eq_true, if_false]
    refine ⟨_, rfl, ?_⟩
    by_cases c : S (Sum.inr z) = true
    · rw [if_pos c]
      have e : firstRep [] zs = some z := by
        rw [nd, hd]
        unfold firstRep
        rw [if_pos ((mem z).1 c)]
      have := q H' s1
      rw [e] at this
      exact this
    · rw [if_neg c]
      refine q_drop1 ?_
      walk_at "s"
      refine ⟨_, rfl, ⟨ps, S, m, rfl, hs⟩, ?_⟩
      walk_at "s"
      refine ⟨ps, Sum.inr z, S, m, rfl, rfl, hs, by show _ < 4096; omega, ?_⟩
      refine ⟨sm_put s1 ns, _, _, upd_same, ?_, ?_, fun y => ?_⟩
      · rw [if_neg c]
        omega
      · rw [nd, hd, List.take_add_one, hz]
        show firstRep _ (z :: _) = _
        rw [firstRep, if_neg fun hm => c ((mem z).2 hm)]
        rfl
      · rw [List.take_add_one, hz]
        simp only [Bool.or_eq_true, decide_eq_true_eq, List.mem_append, mem y]
        constructor
        · rintro (h | h)
          · exact .inl h
          · exact .inr (by simp [Sum.inr.inj h])
        · rintro (h | h)
          · exact .inl h
          · simp at h
            exact .inr (by rw [h])
  · rintro σ H' ⟨u, S, m, rfl, s1, hs, hm, nd, mem⟩
    walk_at "s"
    have e : firstRep [] zs = none := by
      rw [nd, List.length_map, List.drop_length]
      rfl
    have := q H' s1
    rw [e] at this
    exact this
def townsV (v : V) (H : Hp) : Bool := match v with
  | .ref p => (match asS (H p) with
    | some xs => decide (1 ≤ xs.length) && decide (xs.length ≤ 8) && xs.all nameV
    | none => false)
  | _ => false
def sp_are_towns (K : PySem.W.Frag) (C : CA) : Sp := fun vs H Q _ => ∃ v, vs = [v] ∧ Tz v H ∧ (∀ p xs, v = .ref p → asS (H p) = some xs → xs.length ≤ 1000 ∧ ∀ x ∈ xs, Tz x H) ∧ ∀ H', Sm H H' → Q (.bl (townsV v H)) H'
def rd_are_towns (K : PySem.W.Frag) (C : CA) (E : XK) : TS :=
  (tRet (tAndV (tCallS (sp_is_series K C) (fun _ => E0) (tCons (tVar 0) tNil)) (tAndV (tChain fLe fLe (tC (.int 1)) (tCB fLen (tCons (tVar 0) tNil)) (tC (.int 8))) (tCallS (sp_are_names K C) (fun _ => E0) (tCons (tVar 0) tNil)))))
theorem pure_are_towns {K : PySem.W.Frag} {C : CA} (vs : List V) (H : Hp) (Q : VK) (E : XK) (h : sp_are_towns K C vs H Q E) : rd_are_towns K C E { nx := fun _ H' => Q .non H', rt := Q } (start [("value" : Str)] vs) H := by
  obtain ⟨v, rfl, tz, hx, q⟩ := h
  show rd_are_towns K C E _ [some v] H
  unfold rd_are_towns
  refine q_ret ?_
  walk_at "s"
  refine ⟨v, rfl, tz.1, fun H1 s1 => ?_⟩
  walk_at "s"
  by_cases c : isSeqV v H = true
  · rw [c]
    simp only [if_true]
    obtain ⟨p, xs, rfl, hp⟩ : ∃ p xs, v = .ref p ∧ asS (H p) = some xs := by
      unfold isSeqV at c
      split at c
      · rename_i p
        cases e : asS (H p) with
        | none => rw [e] at c; cases c
        | some xs => exact ⟨p, xs, rfl, e⟩
      · cases c
    obtain ⟨hl, hxs⟩ := hx p xs rfl hp
    have hp1 := sm_asS hp s1
    have e : townsV (.ref p) H = (decide (1 ≤ xs.length) && decide (xs.length ≤ 8) && xs.all nameV) := by
      unfold townsV
      dsimp only
      rw [hp]
    rw [e] at q
    rw [f_len, hp1]
    dsimp only
    walk_at "s"
    by_cases c1 : 1 ≤ xs.length
    · rw [decide_eq_true c1, Bool.true_and] at q
      rw [if_pos (by omega)]
      by_cases c2 : xs.length ≤ 8
      · rw [decide_eq_true c2, Bool.true_and] at q
        rw [if_pos (by omega)]
        exact ⟨p, xs, rfl, hp1, hl, fun x hx => (hxs x hx).mono s1, fun H2 s2 => q H2 (sm_trans s1 s2)⟩
      · rw [decide_eq_false c2, Bool.false_and] at q
        rw [if_neg (by omega)]
        exact q H1 s1
    · rw [decide_eq_false c1, Bool.false_and] at q
      rw [if_neg (by omega)]
      exact q H1 s1
  · have c : isSeqV v H = false := by simpa using c
    have e : townsV v H = false := by
      unfold townsV
      unfold isSeqV at c
      split
      · rename_i p
        dsimp only at c
        split
        · rename_i xs e
          rw [e] at c
          cases c
        · rfl
      · rfl
    rw [c]
    simp only [Bool.false_eq_true, if_false]
    rw [e] at q
    exact q H1 s1
end XB

/-! A web as it stands, and what is read of it. -/
namespace XB
open PySem L2
local macro_rules | `(tactic| walk_at "s") => `(tactic| try simp only [u_var, u_c, u_op, u_un, u_nil, u_cons, u_cb, u_call, u_callS, u_tup, u_lst, u_test, u_B, u_and, u_or, u_not, u_andV, u_orV, u_notV, u_ifE, u_chain, u_sl, u_noPart, u_part, u_bm, u_bm0, u_rev, u_lc, u_try, u_sui, u_sui0, u_unb_rt, u_unb_nx, u_xf, u_WE, w_nil, w_cons, u_raise, u_rng1, u_rng2, u_next, u_ret, u_gname, u_gnil, u_gcons, u_gsub, u_gtup,
  f_add, f_addS, f_addR, f_sub, f_mul, f_mulR, f_mod, f_div, f_pow, f_neg, f_cmp, f_eq, f_eqB, f_eqS, f_ne, f_neB, f_neS, f_isN, f_notN, f_isB, f_ix, f_ixS, f_int, f_intB, f_len, f_lenS, f_max, f_min, f_abs, f_list, f_tuple, f_all, f_sum, f_isi, f_isiT, f_append, f_insert, f_pop, f_sl, f_set, u_fldW, u_propW, u_makeS, u_makeL, u_cmethS, u_methS, u_ostW, f_isC, f_minSS, f_maxSS, f_reverse,
  kitS, tys, List.isEmpty_cons, Option.map_some, kt_NoneType_int, kt_NoneType_bool, kt_NoneType_str, kt_NoneType_list, kt_NoneType_tuple, kt_NoneType_dict, kt_int_int, kt_int_bool, kt_int_str, kt_int_list, kt_int_tuple, kt_int_dict, kt_bool_int, kt_bool_bool, kt_bool_str, kt_bool_list, kt_bool_tuple, kt_bool_dict, kt_str_int, kt_str_bool, kt_str_str, kt_str_list, kt_str_tuple, kt_str_dict, kt_list_int, kt_list_bool, kt_list_str, kt_list_list, kt_list_tuple, kt_list_dict, kt_tuple_int, kt_tuple_bool, kt_tuple_str, kt_tuple_list, kt_tuple_tuple, kt_tuple_dict, kt_dict_int, kt_dict_bool, kt_dict_str, kt_dict_list, kt_dict_tuple, kt_dict_dict, asL_lst, asL_frz, asL_tup, asT_tup, asS_lst, asS_frz, asS_tup, tyN_non, tyN_bl, tyN_int, tyN_str, atV_lit, ixN_lit, upd_same, upd_ne, upd_ne',
  List.getElem?_cons_zero, List.getElem?_cons_succ, List.set_cons_zero, List.set_cons_succ, List.append_nil, List.length_cons, List.length_nil, Option.some.injEq, exists_eq_left', exists_eq_left, exists_and_left, V.bl.injEq, V.int.injEq, V.str.injEq, V.ref.injEq, Bool.not_eq_true, Bool.not_true, Bool.not_false, decide_true, decide_false, decide_eq_true_eq, decide_eq_false_iff_not, Bool.false_eq_true, if_true, if_false, ite_true, ite_false, reduceCtorEq, true_and, and_true, Nat.reduceAdd, Nat.reduceLT, Nat.zero_add, ne_eq, not_false_eq_true, not_true_eq_false, List.cons.injEq, and_assoc])
local macro_rules | `(tactic| walk_at "S") => `(tactic| try simp only [u_var, u_c, u_op, u_un, u_nil, u_cons, u_cb, u_call, u_callS, u_tup, u_lst, u_test, u_B, u_and, u_or, u_not, u_andV, u_orV, u_notV, u_ifE, u_chain, u_sl, u_noPart, u_part, u_bm, u_bm0, u_rev, u_lc, u_try, u_sui, u_sui0, u_unb_rt, u_unb_nx, u_xf, u_WE, w_nil, w_cons, u_raise, u_rng1, u_rng2, u_next, u_ret, u_gname, u_gnil, u_gcons, u_gsub, u_gtup,
  f_add, f_addS, f_addR, f_sub, f_mul, f_mulR, f_mod, f_div, f_pow, f_neg, f_cmp, f_eq, f_eqB, f_eqS, f_ne, f_neB, f_neS, f_isN, f_notN, f_isB, f_ix, f_ixS, f_int, f_intB, f_len, f_lenS, f_max, f_min, f_abs, f_list, f_tuple, f_all, f_sum, f_isi, f_isiT, f_append, f_insert, f_pop, f_sl, f_set, u_fldW, u_propW, u_makeS, u_makeL, u_cmethS, u_methS, u_ostW, f_isC, f_minSS, f_maxSS, f_reverse,
  kitS, tys, List.isEmpty_cons, Option.map_some, kt_NoneType_int, kt_NoneType_bool, kt_NoneType_str, kt_NoneType_list, kt_NoneType_tuple, kt_NoneType_dict, kt_int_int, kt_int_bool, kt_int_str, kt_int_list, kt_int_tuple, kt_int_dict, kt_bool_int, kt_bool_bool, kt_bool_str, kt_bool_list, kt_bool_tuple, kt_bool_dict, kt_str_int, kt_str_bool, kt_str_str, kt_str_list, kt_str_tuple, kt_str_dict, kt_list_int, kt_list_bool, kt_list_str, kt_list_list, kt_list_tuple, kt_list_dict, kt_tuple_int, kt_tuple_bool, kt_tuple_str, kt_tuple_list, kt_tuple_tuple, kt_tuple_dict, kt_dict_int, kt_dict_bool, kt_dict_str, kt_dict_list, kt_dict_tuple, kt_dict_dict, asL_lst, asL_frz, asL_tup, asT_tup, asS_lst, asS_frz, asS_tup, tyN_non, tyN_bl, tyN_int, tyN_str, atV_lit, ixN_lit, upd_same, upd_ne, upd_ne',
  List.getElem?_cons_zero, List.getElem?_cons_succ, List.set_cons_zero, List.set_cons_succ, List.append_nil, List.length_cons, List.length_nil, Option.some.injEq, exists_eq_left', exists_eq_left, exists_and_left, V.bl.injEq, V.int.injEq, V.str.injEq, V.ref.injEq, Bool.not_eq_true, Bool.not_true, Bool.not_false, decide_true, decide_false, decide_eq_true_eq, decide_eq_false_iff_not, Bool.false_eq_true, if_true, if_false, ite_true, ite_false, reduceCtorEq, true_and, and_true, Nat.reduceAdd, Nat.reduceLT, Nat.zero_add, ne_eq, not_false_eq_true, not_true_eq_false, List.cons.injEq, and_assoc, *])
def PairsAt (H : Hp) (xs : List V) (ps : List (Str × Str)) : Prop := xs.length = ps.length ∧ ∀ (i : Nat) (x : V) (pr : Str × Str), xs[i]? = some x → ps[i]? = some pr → ∃ q, x = .ref q ∧ H q = some (.tup [.str pr.1, .str pr.2])
def kvsOf (f : Str → Addr) (row : List Str) : List (Key × V) := row.map fun z => (Sum.inr z, .ref (f z))
def wFld (wt d : Addr) : List (Str × V) := [(("_ways" : Str), .ref wt), (("_near" : Str), .ref d)]
/-- a web at p: its towns in order, its ways, its neighbours -/
structure WebX (C : Addr) (H : Hp) (p wt d : Addr) (us : List V) (f : Str → Addr) (row : List Str) (ways : List (Str × Str)) (nr : Str → List Str) : Prop where
  ob : ∃ dx, H p = some (.ins C dx (wFld wt d))
  wy : H wt = some (.tup us)
  ps : PairsAt H us ways
  dc : H d = some (.dK (kvsOf f row))
  ne : ∀ z ∈ row, H (f z) = some (.tup ((nr z).map V.str))
  nm : ∀ z ∈ row, nameS z = true
  nd : row.Nodup
  l8 : row.length ≤ 8
def WebAt (C : Addr) (H : Hp) (p : Addr) (row : List Str) (ways : List (Str × Str)) (nr : Str → List Str) : Prop := ∃ wt d us f, WebX C H p wt d us f row ways nr
section
variable {C : Addr} {H H' : Hp} {p wt d : Addr} {us : List V} {f : Str → Addr} {row : List Str} {ways : List (Str × Str)} {nr : Str → List Str} {ps : List (Str × Str)} {xs : List V}
theorem PairsAt.sm (h : PairsAt H xs ps) (s : Sm H H') : PairsAt H' xs ps := ⟨h.1, fun i x pr a b => by
  obtain ⟨q, e, hq⟩ := h.2 i x pr a b
  exact ⟨q, e, s _ _ hq⟩⟩
theorem WebX.sm (w : WebX C H p wt d us f row ways nr) (s : Sm H H') : WebX C H' p wt d us f row ways nr := ⟨by
  obtain ⟨dx, h⟩ := w.ob
  exact ⟨dx, s _ _ h⟩, s _ _ w.wy, w.ps.sm s, s _ _ w.dc, fun z hz => s _ _ (w.ne z hz), w.nm, w.nd, w.l8⟩
theorem WebAt.sm (w : WebAt C H p row ways nr) (s : Sm H H') : WebAt C H' p row ways nr := by
  obtain ⟨wt, d, us, f, w⟩ := w
  exact ⟨wt, d, us, f, w.sm s⟩
theorem lk_ways : (wFld wt d).lookup ("_ways" : Str) = some (.ref wt) := by
  unfold wFld
  rw [List.lookup_cons_self]
theorem lk_near : (wFld wt d).lookup ("_near" : Str) = some (.ref d) := by
  unfold wFld
  rw [List.lookup_cons, show ((("_near" : Str) == ("_ways" : Str)) = false) by decide +kernel]
  dsimp only
  rw [List.lookup_cons_self]
theorem lk_no {m : Str} (h1 : (m == ("_ways" : Str)) = false) (h2 : (m == ("_near" : Str)) = false) : (wFld wt d).lookup m = none := by
  unfold wFld
  rw [List.lookup_cons, h1]
  dsimp only
  rw [List.lookup_cons, h2]
  rfl
theorem val_kvs {z : Str} : ∀ {row : List Str}, valV (kvsOf f row) (Sum.inr z) = if z ∈ row then some (.ref (f z)) else none
  | [] => rfl
  | y :: r => by
    show valV ((Sum.inr y, V.ref (f y)) :: kvsOf f r) (Sum.inr z) = _
    by_cases e : y = z
    · subst e
      rw [if_pos List.mem_cons_self]
      unfold valV
      rw [List.find?_cons_of_pos (by simp)]
      rfl
    · have h : valV ((Sum.inr y, V.ref (f y)) :: kvsOf f r) (Sum.inr z) = valV (kvsOf f r) (Sum.inr z) := by
        unfold valV
        rw [List.find?_cons_of_neg (by simp [e])]
      rw [h, val_kvs]
      by_cases m : z ∈ r
      · rw [if_pos m, if_pos (List.mem_cons_of_mem _ m)]
      · rw [if_neg m, if_neg (fun w => by
          rcases List.mem_cons.mp w with w | w
          · exact e w.symm
          · exact m w)]
theorem keys_kvs : ∀ {row : List Str}, ((kvsOf f row).map fun kv => kV kv.1) = row.map V.str
  | [] => rfl
  | y :: r => by
    have := keys_kvs (row := r)
    show kV (Sum.inr y) :: ((kvsOf f r).map fun kv => kV kv.1) = V.str y :: r.map V.str
    rw [this]
    rfl
end
/-- the text is one of them -/
def inRow (row : List Str) (x : V) : Bool := match x with
  | .str z => decide (z ∈ row)
  | _ => false
def sp_Web_contains (K : PySem.W.Frag) (C : CA) : Sp := fun vs H Q _ => ∃ p x wt d us f row ways nr, vs = [.ref p, x] ∧ WebX C.Web H p wt d us f row ways nr ∧ Tz x H ∧ ∀ H', Sm H H' → Q (.bl (inRow row x)) H'
def rd_Web_contains (K : PySem.W.Frag) (C : CA) (E : XK) : TS :=
  (tRet (tAndV (tCallS (sp_is_name K C) (fun _ => E0) (tCons (tVar 1) tNil)) (tDIn (tVar 1) (tFldW C.Web (tVar 0) ("_near" : Str)))))
theorem pure_Web_contains {K : PySem.W.Frag} {C : CA} (vs : List V) (H : Hp) (Q : VK) (E : XK) (h : sp_Web_contains K C vs H Q E) : rd_Web_contains K C E { nx := fun _ H' => Q .non H', rt := Q } (start [("self" : Str), ("x" : Str)] vs) H := by
  obtain ⟨p, x, wt, d, us, f, row, ways, nr, rfl, w, tx, q⟩ := h
  show rd_Web_contains K C E _ [some (.ref p), some x] H
  unfold rd_Web_contains
  refine q_ret ?_
  walk_at "s"
  refine ⟨x, rfl, tx, fun H1 s1 => ?_⟩
  walk_at "s"
  have w1 := w.sm s1
  cases x with
  | str z =>
    by_cases c : nameS z = true
    · rw [show nameV (.str z) = true from c]
      simp only [if_true]
      refine ⟨_, rfl, _, rfl, p, ?_⟩
      obtain ⟨dx, hp⟩ := w1.ob
      refine ⟨dx, _, _, rfl, hp, lk_near, ?_⟩
      refine ⟨d, _, rfl, DGet.k (k := Sum.inr z) w1.dc, ?_⟩
      rw [val_kvs]
      have := q H1 s1
      by_cases m : z ∈ row
      · rw [if_pos m]
        rw [show inRow row (.str z) = true from decide_eq_true m] at this
        exact this
      · rw [if_neg m]
        rw [show inRow row (.str z) = false from decide_eq_false m] at this
        exact this
    · have m : ¬ z ∈ row := fun m => c (w.nm z m)
      rw [show nameV (.str z) = false from (show nameS z = false by simpa using c)]
      simp only [Bool.false_eq_true, if_false]
      have := q H1 s1
      rw [show inRow row (.str z) = false from decide_eq_false m] at this
      exact this
  | _ => exact q H1 s1
def sp_Web_iter (K : PySem.W.Frag) (C : CA) (n : Nat) : Sp := fun vs H Q _ => ∃ p dx wt d o kvs, vs = [.ref p] ∧ H p = some (.ins C.Web dx (wFld wt d)) ∧ H d = some (.frz o (.dK kvs)) ∧
  ∀ it es ep, o.data = .dict es ep → H it = none → n ≤ it → Q (.ref it) (upd H it (ItKO it d kvs.length ep))
def rd_Web_iter (zn : Nat) (K : PySem.W.Frag) (C : CA) (E : XK) : TS :=
  (tRet (tCB (rIterD zn) (tCons (tFldW C.Web (tVar 0) ("_near" : Str)) tNil)))
theorem pure_Web_iter {K : PySem.W.Frag} {C : CA} (zn : Nat) (vs : List V) (H : Hp) (Q : VK) (E : XK) (h : sp_Web_iter K C zn vs H Q E) : rd_Web_iter zn K C E { nx := fun _ H' => Q .non H', rt := Q } (start [("self" : Str)] vs) H := by
  obtain ⟨p, dx, wt, d, o, kvs, rfl, hp, hd, q⟩ := h
  show rd_Web_iter zn K C E _ [some (.ref p)] H
  unfold rd_Web_iter
  refine q_ret ?_
  walk_at "s"
  exact ⟨dx, _, hp, _, lk_near, d, o, kvs, rfl, hd, q⟩
theorem dp_strs {K : PySem.W.Frag} {H : Hp} : ∀ (zs : List Str), L2.DpAll K H (zs.map V.str) (zs.map PyData.str)
  | [] => .nil
  | z :: zs => .cons (.str z) (dp_strs zs)
theorem eqv_strs : ∀ {a b : List Str}, PyData.eqvAll (a.map PyData.str) (b.map PyData.str) = true ↔ a = b
  | [], [] => by simp [PyData.eqvAll]
  | x :: a, y :: b => by simp [PyData.eqvAll, PyData.eqv, eqv_strs (a := a) (b := b)]
  | [], _ :: _ => by simp [PyData.eqvAll]
  | _ :: _, [] => by simp [PyData.eqvAll]
theorem name_ok {z : Str} (h : nameS z = true) : PyData.strOk z = true := by
  have e : ∀ c ∈ signsS.cps.toList, c < 0x110000 := by decide +kernel
  unfold nameS at h
  rw [Bool.and_eq_true] at h
  have h2 := h.2
  rw [List.all_eq_true] at h2
  unfold PyData.strOk
  rw [Array.all_eq_true]
  intro i hi
  have hm : z.cps[i] ∈ z.cps.toList := by simp
  have := h2 _ hm
  exact decide_eq_true (e _ (of_decide_eq_true this))
theorem name_len {z : Str} (h : nameS z = true) : z.length ≤ 8 := by
  unfold nameS at h
  simp only [Bool.and_eq_true, decide_eq_true_eq] at h
  exact h.1.1.2
theorem lay_strs : ∀ {zs : List Str}, (∀ z ∈ zs, nameS z = true) → PyData.canLayAll0 (zs.map PyData.str) = true ∧ PyData.depthAll (zs.map PyData.str) = 0
  | [], _ => ⟨by simp [PyData.canLayAll0], by simp [PyData.depthAll]⟩
  | z :: zs, h => by
    have h2 := lay_strs (zs := zs) fun u hu => h u (List.mem_cons_of_mem _ hu)
    exact ⟨by simp [PyData.canLayAll0, PyData.canLay0, name_ok (h z List.mem_cons_self), h2.1], by simp [PyData.depthAll, PyData.depth, h2.2]⟩
theorem shaped_strs {zs : List Str} (h : ∀ z ∈ zs, nameS z = true) : SeqAt.shaped (.list (zs.map PyData.str)) = true := by
  have h1 := lay_strs h
  unfold SeqAt.shaped
  rw [Bool.and_eq_true]
  refine ⟨by simp only [PyData.canLay0]; exact h1.1, decide_eq_true ?_⟩
  simp only [PyData.depth]
  omega
/-- an error with one thing -/
def Er (E : XK) (c : Addr) (n : Str) (v : V) (H : Hp) : Prop := ∀ (d : Addr) (H' : Hp), H d = none → H' d = some (.xd [(n, v)]) → (∀ b o, H b = some o → H' b = some o) → E (.ref c) (some d) H'
theorem Er.sm {E : XK} {c : Addr} {n : Str} {v : V} {H H1 : Hp} (h : Er E c n v H) (s : Sm H H1) : Er E c n v H1 := fun d H' a b k => h d H' (sm_none s a) b (sm_trans s k)
theorem shaped_tup {zs : List Str} (h : ∀ z ∈ zs, nameS z = true) : SeqAt.shaped (.tuple (zs.map PyData.str)) = true := by
  have h1 := lay_strs h
  unfold SeqAt.shaped
  rw [Bool.and_eq_true]
  refine ⟨by simp only [PyData.canLay0]; exact h1.1, decide_eq_true ?_⟩
  simp only [PyData.depth]
  omega
def nrD (nr : Str → List Str) : Key → PyData
  | .inr z => .tuple ((nr z).map PyData.str)
  | .inl _ => .none
/-- the webs are equal -/
def eqW (row row' : List Str) (nr nr' : Str → List Str) : Bool := decide (row.length = row'.length) && row.all fun z => decide (z ∈ row') && decide (nr z = nr' z)
theorem eqDD_web {f f' : Str → Addr} {row row' : List Str} {nr nr' : Str → List Str} : eqDD (nrD nr) (nrD nr') (kvsOf f row) (kvsOf f' row') = eqW row row' nr nr' := by
  have l : ∀ (g : Str → Addr) (r : List Str), (kvsOf g r).length = r.length := fun g r => by simp [kvsOf]
  unfold eqDD eqW
  rw [l, l]
  congr 1
  · unfold kvsOf
    rw [List.all_map]
    congr 1
    funext z
    dsimp only [Function.comp]
    have e1 : ((valV (kvsOf f' row') (Sum.inr z : Key)).isSome) = decide (z ∈ row') := by
      rw [val_kvs]
      by_cases m : z ∈ row'
      · rw [if_pos m, decide_eq_true m]; rfl
      · rw [if_neg m, decide_eq_false m]; rfl
    have e2 : PyData.eqv (nrD nr (Sum.inr z)) (nrD nr' (Sum.inr z)) = decide (nr z = nr' z) := by
      show PyData.eqvAll _ _ = _
      by_cases m : nr z = nr' z
      · rw [decide_eq_true m]
        exact eqv_strs.2 m
      · rw [decide_eq_false m]
        cases e : PyData.eqvAll ((nr z).map PyData.str) ((nr' z).map PyData.str) with
        | false => rfl
        | true => exact absurd (eqv_strs.1 e) m
    rw [← e1, ← e2]
    rfl
theorem WebX.dp {C : Addr} {H : Hp} {p wt d : Addr} {us : List V} {f : Str → Addr} {row : List Str} {ways : List (Str × Str)} {nr : Str → List Str} {K : PySem.W.Frag} (w : WebX C H p wt d us f row ways nr) (hn : ∀ z ∈ row, ∀ y ∈ nr z, nameS y = true) {z : Str} (hz : z ∈ row) :
    L2.Dp K H (.ref (f z)) (nrD nr (.inr z)) ∧ SeqAt.shaped (nrD nr (.inr z)) = true := ⟨.tup (asT_seq (by rw [w.ne z hz]; rfl)) (dp_strs _), shaped_tup (hn z hz)⟩
def sp_Web_eq (K : PySem.W.Frag) (C : CA) : Sp := fun vs H Q _ => ∃ p p' wt wt' d d' us us' f f' row row' ways ways' nr nr', vs = [.ref p, .ref p'] ∧ WebX C.Web H p wt d us f row ways nr ∧ WebX C.Web H p' wt' d' us' f' row' ways' nr' ∧
  (∀ z ∈ row, ∀ y ∈ nr z, nameS y = true) ∧ (∀ z ∈ row', ∀ y ∈ nr' z, nameS y = true) ∧ Q (.bl (eqW row row' nr nr')) H
def rd_Web_eq (K : PySem.W.Frag) (C : CA) (E : XK) : TS :=
  (tRet (tAndV (tCB (rIsC C.Web) (tCons (tVar 1) (tCons (tC (.ref C.Web)) tNil))) (tOp (rEqDD K) (tFldW C.Web (tVar 0) ("_near" : Str)) (tFldW C.Web (tVar 1) ("_near" : Str)))))
theorem pure_Web_eq {K : PySem.W.Frag} {C : CA} (vs : List V) (H : Hp) (Q : VK) (E : XK) (h : sp_Web_eq K C vs H Q E) : rd_Web_eq K C E { nx := fun _ H' => Q .non H', rt := Q } (start [("self" : Str), ("other" : Str)] vs) H := by
  obtain ⟨p, p', wt, wt', d, d', us, us', f, f', row, row', ways, ways', nr, nr', rfl, w, w', hn, hn', q⟩ := h
  show rd_Web_eq K C E _ [some (.ref p), some (.ref p')] H
  unfold rd_Web_eq
  refine q_ret ?_
  obtain ⟨dx, hp⟩ := w.ob
  obtain ⟨dx', hp'⟩ := w'.ob
  walk_at "s"
  refine ⟨dx', _, hp', dx, _, hp, _, lk_near, dx', _, hp', _, lk_near, ?_⟩
  refine ⟨d, d', _, _, nrD nr, nrD nr', rfl, rfl, w.dc, w'.dc, fun kv hk => ?_, fun k v hv => ?_, ?_⟩
  · obtain ⟨z, hz, rfl⟩ := List.mem_map.mp hk
    exact w.dp hn hz
  · cases k with
    | inl i =>
      have : ∀ r : List Str, valV (kvsOf f' r) (Sum.inl i : Key) = none := fun r => by
        induction r with
        | nil => rfl
        | cons y r ih => exact (valV_neg (p := (Sum.inr y, V.ref (f' y))) (fun z => by cases z)).trans ih
      rw [this] at hv
      cases hv
    | inr z =>
      rw [val_kvs] at hv
      by_cases m : z ∈ row'
      · rw [if_pos m] at hv
        cases hv
        exact w'.dp hn' m
      · rw [if_neg m] at hv
        cases hv
  · rw [eqDD_web]
    exact q
def sp_Web_towns (K : PySem.W.Frag) (C : CA) : Sp := fun vs H Q _ => ∃ p wt d us f row ways nr, vs = [.ref p] ∧ WebX C.Web H p wt d us f row ways nr ∧ ∀ t, H t = none → Q (.ref t) (upd H t (.tup (row.map V.str)))
def rd_Web_towns (K : PySem.W.Frag) (C : CA) (E : XK) : TS :=
  (tRet (tCB rTupleD (tCons (tFldW C.Web (tVar 0) ("_near" : Str)) tNil)))
theorem pure_Web_towns {K : PySem.W.Frag} {C : CA} (vs : List V) (H : Hp) (Q : VK) (E : XK) (h : sp_Web_towns K C vs H Q E) : rd_Web_towns K C E { nx := fun _ H' => Q .non H', rt := Q } (start [("self" : Str)] vs) H := by
  obtain ⟨p, wt, d, us, f, row, ways, nr, rfl, w, q⟩ := h
  show rd_Web_towns K C E _ [some (.ref p)] H
  unfold rd_Web_towns
  refine q_ret ?_
  obtain ⟨dx, hp⟩ := w.ob
  walk_at "s"
  refine ⟨dx, _, hp, _, lk_near, d, _, rfl, w.dc, fun t nt => ?_⟩
  rw [keys_kvs]
  exact q t nt
def sp_Web_ways (K : PySem.W.Frag) (C : CA) : Sp := fun vs H Q _ => ∃ p wt d us f row ways nr, vs = [.ref p] ∧ WebX C.Web H p wt d us f row ways nr ∧ Q (.ref wt) H
def rd_Web_ways (K : PySem.W.Frag) (C : CA) (E : XK) : TS :=
  (tRet (tFldW C.Web (tVar 0) ("_ways" : Str)))
theorem pure_Web_ways {K : PySem.W.Frag} {C : CA} (vs : List V) (H : Hp) (Q : VK) (E : XK) (h : sp_Web_ways K C vs H Q E) : rd_Web_ways K C E { nx := fun _ H' => Q .non H', rt := Q } (start [("self" : Str)] vs) H := by
  obtain ⟨p, wt, d, us, f, row, ways, nr, rfl, w, q⟩ := h
  show rd_Web_ways K C E _ [some (.ref p)] H
  unfold rd_Web_ways
  refine q_ret ?_
  obtain ⟨dx, hp⟩ := w.ob
  walk_at "s"
  exact ⟨dx, _, hp, _, lk_ways, q⟩
end XB

/-! Towns that are there; neighbours; joined towns. -/
namespace XB
open PySem L2
local macro_rules | `(tactic| walk_at "s") => `(tactic| try simp only [u_var, u_c, u_op, u_un, u_nil, u_cons, u_cb, u_call, u_callS, u_tup, u_lst, u_test, u_B, u_and, u_or, u_not, u_andV, u_orV, u_notV, u_ifE, u_chain, u_sl, u_noPart, u_part, u_bm, u_bm0, u_rev, u_lc, u_try, u_sui, u_sui0, u_unb_rt, u_unb_nx, u_xf, u_WE, w_nil, w_cons, u_raise, u_rng1, u_rng2, u_next, u_ret, u_gname, u_gnil, u_gcons, u_gsub, u_gtup,
  f_add, f_addS, f_addR, f_sub, f_mul, f_mulR, f_mod, f_div, f_pow, f_neg, f_cmp, f_eq, f_eqB, f_eqS, f_ne, f_neB, f_neS, f_isN, f_notN, f_isB, f_ix, f_ixS, f_int, f_intB, f_len, f_lenS, f_max, f_min, f_abs, f_list, f_tuple, f_all, f_sum, f_isi, f_isiT, f_append, f_insert, f_pop, f_sl, f_set, u_fldW, u_propW, u_makeS, u_makeL, u_cmethS, u_methS, u_ostW, f_isC, f_minSS, f_maxSS, f_reverse,
  kitS, tys, List.isEmpty_cons, Option.map_some, kt_NoneType_int, kt_NoneType_bool, kt_NoneType_str, kt_NoneType_list, kt_NoneType_tuple, kt_NoneType_dict, kt_int_int, kt_int_bool, kt_int_str, kt_int_list, kt_int_tuple, kt_int_dict, kt_bool_int, kt_bool_bool, kt_bool_str, kt_bool_list, kt_bool_tuple, kt_bool_dict, kt_str_int, kt_str_bool, kt_str_str, kt_str_list, kt_str_tuple, kt_str_dict, kt_list_int, kt_list_bool, kt_list_str, kt_list_list, kt_list_tuple, kt_list_dict, kt_tuple_int, kt_tuple_bool, kt_tuple_str, kt_tuple_list, kt_tuple_tuple, kt_tuple_dict, kt_dict_int, kt_dict_bool, kt_dict_str, kt_dict_list, kt_dict_tuple, kt_dict_dict, asL_lst, asL_frz, asL_tup, asT_tup, asS_lst, asS_frz, asS_tup, tyN_non, tyN_bl, tyN_int, tyN_str, atV_lit, ixN_lit, upd_same, upd_ne, upd_ne',
  List.getElem?_cons_zero, List.getElem?_cons_succ, List.set_cons_zero, List.set_cons_succ, List.append_nil, List.length_cons, List.length_nil, Option.some.injEq, exists_eq_left', exists_eq_left, exists_and_left, V.bl.injEq, V.int.injEq, V.str.injEq, V.ref.injEq, Bool.not_eq_true, Bool.not_true, Bool.not_false, decide_true, decide_false, decide_eq_true_eq, decide_eq_false_iff_not, Bool.false_eq_true, if_true, if_false, ite_true, ite_false, reduceCtorEq, true_and, and_true, Nat.reduceAdd, Nat.reduceLT, Nat.zero_add, ne_eq, not_false_eq_true, not_true_eq_false, List.cons.injEq, and_assoc])
local macro_rules | `(tactic| walk_at "S") => `(tactic| try simp only [u_var, u_c, u_op, u_un, u_nil, u_cons, u_cb, u_call, u_callS, u_tup, u_lst, u_test, u_B, u_and, u_or, u_not, u_andV, u_orV, u_notV, u_ifE, u_chain, u_sl, u_noPart, u_part, u_bm, u_bm0, u_rev, u_lc, u_try, u_sui, u_sui0, u_unb_rt, u_unb_nx, u_xf, u_WE, w_nil, w_cons, u_raise, u_rng1, u_rng2, u_next, u_ret, u_gname, u_gnil, u_gcons, u_gsub, u_gtup,
  f_add, f_addS, f_addR, f_sub, f_mul, f_mulR, f_mod, f_div, f_pow, f_neg, f_cmp, f_eq, f_eqB, f_eqS, f_ne, f_neB, f_neS, f_isN, f_notN, f_isB, f_ix, f_ixS, f_int, f_intB, f_len, f_lenS, f_max, f_min, f_abs, f_list, f_tuple, f_all, f_sum, f_isi, f_isiT, f_append, f_insert, f_pop, f_sl, f_set, u_fldW, u_propW, u_makeS, u_makeL, u_cmethS, u_methS, u_ostW, f_isC, f_minSS, f_maxSS, f_reverse,
  kitS, tys, List.isEmpty_cons, Option.map_some, kt_NoneType_int, kt_NoneType_bool, kt_NoneType_str, kt_NoneType_list, kt_NoneType_tuple, kt_NoneType_dict, kt_int_int, kt_int_bool, kt_int_str, kt_int_list, kt_int_tuple, kt_int_dict, kt_bool_int, kt_bool_bool, kt_bool_str, kt_bool_list, kt_bool_tuple, kt_bool_dict, kt_str_int, kt_str_bool, kt_str_str, kt_str_list, kt_str_tuple, kt_str_dict, kt_list_int, kt_list_bool, kt_list_str, kt_list_list, kt_list_tuple, kt_list_dict, kt_tuple_int, kt_tuple_bool, kt_tuple_str, kt_tuple_list, kt_tuple_tuple, kt_tuple_dict, kt_dict_int, kt_dict_bool, kt_dict_str, kt_dict_list, kt_dict_tuple, kt_dict_dict, asL_lst, asL_frz, asL_tup, asT_tup, asS_lst, asS_frz, asS_tup, tyN_non, tyN_bl, tyN_int, tyN_str, atV_lit, ixN_lit, upd_same, upd_ne, upd_ne',
  List.getElem?_cons_zero, List.getElem?_cons_succ, List.set_cons_zero, List.set_cons_succ, List.append_nil, List.length_cons, List.length_nil, Option.some.injEq, exists_eq_left', exists_eq_left, exists_and_left, V.bl.injEq, V.int.injEq, V.str.injEq, V.ref.injEq, Bool.not_eq_true, Bool.not_true, Bool.not_false, decide_true, decide_false, decide_eq_true_eq, decide_eq_false_iff_not, Bool.false_eq_true, if_true, if_false, ite_true, ite_false, reduceCtorEq, true_and, and_true, Nat.reduceAdd, Nat.reduceLT, Nat.zero_add, ne_eq, not_false_eq_true, not_true_eq_false, List.cons.injEq, and_assoc, *])
/-- a list or tuple of names, or a web of these -/
def TownsOf (C : CA) (H : Hp) (v : V) (ts : List Str) : Prop := (∃ p, v = .ref p ∧ asS (H p) = some (ts.map V.str)) ∨ ∃ p wt d us f ways nr, v = .ref p ∧ WebX C.Web H p wt d us f ts ways nr
theorem TownsOf.sm {C : CA} {H H' : Hp} {v : V} {ts : List Str} (h : TownsOf C H v ts) (s : Sm H H') : TownsOf C H' v ts := by
  rcases h with ⟨p, e, h⟩ | ⟨p, wt, d, us, f, ways, nr, e, w⟩
  · exact .inl ⟨p, e, sm_asS h s⟩
  · exact .inr ⟨p, wt, d, us, f, ways, nr, e, w.sm s⟩
theorem inV_strs {z : Str} : ∀ {ts : List Str}, inV (.str z) (ts.map V.str) = decide (z ∈ ts)
  | [] => rfl
  | y :: r => by
    have ih := inV_strs (z := z) (ts := r)
    show (eqV (.str y) (.str z) || inV (.str z) (r.map V.str)) = _
    rw [ih]
    have e : eqV (.str y) (.str z) = decide (y = z) := by
      unfold eqV
      by_cases c : y = z
      · rw [c, decide_eq_true rfl]; exact beq_self_eq_true _
      · rw [decide_eq_false c]; exact beq_eq_false_iff_ne.2 c
    rw [e]
    by_cases c : y = z
    · simp [c]
    · have : ¬ z = y := fun h => c h.symm
      simp [c, this]
theorem flat_strs {ts : List Str} : (ts.map V.str).all flatV = true := by
  rw [List.all_map]
  exact List.all_eq_true.2 fun _ _ => rfl
theorem f_ninR {K : PySem.W.Frag} {H : Hp} {Q : VK} {z : Str} {p : Addr} : fNin K (.str z) (.ref p) H Q = (match asS (H p) with
    | some xs => flatV (.str z) = true ∧ xs.all flatV = true ∧ Q (.bl (!inV (.str z) xs)) H
    | none => False) := by
  obtain ⟨⟨l⟩⟩ := z
  match l with
  | [] => rfl
  | [c] => rfl
  | c :: c' :: r => rfl
theorem f_inR {K : PySem.W.Frag} {H : Hp} {Q : VK} {z : Str} {p : Addr} : fIn K (.str z) (.ref p) H Q = (match asS (H p) with
    | some xs => flatV (.str z) = true ∧ xs.all flatV = true ∧ Q (.bl (inV (.str z) xs)) H
    | none => False) := by
  obtain ⟨⟨l⟩⟩ := z
  match l with
  | [] => rfl
  | [c] => rfl
  | c :: c' :: r => rfl
theorem WebX.get {C : Addr} {H : Hp} {p wt d : Addr} {us : List V} {f : Str → Addr} {row : List Str} {ways : List (Str × Str)} {nr : Str → List Str} {z : Str} (w : WebX C H p wt d us f row ways nr) (m : z ∈ row) : DGet H d (.str z) (some (.ref (f z))) := by
  have := DGet.k (k := Sum.inr z) w.dc
  rw [val_kvs, if_pos m] at this
  exact this
theorem u_dget {σ : L2.St} {H : Hp} {Q : VK} {td ty : TE} : tDGet td ty σ H Q = td σ H fun x H1 => ty σ H1 fun y H2 => ∃ a v, x = .ref a ∧ DGet H2 a y (some v) ∧ Q v H2 := rfl
theorem tz_name {z : Str} {H : Hp} (h : nameS z = true) : Tz (.str z) H := ⟨⟨_, rfl⟩, fun y e => by
  cases e
  have := name_len h
  omega⟩
def sp_check_town (K : PySem.W.Frag) (C : CA) : Sp := fun vs H Q E => ∃ v z ts, vs = [v, .str z] ∧ TownsOf C H v ts ∧ nameS z = true ∧ (z ∈ ts → ∀ H', Sm H H' → Q .non H') ∧ (z ∉ ts → Er E C.UnknownTown "town" (.str z) H)
def rd_check_town (K : PySem.W.Frag) (C : CA) (E : XK) : TS :=
  (tIfS (tTest (tOp (fun x y H Q => (rInW C.Web (sp_Web_contains K C) true) x y H Q ∨ (fNin K) x y H Q) (tVar 1) (tVar 0))) (tRaiseF C.UnknownTown [("town" : Str)] (fun cls d _ H => E cls d H) (tCons (tVar 1) tNil)) tNext)
theorem pure_check_town {K : PySem.W.Frag} {C : CA} (vs : List V) (H : Hp) (Q : VK) (E : XK) (h : sp_check_town K C vs H Q E) : rd_check_town K C E { nx := fun _ H' => Q .non H', rt := Q } (start [("towns" : Str), ("town" : Str)] vs) H := by
  obtain ⟨v, z, ts, rfl, t, nz, q1, q2⟩ := h
  show rd_check_town K C E _ [some v, some (.str z)] H
  unfold rd_check_town
  refine q_if1 ?_
  walk_at "s"
  have fin : ∀ H1, Sm H H1 → if (!decide (z ∈ ts)) = true then 1 ≤ 1000 ∧ ∀ (d : Addr) (H' : Hp), H1 d = none → H' d = some (.xd (flds [("town" : Str)] [V.str z] [])) → (∀ b o, H1 b = some o → H' b = some o) → E (.ref C.UnknownTown) (some d) H' else Q .non H1 := fun H1 s1 => by
    by_cases m : z ∈ ts
    · rw [decide_eq_true m]
      exact q1 m H1 s1
    · rw [decide_eq_false m]
      exact ⟨by decide, fun d H' a b c => (q2 m).sm s1 d H' a b c⟩
  rcases t with ⟨p, rfl, hp⟩ | ⟨p, wt, d, us, f, ways, nr, rfl, w⟩
  · refine .inr ?_
    rw [f_ninR, hp]
    refine ⟨rfl, flat_strs, _, rfl, ?_⟩
    rw [inV_strs]
    exact fin H fun _ _ h => h
  · refine .inl ?_
    obtain ⟨dx, hp⟩ := w.ob
    refine ⟨p, dx, _, rfl, hp, p, .str z, wt, d, us, f, ts, ways, nr, rfl, w, tz_name nz, fun H1 s1 => ⟨_, rfl, _, rfl, ?_⟩⟩
    rw [Bool.true_xor]
    exact fin H1 s1
def sp_Web_near (K : PySem.W.Frag) (C : CA) : Sp := fun vs H Q E => ∃ p x wt d us f row ways nr, vs = [.ref p, x] ∧ WebX C.Web H p wt d us f row ways nr ∧ Tz x H ∧ (nameV x = false → Er E C.BadShape "parameter" (.str "town") H) ∧
  (nameV x = true → inRow row x = false → Er E C.UnknownTown "town" x H) ∧ ∀ z H', x = .str z → z ∈ row → Sm H H' → Q (.ref (f z)) H'
def rd_Web_near (K : PySem.W.Frag) (C : CA) (E : XK) : TS :=
  (tSeq (tDrop (tCallS (sp_check K C) (fun _ => E) (tCons (tCallS (sp_is_name K C) (fun _ => E0) (tCons (tVar 1) tNil)) (tCons (tC (.str ("town" : Str))) tNil)))) (tSeq (tDrop (tCallS (sp_check_town K C) (fun _ => E) (tCons (tVar 0) (tCons (tVar 1) tNil)))) (tRet (tDGet (tFldW C.Web (tVar 0) ("_near" : Str)) (tVar 1)))))
theorem pure_Web_near {K : PySem.W.Frag} {C : CA} (vs : List V) (H : Hp) (Q : VK) (E : XK) (h : sp_Web_near K C vs H Q E) : rd_Web_near K C E { nx := fun _ H' => Q .non H', rt := Q } (start [("self" : Str), ("town" : Str)] vs) H := by
  obtain ⟨p, x, wt, d, us, f, row, ways, nr, rfl, w, tx, q1, q2, q3⟩ := h
  show rd_Web_near K C E _ [some (.ref p), some x] H
  unfold rd_Web_near
  refine q_drop ?_
  walk_at "s"
  refine ⟨x, rfl, tx, fun H1 s1 => ?_⟩
  walk_at "s"
  refine ⟨_, _, rfl, fun nx => ?_, fun nx => (q1 nx).sm s1⟩
  obtain ⟨z, rfl, nz⟩ : ∃ z, x = .str z ∧ nameS z = true := by
    cases x with
    | str z => exact ⟨z, rfl, nx⟩
    | _ => cases nx
  refine q_drop ?_
  walk_at "s"
  refine ⟨_, z, row, rfl, .inr ⟨p, wt, d, us, f, ways, nr, rfl, w.sm s1⟩, nz, fun m H2 s2 => ?_, fun m => (q2 nx (decide_eq_false m)).sm s1⟩
  have s12 := sm_trans s1 s2
  have w2 := w.sm s12
  obtain ⟨dx, hp⟩ := w2.ob
  dsimp only
  rw [u_dget]
  walk_at "s"
  exact ⟨dx, _, hp, _, lk_near, d, rfl, _, w2.get m, q3 z H2 rfl m s12⟩
def sp_Web_joins (K : PySem.W.Frag) (C : CA) : Sp := fun vs H Q E => ∃ p x y wt d us f row ways nr, vs = [.ref p, x, y] ∧ WebX C.Web H p wt d us f row ways nr ∧ Tz x H ∧ Tz y H ∧ (nameV x = false → Er E C.BadShape "parameter" (.str "here") H) ∧
  (nameV x = true → nameV y = false → Er E C.BadShape "parameter" (.str "there") H) ∧ (nameV x = true → nameV y = true → inRow row x = false → Er E C.UnknownTown "town" x H) ∧
  (nameV y = true → inRow row x = true → inRow row y = false → Er E C.UnknownTown "town" y H) ∧ ∀ z u H', x = .str z → y = .str u → z ∈ row → u ∈ row → Sm H H' → Q (.bl (decide (u ∈ nr z))) H'
def rd_Web_joins (K : PySem.W.Frag) (C : CA) (E : XK) : TS :=
  (tSeq (tDrop (tCallS (sp_check K C) (fun _ => E) (tCons (tCallS (sp_is_name K C) (fun _ => E0) (tCons (tVar 1) tNil)) (tCons (tC (.str ("here" : Str))) tNil)))) (tSeq (tDrop (tCallS (sp_check K C) (fun _ => E) (tCons (tCallS (sp_is_name K C) (fun _ => E0) (tCons (tVar 2) tNil)) (tCons (tC (.str ("there" : Str))) tNil)))) (tSeq (tDrop (tCallS (sp_check_town K C) (fun _ => E) (tCons (tVar 0) (tCons (tVar 1) tNil)))) (tSeq (tDrop (tCallS (sp_check_town K C) (fun _ => E) (tCons (tVar 0) (tCons (tVar 2) tNil)))) (tRet (tOp (fIn K) (tVar 2) (tDGet (tFldW C.Web (tVar 0) ("_near" : Str)) (tVar 1))))))))
theorem pure_Web_joins {K : PySem.W.Frag} {C : CA} (vs : List V) (H : Hp) (Q : VK) (E : XK) (h : sp_Web_joins K C vs H Q E) : rd_Web_joins K C E { nx := fun _ H' => Q .non H', rt := Q } (start [("self" : Str), ("here" : Str), ("there" : Str)] vs) H := by
  obtain ⟨p, x, y, wt, d, us, f, row, ways, nr, rfl, w, tx, ty, q1, q2, q3, q4, q5⟩ := h
  show rd_Web_joins K C E _ [some (.ref p), some x, some y] H
  unfold rd_Web_joins
  refine q_drop ?_
  walk_at "s"
  refine ⟨x, rfl, tx, fun H1 s1 => ?_⟩
  walk_at "s"
  refine ⟨_, _, rfl, fun nx => ?_, fun nx => (q1 nx).sm s1⟩
  obtain ⟨z, rfl, nz⟩ : ∃ z, x = .str z ∧ nameS z = true := by
    cases x with
    | str z => exact ⟨z, rfl, nx⟩
    | _ => cases nx
  refine q_drop ?_
  walk_at "s"
  refine ⟨y, rfl, ty.mono s1, fun H2 s2' => ?_⟩
  have s2 := sm_trans s1 s2'
  walk_at "s"
  refine ⟨_, _, rfl, fun ny => ?_, fun ny => (q2 nx ny).sm s2⟩
  obtain ⟨u, rfl, nu⟩ : ∃ z, y = .str z ∧ nameS z = true := by
    cases y with
    | str z => exact ⟨z, rfl, ny⟩
    | _ => cases ny
  refine q_drop ?_
  walk_at "s"
  refine ⟨_, z, row, rfl, .inr ⟨p, wt, d, us, f, ways, nr, rfl, w.sm s2⟩, nz, fun m H3 s3' => ?_, fun m => (q3 nx ny (decide_eq_false m)).sm s2⟩
  have s3 := sm_trans s2 s3'
  refine q_drop ?_
  walk_at "s"
  refine ⟨_, u, row, rfl, .inr ⟨p, wt, d, us, f, ways, nr, rfl, w.sm s3⟩, nu, fun mu H4 s4' => ?_, fun mu => (q4 ny (decide_eq_true m) (decide_eq_false mu)).sm s3⟩
  have s4 := sm_trans s3 s4'
  have w4 := w.sm s4
  obtain ⟨dx, hp⟩ := w4.ob
  dsimp only
  rw [u_dget]
  walk_at "s"
  refine ⟨dx, _, hp, _, lk_near, d, rfl, _, w4.get m, ?_⟩
  rw [f_inR, w4.ne z m]
  refine ⟨rfl, flat_strs, ?_⟩
  rw [inV_strs]
  exact q5 z u H4 rfl rfl m mu s4
end XB

/-! Texts and pairs of texts in order. -/
namespace XB
open PySem PyProof.Rows L2
def LtS (a b : Str) : Prop := a.cps.toList < b.cps.toList
theorem str_ext {a b : Str} (h : a.cps.toList = b.cps.toList) : a = b := by
  cases a with
  | mk x =>
    cases b with
    | mk y =>
      have : x = y := Array.ext' h
      rw [this]
theorem LtS.irrefl {a : Str} : ¬ LtS a a := fun h => List.lt_irrefl _ h
theorem LtS.trans {a b c : Str} (h : LtS a b) (k : LtS b c) : LtS a c := List.lt_trans h k
theorem LtS.antisymm {a b : Str} (h : ¬ LtS a b) (k : ¬ LtS b a) : a = b := str_ext (List.le_antisymm (List.not_lt.1 k) (List.not_lt.1 h))
theorem LtS.of_le_ne {a b : Str} (h : ¬ LtS b a) (k : a ≠ b) : LtS a b := by
  by_cases c : LtS a b
  · exact c
  · exact absurd (LtS.antisymm c h) k
theorem LtS.le_trans {a b c : Str} (h : ¬ LtS b a) (k : ¬ LtS c b) : ¬ LtS c a := fun e => by
  by_cases c1 : a = b
  · rw [c1] at e; exact k e
  · exact k (e.trans (LtS.of_le_ne h c1))
theorem risingS_pair : ∀ {r : List Str} {p : Str}, risingS p r = true → (p :: r).Pairwise fun a b => ¬ LtS b a
  | [], p, _ => by simp
  | x :: r, p, h => by
    simp only [risingS, Bool.and_eq_true, Bool.not_eq_true'] at h
    have ih := risingS_pair h.2
    have hx : ¬ LtS x p := by
      have e := h.1
      rw [ltCps_eq] at e
      have e2 : ¬ (x.cps.toList < p.cps.toList) := of_decide_eq_false e
      exact e2
    refine List.pairwise_cons.2 ⟨fun y hy => ?_, ih⟩
    rcases List.mem_cons.1 hy with rfl | hy
    · exact hx
    · exact LtS.le_trans hx ((List.pairwise_cons.1 ih).1 y hy)
theorem srt_pair {ys : List Str} (h : sortedS ys = true) : ys.Pairwise fun a b => ¬ LtS b a := by
  cases ys with
  | nil => simp
  | cons x r => exact risingS_pair h
theorem srt_unique {a b : List Str} (ha : sortedS a = true) (hb : sortedS b = true) (p : a.Perm b) : a = b :=
  List.Perm.eq_of_pairwise (fun x y _ _ h1 h2 => LtS.antisymm h2 h1) (srt_pair ha) (srt_pair hb) p
/-! ### circuits -/

theorem ltZ_iff {a b : Str} : ltZ a b = true ↔ LtS a b := by
  unfold ltZ LtS
  exact decide_eq_true_iff
def loS (a b : Str) : Str := if ltZ b a = true then b else a
def hiS (a b : Str) : Str := if ltZ a b = true then b else a
def pr2 (a b : Str) : Str × Str := (loS a b, hiS a b)
theorem LtS.asymm {a b : Str} (h : LtS a b) : ¬ LtS b a := fun k => LtS.irrefl (h.trans k)
theorem pr2_lt {a b : Str} (h : LtS a b) : pr2 a b = (a, b) := by
  unfold pr2 loS hiS
  rw [if_neg (fun k => h.asymm (ltZ_iff.1 k)), if_pos (ltZ_iff.2 h)]
theorem pr2_gt {a b : Str} (h : LtS b a) : pr2 a b = (b, a) := by
  unfold pr2 loS hiS
  rw [if_pos (ltZ_iff.2 h), if_neg (fun k => h.asymm (ltZ_iff.1 k))]
theorem pr2_self {a : Str} : pr2 a a = (a, a) := by
  unfold pr2 loS hiS
  rw [if_neg (fun k => LtS.irrefl (ltZ_iff.1 k))]
theorem tri (a b : Str) : LtS a b ∨ a = b ∨ LtS b a := by
  by_cases h : LtS a b
  · exact .inl h
  · by_cases k : LtS b a
    · exact .inr (.inr k)
    · exact .inr (.inl (LtS.antisymm h k))
theorem pr2_comm (a b : Str) : pr2 a b = pr2 b a := by
  rcases tri a b with h | rfl | h
  · rw [pr2_lt h, pr2_gt h]
  · rfl
  · rw [pr2_gt h, pr2_lt h]
theorem pr2_cases (a b : Str) : pr2 a b = (a, b) ∨ pr2 a b = (b, a) := by
  rcases tri a b with h | rfl | h
  · exact .inl (pr2_lt h)
  · exact .inl pr2_self
  · exact .inr (pr2_gt h)
theorem pr2_eq {a b c d : Str} : pr2 a b = pr2 c d ↔ (a = c ∧ b = d) ∨ (a = d ∧ b = c) := by
  constructor
  · intro h
    rcases pr2_cases a b with e | e <;> rcases pr2_cases c d with f | f <;> rw [e, f] at h <;> cases h
    · exact .inl ⟨rfl, rfl⟩
    · exact .inr ⟨rfl, rfl⟩
    · exact .inr ⟨rfl, rfl⟩
    · exact .inl ⟨rfl, rfl⟩
  · rintro (⟨rfl, rfl⟩ | ⟨rfl, rfl⟩)
    · rfl
    · exact pr2_comm _ _
/-! ### pairs in order -/
def pairD (p : Str × Str) : PyData := .tuple [.str p.1, .str p.2]
def ltP (p q : Str × Str) : Bool := if p.1 = q.1 then ltZ p.2 q.2 else ltZ p.1 q.1
def leP (p q : Str × Str) : Bool := !ltP q p
theorem dataLt_pairD (p q : Str × Str) : PySem.W.dataLt (pairD p) (pairD q) = ltP p q := by
  unfold pairD
  rw [PySem.W.dataLt_pair (by rfl) (by rfl)]
  have e1 : ∀ x y : Str, PyData.eqv (.str x) (.str y) = decide (x = y) := fun x y => by
    unfold PyData.eqv
    by_cases c : x = y
    · rw [c, decide_eq_true rfl]; exact beq_self_eq_true _
    · rw [decide_eq_false c]; exact beq_eq_false_iff_ne.2 c
  rw [e1, e1, PySem.W.dataLt_str, PySem.W.dataLt_str]
  unfold ltP
  by_cases c : p.1 = q.1
  · rw [decide_eq_true c, if_pos rfl, if_pos c]
    by_cases c2 : p.2 = q.2
    · rw [decide_eq_true c2, if_pos rfl, c2]
      exact (Bool.eq_false_iff.2 fun h => LtS.irrefl (ltZ_iff.1 h)).symm
    · rw [decide_eq_false c2, if_neg Bool.false_ne_true]
      rfl
  · rw [decide_eq_false c, if_neg Bool.false_ne_true, if_neg c]
    rfl
theorem dataLe_pairD {β : Type} (k : β → Str × Str) : PySem.W.dataLe false (fun b => pairD (k b)) = fun a b => leP (k a) (k b) := by
  rw [PySem.W.dataLe_eq]
  funext a b
  show (!PySem.W.dataLt (pairD (k b)) (pairD (k a))) = _
  rw [dataLt_pairD]
  rfl
theorem ltP_irrefl {p : Str × Str} : ltP p p = false := by
  unfold ltP
  rw [if_pos rfl]
  exact Bool.eq_false_iff.2 fun h => LtS.irrefl (ltZ_iff.1 h)
theorem ltP_trans {p q r : Str × Str} (h : ltP p q = true) (k : ltP q r = true) : ltP p r = true := by
  unfold ltP at *
  by_cases a : p.1 = q.1
  · rw [if_pos a] at h
    by_cases b : q.1 = r.1
    · rw [if_pos b] at k
      rw [if_pos (a.trans b)]
      exact ltZ_iff.2 ((ltZ_iff.1 h).trans (ltZ_iff.1 k))
    · rw [if_neg b] at k
      rw [if_neg (by rw [a]; exact b), a]
      exact k
  · rw [if_neg a] at h
    by_cases b : q.1 = r.1
    · rw [if_pos b] at k
      rw [if_neg (by rw [← b]; exact a), ← b]
      exact h
    · rw [if_neg b] at k
      have t := (ltZ_iff.1 h).trans (ltZ_iff.1 k)
      rw [if_neg (fun e => by rw [e] at t; exact LtS.irrefl t)]
      exact ltZ_iff.2 t
theorem ltP_tri {p q : Str × Str} (h : ltP p q = false) (k : ltP q p = false) : p = q := by
  unfold ltP at *
  by_cases a : p.1 = q.1
  · rw [if_pos a] at h
    rw [if_pos a.symm] at k
    exact Prod.ext a (LtS.antisymm (fun z => by rw [ltZ_iff.2 z] at h; cases h) fun z => by rw [ltZ_iff.2 z] at k; cases k)
  · rw [if_neg a] at h
    rw [if_neg (fun e => a e.symm)] at k
    exact absurd (LtS.antisymm (fun z => by rw [ltZ_iff.2 z] at h; cases h) fun z => by rw [ltZ_iff.2 z] at k; cases k) a
theorem leP_total (p q : Str × Str) : (leP p q || leP q p) = true := by
  unfold leP
  cases a : ltP q p with
  | false => rfl
  | true =>
    cases b : ltP p q with
    | false => rfl
    | true =>
      have := ltP_trans a b
      rw [ltP_irrefl] at this
      cases this
theorem leP_trans (p q r : Str × Str) (h : leP p q = true) (k : leP q r = true) : leP p r = true := by
  unfold leP at *
  have h : ltP q p = false := by simpa using h
  have k : ltP r q = false := by simpa using k
  cases e : ltP r p with
  | false => rfl
  | true =>
    exfalso
    cases e2 : ltP p q with
    | true =>
      have := ltP_trans e e2
      rw [this] at k
      cases k
    | false =>
      have := ltP_tri h e2
      rw [this] at k
      rw [e] at k
      cases k
theorem leP_anti {p q : Str × Str} (h : leP p q = true) (k : leP q p = true) : p = q := by
  unfold leP at *
  exact ltP_tri (by simpa using k) (by simpa using h)
def sortP (ps : List (Str × Str)) : List (Str × Str) := ps.mergeSort leP
theorem sortP_perm (ps : List (Str × Str)) : (sortP ps).Perm ps := List.mergeSort_perm ps leP
theorem sortP_eq {ps qs : List (Str × Str)} (h : ps.Perm qs) : sortP ps = sortP qs := by
  refine List.Perm.eq_of_pairwise (le := fun a b => leP a b = true) (fun a b _ _ h k => leP_anti h k) (List.pairwise_mergeSort leP_trans leP_total _) (List.pairwise_mergeSort leP_trans leP_total _) ?_
  exact (sortP_perm ps).trans (h.trans (sortP_perm qs).symm)
end XB

/-! Ways in order. -/
namespace XB
open PySem L2
local macro_rules | `(tactic| walk_at "s") => `(tactic| try simp only [u_var, u_c, u_op, u_un, u_nil, u_cons, u_cb, u_call, u_callS, u_tup, u_lst, u_test, u_B, u_and, u_or, u_not, u_andV, u_orV, u_notV, u_ifE, u_chain, u_sl, u_noPart, u_part, u_bm, u_bm0, u_rev, u_lc, u_try, u_sui, u_sui0, u_unb_rt, u_unb_nx, u_xf, u_WE, w_nil, w_cons, u_raise, u_rng1, u_rng2, u_next, u_ret, u_gname, u_gnil, u_gcons, u_gsub, u_gtup,
  f_add, f_addS, f_addR, f_sub, f_mul, f_mulR, f_mod, f_div, f_pow, f_neg, f_cmp, f_eq, f_eqB, f_eqS, f_ne, f_neB, f_neS, f_isN, f_notN, f_isB, f_ix, f_ixS, f_int, f_intB, f_len, f_lenS, f_max, f_min, f_abs, f_list, f_tuple, f_all, f_sum, f_isi, f_isiT, f_append, f_insert, f_pop, f_sl, f_set, u_fldW, u_propW, u_makeS, u_makeL, u_cmethS, u_methS, u_ostW, f_isC, f_minSS, f_maxSS, f_reverse,
  kitS, tys, List.isEmpty_cons, Option.map_some, kt_NoneType_int, kt_NoneType_bool, kt_NoneType_str, kt_NoneType_list, kt_NoneType_tuple, kt_NoneType_dict, kt_int_int, kt_int_bool, kt_int_str, kt_int_list, kt_int_tuple, kt_int_dict, kt_bool_int, kt_bool_bool, kt_bool_str, kt_bool_list, kt_bool_tuple, kt_bool_dict, kt_str_int, kt_str_bool, kt_str_str, kt_str_list, kt_str_tuple, kt_str_dict, kt_list_int, kt_list_bool, kt_list_str, kt_list_list, kt_list_tuple, kt_list_dict, kt_tuple_int, kt_tuple_bool, kt_tuple_str, kt_tuple_list, kt_tuple_tuple, kt_tuple_dict, kt_dict_int, kt_dict_bool, kt_dict_str, kt_dict_list, kt_dict_tuple, kt_dict_dict, asL_lst, asL_frz, asL_tup, asT_tup, asS_lst, asS_frz, asS_tup, tyN_non, tyN_bl, tyN_int, tyN_str, atV_lit, ixN_lit, upd_same, upd_ne, upd_ne',
  List.getElem?_cons_zero, List.getElem?_cons_succ, List.set_cons_zero, List.set_cons_succ, List.append_nil, List.length_cons, List.length_nil, Option.some.injEq, exists_eq_left', exists_eq_left, exists_and_left, V.bl.injEq, V.int.injEq, V.str.injEq, V.ref.injEq, Bool.not_eq_true, Bool.not_true, Bool.not_false, decide_true, decide_false, decide_eq_true_eq, decide_eq_false_iff_not, Bool.false_eq_true, if_true, if_false, ite_true, ite_false, reduceCtorEq, true_and, and_true, Nat.reduceAdd, Nat.reduceLT, Nat.zero_add, ne_eq, not_false_eq_true, not_true_eq_false, List.cons.injEq, and_assoc])
local macro_rules | `(tactic| walk_at "S") => `(tactic| try simp only [u_var, u_c, u_op, u_un, u_nil, u_cons, u_cb, u_call, u_callS, u_tup, u_lst, u_test, u_B, u_and, u_or, u_not, u_andV, u_orV, u_notV, u_ifE, u_chain, u_sl, u_noPart, u_part, u_bm, u_bm0, u_rev, u_lc, u_try, u_sui, u_sui0, u_unb_rt, u_unb_nx, u_xf, u_WE, w_nil, w_cons, u_raise, u_rng1, u_rng2, u_next, u_ret, u_gname, u_gnil, u_gcons, u_gsub, u_gtup,
  f_add, f_addS, f_addR, f_sub, f_mul, f_mulR, f_mod, f_div, f_pow, f_neg, f_cmp, f_eq, f_eqB, f_eqS, f_ne, f_neB, f_neS, f_isN, f_notN, f_isB, f_ix, f_ixS, f_int, f_intB, f_len, f_lenS, f_max, f_min, f_abs, f_list, f_tuple, f_all, f_sum, f_isi, f_isiT, f_append, f_insert, f_pop, f_sl, f_set, u_fldW, u_propW, u_makeS, u_makeL, u_cmethS, u_methS, u_ostW, f_isC, f_minSS, f_maxSS, f_reverse,
  kitS, tys, List.isEmpty_cons, Option.map_some, kt_NoneType_int, kt_NoneType_bool, kt_NoneType_str, kt_NoneType_list, kt_NoneType_tuple, kt_NoneType_dict, kt_int_int, kt_int_bool, kt_int_str, kt_int_list, kt_int_tuple, kt_int_dict, kt_bool_int, kt_bool_bool, kt_bool_str, kt_bool_list, kt_bool_tuple, kt_bool_dict, kt_str_int, kt_str_bool, kt_str_str, kt_str_list, kt_str_tuple, kt_str_dict, kt_list_int, kt_list_bool, kt_list_str, kt_list_list, kt_list_tuple, kt_list_dict, kt_tuple_int, kt_tuple_bool, kt_tuple_str, kt_tuple_list, kt_tuple_tuple, kt_tuple_dict, kt_dict_int, kt_dict_bool, kt_dict_str, kt_dict_list, kt_dict_tuple, kt_dict_dict, asL_lst, asL_frz, asL_tup, asT_tup, asS_lst, asS_frz, asS_tup, tyN_non, tyN_bl, tyN_int, tyN_str, atV_lit, ixN_lit, upd_same, upd_ne, upd_ne',
  List.getElem?_cons_zero, List.getElem?_cons_succ, List.set_cons_zero, List.set_cons_succ, List.append_nil, List.length_cons, List.length_nil, Option.some.injEq, exists_eq_left', exists_eq_left, exists_and_left, V.bl.injEq, V.int.injEq, V.str.injEq, V.ref.injEq, Bool.not_eq_true, Bool.not_true, Bool.not_false, decide_true, decide_false, decide_eq_true_eq, decide_eq_false_iff_not, Bool.false_eq_true, if_true, if_false, ite_true, ite_false, reduceCtorEq, true_and, and_true, Nat.reduceAdd, Nat.reduceLT, Nat.zero_add, ne_eq, not_false_eq_true, not_true_eq_false, List.cons.injEq, and_assoc, *])
section
variable {K : PySem.W.Frag} {H : Hp} {xs : List V} {ps : List (Str × Str)}
theorem PairsAt.tail {x : V} {p : Str × Str} (h : PairsAt H (x :: xs) (p :: ps)) : PairsAt H xs ps := ⟨by simpa using h.1, fun i y pr a b => h.2 (i + 1) y pr (by simpa using a) (by simpa using b)⟩
theorem PairsAt.dp : ∀ {xs : List V} {ps : List (Str × Str)}, PairsAt H xs ps → L2.DpAll K H xs (ps.map pairD)
  | [], [], _ => .nil
  | [], _ :: _, h => by simp [PairsAt] at h
  | _ :: _, [], h => by simp [PairsAt] at h
  | x :: xs, p :: ps, h => by
    obtain ⟨q, e, hq⟩ := h.2 0 x p rfl rfl
    subst e
    exact .cons (.tup (asT_seq (by rw [hq]; rfl)) (.cons (.str _) (.cons (.str _) .nil))) h.tail.dp
theorem alike_pairs (ps : List (Str × Str)) : PySem.W.AllAlike (ps.map pairD) := fun d hd d' hd' => by
  obtain ⟨p, _, rfl⟩ := List.mem_map.1 hd
  obtain ⟨q, _, rfl⟩ := List.mem_map.1 hd'
  rfl
theorem sortable_pairs (ps : List (Str × Str)) : PySem.W.Sortable (ps.map pairD) := .inl fun d hd => by
  obtain ⟨p, _, rfl⟩ := List.mem_map.1 hd
  exact ⟨_, _, rfl⟩
theorem depth_pair (p : Str × Str) : (pairD p).depth = 1 := by
  unfold pairD
  simp [PyData.depth, PyData.depthAll]
theorem depth_pairs (ps : List (Str × Str)) : ∀ d ∈ ps.map pairD, d.depth ≤ 50 := fun d hd => by
  obtain ⟨p, _, rfl⟩ := List.mem_map.1 hd
  rw [depth_pair]
  decide
theorem zip_get {α β : Type} : ∀ {xs : List α} {ys : List β} {a : α} {b : β}, (a, b) ∈ xs.zip ys → ∃ i : Nat, xs[i]? = some a ∧ ys[i]? = some b
  | [], _, _, _, h => by simp at h
  | _ :: _, [], _, _, h => by simp at h
  | x :: xs, y :: ys, a, b, h => by
    rw [List.zip_cons_cons] at h
    rcases List.mem_cons.1 h with h | h
    · cases h
      exact ⟨0, rfl, rfl⟩
    · obtain ⟨i, e1, e2⟩ := zip_get h
      exact ⟨i + 1, by simpa using e1, by simpa using e2⟩
theorem PairsAt.sorted (h : PairsAt H xs ps) : PairsAt H (((xs.zip (ps.map pairD)).mergeSort (PySem.W.dataLe false Prod.snd)).map Prod.fst) (sortP ps) := by
  have e1 : xs.zip (ps.map pairD) = (xs.zip ps).map fun z => (z.1, pairD z.2) := by
    rw [List.zip_map_right]
    rfl
  have e2 : ((xs.zip ps).mergeSort fun a b => leP a.2 b.2).map (fun z : V × (Str × Str) => (z.1, pairD z.2)) = ((xs.zip ps).map fun z => (z.1, pairD z.2)).mergeSort (PySem.W.dataLe false Prod.snd) := by
    refine List.map_mergeSort fun a _ b _ => ?_
    have := congrFun (congrFun (dataLe_pairD (fun z : V × (Str × Str) => z.2)) a) b
    exact this.symm
  have e3 : ((xs.zip ps).mergeSort fun a b => leP a.2 b.2).map Prod.snd = sortP ps := by
    rw [List.map_mergeSort (s := leP) fun a _ b _ => rfl]
    rw [List.map_snd_zip (by rw [h.1]; exact Nat.le_refl _)]
    rfl
  rw [e1, ← e2, List.map_map, ← e3]
  have pm : ((xs.zip ps).mergeSort fun a b => leP a.2 b.2).Perm (xs.zip ps) := List.mergeSort_perm _ _
  refine ⟨by rw [List.length_map, List.length_map], fun i x pr a b => ?_⟩
  rw [List.getElem?_map, Option.map_eq_some_iff] at a b
  obtain ⟨z, hz, rfl⟩ := a
  obtain ⟨z', hz', rfl⟩ := b
  rw [hz] at hz'
  cases hz'
  have hm := pm.mem_iff.1 (List.mem_of_getElem? hz)
  obtain ⟨j, g1, g2⟩ := zip_get (a := z.1) (b := z.2) hm
  exact h.2 j z.1 z.2 g1 g2
theorem shaped_pair {p : Str × Str} (h1 : nameS p.1 = true) (h2 : nameS p.2 = true) : SeqAt.shaped (pairD p) = true := by
  unfold SeqAt.shaped
  rw [Bool.and_eq_true]
  refine ⟨?_, decide_eq_true (by rw [depth_pair]; decide)⟩
  unfold pairD
  simp [PyData.canLay0, PyData.canLayAll0, name_ok h1, name_ok h2]
theorem shaped_pairs {ps : List (Str × Str)} (h : ∀ p ∈ ps, nameS p.1 = true ∧ nameS p.2 = true) : SeqAt.shaped (.list (ps.map pairD)) = true := by
  have l : PyData.canLayAll0 (ps.map pairD) = true ∧ PyData.depthAll (ps.map pairD) ≤ 1 := by
    induction ps with
    | nil => exact ⟨by simp [PyData.canLayAll0], by simp [PyData.depthAll]⟩
    | cons p ps ih =>
      obtain ⟨a, b⟩ := ih fun q hq => h q (List.mem_cons_of_mem _ hq)
      have hp := h p List.mem_cons_self
      have sp := shaped_pair hp.1 hp.2
      unfold SeqAt.shaped at sp
      rw [Bool.and_eq_true] at sp
      refine ⟨?_, ?_⟩
      · rw [List.map_cons, PyData.canLayAll0, sp.1, a]; rfl
      · have := depth_pair p
        rw [List.map_cons]
        simp only [PyData.depthAll]
        omega
  unfold SeqAt.shaped
  rw [Bool.and_eq_true]
  refine ⟨by simp only [PyData.canLay0]; exact l.1, decide_eq_true ?_⟩
  simp only [PyData.depth]
  omega
theorem any_pairs {w : Str × Str} : ∀ {ps : List (Str × Str)}, ((ps.map pairD).any fun z => PyData.eqv z (pairD w)) = decide (w ∈ ps)
  | [] => rfl
  | p :: ps => by
    rw [List.map_cons, List.any_cons, any_pairs]
    have e : PyData.eqv (pairD p) (pairD w) = decide (p = w) := by
      unfold pairD
      show PyData.eqvAll [.str p.1, .str p.2] [.str w.1, .str w.2] = _
      have := eqv_strs (a := [p.1, p.2]) (b := [w.1, w.2])
      by_cases c : p = w
      · rw [decide_eq_true c]
        exact this.2 (by rw [c])
      · rw [decide_eq_false c]
        cases e : PyData.eqvAll [.str p.1, .str p.2] [.str w.1, .str w.2] with
        | false => rfl
        | true =>
          have := this.1 e
          injection this with h1 h2
          injection h2 with h2 _
          exact absurd (Prod.ext h1 h2) c
    rw [e]
    by_cases c : p = w
    · rw [c]; simp
    · have : ¬ w = p := fun h => c h.symm
      simp [c, this]
end
theorem PairsAt.updL {H : Hp} {xs : List V} {ps : List (Str × Str)} {p : Addr} {ys : List V} {o : HO} (h : PairsAt H xs ps) (hp : H p = some (.lst ys)) : PairsAt (upd H p o) xs ps := ⟨h.1, fun i x pr a b => by
  obtain ⟨q, e, hq⟩ := h.2 i x pr a b
  exact ⟨q, e, by rw [upd_ne (ne_of hq hp (fun z => by cases z))]; exact hq⟩⟩
theorem PairsAt.snoc {H : Hp} {xs : List V} {ps : List (Str × Str)} {q : Addr} {p : Str × Str} (h : PairsAt H xs ps) (hq : H q = some (.tup [.str p.1, .str p.2])) : PairsAt H (xs ++ [.ref q]) (ps ++ [p]) := ⟨by rw [List.length_append, List.length_append, h.1]; rfl, fun i x pr a b => by
  by_cases c : i < xs.length
  · rw [List.getElem?_append_left c] at a
    rw [List.getElem?_append_left (by rw [← h.1]; exact c)] at b
    exact h.2 i x pr a b
  · rw [List.getElem?_append_right (by omega)] at a
    rw [List.getElem?_append_right (by rw [← h.1]; omega), ← h.1] at b
    match hk : i - xs.length, a, b with
    | 0, a, b =>
      cases a
      cases b
      exact ⟨q, rfl, hq⟩
    | n + 1, a, b => simp at a⟩
theorem PairsAt.nil {H : Hp} : PairsAt H [] [] := ⟨rfl, fun i x pr h => by simp at h⟩
inductive WErr where
  | unknown (z : Str) | same (z : Str) | again (p : Str × Str)
/-- the ways one by one -/
def waysGo (ts : List Str) : List (Str × Str) → List (Str × Str) → Except WErr (List (Str × Str))
  | found, [] => .ok found
  | found, (a, b) :: r => if a ∉ ts then .error (.unknown a) else if b ∉ ts then .error (.unknown b) else if a = b then .error (.same a) else if pr2 a b ∈ found then .error (.again (pr2 a b)) else waysGo ts (found ++ [pr2 a b]) r
def ErP (E : XK) (c : Addr) (n : Str) (p : Str × Str) (H : Hp) : Prop := ∀ (d q : Addr) (H' : Hp), H d = none → H q = none → d ≠ q → H' d = some (.xd [(n, .ref q)]) → H' q = some (.tup [.str p.1, .str p.2]) → (∀ b o, H b = some o → H' b = some o) → E (.ref c) (some d) H'
def WEr (C : CA) (E : XK) (H : Hp) : WErr → Prop
  | .unknown z => Er E C.UnknownTown "town" (.str z) H
  | .same z => Er E C.SameTown "town" (.str z) H
  | .again p => ErP E C.Repeated "thing" p H
def sp_sorted_ways (K : PySem.W.Frag) (C : CA) : Sp := fun vs H Q E => ∃ v pv ts ws, vs = [v, .ref pv] ∧ TownsOf C H v ts ∧ IsPairs H (.ref pv) ws ∧ ws.length ≤ 1000 ∧ (∀ p ∈ ws, nameS p.1 = true ∧ nameS p.2 = true) ∧
  (∀ found, waysGo ts [] ws = .ok found → ∀ t us H', Sm H H' → H t = none → H' t = some (.lst us) → PairsAt H' us (sortP found) → Q (.ref t) H') ∧ ∀ e, waysGo ts [] ws = .error e → WEr C E H e
def rd_sorted_ways (K : PySem.W.Frag) (C : CA) (E : XK) : TS :=
  (tSeq (tAsg (tLst tNil) (gName 2)) (tSeq (tFor (iSeq K 1) (gTupF 2 (gCons (gName 3) (gCons (gName 4) gNil))) (tSeq (tFor (iTup K (tTup (tCons (tVar 3) (tCons (tVar 4) tNil)))) (gName 5) (tDrop (tCallS (sp_check_town K C) (fun _ => E) (tCons (tVar 0) (tCons (tVar 5) tNil))))) (tSeq (tIfS (tTest (tOp (fEq K) (tVar 3) (tVar 4))) (tRaiseF C.SameTown [("town" : Str)] (fun cls d _ H => E cls d H) (tCons (tVar 3) tNil)) tNext) (tSeq (tAsg (tTup (tCons (tCB fMinS (tCons (tVar 3) (tCons (tVar 4) tNil))) (tCons (tCB fMaxS (tCons (tVar 3) (tCons (tVar 4) tNil))) tNil))) (gName 6)) (tSeq (tIfS (tTest (tOp (rInDt K false) (tVar 6) (tVar 2))) (tRaiseF C.Repeated [("thing" : Str)] (fun cls d _ H => E cls d H) (tCons (tVar 6) tNil)) tNext) (tDrop (tBMF "list" fAppend (tVar 2) (tCons (tVar 6) tNil)))))))) (tRet (tCB (fSortDt K) (tCons (tVar 2) tNil)))))
theorem pure_sorted_ways {K : PySem.W.Frag} {C : CA} (vs : List V) (H : Hp) (Q : VK) (E : XK) (h : sp_sorted_ways K C vs H Q E) : rd_sorted_ways K C E { nx := fun _ H' => Q .non H', rt := Q } (start [("towns" : Str), ("ways" : Str), ("found" : Str), ("here" : Str), ("there" : Str), ("town" : Str), ("way" : Str)] vs) H := by
  obtain ⟨v, pv, ts, ws, rfl, T, hw, lw, nw, q1, q2⟩ := h
  show rd_sorted_ways K C E _ [some v, some (.ref pv), none, none, none, none, none] H
  unfold rd_sorted_ways
  refine q_asg ?_
  walk_at "s"
  refine ⟨by decide, fun pf nf => al nf fun H1 s1 h1 => ?_⟩
  refine q_for ?_
  obtain ⟨pv', xs, ev, hpv, lx, hq⟩ := hw
  cases ev
  have pvf : pv ≠ pf := fun e => by rw [e, nf] at hpv; cases hpv
  refine seq_for (fun i σ H' => ∃ c3 c4 c5 c6 found us, σ = [some v, some (.ref pv), some (.ref pf), c3, c4, c5, c6] ∧ Sm H H' ∧ H' pf = some (.lst us) ∧ PairsAt H' us found ∧ waysGo ts [] ws = waysGo ts found (ws.drop i) ∧ found.length ≤ i ∧ ∀ p ∈ found, nameS p.1 = true ∧ nameS p.2 = true)
    rfl (sm_asS hpv s1) ⟨none, none, none, none, [], [], rfl, s1, h1, PairsAt.nil, rfl, Nat.le_refl _, fun p hp => by cases hp⟩ (fun i σ H' _ ⟨_, _, _, _, _, _, _, s, _⟩ => by rw [asS_there hpv s, asS_there hpv s1]) ?_ ?_
  · rintro i x σ H2 hx ⟨c3, c4, c5, c6, found, us, rfl, s2, h2, pa, go, lf, nfd⟩
    have hi : i < ws.length := by rw [← lx]; exact (List.getElem?_eq_some_iff.mp hx).1
    obtain ⟨⟨a, b⟩, hab⟩ : ∃ p, ws[i]? = some p := ⟨ws[i], List.getElem?_eq_getElem hi⟩
    obtain ⟨q, rfl, hq1⟩ := hq i x _ hx hab
    obtain ⟨na, nb⟩ := nw _ (List.mem_of_getElem? hab)
    have hd : ws.drop i = (a, b) :: ws.drop (i + 1) := by rw [List.drop_eq_getElem_cons hi, (List.getElem?_eq_some_iff.mp hab).2]
    rw [hd] at go
    rw [u_gtup, sm_T s2 hq1]
    walk_at "s"
    refine q_for ?_
    rw [u_tupI]
    walk_at "s"
    refine ⟨by decide, fun pt nt => al nt fun H3 s3 h3 => ⟨⟨_, asT_seq (by rw [h3]; rfl)⟩, ?_⟩⟩
    have s23 := sm_trans s2 s3
    refine loop_tup (xs := [.str a, .str b]) (fun j σ H' => ∃ c5, σ = [some v, some (.ref pv), some (.ref pf), some (.str a), some (.str b), c5, c6] ∧ Sm H3 H' ∧ (0 < j → a ∈ ts) ∧ (1 < j → b ∈ ts)) ⟨c5, rfl, fun _ _ h => h, fun h => absurd h (by decide), fun h => absurd h (by decide)⟩
      (fun j σ H' _ ⟨_, _, s, _⟩ => by rw [s _ _ h3]; rfl) ?_ ?_
    · rintro j x σ H4 hx ⟨c5, rfl, s4, g1, g2⟩
      have s34 := sm_trans s23 s4
      walk_at "s"
      refine q_drop1 ?_
      walk_at "s"
      match j, hx with
      | 0, hx =>
        cases hx
        refine ⟨v, a, ts, rfl, T.sm s34, na, fun m H5 s5 => ⟨sm_trans s4 s5, fun _ => m, fun h => absurd h (by decide)⟩, fun m => ?_⟩
        have e : waysGo ts [] ws = .error (.unknown a) := by rw [go]; unfold waysGo; rw [if_pos m]
        exact Er.sm (q2 _ e) s34
      | 1, hx =>
        cases hx
        have ma := g1 (by decide)
        refine ⟨v, b, ts, rfl, T.sm s34, nb, fun m H5 s5 => ⟨sm_trans s4 s5, fun _ => ma, fun _ => m⟩, fun m => ?_⟩
        have e : waysGo ts [] ws = .error (.unknown b) := by rw [go]; unfold waysGo; rw [if_neg (fun z => z ma), if_pos m]
        exact Er.sm (q2 _ e) s34
      | n + 2, hx => simp at hx
    · rintro σ H4 ⟨c5, rfl, s4, g1, g2⟩
      have ma := g1 (by show 0 < 2; decide)
      have mb := g2 (by show 1 < 2; decide)
      have s34 := sm_trans s3 s4
      have s04 := sm_trans s2 s34
      dsimp only
      refine q_if ?_
      walk_at "s"
      refine ite2 (fun c => ?_) fun c => ?_
      · subst c
        have e : waysGo ts [] ws = .error (.same a) := by rw [go]; unfold waysGo; rw [if_neg (fun z => z ma), if_neg (fun z => z ma), if_pos rfl]
        exact ⟨by decide, fun d H' n1 n2 k => Er.sm (q2 _ e) s04 d H' n1 n2 k⟩
      refine q_asg ?_
      walk_at "s"
      refine ⟨by decide, fun pw npw => al npw fun H5 s5 h5 => ?_⟩
      have s05 := sm_trans s04 s5
      have h5 : H5 pw = some (.tup [.str (pr2 a b).1, .str (pr2 a b).2]) := h5
      have hf5 : H5 pf = some (.lst us) := s5 _ _ (s34 _ _ h2)
      have pa5 := pa.sm (sm_trans s34 s5)
      have nn : nameS (pr2 a b).1 = true ∧ nameS (pr2 a b).2 = true := by
        rcases pr2_cases a b with e | e <;> rw [e]
        · exact ⟨na, nb⟩
        · exact ⟨nb, na⟩
      refine q_if ?_
      walk_at "s"
      refine ⟨pairD (pr2 a b), found.map pairD, .tup (asT_seq (by rw [h5]; rfl)) (.cons (.str _) (.cons (.str _) .nil)), .inl (.lst (asL_seq (asL_at hf5)) pa5.dp), shaped_pair nn.1 nn.2, shaped_pairs nfd, ?_⟩
      rw [any_pairs, Bool.false_xor]
      refine ⟨_, rfl, ?_⟩
      by_cases m : pr2 a b ∈ found
      · rw [decide_eq_true m]
        simp only [if_true]
        have e : waysGo ts [] ws = .error (.again (pr2 a b)) := by rw [go]; unfold waysGo; rw [if_neg (fun z => z ma), if_neg (fun z => z mb), if_neg c, if_pos m]
        refine ⟨by decide, fun d H' n1 n2 k => ?_⟩
        have := q2 _ e
        exact this d pw H' (sm_none s05 n1) (sm_none s04 npw) (ne_of_none h5 n1).symm n2 (k _ _ h5) (sm_trans s05 k)
      · rw [decide_eq_false m]
        simp only [Bool.false_eq_true, if_false]
        refine q_drop1 ?_
        walk_at "s"
        refine ⟨tyN_lst hf5, ?_⟩
        rw [hf5]
        dsimp only
        have npf : pw ≠ pf := ne_of h5 hf5 (fun z => by cases z)
        refine ⟨by rw [pa5.1]; show _ < 2 ^ 24; omega, ?_⟩
        refine ⟨sm_put s05 nf, found ++ [pr2 a b], us ++ [.ref pw], by first | rfl | exact upd_same, (pa5.updL hf5).snoc (by rw [upd_ne npf]; exact h5), ?_, by rw [List.length_append]; show _ + 1 ≤ _; omega, fun p hp => ?_⟩
        · rw [go]
          rw [waysGo, if_neg (fun z => z ma), if_neg (fun z => z mb), if_neg c, if_neg m]
        · rcases List.mem_append.1 hp with hp | hp
          · exact nfd p hp
          · rw [List.mem_singleton] at hp
            rw [hp]
            exact nn
  · rintro σ H2 ⟨c3, c4, c5, c6, found, us, rfl, s2, h2, pa, go, lf, nfd⟩
    walk_at "s"
    refine ⟨pf, us, found.map pairD, rfl, asL_seq (asL_at h2), pa.dp, alike_pairs _, sortable_pairs _, depth_pairs _, fun t nt => ?_⟩
    refine q1 found ?_ t _ _ (sm_new s2 nt) (sm_none s2 nt) upd_same (pa.sorted.sm (sm_new (fun _ _ z => z) nt))
    rw [go, lx, List.drop_length]
    rfl
end XB

/-! sorted of a tuple. -/
namespace XB
open PySem PySem.Calls PySem.Spec PyProof.Rows L2
section
variable {prog : Program} {w : World} {A : Around} {E : Value → Shared → Prop} {s : Shared} {l : Addr} {vs : List Value}
theorem collect_tup {Q : List Value → Shared → Prop} (hl : s.heap.IsTuple l vs.toArray) (h : Q vs { s with heap := (s.heap.push (seqObj "list" #[] 0)).update s.heap.objs.size (Obj.mapSeq (· ++ vs.toArray)) }) (hsz : vs.length ≤ sizeLine) : wpAny (model prog w) A (collect (.ref l)) Q E s := by
  obtain ⟨o, ho, hc, n, hd⟩ := id hl
  unfold collect
  refine wpAny_bind (wpAny_runValue (codeAny_builtin entry_proto_collect' ?_))
  show wpAny _ _ (do again (.builtin "list.__iadd__" ⟨[← newList [], Value.ref l], []⟩)) _ _ s
  refine wpAny_bind (wpAny_newList (wpAny_pure ⟨Code.quiet_builtin _ (by decide +kernel), codeAny_builtin entry_list_iadd' ?_⟩))
  show wpAny _ _ (Builtin.List.listExtendWith (.ref s.heap.objs.size) (Value.ref l) (.ref s.heap.objs.size)) _ _ { s with heap := s.heap.push (seqObj "list" #[] 0) }
  unfold Builtin.List.listExtendWith
  have ho' : (s.heap.push (seqObj "list" #[] 0)).get? l = some o := Heap.get?_push_of_some _ ho
  refine wpAny_bind (wpAny_typeOf (T := "tuple") ⟨o, ho', hc⟩ ?_)
  have ht : (Value.type "tuple" == Value.type "tuple") = true := by rfl
  rw [if_pos (by rw [ht]; simp)]
  refine wpAny_bind (listItems_at ho' hd ?_)
  refine wpAny_bind (listItems_at (xs := #[]) (n := 0) (Heap.get?_push_size _ rfl) rfl ?_)
  rw [if_neg (by simp)]
  refine wpAny_bind (listUpdate_at (xs := #[]) (n := 0) (Heap.get?_push_size _ rfl) rfl ?_ (Nat.zero_le _) (by show (#[] ++ vs.toArray).size ≤ sizeLine + 1; simp only [Array.size_append, List.size_toArray, List.length_nil]; omega))
  refine wpAny_pure ?_
  show wpAny (model prog w) A (do
      let o ← load s.heap.objs.size
      match o.data with
      | .seq xs _ => pure xs.toList
      | _ => unsupported "internal:collect") Q E { s with heap := (s.heap.push (seqObj "list" #[] 0)).update s.heap.objs.size (Obj.mapSeq (· ++ vs.toArray)) }
  refine wpAny_bind (wpAny_load (get?_update_seq (Heap.get?_push_size _ rfl) _) ?_)
  show wpAny _ _ (pure ((#[] : Array Value) ++ vs.toArray).toList) Q E _
  rw [show ((#[] : Array Value) ++ vs.toArray).toList = vs by simp]
  exact wpAny_pure h
theorem sortedT {Q : Value → Shared → Prop} (hl : s.heap.IsTuple l vs.toArray) (hL : vs.length ≤ sizeLine)
    (body : ∀ E' : Value → Shared → Prop, wpAny (model prog w) A.in1.in1 (Builtin.«list.sort» ⟨[.ref (s.heap.objs.size + 1)], []⟩) (fun f s' => f = .done (.ret .none) ∧ Q (.ref (s.heap.objs.size + 1)) s') E' { s with heap := PySem.W.copyHeap s.heap vs }) :
    wpAny (model prog w) A (call (.builtin "sorted") [Value.ref l]) Q E s := by
  refine call_function_entry kind_sorted plain_sorted entry_sorted (args_sorted1 _) ?_
  unfold Builtin.«sorted»
  refine wpAny_bind (m := (checkCount "sorted" 1 1 _)) (wpAny_pure ?_)
  refine wpAny_bind (collect_tup hl ?_ hL)
  refine wpAny_bind (wpAny_newList ?_ hL)
  have hz : ((s.heap.push (seqObj "list" #[] 0)).update s.heap.objs.size (Obj.mapSeq (· ++ vs.toArray))).objs.size = s.heap.objs.size + 1 := by
    rw [Heap.size_update, size_push']
  show wpAny _ _ _ _ _ { s with heap := PySem.W.copyHeap s.heap vs }
  rw [hz]
  refine wpAny_bind (wpAny_holding (wpAny_call_entry slot_list_sort ⟨_, PySem.W.copyHeap_at s.heap vs, rfl⟩ entry_list_sort (wpAny_mono (body _) (fun f s' hf => ?_) fun _ _ e => e) (args_list_sort _)))
  obtain ⟨rfl, q⟩ := hf
  exact ⟨_, rfl, wpAny_pure ⟨_, rfl, q⟩⟩
theorem sorted_dataT {β : Type} {R : Value → β → Prop} {enc : β → PyData} {bs : List β} {Q : Value → Shared → Prop} (hl : s.heap.IsTuple l vs.toArray) (e : PySem.W.EachIs R vs bs) (er : PySem.W.EachIs (fun v b => ∃ as, Reads s.heap v (enc b) as) vs bs) (hal : PySem.W.AllAlike (bs.map enc)) (hk : PySem.W.Sortable (bs.map enc)) (hL : bs.length ≤ sizeLine)
    (hu : ∀ b, b ∈ bs → A.units + 2 + (enc b).depth < cLine) (h : ∀ out, out.length = bs.length → PySem.W.EachIs R out (bs.mergeSort (PySem.W.dataLe false enc)) → Q (.ref (s.heap.objs.size + 1)) { s with heap := sortedAll s.heap vs (List.toArray out) }) :
    wpAny (model prog w) A (call (.builtin "sorted") [Value.ref l]) Q E s := by
  have er' : PySem.W.EachIs (fun v b => ∃ as, Reads (PySem.W.sortingHeap (PySem.W.copyHeap s.heap vs) (s.heap.objs.size + 1) vs) v (enc b) as) vs bs := er.mono fun _ _ ⟨as, r⟩ => ⟨as, PyProof.Rows.Reads.keeps (fun _ _ => PySem.W.sorting_copy_old) r⟩
  have S := PySem.W.SortsAt.data (prog := prog) (w := w) (A := A.in1.in1) (s := { s with heap := PySem.W.sortingHeap (PySem.W.copyHeap s.heap vs) (s.heap.objs.size + 1) vs }) (PySem.W.each_map (R := fun v d => ∃ as, Reads (PySem.W.sortingHeap (PySem.W.copyHeap s.heap vs) (s.heap.objs.size + 1) vs) v d as) enc er') hal hk (PySem.W.bound_map hu)
  have hL' : vs.length ≤ sizeLine := by rw [e.length]; exact hL
  exact sortedT hl hL' fun _ => PySem.W.list_sort_vals (s := { s with heap := PySem.W.copyHeap s.heap vs }) (PySem.W.copyHeap_at s.heap vs) S hL' ⟨rfl, h _ (by rw [PySem.W.sortVals_length false rfl]; exact e.length) (PySem.W.sortVals_data false e er' hal)⟩
end
def fSortDq (K : PySem.W.Frag) : RL := fun vs H Q => ∃ (a : Addr) (xs : List V) (ds : List PyData), vs = [.ref a] ∧ (SqL K H a xs ∨ SqT K H a xs) ∧ DpAll K H xs ds ∧ PySem.W.AllAlike ds ∧ PySem.W.Sortable ds ∧ (∀ d ∈ ds, d.depth ≤ 50) ∧
  ∀ p, H p = none → Q (.ref p) (upd H p (.lst (((xs.zip ds).mergeSort (PySem.W.dataLe false Prod.snd)).map Prod.fst)))
section
variable {X : Cx}
theorem c_sortDq (hu : X.A.units + 64 < cLine) : CallR X (.builtin "sorted") (fSortDq X.K) := by
  intro pins s σ H vs us Q I r ⟨a, xs, ds, ex, hs, hd, hal, hk, hdep, q⟩
  rcases hs with hs | hs
  · exact c_sortDt hu pins s σ H vs us Q I r ⟨a, xs, ds, ex, hs, hd, hal, hk, hdep, q⟩
  subst ex
  obtain ⟨its, rv, hl, hz⟩ := I.tuple hs
  obtain ⟨u, rfl, ru⟩ := r.one
  cases ru
  obtain ⟨e1, e2⟩ := each_zip I hd rv
  have em := zip_snd (dpAll_len hd)
  have lz : its.length ≤ sizeLine := by rw [← rv.length]; exact hz
  refine sorted_dataT (enc := Prod.snd) (bs := xs.zip ds) hl e1 e2 (by rw [em]; exact hal) (by rw [em]; exact hk) (by rw [List.length_zip]; omega) (fun b hb => ?_) fun out lo eo => ?_
  · have : b.2 ∈ ds := by rw [← em]; exact List.mem_map.mpr ⟨b, hb, rfl⟩
    have := hdep _ this
    omega
  · have rvo := vals_each eo
    have lm : (((xs.zip ds).mergeSort (PySem.W.dataLe false Prod.snd)).map Prod.fst).length ≤ sizeLine := by
      rw [List.length_map, List.length_mergeSort, List.length_zip]
      omega
    obtain ⟨n, hn⟩ := sortedAll_at s.heap its out.toArray
    refine ⟨.ref (s.heap.objs.size + 1), _, I.laid (o := .lst (((xs.zip ds).mergeSort (PySem.W.dataLe false Prod.snd)).map Prod.fst)) (t' := s.toks) (fun b o e => sortedAll_old e) (Nat.le_succ _) ⟨lm, out, n, rvo, ?_⟩, rfl, q _ (I.hok.fresh (Nat.le_succ _))⟩
    exact hn
end
/-! ### texts sorted -/
def sortZ (zs : List Str) : List Str := zs.mergeSort fun a b => !ltZ b a
theorem sortZ_perm (zs : List Str) : (sortZ zs).Perm zs := List.mergeSort_perm _ _
theorem leZ_tot (a b : Str) : ((!ltZ b a) || (!ltZ a b)) = true := by
  cases x : ltZ b a with
  | false => rfl
  | true =>
    cases y : ltZ a b with
    | false => rfl
    | true => exact absurd ((ltZ_iff.1 x).trans (ltZ_iff.1 y)) LtS.irrefl
theorem leZ_trans (a b c : Str) (h : (!ltZ b a) = true) (k : (!ltZ c b) = true) : (!ltZ c a) = true := by
  have h : ¬ LtS b a := fun z => by rw [ltZ_iff.2 z] at h; cases h
  have k : ¬ LtS c b := fun z => by rw [ltZ_iff.2 z] at k; cases k
  cases x : ltZ c a with
  | false => rfl
  | true => exact absurd (ltZ_iff.1 x) (LtS.le_trans h k)
theorem sortZ_pair (zs : List Str) : (sortZ zs).Pairwise fun a b => ¬ LtS b a := (List.pairwise_mergeSort leZ_trans leZ_tot zs).imp fun {a b} h z => by rw [ltZ_iff.2 z] at h; cases h
theorem sortZ_eq {a b : List Str} (h : a.Perm b) (hb : b.Pairwise fun a b => ¬ LtS b a) : sortZ a = b := List.Perm.eq_of_pairwise (fun x y _ _ h1 h2 => LtS.antisymm h2 h1) (sortZ_pair a) hb ((sortZ_perm a).trans h)
theorem sortZ_srt {a b : List Str} (h : b.Perm a) (hb : sortedS b = true) : b = sortZ a := (sortZ_eq h.symm (srt_pair hb)).symm
theorem strs_sorted (zs : List Str) : (((zs.map V.str).zip (zs.map PyData.str)).mergeSort (PySem.W.dataLe false Prod.snd)).map Prod.fst = (sortZ zs).map V.str := by
  have e1 : (zs.map V.str).zip (zs.map PyData.str) = zs.map fun z => (V.str z, PyData.str z) := by
    rw [List.zip_map]
    induction zs with
    | nil => rfl
    | cons z r ih => rw [List.zip_cons_cons, List.map_cons, List.map_cons, ih]; rfl
  have e2 : (sortZ zs).map (fun z => (V.str z, PyData.str z)) = (zs.map fun z => (V.str z, PyData.str z)).mergeSort (PySem.W.dataLe false Prod.snd) := by
    refine List.map_mergeSort fun a _ b _ => ?_
    rw [PySem.W.dataLe_eq]
    show (!ltZ b a) = !PySem.W.dataLt (.str b) (.str a)
    rw [PySem.W.dataLt_str]
    rfl
  rw [e1, ← e2, List.map_map]
  rfl
theorem alike_strs (zs : List Str) : PySem.W.AllAlike (zs.map PyData.str) := fun d hd d' hd' => by
  obtain ⟨p, _, rfl⟩ := List.mem_map.1 hd
  obtain ⟨q, _, rfl⟩ := List.mem_map.1 hd'
  rfl
theorem sortable_strs (zs : List Str) : PySem.W.Sortable (zs.map PyData.str) := .inr fun d hd => by
  obtain ⟨p, _, rfl⟩ := List.mem_map.1 hd
  exact ⟨fun e => (by cases e), fun xs e => (by cases e)⟩
theorem depth_strs (zs : List Str) : ∀ d ∈ zs.map PyData.str, d.depth ≤ 50 := fun d hd => by
  obtain ⟨p, _, rfl⟩ := List.mem_map.1 hd
  simp [PyData.depth]
end XB

/-! Neighbours made. -/
namespace XB
open PySem L2
local macro_rules | `(tactic| walk_at "s") => `(tactic| try simp only [u_var, u_c, u_op, u_un, u_nil, u_cons, u_cb, u_call, u_callS, u_tup, u_lst, u_test, u_B, u_and, u_or, u_not, u_andV, u_orV, u_notV, u_ifE, u_chain, u_sl, u_noPart, u_part, u_bm, u_bm0, u_rev, u_lc, u_try, u_sui, u_sui0, u_unb_rt, u_unb_nx, u_xf, u_WE, w_nil, w_cons, u_raise, u_rng1, u_rng2, u_next, u_ret, u_gname, u_gnil, u_gcons, u_gsub, u_gtup,
  f_add, f_addS, f_addR, f_sub, f_mul, f_mulR, f_mod, f_div, f_pow, f_neg, f_cmp, f_eq, f_eqB, f_eqS, f_ne, f_neB, f_neS, f_isN, f_notN, f_isB, f_ix, f_ixS, f_int, f_intB, f_len, f_lenS, f_max, f_min, f_abs, f_list, f_tuple, f_all, f_sum, f_isi, f_isiT, f_append, f_insert, f_pop, f_sl, f_set, u_fldW, u_propW, u_makeS, u_makeL, u_cmethS, u_methS, u_ostW, f_isC, f_minSS, f_maxSS, f_reverse,
  kitS, tys, List.isEmpty_cons, Option.map_some, kt_NoneType_int, kt_NoneType_bool, kt_NoneType_str, kt_NoneType_list, kt_NoneType_tuple, kt_NoneType_dict, kt_int_int, kt_int_bool, kt_int_str, kt_int_list, kt_int_tuple, kt_int_dict, kt_bool_int, kt_bool_bool, kt_bool_str, kt_bool_list, kt_bool_tuple, kt_bool_dict, kt_str_int, kt_str_bool, kt_str_str, kt_str_list, kt_str_tuple, kt_str_dict, kt_list_int, kt_list_bool, kt_list_str, kt_list_list, kt_list_tuple, kt_list_dict, kt_tuple_int, kt_tuple_bool, kt_tuple_str, kt_tuple_list, kt_tuple_tuple, kt_tuple_dict, kt_dict_int, kt_dict_bool, kt_dict_str, kt_dict_list, kt_dict_tuple, kt_dict_dict, asL_lst, asL_frz, asL_tup, asT_tup, asS_lst, asS_frz, asS_tup, tyN_non, tyN_bl, tyN_int, tyN_str, atV_lit, ixN_lit, upd_same, upd_ne, upd_ne',
  List.getElem?_cons_zero, List.getElem?_cons_succ, List.set_cons_zero, List.set_cons_succ, List.append_nil, List.length_cons, List.length_nil, Option.some.injEq, exists_eq_left', exists_eq_left, exists_and_left, V.bl.injEq, V.int.injEq, V.str.injEq, V.ref.injEq, Bool.not_eq_true, Bool.not_true, Bool.not_false, decide_true, decide_false, decide_eq_true_eq, decide_eq_false_iff_not, Bool.false_eq_true, if_true, if_false, ite_true, ite_false, reduceCtorEq, true_and, and_true, Nat.reduceAdd, Nat.reduceLT, Nat.zero_add, ne_eq, not_false_eq_true, not_true_eq_false, List.cons.injEq, and_assoc])
local macro_rules | `(tactic| walk_at "S") => `(tactic| try simp only [u_var, u_c, u_op, u_un, u_nil, u_cons, u_cb, u_call, u_callS, u_tup, u_lst, u_test, u_B, u_and, u_or, u_not, u_andV, u_orV, u_notV, u_ifE, u_chain, u_sl, u_noPart, u_part, u_bm, u_bm0, u_rev, u_lc, u_try, u_sui, u_sui0, u_unb_rt, u_unb_nx, u_xf, u_WE, w_nil, w_cons, u_raise, u_rng1, u_rng2, u_next, u_ret, u_gname, u_gnil, u_gcons, u_gsub, u_gtup,
  f_add, f_addS, f_addR, f_sub, f_mul, f_mulR, f_mod, f_div, f_pow, f_neg, f_cmp, f_eq, f_eqB, f_eqS, f_ne, f_neB, f_neS, f_isN, f_notN, f_isB, f_ix, f_ixS, f_int, f_intB, f_len, f_lenS, f_max, f_min, f_abs, f_list, f_tuple, f_all, f_sum, f_isi, f_isiT, f_append, f_insert, f_pop, f_sl, f_set, u_fldW, u_propW, u_makeS, u_makeL, u_cmethS, u_methS, u_ostW, f_isC, f_minSS, f_maxSS, f_reverse,
  kitS, tys, List.isEmpty_cons, Option.map_some, kt_NoneType_int, kt_NoneType_bool, kt_NoneType_str, kt_NoneType_list, kt_NoneType_tuple, kt_NoneType_dict, kt_int_int, kt_int_bool, kt_int_str, kt_int_list, kt_int_tuple, kt_int_dict, kt_bool_int, kt_bool_bool, kt_bool_str, kt_bool_list, kt_bool_tuple, kt_bool_dict, kt_str_int, kt_str_bool, kt_str_str, kt_str_list, kt_str_tuple, kt_str_dict, kt_list_int, kt_list_bool, kt_list_str, kt_list_list, kt_list_tuple, kt_list_dict, kt_tuple_int, kt_tuple_bool, kt_tuple_str, kt_tuple_list, kt_tuple_tuple, kt_tuple_dict, kt_dict_int, kt_dict_bool, kt_dict_str, kt_dict_list, kt_dict_tuple, kt_dict_dict, asL_lst, asL_frz, asL_tup, asT_tup, asS_lst, asS_frz, asS_tup, tyN_non, tyN_bl, tyN_int, tyN_str, atV_lit, ixN_lit, upd_same, upd_ne, upd_ne',
  List.getElem?_cons_zero, List.getElem?_cons_succ, List.set_cons_zero, List.set_cons_succ, List.append_nil, List.length_cons, List.length_nil, Option.some.injEq, exists_eq_left', exists_eq_left, exists_and_left, V.bl.injEq, V.int.injEq, V.str.injEq, V.ref.injEq, Bool.not_eq_true, Bool.not_true, Bool.not_false, decide_true, decide_false, decide_eq_true_eq, decide_eq_false_iff_not, Bool.false_eq_true, if_true, if_false, ite_true, ite_false, reduceCtorEq, true_and, and_true, Nat.reduceAdd, Nat.reduceLT, Nat.zero_add, ne_eq, not_false_eq_true, not_true_eq_false, List.cons.injEq, and_assoc, *])
section
variable {K : PySem.W.Frag} {σ : L2.St} {H H1 : Hp} {n m : Nat}
/-- a dict made over a list that stands -/
theorem dc_lst {a D : Addr} {xs : List V} {g : TG} {tt : TT} {tk tv : TE} {vs : List Nat} {Qd : Hp → Prop} (Pv : Nat → Hp → Prop) (start : Pv 0 (upd H1 D (.dK []))) (stay : ∀ i H, i ≤ xs.length → Pv i H → asL (H a) = some xs)
    (turn : ∀ i x H, xs[i]? = some x → Pv i H → g x (wipe σ vs) H fun σ2 H2 => wipe σ2 vs = wipe σ vs ∧ tt σ2 H2 fun b H3 =>
      if b = true then tk σ2 H3 fun y H4 => tv σ2 H4 fun z H5 => ∃ kvs k, y = kV k ∧ H5 D = some (.dK kvs) ∧ kvs.length < sizeLine ∧ Pv (i + 1) (upd H5 D (.dK (putK kvs k z))) else Pv (i + 1) H3) (after : ∀ H, Pv xs.length H → Qd H) :
    ∃ W : Nat → Nat → Hp → Prop, (∃ m, W 0 m (upd H1 D (.dK []))) ∧ ∀ i m H, W i m H →
      ((Itl K a).stop i H ∧ Qd H) ∨ ((Itl K a).go i H ∧ ∃ Nx : Hp → Prop, (∀ H', Nx H' → ∃ m', m' < m ∧ W (i + 1) m' H') ∧ ∀ x H', (Itl K a).yld i H x H' → g x (wipe σ vs) H' fun σ2 H2 => wipe σ2 vs = wipe σ vs ∧ tt σ2 H2 fun b H3 =>
        if b = true then tk σ2 H3 fun y H4 => tv σ2 H4 fun z H5 => ∃ kvs k, y = kV k ∧ H5 D = some (.dK kvs) ∧ kvs.length < sizeLine ∧ Nx (upd H5 D (.dK (putK kvs k z))) else Nx H3) := by
  refine ⟨fun i m H => m = xs.length - i ∧ i ≤ xs.length ∧ Pv i H, ⟨xs.length, by simp, Nat.zero_le _, start⟩, ?_⟩
  rintro i m H ⟨rfl, hi, p⟩
  have q := asL_seq (K := K) (stay i H hi p)
  by_cases c : i < xs.length
  · refine .inr ⟨⟨xs, xs[i], q, by simp [c]⟩, Pv (i + 1), fun H' p' => ⟨xs.length - (i + 1), by omega, rfl, c, p'⟩, fun x H' y => ?_⟩
    obtain ⟨e, y⟩ := y
    subst e
    exact turn i x _ (y xs q) p
  · have e : i = xs.length := by omega
    subst e
    exact .inl ⟨⟨xs, q, Nat.le_refl _⟩, after H p⟩
/-- the texts of a list or tuple that are kept -/
theorem seq_filter {p : Addr} {ts : List Str} {tt : TT} {te : TE} {vs : List Nat} {R : Addr → Hp → Prop} (b : Str → Bool) (hσ : σ[n]? = some (some (.ref p))) (hp : asS (H p) = some (ts.map V.str)) (hz : ts.length < 1000) (hw : ∀ x, wipe ((wipe σ vs).set m (some x)) vs = wipe σ vs)
    (ht : ∀ (i : Nat) (z : Str) (H' : Hp) (Q : Bool → Hp → Prop), ts[i]? = some z → Sm H H' → (∀ H2, Sm H' H2 → Q (b z) H2) → tt ((wipe σ vs).set m (some (.str z))) H' Q) (he : ∀ (z : Str) (H' : Hp) (Q : VK), Q (.str z) H' → te ((wipe σ vs).set m (some (.str z))) H' Q)
    (hd : ∀ D H', H D = none → Sm H H' → H' D = some (.lst ((ts.filter b).map V.str)) → R D H') : iSeq K n σ H fun J H1 => ∀ D, H1 D = none → Made J (gName m) tt te vs σ D H1 (R D) := by
  have turn : ∀ D, H D = none → ∀ i x H', (ts.map V.str)[i]? = some x → (Sm H H' ∧ H' D = some (.lst (((ts.take i).filter b).map V.str))) → gName m x (wipe σ vs) H' fun σ2 H2 => wipe σ2 vs = wipe σ vs ∧ tt σ2 H2 fun c H3 =>
      if c = true then te σ2 H3 fun y H4 => ∃ acc, H4 D = some (.lst acc) ∧ acc.length < sizeLine ∧ (Sm H (upd H4 D (.lst (acc ++ [y]))) ∧ upd H4 D (.lst (acc ++ [y])) D = some (.lst (((ts.take (i + 1)).filter b).map V.str))) else (Sm H H3 ∧ H3 D = some (.lst (((ts.take (i + 1)).filter b).map V.str))) := fun D nD i x H' hx ⟨s, h⟩ => by
    rw [List.getElem?_map, Option.map_eq_some_iff] at hx
    obtain ⟨z, hz2, rfl⟩ := hx
    refine ⟨hw _, ht i z H' _ hz2 s fun H2 s2 => ?_⟩
    have et : ts.take (i + 1) = ts.take i ++ [z] := by rw [List.take_add_one, hz2]; rfl
    cases c : b z with
    | true =>
      rw [if_pos rfl]
      refine he z H2 _ ⟨_, s2 _ _ h, ?_, sm_put (sm_trans s s2) nD, ?_⟩
      · have := List.length_filter_le b (ts.take i)
        have := List.length_take_le' i ts
        rw [List.length_map]
        show _ < 2 ^ 24
        omega
      · rw [upd_same, et, List.filter_append, List.map_append]
        simp [c]
    | false =>
      rw [if_neg Bool.false_ne_true]
      refine ⟨sm_trans s s2, ?_⟩
      rw [et, List.filter_append]
      simp only [List.filter_cons, c, Bool.false_eq_true, if_false, List.filter_nil, List.append_nil]
      exact s2 _ _ h
  rcases asS_or hp with e | e
  · refine .inl ?_
    rw [u_list]
    refine ⟨_, hσ, p, rfl, ⟨_, asL_seq e⟩, fun D hD => made_list (fun i H' => Sm H H' ∧ H' D = some (.lst (((ts.take i).filter b).map V.str))) ⟨sm_new (fun _ _ h => h) hD, by rw [upd_same]; rfl⟩ (fun i H' _ p => sm_L p.1 e) (turn D hD) fun H' p => hd D H' hD p.1 ?_⟩
    have := p.2
    rw [List.length_map, List.take_length] at this
    exact this
  · refine .inr ?_
    rw [u_tupI]
    refine ⟨_, hσ, p, rfl, ⟨_, asT_seq e⟩, fun D hD => lc_tup (K := K) (fun i H' => Sm H H' ∧ H' D = some (.lst (((ts.take i).filter b).map V.str))) ⟨sm_new (fun _ _ h => h) hD, by rw [upd_same]; rfl⟩ (fun i H' _ p => asT_seq (sm_T p.1 e)) (turn D hD) fun H' p => hd D H' hD p.1 ?_⟩
    have := p.2
    rw [List.length_map, List.take_length] at this
    exact this
end
def nearOf (ts : List Str) (ways : List (Str × Str)) (z : Str) : List Str := sortZ (z :: ts.filter fun o => decide (pr2 z o ∈ ways))
def sp_near_towns (K : PySem.W.Frag) (C : CA) : Sp := fun vs H Q _ => ∃ z p ts wt us ways, vs = [.str z, .ref p, .ref wt] ∧ nameS z = true ∧ asS (H p) = some (ts.map V.str) ∧ ts.length ≤ 100 ∧ (∀ y ∈ ts, nameS y = true) ∧ H wt = some (.tup us) ∧ PairsAt H us ways ∧ (∀ w ∈ ways, nameS w.1 = true ∧ nameS w.2 = true) ∧
  ∀ t H', Sm H H' → H t = none → H' t = some (.tup ((nearOf ts ways z).map V.str)) → Q (.ref t) H'
def rd_near_towns (K : PySem.W.Frag) (C : CA) (E : XK) : TS :=
  (tSeq (tAsg (tLc (iSeq K 1) (gName 4) (tTest (tOp (rInDt K false) (tTup (tCons (tCB fMinS (tCons (tVar 0) (tCons (tVar 4) tNil))) (tCons (tCB fMaxS (tCons (tVar 0) (tCons (tVar 4) tNil))) tNil))) (tVar 2))) (tVar 4) [4]) (gName 3)) (tRet (tCB fTuple (tCons (tCB (fSortDq K) (tCons (tOp fAdd (tLst (tCons (tVar 0) tNil)) (tVar 3)) tNil)) tNil))))
theorem pure_near_towns {K : PySem.W.Frag} {C : CA} (vs : List V) (H : Hp) (Q : VK) (E : XK) (h : sp_near_towns K C vs H Q E) : rd_near_towns K C E { nx := fun _ H' => Q .non H', rt := Q } (start [("town" : Str), ("towns" : Str), ("ways" : Str), ("joined" : Str), ("other" : Str)] vs) H := by
  obtain ⟨z, p, ts, wt, us, ways, rfl, nz, hp, lt, nt, hw, pa, nw, q⟩ := h
  show rd_near_towns K C E _ [some (.str z), some (.ref p), some (.ref wt), none, none] H
  unfold rd_near_towns
  refine q_asg ?_
  rw [u_lc]
  refine seq_filter (fun o => decide (pr2 z o ∈ ways)) rfl hp (by omega) (fun _ => rfl) (fun i o H1 Q1 ho s1 q1 => ?_) (fun o H1 Q1 h => ⟨_, rfl, h⟩) fun pj H1 nj s1 h1 => ?_
  · have no := nt o (List.mem_of_getElem? ho)
    walk_at "s"
    refine ⟨by decide, fun pw npw => al npw fun H2 s2 h2 => ?_⟩
    have h2 : H2 pw = some (.tup [.str (pr2 z o).1, .str (pr2 z o).2]) := h2
    have nn : nameS (pr2 z o).1 = true ∧ nameS (pr2 z o).2 = true := by
      rcases pr2_cases z o with e | e <;> rw [e]
      · exact ⟨nz, no⟩
      · exact ⟨no, nz⟩
    have s12 := sm_trans s1 s2
    refine ⟨pairD (pr2 z o), ways.map pairD, .tup (asT_seq (by rw [h2]; rfl)) (.cons (.str _) (.cons (.str _) .nil)), .inr (.tup (asT_seq (by rw [s12 _ _ hw]; rfl)) (pa.sm s12).dp), shaped_pair nn.1 nn.2, shaped_pairs nw, ?_⟩
    rw [any_pairs, Bool.false_xor]
    exact ⟨_, rfl, q1 H2 s2⟩
  · walk_at "s"
    refine ⟨by decide, fun pa1 na1 => al na1 fun H2 s2 h2 => ?_⟩
    rw [s2 _ _ h1]
    dsimp only
    have lj := List.length_filter_le (fun o => decide (pr2 z o ∈ ways)) ts
    refine ⟨by rw [List.length_map]; show 1 + _ ≤ 2 ^ 24; omega, fun pb nb => al nb fun H3 s3 h3 => ?_⟩
    have e3 : ([V.str z] ++ (ts.filter fun o => decide (pr2 z o ∈ ways)).map V.str) = (z :: ts.filter fun o => decide (pr2 z o ∈ ways)).map V.str := rfl
    rw [e3] at h3
    refine ⟨pb, _, _, rfl, .inl (asL_seq (asL_at h3)), dp_strs _, alike_strs _, sortable_strs _, depth_strs _, fun pc nc => al nc fun H4 s4 h4 => ?_⟩
    rw [strs_sorted] at h4
    rw [f_tuple, asL_at h4]
    dsimp only
    exact fun pt npt => q pt _ (sm_new (sm_trans s1 (sm_trans s2 (sm_trans s3 s4))) npt) (sm_none (sm_trans s1 (sm_trans s2 (sm_trans s3 s4))) npt) upd_same
end XB

/-! A web made. -/
namespace XB
open PySem L2
local macro_rules | `(tactic| walk_at "s") => `(tactic| try simp only [u_var, u_c, u_op, u_un, u_nil, u_cons, u_cb, u_call, u_callS, u_tup, u_lst, u_test, u_B, u_and, u_or, u_not, u_andV, u_orV, u_notV, u_ifE, u_chain, u_sl, u_noPart, u_part, u_bm, u_bm0, u_rev, u_lc, u_try, u_sui, u_sui0, u_unb_rt, u_unb_nx, u_xf, u_WE, w_nil, w_cons, u_raise, u_rng1, u_rng2, u_next, u_ret, u_gname, u_gnil, u_gcons, u_gsub, u_gtup,
  f_add, f_addS, f_addR, f_sub, f_mul, f_mulR, f_mod, f_div, f_pow, f_neg, f_cmp, f_eq, f_eqB, f_eqS, f_ne, f_neB, f_neS, f_isN, f_notN, f_isB, f_ix, f_ixS, f_int, f_intB, f_len, f_lenS, f_max, f_min, f_abs, f_list, f_tuple, f_all, f_sum, f_isi, f_isiT, f_append, f_insert, f_pop, f_sl, f_set, u_fldW, u_propW, u_makeS, u_makeL, u_cmethS, u_methS, u_ostW, f_isC, f_minSS, f_maxSS, f_reverse,
  kitS, tys, List.isEmpty_cons, Option.map_some, kt_NoneType_int, kt_NoneType_bool, kt_NoneType_str, kt_NoneType_list, kt_NoneType_tuple, kt_NoneType_dict, kt_int_int, kt_int_bool, kt_int_str, kt_int_list, kt_int_tuple, kt_int_dict, kt_bool_int, kt_bool_bool, kt_bool_str, kt_bool_list, kt_bool_tuple, kt_bool_dict, kt_str_int, kt_str_bool, kt_str_str, kt_str_list, kt_str_tuple, kt_str_dict, kt_list_int, kt_list_bool, kt_list_str, kt_list_list, kt_list_tuple, kt_list_dict, kt_tuple_int, kt_tuple_bool, kt_tuple_str, kt_tuple_list, kt_tuple_tuple, kt_tuple_dict, kt_dict_int, kt_dict_bool, kt_dict_str, kt_dict_list, kt_dict_tuple, kt_dict_dict, asL_lst, asL_frz, asL_tup, asT_tup, asS_lst, asS_frz, asS_tup, tyN_non, tyN_bl, tyN_int, tyN_str, atV_lit, ixN_lit, upd_same, upd_ne, upd_ne',
  List.getElem?_cons_zero, List.getElem?_cons_succ, List.set_cons_zero, List.set_cons_succ, List.append_nil, List.length_cons, List.length_nil, Option.some.injEq, exists_eq_left', exists_eq_left, exists_and_left, V.bl.injEq, V.int.injEq, V.str.injEq, V.ref.injEq, Bool.not_eq_true, Bool.not_true, Bool.not_false, decide_true, decide_false, decide_eq_true_eq, decide_eq_false_iff_not, Bool.false_eq_true, if_true, if_false, ite_true, ite_false, reduceCtorEq, true_and, and_true, Nat.reduceAdd, Nat.reduceLT, Nat.zero_add, ne_eq, not_false_eq_true, not_true_eq_false, List.cons.injEq, and_assoc])
local macro_rules | `(tactic| walk_at "S") => `(tactic| try simp only [u_var, u_c, u_op, u_un, u_nil, u_cons, u_cb, u_call, u_callS, u_tup, u_lst, u_test, u_B, u_and, u_or, u_not, u_andV, u_orV, u_notV, u_ifE, u_chain, u_sl, u_noPart, u_part, u_bm, u_bm0, u_rev, u_lc, u_try, u_sui, u_sui0, u_unb_rt, u_unb_nx, u_xf, u_WE, w_nil, w_cons, u_raise, u_rng1, u_rng2, u_next, u_ret, u_gname, u_gnil, u_gcons, u_gsub, u_gtup,
  f_add, f_addS, f_addR, f_sub, f_mul, f_mulR, f_mod, f_div, f_pow, f_neg, f_cmp, f_eq, f_eqB, f_eqS, f_ne, f_neB, f_neS, f_isN, f_notN, f_isB, f_ix, f_ixS, f_int, f_intB, f_len, f_lenS, f_max, f_min, f_abs, f_list, f_tuple, f_all, f_sum, f_isi, f_isiT, f_append, f_insert, f_pop, f_sl, f_set, u_fldW, u_propW, u_makeS, u_makeL, u_cmethS, u_methS, u_ostW, f_isC, f_minSS, f_maxSS, f_reverse,
  kitS, tys, List.isEmpty_cons, Option.map_some, kt_NoneType_int, kt_NoneType_bool, kt_NoneType_str, kt_NoneType_list, kt_NoneType_tuple, kt_NoneType_dict, kt_int_int, kt_int_bool, kt_int_str, kt_int_list, kt_int_tuple, kt_int_dict, kt_bool_int, kt_bool_bool, kt_bool_str, kt_bool_list, kt_bool_tuple, kt_bool_dict, kt_str_int, kt_str_bool, kt_str_str, kt_str_list, kt_str_tuple, kt_str_dict, kt_list_int, kt_list_bool, kt_list_str, kt_list_list, kt_list_tuple, kt_list_dict, kt_tuple_int, kt_tuple_bool, kt_tuple_str, kt_tuple_list, kt_tuple_tuple, kt_tuple_dict, kt_dict_int, kt_dict_bool, kt_dict_str, kt_dict_list, kt_dict_tuple, kt_dict_dict, asL_lst, asL_frz, asL_tup, asT_tup, asS_lst, asS_frz, asS_tup, tyN_non, tyN_bl, tyN_int, tyN_str, atV_lit, ixN_lit, upd_same, upd_ne, upd_ne',
  List.getElem?_cons_zero, List.getElem?_cons_succ, List.set_cons_zero, List.set_cons_succ, List.append_nil, List.length_cons, List.length_nil, Option.some.injEq, exists_eq_left', exists_eq_left, exists_and_left, V.bl.injEq, V.int.injEq, V.str.injEq, V.ref.injEq, Bool.not_eq_true, Bool.not_true, Bool.not_false, decide_true, decide_false, decide_eq_true_eq, decide_eq_false_iff_not, Bool.false_eq_true, if_true, if_false, ite_true, ite_false, reduceCtorEq, true_and, and_true, Nat.reduceAdd, Nat.reduceLT, Nat.zero_add, ne_eq, not_false_eq_true, not_true_eq_false, List.cons.injEq, and_assoc, *])
theorem put_fresh {f : Str → Addr} {row : List Str} {z : Str} {t : Addr} (h : z ∉ row) : putK (kvsOf f row) (Sum.inr z) (.ref t) = kvsOf (fun y => if y = z then t else f y) (row ++ [z]) := by
  have e : valV (kvsOf f row) (Sum.inr z : Key) = none := by rw [val_kvs, if_neg h]
  rw [putK_new _ e]
  unfold kvsOf
  rw [List.map_append]
  congr 1
  · refine List.map_congr_left fun y hy => ?_
    dsimp only
    rw [if_neg (fun c : y = z => h (by rw [← c]; exact hy))]
  · show [_] = [((Sum.inr z : Key), V.ref (if z = z then t else f z))]
    rw [if_pos rfl]
theorem fld2 {wt d : Addr} : putF ("_near" : Str) (.ref d) (putF ("_ways" : Str) (.ref wt) []) = wFld wt d := by
  show (if ("_ways" : Str) = ("_near" : Str) then _ else (("_ways" : Str), V.ref wt) :: putF ("_near" : Str) (.ref d) []) = _
  rw [if_neg (by decide +kernel)]
  rfl
def NamesZ (zs : List Str) : Prop := ∀ z ∈ zs, nameS z = true
def Pairs2 (ws : List (Str × Str)) : Prop := ∀ p ∈ ws, nameS p.1 = true ∧ nameS p.2 = true
theorem waysGo_names {ts : List Str} : ∀ {ws found fs : List (Str × Str)}, Pairs2 ws → Pairs2 found → waysGo ts found ws = .ok fs → Pairs2 fs
  | [], found, fs, _, h, e => by
    cases e
    exact h
  | (a, b) :: r, found, fs, hw, h, e => by
    unfold waysGo at e
    split at e
    · cases e
    · split at e
      · cases e
      · split at e
        · cases e
        · split at e
          · cases e
          · refine waysGo_names (fun p hp => hw p (List.mem_cons_of_mem _ hp)) (fun p hp => ?_) e
            rcases List.mem_append.1 hp with hp | hp
            · exact h p hp
            · rw [List.mem_singleton] at hp
              rw [hp]
              have := hw (a, b) List.mem_cons_self
              rcases pr2_cases a b with e | e <;> rw [e]
              · exact this
              · exact ⟨this.2, this.1⟩
theorem IsPairs.back {v : V} {H H' : Hp} {ps : List (Str × Str)} (h : IsPairs H' v ps) (s : Sm H H') (t : Tab H v) : IsPairs H v ps := by
  obtain ⟨p, xs, e, hx, l, k⟩ := h
  have hx := back_S s t.1 e hx
  obtain ⟨_, kt⟩ := t.2 p xs e hx
  refine ⟨p, xs, e, hx, l, fun i x pr h1 h2 => ?_⟩
  obtain ⟨q, e, hq⟩ := k i x pr h1 h2
  exact ⟨q, e, back_T s (kt x (List.mem_of_getElem? h1)).1 e hq⟩
theorem WEr.sm {C : CA} {E : XK} {H H1 : Hp} {e : WErr} (h : WEr C E H e) (s : Sm H H1) : WEr C E H1 e := match e, h with
  | .unknown z, h => Er.sm h s
  | .same z, h => Er.sm h s
  | .again p, h => fun d q H' n1 n2 n3 h1 h2 k => h d q H' (sm_none s n1) (sm_none s n2) n3 h1 h2 (sm_trans s k)
theorem ne_of_none' {H : Hp} {p q : Addr} {o : HO} (h : H p = some o) (n : H q = none) : q ≠ p := fun e => by
  rw [e, h] at n
  cases n
def KpP (p : Addr) (H H' : Hp) : Prop := ∀ (b : Addr) (o : HO), b ≠ p → H b = some o → H' b = some o
theorem KpP.put {p : Addr} {H H1 : Hp} {o : HO} (s : KpP p H H1) : KpP p H (upd H1 p o) := fun b u n e => by
  rw [upd_ne n]
  exact s b u n e
theorem KpP.sm {p : Addr} {H H1 H2 : Hp} (k : KpP p H H1) (s : Sm H1 H2) : KpP p H H2 := fun b u n e => s _ _ (k b u n e)
theorem PairsAt.kp {p : Addr} {H H' : Hp} {xs : List V} {ps : List (Str × Str)} {c : Addr} {dx : Nat} {fs : List (Str × V)} (h : PairsAt H xs ps) (hp : H p = some (.ins c dx fs)) (k : KpP p H H') : PairsAt H' xs ps := ⟨h.1, fun i x pr a b => by
  obtain ⟨q, e, hq⟩ := h.2 i x pr a b
  exact ⟨q, e, k _ _ (ne_of hq hp (fun z => by cases z)) hq⟩⟩
def sp_Web_init (K : PySem.W.Frag) (C : CA) : Sp := fun vs H Q E => ∃ p dx tv wv, vs = [.ref p, tv, wv] ∧ H p = some (.ins C.Web dx []) ∧ Tz tv H ∧ (∀ a xs, tv = .ref a → asS (H a) = some xs → xs.length ≤ 1000 ∧ ∀ x ∈ xs, Tz x H) ∧ Tab H wv ∧
  (townsV tv H = false → Er E C.BadShape "parameter" (.str "towns") H) ∧ (townsV tv H = true → (¬ ∃ ws, IsPairs H wv ws ∧ Pairs2 ws) → Er E C.BadShape "parameter" (.str "ways") H) ∧
  ∀ a ts ws, tv = .ref a → asS (H a) = some (ts.map V.str) → 1 ≤ ts.length → ts.length ≤ 8 → NamesZ ts → IsPairs H wv ws → ws.length ≤ 1000 → Pairs2 ws →
    (∀ z, firstRep [] ts = some z → Er E C.Repeated "thing" (.str z) H) ∧ (firstRep [] ts = none → (∀ e, waysGo ts [] ws = .error e → WEr C E H e) ∧
      ∀ found, waysGo ts [] ws = .ok found → ∀ H' wt d us f, (∀ b o, b ≠ p → H b = some o → H' b = some o) → WebX C.Web H' p wt d us f (sortZ ts) (sortP found) (nearOf ts (sortP found)) → Q .non H')
def rd_Web_init (K : PySem.W.Frag) (C : CA) (E : XK) : TS :=
  (tSeq (tDrop (tCallS (sp_check K C) (fun _ => E) (tCons (tCallS (sp_are_towns K C) (fun _ => E0) (tCons (tVar 1) tNil)) (tCons (tC (.str ("towns" : Str))) tNil)))) (tSeq (tDrop (tCallS (sp_check K C) (fun _ => E) (tCons (tCallS (sp_are_name_pairs K C) (fun _ => E0) (tCons (tVar 2) tNil)) (tCons (tC (.str ("ways" : Str))) tNil)))) (tSeq (tAsg (tCallS (sp_first_repeated K C) (fun _ => E0) (tCons (tVar 1) tNil)) (gName 3)) (tSeq (tIfS (tTest (tOp fNotN (tVar 3) (tC .non))) (tRaiseF C.Repeated [("thing" : Str)] (fun cls d _ H => E cls d H) (tCons (tVar 3) tNil)) tNext) (tSeq (tOstW C.Web ("_ways" : Str) (tVar 0) (tCB fTuple (tCons (tCallS (sp_sorted_ways K C) (fun _ => E) (tCons (tVar 1) (tCons (tVar 2) tNil))) tNil))) (tOstW C.Web ("_near" : Str) (tVar 0) (tDc (iList K (tCB (fSortDq K) (tCons (tVar 1) tNil))) (gName 4) tYes (tVar 4) (tCallS (sp_near_towns K C) (fun _ => E0) (tCons (tVar 4) (tCons (tVar 1) (tCons (tFldW C.Web (tVar 0) ("_ways" : Str)) tNil)))) [4])))))))
theorem pure_Web_init {K : PySem.W.Frag} {C : CA} (vs : List V) (H : Hp) (Q : VK) (E : XK) (h : sp_Web_init K C vs H Q E) : rd_Web_init K C E { nx := fun _ H' => Q .non H', rt := Q } (start [("self" : Str), ("towns" : Str), ("ways" : Str), ("again" : Str), ("town" : Str)] vs) H := by
  obtain ⟨p, dx, tv, wv, rfl, hp, tz, tx, tab, q1, q2, q3⟩ := h
  show rd_Web_init K C E _ [some (.ref p), some tv, some wv, none, none] H
  unfold rd_Web_init
  refine q_drop ?_
  walk_at "s"
  refine ⟨tv, rfl, tz, tx, fun H1 s1 => ?_⟩
  walk_at "s"
  refine ⟨_, _, rfl, fun nx => ?_, fun nx => (q1 nx).sm s1⟩
  obtain ⟨a, xs, rfl, ha, l1, l8, nall⟩ : ∃ a xs, tv = .ref a ∧ asS (H a) = some xs ∧ 1 ≤ xs.length ∧ xs.length ≤ 8 ∧ xs.all nameV = true := by
    unfold townsV at nx
    split at nx
    · rename_i a
      split at nx
      · rename_i xs e
        simp only [Bool.and_eq_true, decide_eq_true_eq] at nx
        exact ⟨a, xs, rfl, e, nx.1.1, nx.1.2, nx.2⟩
      · cases nx
    · cases nx
  obtain ⟨ts, rfl, nts⟩ : ∃ ts : List Str, xs = ts.map V.str ∧ NamesZ ts := by
    clear ha l1 l8 nx q1 q2 q3
    induction xs with
    | nil => exact ⟨[], rfl, fun z hz => by cases hz⟩
    | cons x r ih =>
      rw [List.all_cons, Bool.and_eq_true] at nall
      obtain ⟨ts, e, n⟩ := ih nall.2
      obtain ⟨z, rfl, hz⟩ := nameV_str nall.1
      exact ⟨z :: ts, by rw [e]; rfl, fun y hy => by
        rcases List.mem_cons.1 hy with rfl | hy
        · exact hz
        · exact n y hy⟩
  rw [List.length_map] at l1 l8
  refine q_drop ?_
  walk_at "s"
  refine ⟨wv, rfl, tab.mono s1, fun b H2 s2' hb => ?_⟩
  have s2 := sm_trans s1 s2'
  walk_at "s"
  refine ⟨b, _, rfl, fun eb => ?_, fun eb => ?_⟩
  rotate_left
  · have no : ¬ ∃ ws, IsPairs H wv ws ∧ Pairs2 ws := fun ⟨ws, h1, h2⟩ => by
      have := hb.2 ⟨ws, h1.mono s1, h2⟩
      rw [eb] at this
      cases this
    exact (q2 nx no).sm s2
  obtain ⟨ws, hws1, nws⟩ := hb.1 eb
  have hws := hws1.back s1 tab
  have lw : ws.length ≤ 1000 := by
    obtain ⟨pv, xs, e, hx, l, _⟩ := hws
    rw [← l]
    exact (tab.2 pv xs e hx).1
  obtain ⟨r1, r2⟩ := q3 a ts ws rfl ha l1 l8 nts hws lw nws
  refine q_asg ?_
  walk_at "s"
  refine ⟨a, ts, rfl, sm_asS ha s2, by omega, fun H3 s3' => ?_⟩
  have s3 := sm_trans s2 s3'
  clear q1 q2 q3 tz tx
  refine q_if ?_
  walk_at "s"
  cases er : firstRep [] ts with
  | some z =>
    rw [show decide (optV (some z) = V.non) = false from rfl]
    exact ⟨by decide, fun d H' n1 n2 k => (r1 z er).sm s3 d H' n1 n2 k⟩
  | none =>
    obtain ⟨r3, r4⟩ := r2 er
    have ndt : ts.Nodup := by have := (firstRep_none (r := ts) (seen := []) List.nodup_nil).1 er; rwa [List.nil_append] at this
    clear r1 r2
    dsimp only [optV]
    walk_at "s"
    obtain ⟨pv, rfl⟩ : ∃ pv, wv = .ref pv := by
      obtain ⟨pv, xs, e, _⟩ := hws
      exact ⟨pv, e⟩
    refine q_seq ?_
    walk_at "s"
    refine ⟨.ref a, pv, ts, ws, rfl, .inl ⟨a, rfl, sm_asS ha s3⟩, hws.mono s3, lw, nws, fun found ef t us H4 s4' nt ht pa => ?_, fun e ee => (r3 e ee).sm s3⟩
    have s4 := sm_trans s3 s4'
    dsimp only
    rw [f_tuple, asL_at ht]
    dsimp only
    refine fun wt nwt => ?_
    have hp4 := s4 _ _ hp
    have nwp : wt ≠ p := ne_of_none' hp4 nwt
    have hp5 : upd H4 wt (.tup us) p = some (.ins C.Web dx []) := by rw [upd_ne nwp.symm]; exact hp4
    have nap : a ≠ p := fun e => by rw [e, hp] at ha; cases ha
    have npp : ∀ q xs, H q = some (.tup xs) → q ≠ p := fun q xs h => ne_of h hp (fun z => by cases z)
    refine ⟨dx, [], hp5, by decide, ?_⟩
    rw [show putF ("_ways" : Str) (V.ref wt) [] = [(("_ways" : Str), V.ref wt)] from rfl]
    have hw6 : upd (upd H4 wt (.tup us)) p (.ins C.Web dx [(("_ways" : Str), V.ref wt)]) wt = some (.tup us) := by rw [upd_ne nwp]; exact upd_same
    have k6 : KpP p H (upd (upd H4 wt (.tup us)) p (.ins C.Web dx [(("_ways" : Str), V.ref wt)])) := KpP.put fun b u _ e => sm_new s4 nwt _ _ e
    have pa6 : PairsAt (upd (upd H4 wt (.tup us)) p (.ins C.Web dx [(("_ways" : Str), V.ref wt)])) us (sortP found) := pa.kp hp4 (KpP.put fun b u _ e => sm_new (fun _ _ z => z) nwt _ _ e)
    have hp6 : upd (upd H4 wt (.tup us)) p (.ins C.Web dx [(("_ways" : Str), V.ref wt)]) p = some (.ins C.Web dx [(("_ways" : Str), V.ref wt)]) := upd_same
    have nf : Pairs2 (sortP found) := fun q hq => waysGo_names nws (fun q hq => by cases hq) ef q ((sortP_perm found).mem_iff.1 hq)
    generalize upd (upd H4 wt (.tup us)) p (.ins C.Web dx [(("_ways" : Str), V.ref wt)]) = H6 at hw6 k6 pa6 hp6
    have ha6 : asS (H6 a) = some (ts.map V.str) := by
      cases eo : H a with
      | none => rw [eo] at ha; cases ha
      | some o =>
        rw [k6 _ _ nap eo, ← eo]
        exact ha
    have nrow : NamesZ (sortZ ts) := fun z hz => nts z ((sortZ_perm ts).mem_iff.1 hz)
    have ndr : (sortZ ts).Nodup := (sortZ_perm ts).nodup_iff.2 ndt
    have lr : (sortZ ts).length = ts.length := (sortZ_perm ts).length_eq
    unfold tDc
    rw [u_list]
    refine ⟨_, rfl, ?_⟩
    dsimp only [u_nil]
    refine ⟨a, _, _, rfl, (asS_or ha6).imp asL_seq asT_seq, dp_strs _, alike_strs _, sortable_strs _, depth_strs _, fun pc nc => al nc fun H7 s7 h7 => ?_⟩
    rw [strs_sorted] at h7
    refine ⟨pc, rfl, ⟨_, asL_seq (asL_at h7)⟩, fun D nD => dc_lst (xs := (sortZ ts).map V.str) (fun i H' => ∃ f, Sm H7 H' ∧ H' D = some (.dK (kvsOf f ((sortZ ts).take i))) ∧ ∀ z ∈ (sortZ ts).take i, H' (f z) = some (.tup ((nearOf ts (sortP found) z).map V.str)))
      ⟨fun _ => 0, sm_new (fun _ _ h => h) nD, upd_same, fun z hz => by cases hz⟩ (fun i H' _ q => ?_) (fun i x H' hx q => ?_) fun H' q => ?_⟩
    · obtain ⟨f, s, _⟩ := q
      rw [s _ _ h7]
      rfl
    · obtain ⟨f, s, hD, hf⟩ := q
      rw [List.getElem?_map, Option.map_eq_some_iff] at hx
      obtain ⟨z, hz, rfl⟩ := hx
      have et : (sortZ ts).take (i + 1) = (sortZ ts).take i ++ [z] := by rw [List.take_add_one, hz]; rfl
      have fr : z ∉ (sortZ ts).take i := fun m => by
        have nd : ((sortZ ts).take (i + 1)).Nodup := ndr.sublist (List.take_sublist _ _)
        rw [et, List.nodup_append] at nd
        exact nd.2.2 z m z (List.mem_singleton.2 rfl) rfl
      have s7' := sm_trans s7 s
      refine ⟨rfl, ?_⟩
      walk_at "s"
      refine ⟨dx, _, s7' _ _ hp6, .ref wt, rfl, ?_⟩
      have hz2 := List.mem_of_getElem? hz
      refine ⟨z, a, ts, wt, us, sortP found, rfl, nrow z hz2, sm_asS ha6 s7', by omega, nts, s7' _ _ hw6, pa6.sm s7', nf, fun t2 H9 s9 nt2 ht2 => ?_⟩
      have nfz : ∀ y ∈ (sortZ ts).take i, y ≠ z := fun y hy e => fr (by rw [← e]; exact hy)
      refine ⟨kvsOf f ((sortZ ts).take i), Sum.inr z, rfl, s9 _ _ hD, ?_, sm_put (sm_trans s s9) nD, fun y => if y = z then t2 else f y, ?_, fun y hy => ?_⟩
      · unfold kvsOf
        rw [List.length_map, List.length_take]
        show _ < 2 ^ 24
        omega
      · rw [put_fresh fr, et]
      · have nDt : t2 ≠ D := ne_of_none' (s9 _ _ hD |> fun _ => hD) nt2
        rw [et] at hy
        dsimp only
        rcases List.mem_append.1 hy with hy | hy
        · rw [if_neg (nfz y hy), upd_ne (ne_of (hf y hy) hD (fun z => by cases z))]
          exact s9 _ _ (hf y hy)
        · rw [List.mem_singleton] at hy
          rw [hy, if_pos rfl, upd_ne nDt]
          exact ht2
    · obtain ⟨f, s, hD, hf⟩ := q
      rw [List.length_map, List.take_length] at hD hf
      have s7' := sm_trans s7 s
      have nDp : D ≠ p := ne_of_none' (s7 _ _ hp6) nD
      refine ⟨dx, [(_, V.ref wt)], s7' _ _ hp6, by show 1 < 1000; decide, ?_⟩
      rw [show putF ("_near" : Str) (V.ref D) [(("_ways" : Str), V.ref wt)] = wFld wt D from fld2]
      have kk : KpP p H' (upd H' p (.ins C.Web dx (wFld wt D))) := KpP.put fun b u _ e => e
      refine r4 found ef _ wt D us f (KpP.put fun b u n e => s7' _ _ (k6 _ _ n e)) ⟨⟨dx, upd_same⟩, kk _ _ nwp (s7' _ _ hw6), (pa6.sm s7').kp (s7' _ _ hp6) kk, kk _ _ nDp hD, fun z hz => kk _ _ (ne_of (hf z hz) (s7' _ _ hp6) (fun z => by cases z)) (hf z hz), nrow, ndr, by rw [lr]; exact l8⟩
end XB

/-! Full webs and chains. -/
namespace XB
open PySem L2
local macro_rules | `(tactic| walk_at "s") => `(tactic| try simp only [u_var, u_c, u_op, u_un, u_nil, u_cons, u_cb, u_call, u_callS, u_tup, u_lst, u_test, u_B, u_and, u_or, u_not, u_andV, u_orV, u_notV, u_ifE, u_chain, u_sl, u_noPart, u_part, u_bm, u_bm0, u_rev, u_lc, u_try, u_sui, u_sui0, u_unb_rt, u_unb_nx, u_xf, u_WE, w_nil, w_cons, u_raise, u_rng1, u_rng2, u_next, u_ret, u_gname, u_gnil, u_gcons, u_gsub, u_gtup,
  f_add, f_addS, f_addR, f_sub, f_mul, f_mulR, f_mod, f_div, f_pow, f_neg, f_cmp, f_eq, f_eqB, f_eqS, f_ne, f_neB, f_neS, f_isN, f_notN, f_isB, f_ix, f_ixS, f_int, f_intB, f_len, f_lenS, f_max, f_min, f_abs, f_list, f_tuple, f_all, f_sum, f_isi, f_isiT, f_append, f_insert, f_pop, f_sl, f_set, u_fldW, u_propW, u_makeS, u_makeL, u_cmethS, u_methS, u_ostW, f_isC, f_minSS, f_maxSS, f_reverse,
  kitS, tys, List.isEmpty_cons, Option.map_some, kt_NoneType_int, kt_NoneType_bool, kt_NoneType_str, kt_NoneType_list, kt_NoneType_tuple, kt_NoneType_dict, kt_int_int, kt_int_bool, kt_int_str, kt_int_list, kt_int_tuple, kt_int_dict, kt_bool_int, kt_bool_bool, kt_bool_str, kt_bool_list, kt_bool_tuple, kt_bool_dict, kt_str_int, kt_str_bool, kt_str_str, kt_str_list, kt_str_tuple, kt_str_dict, kt_list_int, kt_list_bool, kt_list_str, kt_list_list, kt_list_tuple, kt_list_dict, kt_tuple_int, kt_tuple_bool, kt_tuple_str, kt_tuple_list, kt_tuple_tuple, kt_tuple_dict, kt_dict_int, kt_dict_bool, kt_dict_str, kt_dict_list, kt_dict_tuple, kt_dict_dict, asL_lst, asL_frz, asL_tup, asT_tup, asS_lst, asS_frz, asS_tup, tyN_non, tyN_bl, tyN_int, tyN_str, atV_lit, ixN_lit, upd_same, upd_ne, upd_ne',
  List.getElem?_cons_zero, List.getElem?_cons_succ, List.set_cons_zero, List.set_cons_succ, List.append_nil, List.length_cons, List.length_nil, Option.some.injEq, exists_eq_left', exists_eq_left, exists_and_left, V.bl.injEq, V.int.injEq, V.str.injEq, V.ref.injEq, Bool.not_eq_true, Bool.not_true, Bool.not_false, decide_true, decide_false, decide_eq_true_eq, decide_eq_false_iff_not, Bool.false_eq_true, if_true, if_false, ite_true, ite_false, reduceCtorEq, true_and, and_true, Nat.reduceAdd, Nat.reduceLT, Nat.zero_add, ne_eq, not_false_eq_true, not_true_eq_false, List.cons.injEq, and_assoc])
local macro_rules | `(tactic| walk_at "S") => `(tactic| try simp only [u_var, u_c, u_op, u_un, u_nil, u_cons, u_cb, u_call, u_callS, u_tup, u_lst, u_test, u_B, u_and, u_or, u_not, u_andV, u_orV, u_notV, u_ifE, u_chain, u_sl, u_noPart, u_part, u_bm, u_bm0, u_rev, u_lc, u_try, u_sui, u_sui0, u_unb_rt, u_unb_nx, u_xf, u_WE, w_nil, w_cons, u_raise, u_rng1, u_rng2, u_next, u_ret, u_gname, u_gnil, u_gcons, u_gsub, u_gtup,
  f_add, f_addS, f_addR, f_sub, f_mul, f_mulR, f_mod, f_div, f_pow, f_neg, f_cmp, f_eq, f_eqB, f_eqS, f_ne, f_neB, f_neS, f_isN, f_notN, f_isB, f_ix, f_ixS, f_int, f_intB, f_len, f_lenS, f_max, f_min, f_abs, f_list, f_tuple, f_all, f_sum, f_isi, f_isiT, f_append, f_insert, f_pop, f_sl, f_set, u_fldW, u_propW, u_makeS, u_makeL, u_cmethS, u_methS, u_ostW, f_isC, f_minSS, f_maxSS, f_reverse,
  kitS, tys, List.isEmpty_cons, Option.map_some, kt_NoneType_int, kt_NoneType_bool, kt_NoneType_str, kt_NoneType_list, kt_NoneType_tuple, kt_NoneType_dict, kt_int_int, kt_int_bool, kt_int_str, kt_int_list, kt_int_tuple, kt_int_dict, kt_bool_int, kt_bool_bool, kt_bool_str, kt_bool_list, kt_bool_tuple, kt_bool_dict, kt_str_int, kt_str_bool, kt_str_str, kt_str_list, kt_str_tuple, kt_str_dict, kt_list_int, kt_list_bool, kt_list_str, kt_list_list, kt_list_tuple, kt_list_dict, kt_tuple_int, kt_tuple_bool, kt_tuple_str, kt_tuple_list, kt_tuple_tuple, kt_tuple_dict, kt_dict_int, kt_dict_bool, kt_dict_str, kt_dict_list, kt_dict_tuple, kt_dict_dict, asL_lst, asL_frz, asL_tup, asT_tup, asS_lst, asS_frz, asS_tup, tyN_non, tyN_bl, tyN_int, tyN_str, atV_lit, ixN_lit, upd_same, upd_ne, upd_ne',
  List.getElem?_cons_zero, List.getElem?_cons_succ, List.set_cons_zero, List.set_cons_succ, List.append_nil, List.length_cons, List.length_nil, Option.some.injEq, exists_eq_left', exists_eq_left, exists_and_left, V.bl.injEq, V.int.injEq, V.str.injEq, V.ref.injEq, Bool.not_eq_true, Bool.not_true, Bool.not_false, decide_true, decide_false, decide_eq_true_eq, decide_eq_false_iff_not, Bool.false_eq_true, if_true, if_false, ite_true, ite_false, reduceCtorEq, true_and, and_true, Nat.reduceAdd, Nat.reduceLT, Nat.zero_add, ne_eq, not_false_eq_true, not_true_eq_false, List.cons.injEq, and_assoc, *])
/-- an iterator that walks what stands at p -/
structure WalkJ (J : It) (p : Addr) (o : Option HO) (xs : List V) : Prop where
  go : ∀ i H, H p = o → i < xs.length → J.go i H
  stop : ∀ i H, H p = o → xs.length ≤ i → J.stop i H
  yld : ∀ i H x H', H p = o → J.yld i H x H' → H' = H ∧ xs[i]? = some x
theorem seq_J {K : PySem.W.Frag} {σ : L2.St} {H : Hp} {n : Nat} {p : Addr} {xs : List V} {R : It → Hp → Prop} (hσ : σ[n]? = some (some (.ref p))) (hp : asS (H p) = some xs) (k : ∀ J, WalkJ J p (H p) xs → R J H) : iSeq K n σ H R := by
  rcases asS_or hp with e | e
  · refine .inl ?_
    rw [u_list]
    refine ⟨_, hσ, p, rfl, ⟨_, asL_seq e⟩, k _ ⟨fun i H' h c => ?_, fun i H' h c => ?_, fun i H' x H'' h y => ?_⟩⟩
    · have q := asL_seq (K := K) (p := p) (H := H') (xs := xs) (by rw [h]; exact e)
      exact ⟨xs, xs[i], q, by simp [c]⟩
    · exact ⟨xs, asL_seq (by rw [h]; exact e), c⟩
    · obtain ⟨e1, y⟩ := y
      exact ⟨e1, y xs (asL_seq (by rw [h]; exact e))⟩
  · refine .inr ?_
    rw [u_tupI]
    refine ⟨_, hσ, p, rfl, ⟨_, asT_seq e⟩, k _ ⟨fun i H' h c => ?_, fun i H' h c => ?_, fun i H' x H'' h y => ?_⟩⟩
    · have q := asT_seq (K := K) (p := p) (H := H') (xs := xs) (by rw [h]; exact e)
      exact ⟨xs, xs[i], q, by simp [c]⟩
    · exact ⟨xs, asT_seq (by rw [h]; exact e), c⟩
    · obtain ⟨e1, y⟩ := y
      exact ⟨e1, y xs (asT_seq (by rw [h]; exact e))⟩
def rowW (ts : List Str) (a : Str) : List (Str × Str) := (ts.filter fun b => ltZ a b).map fun b => (a, b)
/-- every two towns, the lesser first -/
def fullW (ts : List Str) : List (Str × Str) := ts.flatMap (rowW ts)
def chainW (ts : List Str) : List (Str × Str) := ts.zip ts.tail
theorem rowW_len (ts : List Str) (a : Str) : (rowW ts a).length ≤ ts.length := by
  unfold rowW
  rw [List.length_map]
  exact List.length_filter_le _ _
theorem fullW_len : ∀ (rs ts : List Str), (rs.flatMap (rowW ts)).length ≤ rs.length * ts.length
  | [], ts => by simp
  | a :: r, ts => by
    have := fullW_len r ts
    have h := rowW_len ts a
    rw [List.flatMap_cons, List.length_append, List.length_cons, Nat.succ_mul]
    omega
/-- what a web made of these towns and ways is like, or the error -/
def WebQ (C : CA) (H : Hp) (Q : VK) (E : XK) (ts : List Str) (ws : List (Str × Str)) : Prop :=
  (∀ z, firstRep [] ts = some z → Er E C.Repeated "thing" (.str z) H) ∧ (firstRep [] ts = none → (∀ e, waysGo ts [] ws = .error e → WEr C E H e) ∧
      ∀ found, waysGo ts [] ws = .ok found → ∀ H' p wt d us f, Sm H H' → H p = none → WebX C.Web H' p wt d us f (sortZ ts) (sortP found) (nearOf ts (sortP found)) → Q (.ref p) H')
theorem WebQ.sm {C : CA} {H H1 : Hp} {Q : VK} {E : XK} {ts : List Str} {ws : List (Str × Str)} (h : WebQ C H Q E ts ws) (s : Sm H H1) : WebQ C H1 Q E ts ws :=
  ⟨fun z e => (h.1 z e).sm s, fun e => ⟨fun x y => ((h.2 e).1 x y).sm s, fun found ef H' p wt d us f s' n w => (h.2 e).2 found ef H' p wt d us f (sm_trans s s') (sm_none s n) w⟩⟩
theorem names_towns {v : V} {H : Hp} (nx : townsV v H = true) : ∃ a ts, v = .ref a ∧ asS (H a) = some (ts.map V.str) ∧ 1 ≤ ts.length ∧ ts.length ≤ 8 ∧ NamesZ ts := by
  unfold townsV at nx
  split at nx
  · rename_i a
    split at nx
    · rename_i xs e
      simp only [Bool.and_eq_true, decide_eq_true_eq] at nx
      obtain ⟨ts, ex, nts⟩ : ∃ ts : List Str, xs = ts.map V.str ∧ NamesZ ts := by
        have nall := nx.2
        clear e nx
        induction xs with
        | nil => exact ⟨[], rfl, fun z hz => by cases hz⟩
        | cons x r ih =>
          rw [List.all_cons, Bool.and_eq_true] at nall
          obtain ⟨ts, e, n⟩ := ih nall.2
          obtain ⟨z, rfl, hz⟩ := nameV_str nall.1
          exact ⟨z :: ts, by rw [e]; rfl, fun y hy => by
            rcases List.mem_cons.1 hy with rfl | hy
            · exact hz
            · exact n y hy⟩
      have l := nx.1
      rw [ex, List.length_map] at l
      exact ⟨a, ts, rfl, by rw [e, ex], l.1, l.2, nts⟩
    · cases nx
  · cases nx
theorem townsV_of {a : Addr} {ts : List Str} {H : Hp} (ha : asS (H a) = some (ts.map V.str)) (l1 : 1 ≤ ts.length) (l8 : ts.length ≤ 8) (nts : NamesZ ts) : townsV (.ref a) H = true := by
  unfold townsV
  dsimp only
  rw [ha]
  simp only [List.length_map, Bool.and_eq_true, decide_eq_true_eq]
  refine ⟨⟨l1, l8⟩, ?_⟩
  rw [List.all_map, List.all_eq_true]
  exact nts
theorem pairs_is {H : Hp} {D : Addr} {us : List V} {ws : List (Str × Str)} (hD : asS (H D) = some us) (pa : PairsAt H us ws) : IsPairs H (.ref D) ws := ⟨D, us, rfl, hD, pa.1, fun i x pr h1 h2 => by
  obtain ⟨q, e, hq⟩ := pa.2 i x pr h1 h2
  exact ⟨q, e, by rw [hq]; rfl⟩⟩
theorem ty_S {H : Hp} {a : Addr} {xs : List V} (h : asS (H a) = some xs) : Ty (.ref a) H := by
  rcases asS_or h with h | h
  · unfold asL at h
    split at h
    · rename_i e; exact ⟨_, by dsimp only [tyN]; rw [e]⟩
    · rename_i e; exact ⟨_, by dsimp only [tyN]; rw [e]⟩
    · cases h
  · unfold asT at h
    split at h
    · rename_i e; exact ⟨_, by dsimp only [tyN]; rw [e]⟩
    · rename_i e; exact ⟨_, by dsimp only [tyN]; rw [e]⟩
    · cases h
theorem strs_inj {a b : List Str} (h : a.map V.str = b.map V.str) : a = b := by
  induction a generalizing b with
  | nil => cases b with
    | nil => rfl
    | cons => cases h
  | cons x r ih => cases b with
    | nil => cases h
    | cons y s =>
      injection h with h1 h2
      injection h1 with h1
      rw [h1, ih h2]
theorem make_web {K : PySem.W.Frag} {C : CA} {H : Hp} {Q : VK} {E : XK} {a D : Addr} {ts : List Str} {us : List V} {ws : List (Str × Str)} (ha : asS (H a) = some (ts.map V.str)) (l1 : 1 ≤ ts.length) (l8 : ts.length ≤ 8) (nts : NamesZ ts)
    (hD : asS (H D) = some us) (pa : PairsAt H us ws) (np : Pairs2 ws) (lw : ws.length ≤ 1000) (q : WebQ C H Q E ts ws) : ∀ (x dx : Addr), H x = none → H dx = none → ¬ dx = x →
      sp_Web_init K C [.ref x, .ref a, .ref D] (upd (upd H dx (.own x)) x (.ins C.Web dx [])) (fun v H2 => v = .non ∧ Q (.ref x) H2) E := fun x dx nx ndx ne => by
  have sm : Sm H (upd (upd H dx (.own x)) x (.ins C.Web dx [])) := fun b o e => by
    rw [upd_ne (ne_of_none e nx), upd_ne (ne_of_none e ndx)]
    exact e
  generalize e0 : upd (upd H dx (.own x)) x (.ins C.Web dx []) = H0 at sm
  have hx : H0 x = some (.ins C.Web dx []) := by rw [← e0]; exact upd_same
  have ha0 := sm_asS ha sm
  have hD0 := sm_asS hD sm
  have ip := pairs_is hD0 (pa.sm sm)
  refine ⟨x, dx, .ref a, .ref D, rfl, hx, ⟨ty_S ha0, fun z e => by cases e⟩, fun b xs e hb => ?_, ⟨ty_S hD0, fun b xs e hb => ?_⟩, fun e => ?_, fun _ e => absurd ⟨ws, ip, np⟩ e, fun b ts' ws' e hb _ _ _ ip' lw' np' => ?_⟩
  · cases e
    rw [ha0] at hb
    cases hb
    rw [List.length_map]
    refine ⟨by omega, fun y hy => ?_⟩
    obtain ⟨z, hz, rfl⟩ := List.mem_map.1 hy
    exact tz_name (nts z hz)
  · cases e
    rw [hD0] at hb
    cases hb
    refine ⟨by rw [pa.1]; exact lw, fun y hy => ?_⟩
    obtain ⟨i, hi⟩ := List.getElem?_of_mem hy
    have hil : i < ws.length := by rw [← pa.1]; exact (List.getElem?_eq_some_iff.mp hi).1
    obtain ⟨q2, e2, hq2⟩ := (pa.sm sm).2 i y ws[i] hi (by simp [hil])
    subst e2
    refine ⟨ty_S (xs := [.str ws[i].1, .str ws[i].2]) (by rw [hq2]; rfl), fun c ys e hc => ?_⟩
    cases e
    rw [hq2] at hc
    cases hc
    have := np ws[i] (by simp [hil])
    refine ⟨by show 2 ≤ 1000; decide, fun z hz => ?_⟩
    rcases List.mem_cons.1 hz with rfl | hz
    · exact tz_name this.1
    · rw [List.mem_singleton] at hz
      subst hz
      exact tz_name this.2
  · rw [townsV_of ha0 l1 l8 nts] at e
    cases e
  · cases e
    rw [ha0] at hb
    injection hb with hb
    have e1 := strs_inj hb
    subst e1
    have e2 := IsPairs.unique ip ip'
    subst e2
    refine ⟨fun z e => (q.1 z e).sm sm, fun e => ⟨fun x y => ((q.2 e).1 x y).sm sm, fun found ef H' wt d us f k w => ⟨rfl, (q.2 e).2 found ef H' x wt d us f (fun b o hb => k b o (ne_of_none hb nx) (sm b o hb)) nx w⟩⟩⟩
theorem f_ltSS {x y : Str} {H : Hp} {Q : VK} : fLtX (.str x) (.str y) H Q = Q (.bl (ltZ x y)) H := rfl
def sp_Web_full (K : PySem.W.Frag) (C : CA) : Sp := fun vs H Q E => ∃ tv, vs = [.ref C.Web, tv] ∧ Tz tv H ∧ (∀ a xs, tv = .ref a → asS (H a) = some xs → xs.length ≤ 1000 ∧ ∀ x ∈ xs, Tz x H) ∧
  (townsV tv H = false → Er E C.BadShape "parameter" (.str "towns") H) ∧ ∀ a ts, tv = .ref a → asS (H a) = some (ts.map V.str) → 1 ≤ ts.length → ts.length ≤ 8 → NamesZ ts → WebQ C H Q E ts (fullW ts)
def rd_Web_full (K : PySem.W.Frag) (C : CA) (E : XK) : TS :=
  (tSeq (tDrop (tCallS (sp_check K C) (fun _ => E) (tCons (tCallS (sp_are_towns K C) (fun _ => E0) (tCons (tVar 1) tNil)) (tCons (tC (.str ("towns" : Str))) tNil)))) (tSeq (tAsg (tLc2 (iSeq K 1) (gName 3) tYes (iSeq K 1) (gName 4) (tTest (tOp fLtX (tVar 3) (tVar 4))) (tTup (tCons (tVar 3) (tCons (tVar 4) tNil))) [3, 4] [4]) (gName 2)) (tRet (tMakeL 0 C.Web (sp_Web_init K C) [] (fun _ => E) (tCons (tVar 1) (tCons (tVar 2) tNil))))))
theorem pure_Web_full {K : PySem.W.Frag} {C : CA} (vs : List V) (H : Hp) (Q : VK) (E : XK) (h : sp_Web_full K C vs H Q E) : rd_Web_full K C E { nx := fun _ H' => Q .non H', rt := Q } (start [("cls" : Str), ("towns" : Str), ("ways" : Str), ("here" : Str), ("there" : Str)] vs) H := by
  obtain ⟨tv, rfl, tz, tx, q1, q2⟩ := h
  show rd_Web_full K C E _ [some (.ref C.Web), some tv, none, none, none] H
  unfold rd_Web_full
  refine q_drop ?_
  walk_at "s"
  refine ⟨tv, rfl, tz, tx, fun H1 s1 => ?_⟩
  walk_at "s"
  refine ⟨_, _, rfl, fun nx => ?_, fun nx => (q1 nx).sm s1⟩
  obtain ⟨a, ts, rfl, ha, l1, l8, nts⟩ := names_towns nx
  have qw := (q2 a ts rfl ha l1 l8 nts).sm s1
  have ha1 := sm_asS ha s1
  clear q1 q2 tx tz
  refine q_asg ?_
  unfold tLc2
  refine seq_J rfl ha1 fun J wj D nD => ⟨fun i m H' => m = ts.length - i ∧ i ≤ ts.length ∧ ∃ us, Sm H1 H' ∧ H' D = some (.lst us) ∧ PairsAt H' us ((ts.take i).flatMap (rowW ts)), ⟨ts.length, rfl, Nat.zero_le _, [], sm_new (fun _ _ z => z) nD, upd_same, PairsAt.nil⟩, ?_⟩
  rintro i m H2 ⟨rfl, hi, us, s2, hD, pa⟩
  have st2 : H2 a = H1 a := asS_there ha1 s2
  rcases Nat.lt_or_ge i ts.length with c | c
  · refine .inr ⟨wj.go i H2 st2 (by rw [List.length_map]; exact c), fun H' => i + 1 ≤ ts.length ∧ ∃ us, Sm H1 H' ∧ H' D = some (.lst us) ∧ PairsAt H' us ((ts.take (i + 1)).flatMap (rowW ts)), fun H' h => ⟨ts.length - (i + 1), by omega, rfl, h.1, h.2⟩, fun x H3 y => ?_⟩
    obtain ⟨rfl, hx⟩ := wj.yld i H2 x H3 st2 y
    rw [List.getElem?_map, Option.map_eq_some_iff] at hx
    obtain ⟨z, hz, rfl⟩ := hx
    have et : ts.take (i + 1) = ts.take i ++ [z] := by rw [List.take_add_one, hz]; rfl
    walk_at "s"
    refine seq_J rfl (by rw [st2]; exact ha1) fun J1 wj1 => ⟨fun j k H' => k = ts.length - j ∧ j ≤ ts.length ∧ ∃ us, Sm H1 H' ∧ H' D = some (.lst us) ∧ PairsAt H' us ((ts.take i).flatMap (rowW ts) ++ rowW (ts.take j) z), ⟨ts.length, rfl, Nat.zero_le _, us, s2, hD, by rw [List.take_zero]; simpa [rowW] using pa⟩, ?_⟩
    rintro j k H4 ⟨rfl, hj, us4, s4, hD4, pa4⟩
    have st4 : H4 a = H3 a := by rw [asS_there ha1 s4, st2]
    rcases Nat.lt_or_ge j ts.length with cj | cj
    · refine .inr ⟨wj1.go j H4 st4 (by rw [List.length_map]; exact cj), fun H' => j + 1 ≤ ts.length ∧ ∃ us, Sm H1 H' ∧ H' D = some (.lst us) ∧ PairsAt H' us ((ts.take i).flatMap (rowW ts) ++ rowW (ts.take (j + 1)) z), fun H' h => ⟨ts.length - (j + 1), by omega, rfl, h.1, h.2⟩, fun x H5 y => ?_⟩
      obtain ⟨rfl, hx⟩ := wj1.yld j H4 x H5 st4 y
      rw [List.getElem?_map, Option.map_eq_some_iff] at hx
      obtain ⟨u, hu, rfl⟩ := hx
      have ej : ts.take (j + 1) = ts.take j ++ [u] := by rw [List.take_add_one, hu]; rfl
      walk_at "s"
      rw [f_ltSS]
      refine ⟨_, rfl, ?_⟩
      have er : rowW (ts.take (j + 1)) z = rowW (ts.take j) z ++ rowW [u] z := by
        rw [ej]
        unfold rowW
        rw [List.filter_append, List.map_append]
      have e1 : rowW [u] z = if ltZ z u = true then [(z, u)] else [] := by
        unfold rowW
        cases e : ltZ z u
        · simp [e]
        · simp [e]
      have lu : us4.length ≤ ts.length * ts.length + ts.length := by
        rw [pa4.1, List.length_append]
        have h1 := fullW_len (ts.take i) ts
        have h2 := rowW_len (ts.take j) z
        have h3 : (ts.take i).length * ts.length ≤ ts.length * ts.length := Nat.mul_le_mul (by rw [List.length_take]; omega) (Nat.le_refl _)
        have h4 : (ts.take j).length ≤ ts.length := by rw [List.length_take]; omega
        omega
      have l64 : ts.length * ts.length ≤ 8 * 8 := Nat.mul_le_mul l8 l8
      rw [er, e1]
      refine ite2 (fun cl => ?_) fun cl => ?_
      · rw [if_pos cl, ← List.append_assoc]
        refine ⟨by decide, fun pt npt => al npt fun H6 s6 h6 => ⟨us4, s6 _ _ hD4, by show _ < 2 ^ 24; omega, cj, sm_put (sm_trans s4 s6) nD, _, rfl, ?_⟩⟩
        have nDp : pt ≠ D := ne_of h6 (s6 _ _ hD4) (fun z => by cases z)
        exact ((pa4.sm s6).updL (s6 _ _ hD4)).snoc (by rw [upd_ne nDp]; exact h6)
      · rw [if_neg cl, List.append_nil]
        exact ⟨cj, s4, us4, hD4, pa4⟩
    · refine .inl ⟨wj1.stop _ H4 st4 (by rw [List.length_map]; exact cj), c, s4, us4, hD4, ?_⟩
      rw [List.take_of_length_le cj] at pa4
      rw [et, List.flatMap_append]
      simpa using pa4
  · have e : i = ts.length := by omega
    subst e
    refine .inl ⟨wj.stop _ H2 st2 (by rw [List.length_map]; exact Nat.le_refl _), ?_⟩
    rw [List.take_length] at pa
    walk_at "s"
    have ll := fullW_len ts ts
    have l64 : ts.length * ts.length ≤ 8 * 8 := Nat.mul_le_mul l8 l8
    refine make_web (sm_asS ha1 s2) l1 l8 nts (D := D) (us := us) (ws := fullW ts) (by rw [hD]; rfl) pa (fun w hw => ?_) (by unfold fullW; omega) (qw.sm s2)
    unfold fullW rowW at hw
    rw [List.mem_flatMap] at hw
    obtain ⟨x, hx, hw⟩ := hw
    rw [List.mem_map] at hw
    obtain ⟨y, hy, rfl⟩ := hw
    exact ⟨nts x hx, nts y (List.mem_filter.1 hy).1⟩
theorem asT_of_asL {o : Option HO} {xs : List V} (h : asL o = some xs) : asT o = none := by
  unfold asL at h
  split at h
  · rfl
  · rfl
  · cases h
theorem tail_of {K : PySem.W.Frag} {a : Addr} {H : Hp} {xs : List V} {Q : VK} (ha : asS (H a) = some xs) (l : 1 ≤ xs.length) (k : ∀ p H', Sm H H' → H p = none → (SqL K H' a xs ∧ asL (H' p) = some xs.tail ∨ SqT K H' a xs ∧ asT (H' p) = some xs.tail) → Q (.ref p) H') : fSlA (.ref a) (some 1) none H Q := by
  have ec : cutV xs (some 1) none = xs.tail := by rw [cut_from (by decide)]; exact List.drop_one
  rcases asS_or ha with e | e
  · have := asT_of_asL e
    unfold fSlA
    dsimp only
    rw [this]
    dsimp only
    unfold fSl2
    dsimp only
    rw [f_sl, e]
    dsimp only
    intro p np
    rw [ec]
    have s := sm_new (o := .lst xs.tail) (fun _ _ z => z) np
    exact k p _ s np (.inl ⟨asL_seq (sm_L s e), by rw [upd_same]; rfl⟩)
  · unfold fSlA
    dsimp only
    rw [e]
    dsimp only
    refine ⟨fun c => ?_, fun _ p np => ?_⟩
    · have := c.1
      rw [show (1 : Int) = ((1 : Nat) : Int) from rfl, HT.sIx_nat] at this
      omega
    · rw [ec]
      have s := sm_new (o := .tup xs.tail) (fun _ _ z => z) np
      exact k p _ s np (.inr ⟨asT_seq (sm_T s e), by rw [upd_same]; rfl⟩)
theorem zip_pairs {H : Hp} {us : List V} {as bs : List Str} (h : ZipTo H (min (as.map V.str).length (bs.map V.str).length) us (as.map V.str) (bs.map V.str)) : PairsAt H us (as.zip bs) := by
  refine ⟨by rw [h.1, List.length_zip, List.length_map, List.length_map], fun i x pr h1 h2 => ?_⟩
  rw [List.getElem?_zip_eq_some] at h2
  obtain ⟨T, e, hT⟩ := h.2 i x (.str pr.1) (.str pr.2) h1 (by rw [List.getElem?_map, h2.1]; rfl) (by rw [List.getElem?_map, h2.2]; rfl)
  exact ⟨T, e, hT⟩
def sp_Web_chain (K : PySem.W.Frag) (C : CA) : Sp := fun vs H Q E => ∃ tv, vs = [.ref C.Web, tv] ∧ Tz tv H ∧ (∀ a xs, tv = .ref a → asS (H a) = some xs → xs.length ≤ 1000 ∧ ∀ x ∈ xs, Tz x H) ∧
  (townsV tv H = false → Er E C.BadShape "parameter" (.str "towns") H) ∧ ∀ a ts, tv = .ref a → asS (H a) = some (ts.map V.str) → 1 ≤ ts.length → ts.length ≤ 8 → NamesZ ts → WebQ C H Q E ts (chainW ts)
def rd_Web_chain (K : PySem.W.Frag) (C : CA) (E : XK) : TS :=
  (tSeq (tDrop (tCallS (sp_check K C) (fun _ => E) (tCons (tCallS (sp_are_towns K C) (fun _ => E0) (tCons (tVar 1) tNil)) (tCons (tC (.str ("towns" : Str))) tNil)))) (tSeq (tAsg (tListZip K (tCons (tVar 1) (tCons (tSl fSlA (tVar 1) (tPart (tC (.int 1))) tNoPart) tNil))) (gName 2)) (tRet (tMakeL 0 C.Web (sp_Web_init K C) [] (fun _ => E) (tCons (tVar 1) (tCons (tVar 2) tNil))))))
theorem pure_Web_chain {K : PySem.W.Frag} {C : CA} (vs : List V) (H : Hp) (Q : VK) (E : XK) (h : sp_Web_chain K C vs H Q E) : rd_Web_chain K C E { nx := fun _ H' => Q .non H', rt := Q } (start [("cls" : Str), ("towns" : Str), ("ways" : Str)] vs) H := by
  obtain ⟨tv, rfl, tz, tx, q1, q2⟩ := h
  show rd_Web_chain K C E _ [some (.ref C.Web), some tv, none] H
  unfold rd_Web_chain
  refine q_drop ?_
  walk_at "s"
  refine ⟨tv, rfl, tz, tx, fun H1 s1 => ?_⟩
  walk_at "s"
  refine ⟨_, _, rfl, fun nx => ?_, fun nx => (q1 nx).sm s1⟩
  obtain ⟨a, ts, rfl, ha, l1, l8, nts⟩ := names_towns nx
  have qw := (q2 a ts rfl ha l1 l8 nts).sm s1
  have ha1 := sm_asS ha s1
  clear q1 q2 tx tz
  refine q_asg ?_
  unfold tListZip
  walk_at "s"
  refine tail_of (K := K) ha1 (by rw [List.length_map]; exact l1) fun p H2 s2 np h => ?_
  have et : (ts.map V.str).tail = ts.tail.map V.str := by rw [List.map_tail]
  rw [et] at h
  refine ⟨p, rfl, ts.map V.str, ts.tail.map V.str, h.imp (fun h => ⟨h.1, asL_seq h.2⟩) (fun h => ⟨h.1, asT_seq h.2⟩), fun D H3 us nD s3 hD hz => ?_⟩
  have lc : (chainW ts).length ≤ ts.length := by
    unfold chainW
    rw [List.length_zip]
    exact Nat.min_le_left _ _
  refine make_web (sm_asS ha1 (sm_trans s2 s3)) l1 l8 nts (D := D) (us := us) (ws := chainW ts) (by rw [hD]; rfl) (zip_pairs hz) (fun w hw => ?_) (by omega) (qw.sm (sm_trans s2 s3))
  obtain ⟨i, h1, h2⟩ := zip_get hw
  exact ⟨nts _ (List.mem_of_getElem? h1), nts _ (List.mem_of_mem_tail (List.mem_of_getElem? h2))⟩
end XB

/-! The ways that are due. -/
namespace XB
open PySem L2
def prP (p : Str × Str) : Str × Str := pr2 p.1 p.2
def atS (ts : List Str) (i : Nat) : Str := ts[i]?.getD ⟨#[]⟩
theorem atS_eq {ts : List Str} {i : Nat} {z : Str} (h : ts[i]? = some z) : atS ts i = z := by unfold atS; rw [h]; rfl
theorem atS_get {ts : List Str} {i : Nat} (h : i < ts.length) : ts[i]? = some (atS ts i) := by
  unfold atS
  rw [List.getElem?_eq_getElem h]
  rfl
theorem atS_mem {ts : List Str} {i : Nat} (h : i < ts.length) : atS ts i ∈ ts := List.mem_of_getElem? (atS_get h)
def rowP (ch : Bool) (ts : List Str) (i : Nat) : Nat → List (Str × Str)
  | 0 => []
  | j + 1 => rowP ch ts i j ++ if (!ch || decide (j + 1 = i)) = true then [pr2 (atS ts i) (atS ts j)] else []
def dueP (ch : Bool) (ts : List Str) : Nat → List (Str × Str)
  | 0 => []
  | i + 1 => dueP ch ts i ++ rowP ch ts i i
def due (ch : Bool) (ts : List Str) : List (Str × Str) := dueP ch ts ts.length
theorem take_snoc {ts : List Str} {i : Nat} (h : i < ts.length) : ts.take (i + 1) = ts.take i ++ [atS ts i] := by
  rw [List.take_add_one, atS_get h]
  rfl
theorem rowP_sub {ch : Bool} {ts : List Str} {i : Nat} : ∀ {j : Nat}, j ≤ ts.length → (rowP ch ts i j).Sublist ((ts.take j).map (pr2 (atS ts i)))
  | 0, _ => by simp [rowP]
  | j + 1, h => by
    rw [take_snoc h, List.map_append]
    unfold rowP
    refine List.Sublist.append (rowP_sub (Nat.le_of_succ_le h)) ?_
    split
    · exact List.Sublist.refl _
    · exact List.nil_sublist _
theorem pr2_inj {x y z : Str} (h : pr2 x y = pr2 x z) : y = z := by
  rcases pr2_eq.1 h with ⟨_, h⟩ | ⟨h1, h2⟩
  · exact h
  · rw [h2, h1]
theorem nodup_map_pr2 {x : Str} : ∀ {l : List Str}, l.Nodup → (l.map (pr2 x)).Nodup
  | [], _ => List.nodup_nil
  | y :: l, h => by
    rw [List.nodup_cons] at h
    rw [List.map_cons, List.nodup_cons]
    refine ⟨fun m => ?_, nodup_map_pr2 h.2⟩
    obtain ⟨z, hz, e⟩ := List.mem_map.1 m
    rw [pr2_inj e] at hz
    exact h.1 hz
theorem fresh_at {ts : List Str} {i : Nat} (nd : ts.Nodup) (h : i < ts.length) : atS ts i ∉ ts.take i := fun m => by
  have : (ts.take (i + 1)).Nodup := nd.sublist (List.take_sublist _ _)
  rw [take_snoc h, List.nodup_append] at this
  exact this.2.2 _ m _ (List.mem_singleton.2 rfl) rfl
theorem mem_row {ch : Bool} {ts : List Str} {i : Nat} (h : i < ts.length) {p : Str × Str} (m : p ∈ rowP ch ts i i) : ∃ y ∈ ts.take i, p = pr2 (atS ts i) y := by
  obtain ⟨y, hy, e⟩ := List.mem_map.1 ((rowP_sub (Nat.le_of_lt h)).subset m)
  exact ⟨y, hy, e.symm⟩
theorem pr2_both (x y : Str) : (pr2 x y).1 = x ∨ (pr2 x y).2 = x := by
  rcases pr2_cases x y with e | e <;> rw [e]
  · exact .inl rfl
  · exact .inr rfl
theorem mem_due {ch : Bool} {ts : List Str} : ∀ {i : Nat}, i ≤ ts.length → ∀ {p}, p ∈ dueP ch ts i → p.1 ∈ ts.take i ∧ p.2 ∈ ts.take i
  | 0, _, p, m => by cases m
  | i + 1, h, p, m => by
    unfold dueP at m
    rw [take_snoc h]
    rcases List.mem_append.1 m with m | m
    · have := mem_due (Nat.le_of_succ_le h) m
      exact ⟨List.mem_append_left _ this.1, List.mem_append_left _ this.2⟩
    · obtain ⟨y, hy, e⟩ := mem_row h m
      rw [e]
      rcases pr2_cases (atS ts i) y with e | e <;> rw [e]
      · exact ⟨by simp, List.mem_append_left _ hy⟩
      · exact ⟨List.mem_append_left _ hy, by simp⟩
theorem nodup_due {ch : Bool} {ts : List Str} (nd : ts.Nodup) : ∀ {i : Nat}, i ≤ ts.length → (dueP ch ts i).Nodup
  | 0, _ => List.nodup_nil
  | i + 1, h => by
    unfold dueP
    rw [List.nodup_append]
    refine ⟨nodup_due nd (Nat.le_of_succ_le h), (nodup_map_pr2 (nd.sublist (List.take_sublist _ _))).sublist (rowP_sub (Nat.le_of_succ_le h)), fun a ha b hb e => ?_⟩
    subst e
    have m := mem_due (Nat.le_of_succ_le h) ha
    obtain ⟨y, hy, e⟩ := mem_row h hb
    have f := fresh_at nd h
    rcases pr2_both (atS ts i) y with q | q
    · rw [← e] at q
      rw [q] at m
      exact f m.1
    · rw [← e] at q
      rw [q] at m
      exact f m.2
theorem pr2_lt' {x y : Str} (h : x ≠ y) : LtS (pr2 x y).1 (pr2 x y).2 := by
  rcases tri x y with k | k | k
  · rw [pr2_lt k]; exact k
  · exact absurd k h
  · rw [pr2_gt k]; exact k
theorem lt_due {ch : Bool} {ts : List Str} (nd : ts.Nodup) : ∀ {i : Nat}, i ≤ ts.length → ∀ {p}, p ∈ dueP ch ts i → LtS p.1 p.2
  | 0, _, p, m => by cases m
  | i + 1, h, p, m => by
    unfold dueP at m
    rcases List.mem_append.1 m with m | m
    · exact lt_due nd (Nat.le_of_succ_le h) m
    · obtain ⟨y, hy, e⟩ := mem_row h m
      rw [e]
      exact pr2_lt' fun e => fresh_at nd h (by rw [e]; exact hy)
theorem len_due {ch : Bool} {ts : List Str} : ∀ {i : Nat}, i ≤ ts.length → (dueP ch ts i).length ≤ i * ts.length
  | 0, _ => by simp [dueP]
  | i + 1, h => by
    unfold dueP
    have h1 := len_due (ch := ch) (Nat.le_of_succ_le h)
    have h2 := (rowP_sub (ch := ch) (i := i) (Nat.le_of_succ_le h)).length_le
    rw [List.length_map, List.length_take] at h2
    rw [List.length_append, Nat.succ_mul]
    omega
/-! ### chains -/
theorem rowP_low {ts : List Str} {i : Nat} : ∀ {j : Nat}, j < i → rowP true ts i j = []
  | 0, _ => rfl
  | j + 1, h => by
    unfold rowP
    rw [rowP_low (Nat.lt_of_succ_lt h), if_neg (by simp; omega)]
    rfl
theorem chain_due {ts : List Str} : ∀ {i : Nat}, i ≤ ts.length → dueP true ts i = ((chainW ts).take (i - 1)).map prP
  | 0, _ => by simp [dueP]
  | 1, _ => by simp [dueP, rowP]
  | i + 2, h => by
    have ih := chain_due (ts := ts) (i := i + 1) (Nat.le_of_succ_le h)
    unfold dueP
    rw [ih]
    have e1 : rowP true ts (i + 1) (i + 1) = [pr2 (atS ts (i + 1)) (atS ts i)] := by
      rw [rowP, rowP_low (Nat.lt_succ_self _), if_pos (by simp)]
      rfl
    rw [e1]
    show _ = ((chainW ts).take (i + 1)).map prP
    have e2 : (chainW ts)[i]? = some (atS ts i, atS ts (i + 1)) := by
      unfold chainW
      rw [List.getElem?_zip_eq_some]
      refine ⟨atS_get (by omega), ?_⟩
      rw [List.getElem?_tail]
      exact atS_get (by omega)
    rw [List.take_add_one, e2, List.map_append]
    show _ = _ ++ [pr2 (atS ts i) (atS ts (i + 1))]
    rw [pr2_comm (atS ts i)]
    rfl
theorem due_chain (ts : List Str) : due true ts = (chainW ts).map prP := by
  unfold due
  rw [chain_due (Nat.le_refl _), List.take_of_length_le]
  unfold chainW
  rw [List.length_zip, List.length_tail]
  omega
/-! ### all ways -/
theorem rowP_full {ts : List Str} {i : Nat} : ∀ {j : Nat}, j ≤ ts.length → rowP false ts i j = (ts.take j).map (pr2 (atS ts i))
  | 0, _ => by simp [rowP]
  | j + 1, h => by
    rw [take_snoc h, List.map_append]
    unfold rowP
    rw [rowP_full (Nat.le_of_succ_le h)]
    rfl
theorem rowW_one {x y : Str} : rowW [x] y = if ltZ y x = true then [(y, x)] else [] := by
  unfold rowW
  cases e : ltZ y x
  · simp [e]
  · simp [e]
theorem rowW_app (l m : List Str) (a : Str) : rowW (l ++ m) a = rowW l a ++ rowW m a := by
  unfold rowW
  rw [List.filter_append, List.map_append]
theorem full_new {x : Str} : ∀ {m : List Str}, x ∉ m → (m.flatMap (rowW [x]) ++ rowW m x).Perm (m.map (pr2 x))
  | [], _ => by simp [rowW]
  | y :: m, h => by
    have ih := full_new (x := x) (m := m) fun k => h (List.mem_cons_of_mem _ k)
    have ne : x ≠ y := fun e => h (by rw [e]; exact List.mem_cons_self)
    rw [List.flatMap_cons, List.map_cons, show y :: m = [y] ++ m from rfl, rowW_app, rowW_one, rowW_one]
    rcases tri x y with k | k | k
    · rw [if_neg (fun e => LtS.asymm k (ltZ_iff.1 e)), if_pos (ltZ_iff.2 k), pr2_lt k, List.nil_append]
      exact (List.perm_middle).trans (ih.cons _)
    · exact absurd k ne
    · rw [if_pos (ltZ_iff.2 k), if_neg (fun e => LtS.asymm k (ltZ_iff.1 e)), pr2_gt k]
      exact ih.cons _
theorem flat_two {l : List Str} {f g : Str → List (Str × Str)} : (l.flatMap fun a => f a ++ g a).Perm (l.flatMap f ++ l.flatMap g) := by
  induction l with
  | nil => exact .refl _
  | cons a l ih =>
    rw [List.flatMap_cons, List.flatMap_cons, List.flatMap_cons, List.append_assoc, List.append_assoc]
    refine List.Perm.append_left _ ?_
    refine (List.Perm.append_left _ ih).trans ?_
    rw [← List.append_assoc, ← List.append_assoc]
    exact List.Perm.append_right _ List.perm_append_comm
theorem full_snoc {l : List Str} {x : Str} (h : x ∉ l) : (fullW (l ++ [x])).Perm (fullW l ++ l.map (pr2 x)) := by
  unfold fullW
  rw [List.flatMap_append, List.flatMap_cons, List.flatMap_nil, List.append_nil, rowW_app, rowW_one, if_neg (fun e => LtS.irrefl (ltZ_iff.1 e)), List.append_nil]
  have e : (l.flatMap (rowW (l ++ [x]))).Perm (l.flatMap (rowW l) ++ l.flatMap (rowW [x])) := by
    rw [show rowW (l ++ [x]) = fun a => rowW l a ++ rowW [x] a from funext fun a => rowW_app l [x] a]
    exact flat_two
  refine (List.Perm.append_right _ e).trans ?_
  rw [List.append_assoc]
  exact List.Perm.append_left _ (full_new h)
theorem full_due {ts : List Str} (nd : ts.Nodup) : ∀ {i : Nat}, i ≤ ts.length → (fullW (ts.take i)).Perm (dueP false ts i)
  | 0, _ => by simp [dueP, fullW]
  | i + 1, h => by
    unfold dueP
    rw [take_snoc h, rowP_full (Nat.le_of_succ_le h)]
    exact (full_snoc (fresh_at nd h)).trans (List.Perm.append_right _ (full_due nd (Nat.le_of_succ_le h)))
theorem due_full {ts : List Str} (nd : ts.Nodup) : (fullW ts).Perm (due false ts) := by
  have := full_due nd (Nat.le_refl ts.length)
  rwa [List.take_length] at this
/-! ### the ways taken -/
theorem waysGo_ok {ts : List Str} : ∀ {ws found : List (Str × Str)}, (∀ p ∈ ws, p.1 ∈ ts ∧ p.2 ∈ ts ∧ p.1 ≠ p.2) → (found ++ ws.map prP).Nodup → waysGo ts found ws = .ok (found ++ ws.map prP)
  | [], found, _, _ => by simp [waysGo]
  | (a, b) :: r, found, h, nd => by
    obtain ⟨ha, hb, ne⟩ := h (a, b) List.mem_cons_self
    rw [List.map_cons] at nd
    have nf : pr2 a b ∉ found := fun m => by
      rw [List.nodup_append] at nd
      exact nd.2.2 _ m _ List.mem_cons_self rfl
    unfold waysGo
    rw [if_neg (fun c => c ha), if_neg (fun c => c hb), if_neg ne, if_neg nf]
    rw [waysGo_ok (fun p hp => h p (List.mem_cons_of_mem _ hp)) (by rw [List.append_assoc]; exact nd), List.append_assoc]
    rfl
def waysOf (ch : Bool) (ts : List Str) : List (Str × Str) := if ch = true then chainW ts else fullW ts
def dueS (ch : Bool) (ts : List Str) : List (Str × Str) := sortP (due ch ts)
theorem full_prP {ts : List Str} : (fullW ts).map prP = fullW ts := by
  refine (List.map_congr_left fun p hp => ?_).trans (List.map_id _)
  unfold fullW rowW at hp
  rw [List.mem_flatMap] at hp
  obtain ⟨x, hx, hp⟩ := hp
  rw [List.mem_map] at hp
  obtain ⟨y, hy, rfl⟩ := hp
  exact pr2_lt (ltZ_iff.1 (List.mem_filter.1 hy).2)
theorem nodup_at {ts : List Str} (nd : ts.Nodup) {i j : Nat} {z : Str} (h1 : ts[i]? = some z) (h2 : ts[j]? = some z) : i = j := by
  obtain ⟨l1, e1⟩ := List.getElem?_eq_some_iff.1 h1
  obtain ⟨l2, e2⟩ := List.getElem?_eq_some_iff.1 h2
  exact (List.getElem_inj (h₀ := l1) (h₁ := l2) nd).1 (by rw [e1, e2])
theorem ways_ok {ts : List Str} (nd : ts.Nodup) (ch : Bool) : ∃ found, waysGo ts [] (waysOf ch ts) = .ok found ∧ found.Perm (due ch ts) := by
  cases ch with
  | true =>
    refine ⟨(chainW ts).map prP, ?_, by rw [due_chain]⟩
    have := waysGo_ok (ts := ts) (ws := chainW ts) (found := []) (fun p hp => ?_) (by rw [List.nil_append, ← due_chain]; exact nodup_due nd (Nat.le_refl _))
    · rw [List.nil_append] at this
      exact this
    · obtain ⟨i, h1, h2⟩ := zip_get (a := p.1) (b := p.2) hp
      rw [List.getElem?_tail] at h2
      refine ⟨List.mem_of_getElem? h1, List.mem_of_getElem? h2, fun e => ?_⟩
      rw [e] at h1
      have := nodup_at nd h1 h2
      omega
  | false =>
    refine ⟨fullW ts, ?_, due_full nd⟩
    have := waysGo_ok (ts := ts) (ws := fullW ts) (found := []) (fun p hp => ?_) (by rw [List.nil_append, full_prP]; exact (due_full nd).nodup_iff.2 (nodup_due nd (Nat.le_refl _)))
    · rw [List.nil_append, full_prP] at this
      exact this
    · unfold fullW rowW at hp
      rw [List.mem_flatMap] at hp
      obtain ⟨x, hx, hp⟩ := hp
      rw [List.mem_map] at hp
      obtain ⟨y, hy, rfl⟩ := hp
      exact ⟨hx, (List.mem_filter.1 hy).1, fun e : x = y => LtS.irrefl (by have := ltZ_iff.1 (List.mem_filter.1 hy).2; rwa [e] at this)⟩
end XB

/-! What the webs are like. -/
namespace XB
open PySem L2
theorem chain_snoc : ∀ {m : List Str} {b x : Str}, chainW (m ++ [b, x]) = chainW (m ++ [b]) ++ [(b, x)]
  | [], b, x => rfl
  | [a], b, x => rfl
  | a :: c :: m, b, x => by
    have ih := chain_snoc (m := c :: m) (b := b) (x := x)
    show (a, c) :: chainW (c :: m ++ [b, x]) = (a, c) :: chainW (c :: m ++ [b]) ++ [(b, x)]
    rw [ih]
    rfl
theorem chain_rev : ∀ (ts : List Str), ((chainW ts.reverse).map prP).Perm ((chainW ts).map prP)
  | [] => .refl _
  | [a] => .refl _
  | a :: b :: r => by
    have ih := chain_rev (b :: r)
    rw [List.reverse_cons, List.reverse_cons, List.append_assoc]
    show ((chainW (r.reverse ++ [b, a])).map prP).Perm _
    rw [chain_snoc, List.map_append]
    rw [List.reverse_cons] at ih
    refine (List.Perm.append_right _ ih).trans ?_
    rw [show ([(b, a)] : List (Str × Str)).map prP = [prP (a, b)] by show [pr2 b a] = [pr2 a b]; rw [pr2_comm]]
    exact List.perm_append_comm (l₂ := [prP (a, b)])
theorem dueS_rev (ts : List Str) : dueS true ts.reverse = dueS true ts := by
  unfold dueS
  rw [due_chain, due_chain]
  exact sortP_eq (chain_rev ts)
theorem sortZ_rev (ts : List Str) : sortZ ts.reverse = sortZ ts := sortZ_eq ((List.reverse_perm ts).trans (sortZ_perm ts).symm) (sortZ_pair ts)
theorem sortZ_of {a b : List Str} (h : a.Perm b) : sortZ a = sortZ b := sortZ_eq (h.trans (sortZ_perm b).symm) (sortZ_pair b)
theorem near_of {a b : List Str} (h : a.Perm b) (W : List (Str × Str)) : nearOf a W = nearOf b W := by
  funext z
  unfold nearOf
  exact sortZ_of ((h.filter _).cons _)
theorem mem_dueS {ch : Bool} {ts : List Str} {p : Str × Str} : p ∈ dueS ch ts ↔ p ∈ due ch ts := (sortP_perm _).mem_iff
theorem dueS_lt {ch : Bool} {ts : List Str} (nd : ts.Nodup) {p : Str × Str} (h : p ∈ dueS ch ts) : LtS p.1 p.2 := lt_due nd (Nat.le_refl _) (mem_dueS.1 h)
theorem dueS_in {ch : Bool} {ts : List Str} {p : Str × Str} (h : p ∈ dueS ch ts) : p.1 ∈ ts ∧ p.2 ∈ ts := by
  have := mem_due (Nat.le_refl _) (mem_dueS.1 h)
  rw [List.take_length] at this
  exact this
theorem dueS_nodup {ch : Bool} {ts : List Str} (nd : ts.Nodup) : (dueS ch ts).Nodup := (sortP_perm _).nodup_iff.2 (nodup_due nd (Nat.le_refl _))
theorem dueS_len {ch : Bool} {ts : List Str} (l8 : ts.length ≤ 8) : (dueS ch ts).length ≤ 64 := by
  have h := len_due (ch := ch) (Nat.le_refl ts.length)
  have e : (dueS ch ts).length = (dueP ch ts ts.length).length := (sortP_perm _).length_eq
  have l64 : ts.length * ts.length ≤ 8 * 8 := Nat.mul_le_mul l8 l8
  omega
/-- the ways that are due, taken again -/
theorem ways_again {ch : Bool} {ts ts2 : List Str} (nd : ts.Nodup) (hp : ts2.Perm ts) : waysGo ts2 [] (dueS ch ts) = .ok (dueS ch ts) := by
  have e : (dueS ch ts).map prP = dueS ch ts := (List.map_congr_left fun p hp => pr2_lt (dueS_lt nd hp)).trans (List.map_id _)
  have := waysGo_ok (ts := ts2) (ws := dueS ch ts) (found := []) (fun p hq => ⟨hp.mem_iff.2 (dueS_in hq).1, hp.mem_iff.2 (dueS_in hq).2, fun e => LtS.irrefl (by have := dueS_lt nd hq; rwa [e] at this)⟩) (by rw [List.nil_append, e]; exact dueS_nodup nd)
  rw [List.nil_append, e] at this
  exact this
theorem dueS_sorted (ch : Bool) (ts : List Str) : sortP (dueS ch ts) = dueS ch ts := sortP_eq (sortP_perm _)
/-- joined, or the same -/
def joinB (W : List (Str × Str)) (a b : Str) : Bool := decide (a = b) || decide ((a, b) ∈ W) || decide ((b, a) ∈ W)
theorem pr2_mem {W : List (Str × Str)} (hW : ∀ p ∈ W, LtS p.1 p.2) {a b : Str} (ne : a ≠ b) : decide (pr2 a b ∈ W) = (decide ((a, b) ∈ W) || decide ((b, a) ∈ W)) := by
  rcases tri a b with k | k | k
  · rw [pr2_lt k]
    have : (b, a) ∉ W := fun m => LtS.asymm k (hW _ m)
    simp [this]
  · exact absurd k ne
  · rw [pr2_gt k]
    have : (a, b) ∉ W := fun m => LtS.asymm k (hW _ m)
    simp [this]
theorem filter_one {P J : Str → Bool} {z : Str} : ∀ {ts : List Str}, ts.Nodup → P z = false → J z = true → (∀ o, o ≠ z → J o = P o) → z ∈ ts → (ts.filter J).Perm (z :: ts.filter P)
  | [], _, _, _, _, m => by cases m
  | y :: r, nd, hP, hJ, hJP, m => by
    rw [List.nodup_cons] at nd
    by_cases e : y = z
    · subst e
      have er : r.filter J = r.filter P := List.filter_congr fun o ho => hJP o fun e => nd.1 (by rw [← e]; exact ho)
      rw [List.filter_cons, if_pos hJ, List.filter_cons, if_neg (by rw [hP]; decide), er]
    · have mr : z ∈ r := by
        rcases List.mem_cons.1 m with h | h
        · exact absurd h.symm e
        · exact h
      have ih := filter_one nd.2 hP hJ hJP mr
      rw [List.filter_cons, List.filter_cons, hJP y e]
      cases P y
      · simpa using ih
      · simp only [if_true]
        exact (ih.cons _).trans (List.Perm.swap _ _ _)
theorem near_eq {ts : List Str} {W : List (Str × Str)} (nd : ts.Nodup) (hW : ∀ p ∈ W, LtS p.1 p.2) {z : Str} (hz : z ∈ ts) : nearOf ts W z = (sortZ ts).filter (joinB W z) := by
  unfold nearOf
  refine sortZ_eq ?_ ((sortZ_pair ts).sublist List.filter_sublist)
  have h1 : ((sortZ ts).filter (joinB W z)).Perm (ts.filter (joinB W z)) := (sortZ_perm ts).filter _
  refine List.Perm.symm (h1.trans (filter_one (P := fun o => decide (pr2 z o ∈ W)) nd ?_ ?_ (fun o no => ?_) hz))
  · refine decide_eq_false fun m => ?_
    rw [pr2_self] at m
    exact LtS.irrefl (hW _ m)
  · simp [joinB]
  · rw [pr2_mem hW (fun e => no e.symm)]
    have : ¬ z = o := fun e => no e.symm
    simp [joinB, this]
theorem mem_near {ts : List Str} {W : List (Str × Str)} {z o : Str} : o ∈ nearOf ts W z ↔ o = z ∨ (o ∈ ts ∧ pr2 z o ∈ W) := by
  unfold nearOf
  rw [(sortZ_perm _).mem_iff, List.mem_cons, List.mem_filter, decide_eq_true_eq]
/-! ### when both are alike -/
theorem few_alike {ts : List Str} (h : ts.length < 3) : dueS false ts = dueS true ts := by
  match ts, h with
  | [], _ => rfl
  | [a], _ => rfl
  | [a, b], _ => rfl
  | a :: b :: c :: r, h => simp at h; omega
theorem many_unlike {ts : List Str} (nd : ts.Nodup) (h : ¬ ts.length < 3) : ∃ z ∈ ts, nearOf ts (dueS false ts) z ≠ nearOf ts (dueS true ts) z := by
  match ts, nd, h with
  | [], _, h => simp at h
  | [a], _, h => simp at h
  | [a, b], _, h => simp at h
  | a :: b :: c :: r, nd, _ =>
    refine ⟨a, List.mem_cons_self, fun e => ?_⟩
    have ac : a ≠ c := fun e => by
      have := nodup_at nd (i := 0) (j := 2) (z := a) rfl (by rw [e]; rfl)
      omega
    have m1 : c ∈ nearOf (a :: b :: c :: r) (dueS false (a :: b :: c :: r)) a := by
      refine mem_near.2 (.inr ⟨by simp, ?_⟩)
      rw [mem_dueS, ← (due_full nd).mem_iff]
      unfold fullW rowW
      rw [List.mem_flatMap]
      rcases tri a c with k | k | k
      · rw [pr2_lt k]
        exact ⟨a, by simp, List.mem_map.2 ⟨c, List.mem_filter.2 ⟨by simp, ltZ_iff.2 k⟩, rfl⟩⟩
      · exact absurd k ac
      · rw [pr2_gt k]
        exact ⟨c, by simp, List.mem_map.2 ⟨a, List.mem_filter.2 ⟨by simp, ltZ_iff.2 k⟩, rfl⟩⟩
    rw [e] at m1
    rcases mem_near.1 m1 with h | ⟨_, h⟩
    · exact ac h.symm
    · rw [mem_dueS, due_chain] at h
      obtain ⟨p, hp, e⟩ := List.mem_map.1 h
      obtain ⟨i, h1, h2⟩ := zip_get (a := p.1) (b := p.2) hp
      rw [List.getElem?_tail] at h2
      rcases pr2_eq.1 e with ⟨e1, e2⟩ | ⟨e1, e2⟩
      · rw [e1] at h1
        rw [e2] at h2
        have i0 := nodup_at nd (i := i) (j := 0) h1 rfl
        have i2 := nodup_at nd (i := i + 1) (j := 2) h2 rfl
        omega
      · rw [e1] at h1
        rw [e2] at h2
        have i0 := nodup_at nd (i := i + 1) (j := 0) h2 rfl
        omega
end XB

/-! What the law asks of a web: joined, heard. -/
namespace XB
open PySem L2
local macro_rules | `(tactic| walk_at "s") => `(tactic| try simp only [u_var, u_c, u_op, u_un, u_nil, u_cons, u_cb, u_call, u_callS, u_tup, u_lst, u_test, u_B, u_and, u_or, u_not, u_andV, u_orV, u_notV, u_ifE, u_chain, u_sl, u_noPart, u_part, u_bm, u_bm0, u_rev, u_lc, u_try, u_sui, u_sui0, u_unb_rt, u_unb_nx, u_xf, u_WE, w_nil, w_cons, u_raise, u_rng1, u_rng2, u_next, u_ret, u_gname, u_gnil, u_gcons, u_gsub, u_gtup,
  f_add, f_addS, f_addR, f_sub, f_mul, f_mulR, f_mod, f_div, f_pow, f_neg, f_cmp, f_eq, f_eqB, f_eqS, f_ne, f_neB, f_neS, f_isN, f_notN, f_isB, f_ix, f_ixS, f_int, f_intB, f_len, f_lenS, f_max, f_min, f_abs, f_list, f_tuple, f_all, f_sum, f_isi, f_isiT, f_append, f_insert, f_pop, f_sl, f_set, u_fldW, u_propW, u_makeS, u_makeL, u_cmethS, u_methS, u_ostW, f_isC, f_minSS, f_maxSS, f_reverse,
  kitS, tys, List.isEmpty_cons, Option.map_some, kt_NoneType_int, kt_NoneType_bool, kt_NoneType_str, kt_NoneType_list, kt_NoneType_tuple, kt_NoneType_dict, kt_int_int, kt_int_bool, kt_int_str, kt_int_list, kt_int_tuple, kt_int_dict, kt_bool_int, kt_bool_bool, kt_bool_str, kt_bool_list, kt_bool_tuple, kt_bool_dict, kt_str_int, kt_str_bool, kt_str_str, kt_str_list, kt_str_tuple, kt_str_dict, kt_list_int, kt_list_bool, kt_list_str, kt_list_list, kt_list_tuple, kt_list_dict, kt_tuple_int, kt_tuple_bool, kt_tuple_str, kt_tuple_list, kt_tuple_tuple, kt_tuple_dict, kt_dict_int, kt_dict_bool, kt_dict_str, kt_dict_list, kt_dict_tuple, kt_dict_dict, asL_lst, asL_frz, asL_tup, asT_tup, asS_lst, asS_frz, asS_tup, tyN_non, tyN_bl, tyN_int, tyN_str, atV_lit, ixN_lit, upd_same, upd_ne, upd_ne',
  List.getElem?_cons_zero, List.getElem?_cons_succ, List.set_cons_zero, List.set_cons_succ, List.append_nil, List.length_cons, List.length_nil, Option.some.injEq, exists_eq_left', exists_eq_left, exists_and_left, V.bl.injEq, V.int.injEq, V.str.injEq, V.ref.injEq, Bool.not_eq_true, Bool.not_true, Bool.not_false, decide_true, decide_false, decide_eq_true_eq, decide_eq_false_iff_not, Bool.false_eq_true, if_true, if_false, ite_true, ite_false, reduceCtorEq, true_and, and_true, Nat.reduceAdd, Nat.reduceLT, Nat.zero_add, ne_eq, not_false_eq_true, not_true_eq_false, List.cons.injEq, and_assoc])
local macro_rules | `(tactic| walk_at "S") => `(tactic| try simp only [u_var, u_c, u_op, u_un, u_nil, u_cons, u_cb, u_call, u_callS, u_tup, u_lst, u_test, u_B, u_and, u_or, u_not, u_andV, u_orV, u_notV, u_ifE, u_chain, u_sl, u_noPart, u_part, u_bm, u_bm0, u_rev, u_lc, u_try, u_sui, u_sui0, u_unb_rt, u_unb_nx, u_xf, u_WE, w_nil, w_cons, u_raise, u_rng1, u_rng2, u_next, u_ret, u_gname, u_gnil, u_gcons, u_gsub, u_gtup,
  f_add, f_addS, f_addR, f_sub, f_mul, f_mulR, f_mod, f_div, f_pow, f_neg, f_cmp, f_eq, f_eqB, f_eqS, f_ne, f_neB, f_neS, f_isN, f_notN, f_isB, f_ix, f_ixS, f_int, f_intB, f_len, f_lenS, f_max, f_min, f_abs, f_list, f_tuple, f_all, f_sum, f_isi, f_isiT, f_append, f_insert, f_pop, f_sl, f_set, u_fldW, u_propW, u_makeS, u_makeL, u_cmethS, u_methS, u_ostW, f_isC, f_minSS, f_maxSS, f_reverse,
  kitS, tys, List.isEmpty_cons, Option.map_some, kt_NoneType_int, kt_NoneType_bool, kt_NoneType_str, kt_NoneType_list, kt_NoneType_tuple, kt_NoneType_dict, kt_int_int, kt_int_bool, kt_int_str, kt_int_list, kt_int_tuple, kt_int_dict, kt_bool_int, kt_bool_bool, kt_bool_str, kt_bool_list, kt_bool_tuple, kt_bool_dict, kt_str_int, kt_str_bool, kt_str_str, kt_str_list, kt_str_tuple, kt_str_dict, kt_list_int, kt_list_bool, kt_list_str, kt_list_list, kt_list_tuple, kt_list_dict, kt_tuple_int, kt_tuple_bool, kt_tuple_str, kt_tuple_list, kt_tuple_tuple, kt_tuple_dict, kt_dict_int, kt_dict_bool, kt_dict_str, kt_dict_list, kt_dict_tuple, kt_dict_dict, asL_lst, asL_frz, asL_tup, asT_tup, asS_lst, asS_frz, asS_tup, tyN_non, tyN_bl, tyN_int, tyN_str, atV_lit, ixN_lit, upd_same, upd_ne, upd_ne',
  List.getElem?_cons_zero, List.getElem?_cons_succ, List.set_cons_zero, List.set_cons_succ, List.append_nil, List.length_cons, List.length_nil, Option.some.injEq, exists_eq_left', exists_eq_left, exists_and_left, V.bl.injEq, V.int.injEq, V.str.injEq, V.ref.injEq, Bool.not_eq_true, Bool.not_true, Bool.not_false, decide_true, decide_false, decide_eq_true_eq, decide_eq_false_iff_not, Bool.false_eq_true, if_true, if_false, ite_true, ite_false, reduceCtorEq, true_and, and_true, Nat.reduceAdd, Nat.reduceLT, Nat.zero_add, ne_eq, not_false_eq_true, not_true_eq_false, List.cons.injEq, and_assoc, *])
structure EF (K : PySem.W.Frag) (C : CA) : Prop where
  x_rr : PySem.W.exmOne K (.ref C.Repeated) (.ref C.Repeated) = some true
  x_br : PySem.W.exmOne K (.ref C.BadShape) (.ref C.Repeated) = some false
  x_bb : PySem.W.exmOne K (.ref C.BadShape) (.ref C.BadShape) = some true
  k_rc : PySem.W.kitOne K (.ref C.Repeated) (.ref C.CrossError) = some true
  k_rv : PySem.W.kitOne K (.ref C.Repeated) (.type "ValueError") = some true
  a_r : PySem.W.kitAny K (.ref C.Repeated) [.ref C.BadShape, .ref C.SameTown] = some false
  k_bc : PySem.W.kitOne K (.ref C.BadShape) (.ref C.CrossError) = some true
  k_bv : PySem.W.kitOne K (.ref C.BadShape) (.type "ValueError") = some true
  a_b : PySem.W.kitAny K (.ref C.BadShape) [.ref C.UnknownTown, .ref C.SameTown] = some false
theorem lk1 {f : Str} {v : V} {r : List (Str × V)} : ((f, v) :: r).lookup f = some v := by simp [List.lookup]
/-- W at p, a list or tuple of pairs of names -/
def WaysAt (H : Hp) (p : Addr) (W : List (Str × Str)) : Prop := ∃ us, (asL (H p) = some us ∨ asT (H p) = some us) ∧ PairsAt H us W
def sp_l_joined (K : PySem.W.Frag) (C : CA) : Sp := fun vs H Q _ => ∃ p us a b W, vs = [.ref p, .str a, .str b] ∧ H p = some (.lst us) ∧ PairsAt H us W ∧ Pairs2 W ∧ nameS a = true ∧ nameS b = true ∧ ∀ H', Sm H H' → Q (.bl (joinB W a b)) H'
def rd_l_joined (K : PySem.W.Frag) (C : CA) (E : XK) : TS :=
  (tRet (tOrV (tOp (fEq K) (tVar 1) (tVar 2)) (tOrV (tOp (rInDt K false) (tTup (tCons (tVar 1) (tCons (tVar 2) tNil))) (tVar 0)) (tOp (rInDt K false) (tTup (tCons (tVar 2) (tCons (tVar 1) tNil))) (tVar 0)))))
theorem pure_l_joined {K : PySem.W.Frag} {C : CA} (vs : List V) (H : Hp) (Q : VK) (E : XK) (h : sp_l_joined K C vs H Q E) : rd_l_joined K C E { nx := fun _ H' => Q .non H', rt := Q } (start [("roads" : Str), ("here" : Str), ("there" : Str)] vs) H := by
  obtain ⟨p, us, a, b, W, rfl, hp, pa, nw, na, nb, q⟩ := h
  show rd_l_joined K C E _ [some (.ref p), some (.str a), some (.str b)] H
  unfold rd_l_joined
  refine q_ret ?_
  walk_at "s"
  by_cases c : a = b
  · rw [if_pos c]
    have e : joinB W a b = true := by simp [joinB, c]
    rw [← e]
    exact q H fun _ _ z => z
  rw [if_neg c]
  refine ⟨by decide, fun p1 n1 => al n1 fun H1 s1 h1 => ?_⟩
  have hp1 := s1 _ _ hp
  refine ⟨pairD (a, b), W.map pairD, .tup (asT_seq (by rw [h1]; rfl)) (.cons (.str _) (.cons (.str _) .nil)), .inl (.lst (asL_seq (asL_at hp1)) (pa.sm s1).dp), shaped_pair na nb, shaped_pairs nw, ?_⟩
  rw [any_pairs, Bool.false_xor]
  refine ⟨_, rfl, ?_⟩
  refine ite2 (fun c1 => ?_) fun c1 => ?_
  · have e : joinB W a b = true := by simp only [joinB, c1, Bool.or_true, Bool.true_or]
    rw [← e]
    exact q H1 s1
  refine ⟨by decide, fun p2 n2 => al n2 fun H2 s2 h2 => ?_⟩
  have s12 := sm_trans s1 s2
  have hp2 := s12 _ _ hp
  refine ⟨pairD (b, a), W.map pairD, .tup (asT_seq (by rw [h2]; rfl)) (.cons (.str _) (.cons (.str _) .nil)), .inl (.lst (asL_seq (asL_at hp2)) (pa.sm s12).dp), shaped_pair nb na, shaped_pairs nw, ?_⟩
  rw [any_pairs, Bool.false_xor]
  have e : joinB W a b = decide ((b, a) ∈ W) := by
    unfold joinB
    rw [show decide (a = b) = false from decide_eq_false c, show decide ((a, b) ∈ W) = false from (by simpa using c1)]
    rfl
  rw [← e]
  exact q H2 s12
def sp_l_heard (K : PySem.W.Frag) (C : CA) : Sp := fun vs H Q _ => ∃ v ch, vs = [v, .bl ch] ∧ Tz v H ∧ (∀ a xs, v = .ref a → asS (H a) = some xs → xs.length ≤ 1000 ∧ ∀ x ∈ xs, Tz x H) ∧
  (townsV v H = false → ∀ t H', Sm H H' → H t = none → H' t = some (.lst [.str ("BadShape" : Str), .str ("towns" : Str)]) → Q (.ref t) H') ∧
  ∀ a ts, v = .ref a → asS (H a) = some (ts.map V.str) → 1 ≤ ts.length → ts.length ≤ 8 → NamesZ ts → (∀ z, firstRep [] ts = some z → ∀ t H', Sm H H' → H t = none → H' t = some (.lst [.str ("Repeated" : Str), .str z]) → Q (.ref t) H') ∧
    (ts.Nodup → ∀ t H' p wt d us f, Sm H H' → H t = none → H p = none → H' t = some (.lst [.str ("good" : Str), .ref p]) → WebX C.Web H' p wt d us f (sortZ ts) (dueS ch ts) (nearOf ts (dueS ch ts)) → Q (.ref t) H')
def rd_l_heard (K : PySem.W.Frag) (C : CA) (E : XK) : TS :=
  (tTryX K (fun W => (tSeq (tIfS (tB (tVar 1)) (tRet (tLst (tCons (tC (.str ("good" : Str))) (tCons (tCMethS C.Web (sp_Web_chain K C) (WE W) (tC (.ref C.Web)) (tCons (tVar 0) tNil)) tNil)))) tNext) (tRet (tLst (tCons (tC (.str ("good" : Str))) (tCons (tCMethS C.Web (sp_Web_full K C) (WE W) (tC (.ref C.Web)) (tCons (tVar 0) tNil)) tNil)))))) (fun _ _ _ _ => False) ((.ref C.Repeated, some 2, fun a cls d => (tSeq (tIfS (tOr (tNot (tB (tCB (fIsE K C.Repeated a cls d) (tCons (tVar 2) (tCons (tC (.ref C.CrossError)) tNil))))) (tOr (tNot (tB (tCB (fIsE K C.Repeated a cls d) (tCons (tVar 2) (tCons (tC (.ty "ValueError")) tNil))))) (tB (tCB (fIsET K C.Repeated a cls d) (tCons (tVar 2) (tCons (tTup (tCons (tC (.ref C.BadShape)) (tCons (tC (.ref C.SameTown)) tNil))) tNil)))))) (tRet (tLst (tCons (tC (.str ("beneath" : Str))) tNil))) tNext) (tRet (tLst (tCons (tC (.str ("Repeated" : Str))) (tCons (tXf a cls d C.Repeated ("thing" : Str) (tVar 2)) tNil)))))) :: ((.ref C.BadShape, some 2, fun a cls d => (tSeq (tIfS (tOr (tNot (tB (tCB (fIsE K C.BadShape a cls d) (tCons (tVar 2) (tCons (tC (.ref C.CrossError)) tNil))))) (tOr (tNot (tB (tCB (fIsE K C.BadShape a cls d) (tCons (tVar 2) (tCons (tC (.ty "ValueError")) tNil))))) (tB (tCB (fIsET K C.BadShape a cls d) (tCons (tVar 2) (tCons (tTup (tCons (tC (.ref C.UnknownTown)) (tCons (tC (.ref C.SameTown)) tNil))) tNil)))))) (tRet (tLst (tCons (tC (.str ("beneath" : Str))) tNil))) tNext) (tRet (tLst (tCons (tC (.str ("BadShape" : Str))) (tCons (tXf a cls d C.BadShape ("parameter" : Str) (tVar 2)) tNil)))))) :: ((.ref C.CrossError, none, fun a cls d => (tRet (tLst (tCons (tC (.str ("another" : Str))) tNil)))) :: []))))
theorem pure_l_heard {K : PySem.W.Frag} {C : CA} (F : EF K C) (vs : List V) (H : Hp) (Q : VK) (E : XK) (h : sp_l_heard K C vs H Q E) : rd_l_heard K C E { nx := fun _ H' => Q .non H', rt := Q } (start [("places" : Str), ("chained" : Str), ("e" : Str)] vs) H := by
  obtain ⟨v, ch, rfl, tz, tx, q1, q2⟩ := h
  show rd_l_heard K C E _ [some v, some (.bl ch), none] H
  unfold rd_l_heard
  walk_at "s"
  refine q_if ?_
  walk_at "s"
  have hw := fun (ts : List Str) (nd : ts.Nodup) => ways_ok (ts := ts) nd ch
  cases ch
  all_goals
    simp only [Bool.false_eq_true, if_false, if_true]
    walk_at "s"
    refine ⟨v, rfl, tz, tx, fun no er H1 n1 h1 s1 => ?_, fun a ts e ha l1 l8 nts => ⟨fun z ez er H1 n1 h1 s1 => ?_, fun en => ?_⟩⟩
    · replace s1 : Sm H H1 := s1
      walk_at "s"
      refine wX_no F.x_br (wX_yes F.x_bb fun a na => ?_)
      refine q_if ?_
      walk_at "s"
      refine ⟨_, _, true, er, _, rfl, fun u h => h, rfl, rfl, h1, F.k_bc, ?_⟩
      walk_at "s"
      refine ⟨_, _, true, er, _, rfl, fun u h => h, rfl, rfl, h1, F.k_bv, ?_⟩
      walk_at "s"
      refine ⟨by decide, fun tp ht => al ht fun H2 s2 h2 => ?_⟩
      refine ⟨_, _, _, false, er, _, rfl, h2, .cons (.own _) (.cons (.own _) .nil), rfl, rfl, s2 _ _ h1, F.a_b, ?_⟩
      walk_at "s"
      refine ⟨_, s2 _ _ h1, _, lk1, by decide, fun t nt => al nt fun H3 s3 h3 => ?_⟩
      have s12 := sm_trans s1 s2
      exact q1 no t H3 (sm_trans s12 s3) (sm_none s12 nt) h3
    · replace s1 : Sm H H1 := s1
      walk_at "s"
      refine wX_yes F.x_rr fun a' na => ?_
      refine q_if ?_
      walk_at "s"
      refine ⟨_, _, true, er, _, rfl, fun u h => h, rfl, rfl, h1, F.k_rc, ?_⟩
      walk_at "s"
      refine ⟨_, _, true, er, _, rfl, fun u h => h, rfl, rfl, h1, F.k_rv, ?_⟩
      walk_at "s"
      refine ⟨by decide, fun tp ht => al ht fun H2 s2 h2 => ?_⟩
      refine ⟨_, _, _, false, er, _, rfl, h2, .cons (.own _) (.cons (.own _) .nil), rfl, rfl, s2 _ _ h1, F.a_r, ?_⟩
      walk_at "s"
      refine ⟨_, s2 _ _ h1, _, lk1, by decide, fun t nt => al nt fun H3 s3 h3 => ?_⟩
      have s12 := sm_trans s1 s2
      exact (q2 a ts e ha l1 l8 nts).1 z ez t H3 (sm_trans s12 s3) (sm_none s12 nt) h3
    · have nd : ts.Nodup := by have := (firstRep_none (r := ts) (seen := []) List.nodup_nil).1 en; rwa [List.nil_append] at this
      obtain ⟨fd, efd, pm⟩ := hw ts nd
      unfold waysOf at efd
      simp only [Bool.false_eq_true, if_false, if_true] at efd
      refine ⟨fun e he => ?_, fun found ef H1 p wt d us f s1 n1 w => ?_⟩
      · rw [efd] at he
        cases he
      · rw [efd] at ef
        cases ef
        have es : ∀ c, fd.Perm (due c ts) → sortP fd = dueS c ts := fun c h => sortP_eq h
        rw [es _ pm] at w
        refine ⟨by decide, fun t nt => al nt fun H2 s2 h2 => ?_⟩
        exact (q2 a ts e ha l1 l8 nts).2 nd t H2 p wt d us f (sm_trans s1 s2) (sm_none s1 nt) n1 h2 (w.sm s2)
end XB

/-! The ways that are due; what is refused. -/
namespace XB
open PySem L2
local macro_rules | `(tactic| walk_at "s") => `(tactic| try simp only [u_var, u_c, u_op, u_un, u_nil, u_cons, u_cb, u_call, u_callS, u_tup, u_lst, u_test, u_B, u_and, u_or, u_not, u_andV, u_orV, u_notV, u_ifE, u_chain, u_sl, u_noPart, u_part, u_bm, u_bm0, u_rev, u_lc, u_try, u_sui, u_sui0, u_unb_rt, u_unb_nx, u_xf, u_WE, w_nil, w_cons, u_raise, u_rng1, u_rng2, u_next, u_ret, u_gname, u_gnil, u_gcons, u_gsub, u_gtup,
  f_add, f_addS, f_addR, f_sub, f_mul, f_mulR, f_mod, f_div, f_pow, f_neg, f_cmp, f_eq, f_eqB, f_eqS, f_ne, f_neB, f_neS, f_isN, f_notN, f_isB, f_ix, f_ixS, f_int, f_intB, f_len, f_lenS, f_max, f_min, f_abs, f_list, f_tuple, f_all, f_sum, f_isi, f_isiT, f_append, f_insert, f_pop, f_sl, f_set, u_fldW, u_propW, u_makeS, u_makeL, u_cmethS, u_methS, u_ostW, f_isC, f_minSS, f_maxSS, f_reverse,
  kitS, tys, List.isEmpty_cons, Option.map_some, kt_NoneType_int, kt_NoneType_bool, kt_NoneType_str, kt_NoneType_list, kt_NoneType_tuple, kt_NoneType_dict, kt_int_int, kt_int_bool, kt_int_str, kt_int_list, kt_int_tuple, kt_int_dict, kt_bool_int, kt_bool_bool, kt_bool_str, kt_bool_list, kt_bool_tuple, kt_bool_dict, kt_str_int, kt_str_bool, kt_str_str, kt_str_list, kt_str_tuple, kt_str_dict, kt_list_int, kt_list_bool, kt_list_str, kt_list_list, kt_list_tuple, kt_list_dict, kt_tuple_int, kt_tuple_bool, kt_tuple_str, kt_tuple_list, kt_tuple_tuple, kt_tuple_dict, kt_dict_int, kt_dict_bool, kt_dict_str, kt_dict_list, kt_dict_tuple, kt_dict_dict, asL_lst, asL_frz, asL_tup, asT_tup, asS_lst, asS_frz, asS_tup, tyN_non, tyN_bl, tyN_int, tyN_str, atV_lit, ixN_lit, upd_same, upd_ne, upd_ne',
  List.getElem?_cons_zero, List.getElem?_cons_succ, List.set_cons_zero, List.set_cons_succ, List.append_nil, List.length_cons, List.length_nil, Option.some.injEq, exists_eq_left', exists_eq_left, exists_and_left, V.bl.injEq, V.int.injEq, V.str.injEq, V.ref.injEq, Bool.not_eq_true, Bool.not_true, Bool.not_false, decide_true, decide_false, decide_eq_true_eq, decide_eq_false_iff_not, Bool.false_eq_true, if_true, if_false, ite_true, ite_false, reduceCtorEq, true_and, and_true, Nat.reduceAdd, Nat.reduceLT, Nat.zero_add, ne_eq, not_false_eq_true, not_true_eq_false, List.cons.injEq, and_assoc])
local macro_rules | `(tactic| walk_at "S") => `(tactic| try simp only [u_var, u_c, u_op, u_un, u_nil, u_cons, u_cb, u_call, u_callS, u_tup, u_lst, u_test, u_B, u_and, u_or, u_not, u_andV, u_orV, u_notV, u_ifE, u_chain, u_sl, u_noPart, u_part, u_bm, u_bm0, u_rev, u_lc, u_try, u_sui, u_sui0, u_unb_rt, u_unb_nx, u_xf, u_WE, w_nil, w_cons, u_raise, u_rng1, u_rng2, u_next, u_ret, u_gname, u_gnil, u_gcons, u_gsub, u_gtup,
  f_add, f_addS, f_addR, f_sub, f_mul, f_mulR, f_mod, f_div, f_pow, f_neg, f_cmp, f_eq, f_eqB, f_eqS, f_ne, f_neB, f_neS, f_isN, f_notN, f_isB, f_ix, f_ixS, f_int, f_intB, f_len, f_lenS, f_max, f_min, f_abs, f_list, f_tuple, f_all, f_sum, f_isi, f_isiT, f_append, f_insert, f_pop, f_sl, f_set, u_fldW, u_propW, u_makeS, u_makeL, u_cmethS, u_methS, u_ostW, f_isC, f_minSS, f_maxSS, f_reverse,
  kitS, tys, List.isEmpty_cons, Option.map_some, kt_NoneType_int, kt_NoneType_bool, kt_NoneType_str, kt_NoneType_list, kt_NoneType_tuple, kt_NoneType_dict, kt_int_int, kt_int_bool, kt_int_str, kt_int_list, kt_int_tuple, kt_int_dict, kt_bool_int, kt_bool_bool, kt_bool_str, kt_bool_list, kt_bool_tuple, kt_bool_dict, kt_str_int, kt_str_bool, kt_str_str, kt_str_list, kt_str_tuple, kt_str_dict, kt_list_int, kt_list_bool, kt_list_str, kt_list_list, kt_list_tuple, kt_list_dict, kt_tuple_int, kt_tuple_bool, kt_tuple_str, kt_tuple_list, kt_tuple_tuple, kt_tuple_dict, kt_dict_int, kt_dict_bool, kt_dict_str, kt_dict_list, kt_dict_tuple, kt_dict_dict, asL_lst, asL_frz, asL_tup, asT_tup, asS_lst, asS_frz, asS_tup, tyN_non, tyN_bl, tyN_int, tyN_str, atV_lit, ixN_lit, upd_same, upd_ne, upd_ne',
  List.getElem?_cons_zero, List.getElem?_cons_succ, List.set_cons_zero, List.set_cons_succ, List.append_nil, List.length_cons, List.length_nil, Option.some.injEq, exists_eq_left', exists_eq_left, exists_and_left, V.bl.injEq, V.int.injEq, V.str.injEq, V.ref.injEq, Bool.not_eq_true, Bool.not_true, Bool.not_false, decide_true, decide_false, decide_eq_true_eq, decide_eq_false_iff_not, Bool.false_eq_true, if_true, if_false, ite_true, ite_false, reduceCtorEq, true_and, and_true, Nat.reduceAdd, Nat.reduceLT, Nat.zero_add, ne_eq, not_false_eq_true, not_true_eq_false, List.cons.injEq, and_assoc, *])
theorem rp_flat {H : Hp} : ∀ {n : Nat} {v : V} {d : PyData}, Flat 1000 v d → Rp H n v d
  | 0, _, _, h => h
  | _ + 1, _, _, h => .inl h
theorem rp_str {H : Hp} {n : Nat} {z : Str} (h : z.length ≤ 1000) : Rp H n (.str z) (.str z) := rp_flat (.inr (.inr (.inr ⟨z, ⟨rfl, h⟩, rfl⟩)))
theorem rp_int {H : Hp} {n : Nat} {i : Int} : Rp H n (.int i) (.int i) := rp_flat (.inr (.inr (.inl ⟨i, rfl, rfl⟩)))
theorem rp_bl {H : Hp} {n : Nat} {b : Bool} : Rp H n (.bl b) (.bool b) := rp_flat (.inr (.inl ⟨b, rfl, rfl⟩))
theorem rp_list {H : Hp} {n : Nat} {p : Addr} {xs : List V} {ds : List PyData} (h : asL (H p) = some xs) (l : xs.length ≤ 1000) (a : All2 (Rp H n) xs ds) : Rp H (n + 1) (.ref p) (.list ds) := .inr (.inl ⟨p, xs, ds, rfl, h, rfl, l, a⟩)
theorem rp_tup {H : Hp} {n : Nat} {p : Addr} {xs : List V} {ds : List PyData} (h : asT (H p) = some xs) (l : xs.length ≤ 1000) (a : All2 (Rp H n) xs ds) : Rp H (n + 1) (.ref p) (.tuple ds) := .inr (.inr (.inl ⟨p, xs, ds, rfl, h, rfl, l, a⟩))
theorem all2_nil {R : V → PyData → Prop} : All2 R [] [] := ⟨rfl, fun i u d h1 h2 => by simp at h1⟩
theorem all2_cons {R : V → PyData → Prop} {x : V} {a : PyData} {xs : List V} {ds : List PyData} (h : R x a) (k : All2 R xs ds) : All2 R (x :: xs) (a :: ds) := ⟨by rw [List.length_cons, List.length_cons, k.1], fun i u d h1 h2 => by
  match i, h1, h2 with
  | 0, h1, h2 => cases h1; cases h2; exact h
  | i + 1, h1, h2 => exact k.2 i u d (by simpa using h1) (by simpa using h2)⟩
theorem all2_two {R : V → PyData → Prop} {x y : V} {a b : PyData} (h : R x a) (k : R y b) : All2 R [x, y] [a, b] := all2_cons h (all2_cons k all2_nil)
theorem all2_strs {H : Hp} {n : Nat} {zs : List Str} (h : ∀ z ∈ zs, z.length ≤ 1000) : All2 (Rp H n) (zs.map V.str) (zs.map PyData.str) := ⟨by rw [List.length_map, List.length_map], fun i u d h1 h2 => by
  rw [List.getElem?_map] at h1 h2
  cases e : zs[i]? with
  | none => rw [e] at h1; cases h1
  | some z =>
    rw [e] at h1 h2
    cases h1
    cases h2
    exact rp_str (h z (List.mem_of_getElem? e))⟩
theorem all2_bls {H : Hp} {n : Nat} {α : Type} {zs : List α} {g : α → Bool} : All2 (Rp H n) (zs.map fun z => V.bl (g z)) (zs.map fun z => PyData.bool (g z)) := ⟨by rw [List.length_map, List.length_map], fun i u d h1 h2 => by
  rw [List.getElem?_map] at h1 h2
  cases e : zs[i]? with
  | none => rw [e] at h1; cases h1
  | some z =>
    rw [e] at h1 h2
    cases h1
    cases h2
    exact rp_bl⟩
theorem PairsAt.rp {H : Hp} {n : Nat} {xs : List V} {ps : List (Str × Str)} (h : PairsAt H xs ps) (np : Pairs2 ps) : All2 (Rp H (n + 1)) xs (ps.map pairD) := ⟨by rw [List.length_map]; exact h.1, fun i u d h1 h2 => by
  rw [List.getElem?_map] at h2
  cases e : ps[i]? with
  | none => rw [e] at h2; cases h2
  | some r =>
    rw [e] at h2
    cases h2
    obtain ⟨q, rfl, hq⟩ := h.2 i u r h1 e
    have nm := np _ (List.mem_of_getElem? e)
    exact rp_tup (show asT (H q) = some _ by rw [hq]; rfl) (by show 2 ≤ 1000; decide) (all2_two (rp_str (Nat.le_trans (name_len nm.1) (by decide))) (rp_str (Nat.le_trans (name_len nm.2) (by decide))))⟩
/-- what may be towns -/
def TownQ (v : V) (H : Hp) : Prop := Tz v H ∧ ∀ a xs, v = .ref a → asS (H a) = some xs → xs.length ≤ 1000 ∧ ∀ x ∈ xs, Tz x H
theorem TownQ.mono {v : V} {H H' : Hp} (h : TownQ v H) (s : Sm H H') : TownQ v H' := ⟨h.1.mono s, fun a xs e hx => by
  have hx0 := back_S s h.1.1 e hx
  obtain ⟨l, t⟩ := h.2 a xs e hx0
  exact ⟨l, fun x hm => (t x hm).mono s⟩⟩
theorem towns_same {v : V} {H H' : Hp} (h : Ty v H) (s : Sm H H') : townsV v H' = townsV v H := by
  unfold townsV
  split
  · rename_i a
    obtain ⟨t, e⟩ := h
    dsimp only [tyN] at e
    cases eo : H a with
    | none => rw [eo] at e; cases e
    | some o => rw [s _ _ eo]
  · rfl
theorem TownQ.names {H : Hp} {a : Addr} {ts : List Str} (ha : asS (H a) = some (ts.map V.str)) (l8 : ts.length ≤ 1000) (nts : NamesZ ts) : TownQ (.ref a) H := ⟨⟨ty_S ha, fun z e => by cases e⟩, fun b xs e hb => by
  cases e
  rw [ha] at hb
  cases hb
  rw [List.length_map]
  refine ⟨l8, fun y hy => ?_⟩
  obtain ⟨z, hz, rfl⟩ := List.mem_map.1 hy
  exact tz_name (nts z hz)⟩
def sp_l_due (K : PySem.W.Frag) (C : CA) : Sp := fun vs H Q _ => ∃ p ts ch, vs = [.ref p, .bl ch] ∧ asS (H p) = some (ts.map V.str) ∧ NamesZ ts ∧ ts.length ≤ 8 ∧ ∀ t us H', Sm H H' → H t = none → H' t = some (.lst us) → PairsAt H' us (dueS ch ts) → Q (.ref t) H'
def rd_l_due (K : PySem.W.Frag) (C : CA) (E : XK) : TS :=
  (tSeq (tAsg (tLst tNil) (gName 2)) (tSeq (tFor (iRng1 (tCons (tCB fLen (tCons (tVar 0) tNil)) tNil)) (gName 3) (tFor (iRng1 (tCons (tVar 3) tNil)) (gName 4) (tIfS (tOr (tNot (tB (tVar 1))) (tTest (tOp (fEq K) (tOp fAdd (tVar 4) (tC (.int 1))) (tVar 3)))) (tDrop (tBMF "list" fAppend (tVar 2) (tCons (tTup (tCons (tCB fMinS (tCons (tOp fIx (tVar 0) (tVar 3)) (tCons (tOp fIx (tVar 0) (tVar 4)) tNil))) (tCons (tCB fMaxS (tCons (tOp fIx (tVar 0) (tVar 3)) (tCons (tOp fIx (tVar 0) (tVar 4)) tNil))) tNil))) tNil))) tNext))) (tRet (tCB (fSortDt K) (tCons (tVar 2) tNil)))))
theorem pure_l_due {K : PySem.W.Frag} {C : CA} (vs : List V) (H : Hp) (Q : VK) (E : XK) (h : sp_l_due K C vs H Q E) : rd_l_due K C E { nx := fun _ H' => Q .non H', rt := Q } (start [("places" : Str), ("chained" : Str), ("found" : Str), ("i" : Str), ("j" : Str)] vs) H := by
  obtain ⟨p, ts, ch, rfl, hp, nts, l8, q⟩ := h
  show rd_l_due K C E _ [some (.ref p), some (.bl ch), none, none, none] H
  unfold rd_l_due
  refine q_asg ?_
  walk_at "s"
  refine ⟨by decide, fun pf nf => al nf fun H1 s1 h1 => ?_⟩
  have hp1 := sm_asS hp s1
  refine q_for ?_
  walk_at "s"
  simp only [hp1]
  walk_at "s"
  rw [List.length_map]
  refine ⟨by omega, by omega, ?_⟩
  have en : ((ts.length : Nat) : Int).toNat = ts.length := by omega
  rw [en]
  refine loop_range (fun i σ H' => ∃ c3 c4 us, σ = [some (.ref p), some (.bl ch), some (.ref pf), c3, c4] ∧ Sm H H' ∧ H' pf = some (.lst us) ∧ PairsAt H' us (dueP ch ts i)) ⟨none, none, [], rfl, s1, h1, PairsAt.nil⟩ ?_ ?_
  · rintro i σ H2 hi ⟨c3, c4, us, rfl, s2, h2, pa⟩
    walk_at "s"
    refine q_for1 ?_
    walk_at "s"
    refine ⟨by omega, by omega, ?_⟩
    have ei : ((0 : Int) + (i : Nat)) = (i : Nat) := Int.zero_add _
    have ej : ((i : Nat) : Int).toNat = i := by omega
    rw [ei, ej]
    refine loop_range (fun j σ H' => ∃ c4 us, σ = [some (.ref p), some (.bl ch), some (.ref pf), some (.int (i : Nat)), c4] ∧ Sm H H' ∧ H' pf = some (.lst us) ∧ PairsAt H' us (dueP ch ts i ++ rowP ch ts i j)) ⟨c4, us, rfl, s2, h2, by rw [rowP, List.append_nil]; exact pa⟩ ?_ ?_
    · rintro j σ H3 hj ⟨c4, us3, rfl, s3, h3, pa3⟩
      have hp3 := sm_asS hp s3
      have e0 : ((0 : Int) + (j : Nat)) = (j : Nat) := Int.zero_add _
      walk_at "s"
      rw [e0]
      refine q_if1 ?_
      have step : (!ch || decide (j + 1 = i)) = true → ∀ H4 pt, Sm H3 H4 → H4 pt = some (.tup [.str (pr2 (atS ts i) (atS ts j)).1, .str (pr2 (atS ts i) (atS ts j)).2]) → H4 pf = some (.lst us3) ∧ us3.length < sizeLine ∧ Sm H (upd H4 pf (.lst (us3 ++ [.ref pt]))) ∧ PairsAt (upd H4 pf (.lst (us3 ++ [.ref pt]))) (us3 ++ [.ref pt]) (dueP ch ts i ++ rowP ch ts i (j + 1)) := fun c H4 pt s4 h4 => by
        have h34 := s4 _ _ h3
        have npf : pt ≠ pf := ne_of h4 h34 (fun z => by cases z)
        have lu : us3.length ≤ 4096 := by
          have h1 := len_due (ch := ch) (ts := ts) (i := i) (by omega)
          have h2 := (rowP_sub (ch := ch) (ts := ts) (i := i) (j := j) (by omega)).length_le
          rw [List.length_map, List.length_take] at h2
          have h3 := pa3.1
          rw [List.length_append] at h3
          have h5 : i * ts.length ≤ 8 * 8 := Nat.mul_le_mul (by omega) l8
          omega
        refine ⟨h34, by show _ < 2 ^ 24; omega, sm_put (sm_trans s3 s4) nf, ?_⟩
        rw [rowP, if_pos c, ← List.append_assoc]
        exact ((pa3.sm s4).updL h34).snoc (by rw [upd_ne npf]; exact h4)
      have gi : (ts.map V.str)[i]? = some (.str (atS ts i)) := by rw [List.getElem?_map, atS_get hi]; rfl
      have gj : (ts.map V.str)[j]? = some (.str (atS ts j)) := by rw [List.getElem?_map, atS_get (by omega)]; rfl
      have go : (!ch || decide (j + 1 = i)) = true → ∀ D : Ends, (∀ c4 us H', Sm H H' → H' pf = some (.lst us) → PairsAt H' us (dueP ch ts i ++ rowP ch ts i (j + 1)) → D.nx [some (.ref p), some (.bl ch), some (.ref pf), some (.int (i : Nat)), c4] H') →
          tDrop (tBMF "list" fAppend (tVar 2) (tCons (tTup (tCons (tCB fMinS (tCons (tOp fIx (tVar 0) (tVar 3)) (tCons (tOp fIx (tVar 0) (tVar 4)) tNil))) (tCons (tCB fMaxS (tCons (tOp fIx (tVar 0) (tVar 3)) (tCons (tOp fIx (tVar 0) (tVar 4)) tNil))) tNil))) tNil)) D [some (.ref p), some (.bl ch), some (.ref pf), some (.int (i : Nat)), some (.int (j : Nat))] H3 := fun c D hD => by
        refine q_drop1 ?_
        walk_at "s"
        refine ⟨tyN_lst h3, ?_⟩
        simp only [hp3]
        refine at_nat gi (at_nat gj ?_)
        walk_at "s"
        simp only [hp3]
        refine at_nat gi (at_nat gj ?_)
        walk_at "s"
        refine ⟨by decide, fun pt npt => al npt fun H4 s4 h4 => ?_⟩
        obtain ⟨k1, k2, k3, k4⟩ := step c H4 pt s4 h4
        rw [k1]
        dsimp only
        exact ⟨k2, hD _ _ _ k3 upd_same k4⟩
      cases ch with
      | false =>
        walk_at "s"
        exact go rfl _ fun c4 us H' a b c => ⟨c4, rfl, a, us, b, c⟩
      | true =>
        walk_at "s"
        have er : decide (j + 1 = i) = false → rowP true ts i (j + 1) = rowP true ts i j := fun c => by rw [rowP, c]; simp
        refine ite2 (fun c => go (by simp; omega) _ fun c4 us H' a b c => ⟨c4, rfl, a, us, b, c⟩) fun c => ?_
        rw [er (decide_eq_false (by omega))]
        exact ⟨s3, us3, h3, pa3⟩
    · rintro σ H3 ⟨c4, us3, rfl, s3, h3, pa3⟩
      walk_at "s"
      exact ⟨s3, us3, h3, by rw [dueP]; exact pa3⟩
  · rintro σ H2 ⟨c3, c4, us, rfl, s2, h2, pa⟩
    walk_at "s"
    refine ⟨pf, us, (dueP ch ts ts.length).map pairD, rfl, asL_seq (asL_at h2), pa.dp, alike_pairs _, sortable_pairs _, depth_pairs _, fun t nt => ?_⟩
    exact q t _ _ (sm_new s2 nt) (sm_none s2 nt) upd_same (pa.sorted.sm (sm_new (fun _ _ z => z) nt))
/-- the error that these towns bring -/
def ErrT (v : V) (H : Hp) (n x : Str) : Prop := (n = ("BadShape" : Str) ∧ x = ("towns" : Str) ∧ townsV v H = false) ∨ ∃ a ts, v = .ref a ∧ asS (H a) = some (ts.map V.str) ∧ 1 ≤ ts.length ∧ ts.length ≤ 8 ∧ NamesZ ts ∧ firstRep [] ts = some x ∧ n = ("Repeated" : Str)
theorem heard_err {K : PySem.W.Frag} {C : CA} {v : V} {H : Hp} {Q : VK} {E : XK} {ch : Bool} {n x : Str} (t : TownQ v H) (e : ErrT v H n x) (q : ∀ t H', Sm H H' → H t = none → H' t = some (.lst [.str n, .str x]) → Q (.ref t) H') : sp_l_heard K C [v, .bl ch] H Q E := by
  refine ⟨v, ch, rfl, t.1, t.2, fun no u H' s nt ht => ?_, fun a ts ev ha l1 l8 nts => ⟨fun z ez u H' s nt ht => ?_, fun nd => ?_⟩⟩
  · rcases e with ⟨rfl, rfl, _⟩ | ⟨a, ts, rfl, ha, l1, l8, nts, _⟩
    · exact q u H' s nt ht
    · rw [townsV_of ha l1 l8 nts] at no
      cases no
  · rcases e with ⟨rfl, rfl, no⟩ | ⟨a', ts', ev', ha', _, _, _, fr, rfl⟩
    · subst ev
      rw [townsV_of ha l1 l8 nts] at no
      cases no
    · subst ev
      cases ev'
      rw [ha] at ha'
      injection ha' with ha'
      have := strs_inj ha'
      subst this
      rw [ez] at fr
      cases fr
      exact q u H' s nt ht
  · rcases e with ⟨rfl, rfl, no⟩ | ⟨a', ts', ev', ha', _, _, _, fr, rfl⟩
    · subst ev
      rw [townsV_of ha l1 l8 nts] at no
      cases no
    · subst ev
      cases ev'
      rw [ha] at ha'
      injection ha' with ha'
      have := strs_inj ha'
      subst this
      have := (firstRep_none (r := ts) (seen := []) List.nodup_nil).2 (by rw [List.nil_append]; exact nd)
      rw [this] at fr
      cases fr
theorem ErrT.sm {v : V} {H H' : Hp} {n x : Str} (h : ErrT v H n x) (t : Ty v H) (s : Sm H H') : ErrT v H' n x := by
  rcases h with ⟨e1, e2, no⟩ | ⟨a, ts, ev, ha, r⟩
  · exact .inl ⟨e1, e2, by rw [towns_same t s]; exact no⟩
  · exact .inr ⟨a, ts, ev, sm_asS ha s, r⟩
def sp_l_refused (K : PySem.W.Frag) (C : CA) : Sp := fun vs H Q _ => ∃ v d n x, vs = [v, .ref d] ∧ TownQ v H ∧ ErrT v H n x ∧ n.length ≤ 1000 ∧ x.length ≤ 1000 ∧ H d = some (.lst [.str n, .str x]) ∧ ∀ H', Sm H H' → Q (.bl true) H'
def rd_l_refused (K : PySem.W.Frag) (C : CA) (E : XK) : TS :=
  (tRet (tCallS (sp_l_same K C) (fun _ => E0) (tCons (tLst (tCons (tCallS (sp_l_heard K C) (fun _ => E0) (tCons (tVar 0) (tCons (tC (.bl true)) tNil))) (tCons (tCallS (sp_l_heard K C) (fun _ => E0) (tCons (tVar 0) (tCons (tC (.bl false)) tNil))) tNil))) (tCons (tLst (tCons (tVar 1) (tCons (tVar 1) tNil))) tNil))))
theorem pure_l_refused {K : PySem.W.Frag} {C : CA} (vs : List V) (H : Hp) (Q : VK) (E : XK) (h : sp_l_refused K C vs H Q E) : rd_l_refused K C E { nx := fun _ H' => Q .non H', rt := Q } (start [("places" : Str), ("due" : Str)] vs) H := by
  obtain ⟨v, d, n, x, rfl, tq, er, ln, lx, hd, q⟩ := h
  show rd_l_refused K C E _ [some v, some (.ref d)] H
  unfold rd_l_refused
  refine q_ret ?_
  walk_at "s"
  refine heard_err tq er fun t1 H1 s1 nt1 h1 => ?_
  refine heard_err (tq.mono s1) (er.sm tq.1.1 s1) fun t2 H2 s2 nt2 h2 => ?_
  refine ⟨by decide, fun u nu => al nu fun H3 s3 h3 => ⟨by decide, fun w nw => al nw fun H4 s4 h4 => ?_⟩⟩
  have s14 := sm_trans s2 (sm_trans s3 s4)
  have two : ∀ {t : Addr} {H : Hp}, H t = some (.lst [.str n, .str x]) → Rp H 5 (.ref t) (.list [.str n, .str x]) := fun h => rp_list (asL_at h) (by show 2 ≤ 1000; decide) (all2_two (rp_str ln) (rp_str lx))
  refine ⟨.ref u, .ref w, .list [.list [.str n, .str x], .list [.str n, .str x]], rfl, rp_list (asL_at (s4 _ _ h3)) (by show 2 ≤ 1000; decide) (all2_two (two (s14 _ _ h1)) (two (sm_trans s3 s4 _ _ h2))), rp_list (asL_at h4) (by show 2 ≤ 1000; decide) (all2_two (two (sm_trans s1 s14 _ _ hd)) (two (sm_trans s1 s14 _ _ hd))), fun H5 s5 => ?_⟩
  exact q H5 (sm_trans s1 (sm_trans s14 s5))
end XB

/-! What holds of each web. -/
namespace XB
open PySem L2
local macro_rules | `(tactic| walk_at "s") => `(tactic| try simp only [u_var, u_c, u_op, u_un, u_nil, u_cons, u_cb, u_call, u_callS, u_tup, u_lst, u_test, u_B, u_and, u_or, u_not, u_andV, u_orV, u_notV, u_ifE, u_chain, u_sl, u_noPart, u_part, u_bm, u_bm0, u_rev, u_lc, u_try, u_sui, u_sui0, u_unb_rt, u_unb_nx, u_xf, u_WE, w_nil, w_cons, u_raise, u_rng1, u_rng2, u_next, u_ret, u_gname, u_gnil, u_gcons, u_gsub, u_gtup,
  f_add, f_addS, f_addR, f_sub, f_mul, f_mulR, f_mod, f_div, f_pow, f_neg, f_cmp, f_eq, f_eqB, f_eqS, f_ne, f_neB, f_neS, f_isN, f_notN, f_isB, f_ix, f_ixS, f_int, f_intB, f_len, f_lenS, f_max, f_min, f_abs, f_list, f_tuple, f_all, f_sum, f_isi, f_isiT, f_append, f_insert, f_pop, f_sl, f_set, u_fldW, u_propW, u_makeS, u_makeL, u_cmethS, u_methS, u_ostW, f_isC, f_minSS, f_maxSS, f_reverse,
  kitS, tys, List.isEmpty_cons, Option.map_some, kt_NoneType_int, kt_NoneType_bool, kt_NoneType_str, kt_NoneType_list, kt_NoneType_tuple, kt_NoneType_dict, kt_int_int, kt_int_bool, kt_int_str, kt_int_list, kt_int_tuple, kt_int_dict, kt_bool_int, kt_bool_bool, kt_bool_str, kt_bool_list, kt_bool_tuple, kt_bool_dict, kt_str_int, kt_str_bool, kt_str_str, kt_str_list, kt_str_tuple, kt_str_dict, kt_list_int, kt_list_bool, kt_list_str, kt_list_list, kt_list_tuple, kt_list_dict, kt_tuple_int, kt_tuple_bool, kt_tuple_str, kt_tuple_list, kt_tuple_tuple, kt_tuple_dict, kt_dict_int, kt_dict_bool, kt_dict_str, kt_dict_list, kt_dict_tuple, kt_dict_dict, asL_lst, asL_frz, asL_tup, asT_tup, asS_lst, asS_frz, asS_tup, tyN_non, tyN_bl, tyN_int, tyN_str, atV_lit, ixN_lit, upd_same, upd_ne, upd_ne',
  List.getElem?_cons_zero, List.getElem?_cons_succ, List.set_cons_zero, List.set_cons_succ, List.append_nil, List.length_cons, List.length_nil, Option.some.injEq, exists_eq_left', exists_eq_left, exists_and_left, V.bl.injEq, V.int.injEq, V.str.injEq, V.ref.injEq, Bool.not_eq_true, Bool.not_true, Bool.not_false, decide_true, decide_false, decide_eq_true_eq, decide_eq_false_iff_not, Bool.false_eq_true, if_true, if_false, ite_true, ite_false, reduceCtorEq, true_and, and_true, Nat.reduceAdd, Nat.reduceLT, Nat.zero_add, ne_eq, not_false_eq_true, not_true_eq_false, List.cons.injEq, and_assoc])
local macro_rules | `(tactic| walk_at "S") => `(tactic| try simp only [u_var, u_c, u_op, u_un, u_nil, u_cons, u_cb, u_call, u_callS, u_tup, u_lst, u_test, u_B, u_and, u_or, u_not, u_andV, u_orV, u_notV, u_ifE, u_chain, u_sl, u_noPart, u_part, u_bm, u_bm0, u_rev, u_lc, u_try, u_sui, u_sui0, u_unb_rt, u_unb_nx, u_xf, u_WE, w_nil, w_cons, u_raise, u_rng1, u_rng2, u_next, u_ret, u_gname, u_gnil, u_gcons, u_gsub, u_gtup,
  f_add, f_addS, f_addR, f_sub, f_mul, f_mulR, f_mod, f_div, f_pow, f_neg, f_cmp, f_eq, f_eqB, f_eqS, f_ne, f_neB, f_neS, f_isN, f_notN, f_isB, f_ix, f_ixS, f_int, f_intB, f_len, f_lenS, f_max, f_min, f_abs, f_list, f_tuple, f_all, f_sum, f_isi, f_isiT, f_append, f_insert, f_pop, f_sl, f_set, u_fldW, u_propW, u_makeS, u_makeL, u_cmethS, u_methS, u_ostW, f_isC, f_minSS, f_maxSS, f_reverse,
  kitS, tys, List.isEmpty_cons, Option.map_some, kt_NoneType_int, kt_NoneType_bool, kt_NoneType_str, kt_NoneType_list, kt_NoneType_tuple, kt_NoneType_dict, kt_int_int, kt_int_bool, kt_int_str, kt_int_list, kt_int_tuple, kt_int_dict, kt_bool_int, kt_bool_bool, kt_bool_str, kt_bool_list, kt_bool_tuple, kt_bool_dict, kt_str_int, kt_str_bool, kt_str_str, kt_str_list, kt_str_tuple, kt_str_dict, kt_list_int, kt_list_bool, kt_list_str, kt_list_list, kt_list_tuple, kt_list_dict, kt_tuple_int, kt_tuple_bool, kt_tuple_str, kt_tuple_list, kt_tuple_tuple, kt_tuple_dict, kt_dict_int, kt_dict_bool, kt_dict_str, kt_dict_list, kt_dict_tuple, kt_dict_dict, asL_lst, asL_frz, asL_tup, asT_tup, asS_lst, asS_frz, asS_tup, tyN_non, tyN_bl, tyN_int, tyN_str, atV_lit, ixN_lit, upd_same, upd_ne, upd_ne',
  List.getElem?_cons_zero, List.getElem?_cons_succ, List.set_cons_zero, List.set_cons_succ, List.append_nil, List.length_cons, List.length_nil, Option.some.injEq, exists_eq_left', exists_eq_left, exists_and_left, V.bl.injEq, V.int.injEq, V.str.injEq, V.ref.injEq, Bool.not_eq_true, Bool.not_true, Bool.not_false, decide_true, decide_false, decide_eq_true_eq, decide_eq_false_iff_not, Bool.false_eq_true, if_true, if_false, ite_true, ite_false, reduceCtorEq, true_and, and_true, Nat.reduceAdd, Nat.reduceLT, Nat.zero_add, ne_eq, not_false_eq_true, not_true_eq_false, List.cons.injEq, and_assoc, *])
theorem lock_back {H : Hp} {d q : Addr} {u fz o : HO} (hd : H d = some u) (nq : H q = none) : Sm H (upd (upd (upd H d fz) q o) d u) ∧ (upd (upd (upd H d fz) q o) d u) q = some o := by
  have nqd : q ≠ d := fun e => by rw [e, hd] at nq; cases nq
  refine ⟨fun b w e => ?_, by rw [upd_ne nqd, upd_same]⟩
  by_cases c : b = d
  · rw [c] at e ⊢
    rw [hd] at e
    cases e
    exact upd_same
  · rw [upd_ne c, upd_ne (ne_of_none e nq), upd_ne c]
    exact e
/-- list of a web -/
theorem list_web {K : PySem.W.Frag} {C : CA} {σ : L2.St} {H : Hp} {Q : VK} {n : Nat} {p wt d : Addr} {us : List V} {f : Str → Addr} {row : List Str} {ways : List (Str × Str)} {nr : Str → List Str} (hσ : σ[n]? = some (some (.ref p))) (w : WebX C.Web H p wt d us f row ways nr)
    (q : ∀ t H', Sm H H' → H t = none → H' t = some (.lst (row.map V.str)) → Q (.ref t) H') : tLockE (tCB (rListW C.Web (sp_Web_iter K C)) (tCons (tVar n) tNil)) σ H Q := by
  obtain ⟨dx, hp⟩ := w.ob
  refine ⟨d, .dK (kvsOf f row), w.dc, trivial, fun od => ?_⟩
  have npd : p ≠ d := ne_of hp w.dc (fun z => by cases z)
  have hp1 : upd H d (.frz od (.dK (kvsOf f row))) p = some (.ins C.Web dx (wFld wt d)) := by rw [upd_ne npd]; exact hp
  refine ⟨_, hσ, p, dx, _, rfl, hp1, fun m => ⟨p, dx, wt, d, od, _, rfl, hp1, upd_same, fun it es ep hdt nit ge => ?_⟩⟩
  have nitd : it ≠ d := fun e => by rw [e, upd_same] at nit; cases nit
  have npi : p ≠ it := fun e => by rw [← e, hp1] at nit; cases nit
  refine ⟨it, d, od, kvsOf f row, es, ep, rfl, ge, upd_same, hdt, by rw [upd_ne nitd.symm, upd_same], ⟨dx, _, by rw [upd_ne npi]; exact hp1⟩, fun t nt _ => ?_⟩
  rw [ItX.dropH_upd nit, keys_kvs]
  have ntd : t ≠ d := fun e => by rw [e, upd_same] at nt; cases nt
  have nt0 : H t = none := by rw [upd_ne ntd] at nt; exact nt
  refine ⟨by rw [upd_ne ntd.symm, upd_same], ?_⟩
  obtain ⟨s, h⟩ := lock_back (fz := .frz od (.dK (kvsOf f row))) (o := .lst (row.map V.str)) w.dc nt0
  exact q t _ s nt0 h
theorem web_q {C : CA} {H : Hp} {Q : VK} {E : XK} {ts : List Str} {ch : Bool} (nd : ts.Nodup) (q : ∀ H' p wt d us f, Sm H H' → H p = none → WebX C.Web H' p wt d us f (sortZ ts) (dueS ch ts) (nearOf ts (dueS ch ts)) → Q (.ref p) H') : WebQ C H Q E ts (dueS ch ts) := by
  have n0 := (firstRep_none (r := ts) (seen := []) List.nodup_nil).2 (by rw [List.nil_append]; exact nd)
  have go := ways_again (ch := ch) nd (List.Perm.refl ts)
  refine ⟨fun z e => (by rw [n0] at e; cases e), fun _ => ⟨fun e h => (by rw [go] at h; cases h), fun found ef H' p wt d us f s n w => ?_⟩⟩
  rw [go] at ef
  cases ef
  rw [dueS_sorted] at w
  exact q H' p wt d us f s n w
theorem dueS_names {ch : Bool} {ts : List Str} (nts : NamesZ ts) : Pairs2 (dueS ch ts) := fun p hp => ⟨nts _ (dueS_in hp).1, nts _ (dueS_in hp).2⟩
theorem near_names {ts : List Str} {W : List (Str × Str)} (nts : NamesZ ts) : ∀ z ∈ ts, ∀ y ∈ nearOf ts W z, nameS y = true := fun z hz y hy => by
  rcases mem_near.1 hy with rfl | ⟨h, _⟩
  · exact nts _ hz
  · exact nts _ h
theorem near_len {ts : List Str} {W : List (Str × Str)} {z : Str} : (nearOf ts W z).length ≤ ts.length + 1 := by
  unfold nearOf
  rw [(sortZ_perm _).length_eq, List.length_cons]
  have := List.length_filter_le (fun o => decide (pr2 z o ∈ W)) ts
  omega
theorem eqW_self {row : List Str} {nr : Str → List Str} : eqW row row nr nr = true := by
  unfold eqW
  rw [decide_eq_true rfl, Bool.true_and, List.all_eq_true]
  intro z hz
  simp [hz]
theorem name_1000 {z : Str} (h : nameS z = true) : z.length ≤ 1000 := Nat.le_trans (name_len h) (by decide)
/-- the texts of a list that are kept -/
theorem made_filter {K : PySem.W.Frag} {σ : L2.St} {H : Hp} {m : Nat} {a Dd : Addr} {ts : List Str} {tt : TT} {te : TE} {vs : List Nat} {Qd : Hp → Prop} (b : Str → Bool) (hl : asL (H a) = some (ts.map V.str)) (hD : H Dd = none) (hz : ts.length < 1000) (hw : ∀ x, wipe ((wipe σ vs).set m (some x)) vs = wipe σ vs)
    (ht : ∀ (i : Nat) (z : Str) (H' : Hp) (Q : Bool → Hp → Prop), ts[i]? = some z → Sm H H' → (∀ H2, Sm H' H2 → Q (b z) H2) → tt ((wipe σ vs).set m (some (.str z))) H' Q) (he : ∀ (z : Str) (H' : Hp) (Q : VK), Q (.str z) H' → te ((wipe σ vs).set m (some (.str z))) H' Q)
    (hd : ∀ H', Sm H H' → H' Dd = some (.lst ((ts.filter b).map V.str)) → Qd H') : Made (Itl K a) (gName m) tt te vs σ Dd H Qd := by
  refine made_list (xs := ts.map V.str) (fun i H' => Sm H H' ∧ H' Dd = some (.lst (((ts.take i).filter b).map V.str))) ⟨sm_new (fun _ _ h => h) hD, upd_same⟩ (fun i H' _ p => sm_L p.1 hl) (fun i x H' hx p => ?_) fun H' p => hd H' p.1 ?_
  · obtain ⟨s, h⟩ := p
    obtain ⟨z, hz2, rfl⟩ := get_str hx
    refine ⟨hw _, ht i z H' _ hz2 s fun H2 s2 => ?_⟩
    have et : ts.take (i + 1) = ts.take i ++ [z] := by rw [List.take_add_one, hz2]; rfl
    cases c : b z with
    | true =>
      rw [if_pos rfl]
      refine he z H2 _ ⟨_, s2 _ _ h, ?_, sm_put (sm_trans s s2) hD, ?_⟩
      · have := List.length_filter_le b (ts.take i)
        have := List.length_take_le' i ts
        rw [List.length_map]
        show _ < 2 ^ 24
        omega
      · rw [upd_same, et, List.filter_append, List.map_append]
        simp [c]
    | false =>
      rw [if_neg Bool.false_ne_true]
      refine ⟨sm_trans s s2, ?_⟩
      rw [et, List.filter_append]
      simp only [List.filter_cons, c, Bool.false_eq_true, if_false, List.filter_nil, List.append_nil]
      exact s2 _ _ h
  · have := p.2
    rw [List.length_map, List.take_length] at this
    exact this
theorem f_inT {K : PySem.W.Frag} {H : Hp} {Q : VK} {z : Str} {p : Addr} {ts : List Str} (h : asS (H p) = some (ts.map V.str)) : fIn K (.str z) (.ref p) H Q = Q (.bl (decide (z ∈ ts))) H := by
  rw [f_inR, h]
  dsimp only
  rw [inV_strs, flat_strs]
  simp [flatV]
def sp_l_holds (K : PySem.W.Frag) (C : CA) : Sp := fun vs H Q _ => ∃ p wt d us f pl pw ts ch wl, vs = [.ref p, .ref pl, .ref pw] ∧ WebX C.Web H p wt d us f (sortZ ts) (dueS ch ts) (nearOf ts (dueS ch ts)) ∧ H pl = some (.lst (ts.map V.str)) ∧ H pw = some (.lst wl) ∧ PairsAt H wl (dueS ch ts) ∧
  ts.Nodup ∧ NamesZ ts ∧ 1 ≤ ts.length ∧ ts.length ≤ 8 ∧ ∀ H', Sm H H' → Q (.bl true) H'
def rd_l_holds (K : PySem.W.Frag) (C : CA) (E : XK) : TS :=
  (tSeq (tAsg (tCB (fSortDq K) (tCons (tVar 1) tNil)) (gName 3)) (tSeq (tIfS (tNot (tB (tCallS (sp_l_same K C) (fun _ => E0) (tCons (tLst (tCons (tProp C.Web (sp_Web_towns K C) [] E0 (tVar 0)) (tCons (tProp C.Web (sp_Web_ways K C) [] E0 (tVar 0)) (tCons (tLockE (tCB (rListW C.Web (sp_Web_iter K C)) (tCons (tVar 0) tNil))) tNil)))) (tCons (tLst (tCons (tCB fTuple (tCons (tVar 3) tNil)) (tCons (tCB fTuple (tCons (tVar 2) tNil)) (tCons (tVar 3) tNil)))) tNil))))) (tRet (tC (.bl false))) tNext) (tSeq (tFor (iList K (tVar 3)) (gName 4) (tSeq (tAsg (tLc (iList K (tVar 3)) (gName 6) (tB (tCallS (sp_l_joined K C) (fun _ => E0) (tCons (tVar 2) (tCons (tVar 4) (tCons (tVar 6) tNil))))) (tVar 6) [6]) (gName 5)) (tSeq (tIfS (tOr (tNot (tB (tCallS (sp_l_same K C) (fun _ => E0) (tCons (tMethS C.Web ("near" : Str) (sp_Web_near K C) (fun _ => E0) (tVar 0) (tCons (tVar 4) tNil)) (tCons (tCB fTuple (tCons (tVar 5) tNil)) tNil))))) (tTest (tOp (rInW C.Web (sp_Web_contains K C) true) (tVar 4) (tVar 0)))) (tRet (tC (.bl false))) tNext) (tIfS (tNot (tB (tCallS (sp_l_same K C) (fun _ => E0) (tCons (tLc (iList K (tVar 3)) (gName 6) tYes (tMethS C.Web ("joins" : Str) (sp_Web_joins K C) (fun _ => E0) (tVar 0) (tCons (tVar 4) (tCons (tVar 6) tNil))) [6]) (tCons (tLc (iList K (tVar 3)) (gName 6) tYes (tOp (fIn K) (tVar 6) (tVar 5)) [6]) tNil))))) (tRet (tC (.bl false))) tNext)))) (tRet (tOp (rEqW C.Web (sp_Web_eq K C)) (tVar 0) (tMakeS C.Web (sp_Web_init K C) [] (fun _ => E0) (tCons (tCB fList (tCons (tVar 1) tNil)) (tCons (tCB fList (tCons (tVar 2) tNil)) tNil))))))))
theorem pure_l_holds {K : PySem.W.Frag} {C : CA} (vs : List V) (H : Hp) (Q : VK) (E : XK) (h : sp_l_holds K C vs H Q E) : rd_l_holds K C E { nx := fun _ H' => Q .non H', rt := Q } (start [("web" : Str), ("places" : Str), ("ways_due" : Str), ("row" : Str), ("here" : Str), ("nears" : Str), ("there" : Str)] vs) H := by
  obtain ⟨p, wt, d, us, f, pl, pw, ts, ch, wl, rfl, w, hpl, hpw, pa, nd, nts, l1, l8, q⟩ := h
  show rd_l_holds K C E _ [some (.ref p), some (.ref pl), some (.ref pw), none, none, none, none] H
  unfold rd_l_holds
  have nrow : NamesZ (sortZ ts) := fun z hz => nts z ((sortZ_perm ts).mem_iff.1 hz)
  have lrow : (sortZ ts).length = ts.length := (sortZ_perm ts).length_eq
  have ld := dueS_len (ch := ch) l8
  have npd := dueS_names (ch := ch) nts
  obtain ⟨dx, hp⟩ := w.ob
  refine q_asg ?_
  walk_at "s"
  refine ⟨pl, _, _, rfl, .inl (asL_seq (asL_at hpl)), dp_strs _, alike_strs _, sortable_strs _, depth_strs _, fun pr nr => al nr fun H1 s1 h1 => ?_⟩
  rw [strs_sorted] at h1
  refine q_if ?_
  walk_at "s"
  refine ⟨dx, _, s1 _ _ hp, p, wt, d, us, f, _, _, _, rfl, w.sm s1, fun t2 n2 => al n2 fun H2 s2 h2 => ?_⟩
  have s02 := sm_trans s1 s2
  refine ⟨dx, _, s02 _ _ hp, p, wt, d, us, f, _, _, _, rfl, w.sm s02, ?_⟩
  refine list_web rfl (w.sm s02) fun t3 H3 s3 n3 h3 => ?_
  have s03 := sm_trans s02 s3
  refine ⟨by decide, fun t4 n4 => al n4 fun H4 s4 h4 => ?_⟩
  have s34 := s4
  simp only [asL_at (s4 _ _ (s3 _ _ (s2 _ _ h1)))]
  refine fun t5 n5 => al n5 fun H5 s5 h5 => ?_
  simp only [asL_at (s5 _ _ (s4 _ _ (s03 _ _ hpw)))]
  refine fun t6 n6 => al n6 fun H6 s6 h6 => ?_
  refine ⟨by decide, fun t7 n7 => al n7 fun H7 s7 h7 => ?_⟩
  have s67 := s7
  have s57 := sm_trans s6 s7
  have s47 := sm_trans s5 s57
  have s37 := sm_trans s4 s47
  have s27 := sm_trans s3 s37
  have s07 := sm_trans s02 s27
  have ms : ∀ z ∈ sortZ ts, z.length ≤ 1000 := fun z hz => name_1000 (nrow z hz)
  have lr : ((sortZ ts).map V.str).length ≤ 1000 := by rw [List.length_map, lrow]; omega
  have dW : ((dueS ch ts).map pairD).length ≤ 1000 := by rw [List.length_map]; omega
  have w7 := w.sm s07
  refine ⟨.ref t4, .ref t7, .list [.tuple ((sortZ ts).map PyData.str), .tuple ((dueS ch ts).map pairD), .list ((sortZ ts).map PyData.str)], rfl, ?_, ?_, fun H8 s8 => ?_⟩
  · refine rp_list (asL_at (s47 _ _ h4)) (by show 3 ≤ 1000; decide) (all2_cons ?_ (all2_cons ?_ (all2_cons ?_ all2_nil)))
    · exact rp_tup (show asT (H7 t2) = some _ by rw [s27 _ _ h2]; rfl) lr (all2_strs ms)
    · exact rp_tup (show asT (H7 wt) = some _ by rw [w7.wy]; rfl) (by rw [w7.ps.1]; omega) (w7.ps.rp npd)
    · exact rp_list (asL_at (s37 _ _ h3)) lr (all2_strs ms)
  · refine rp_list (asL_at h7) (by show 3 ≤ 1000; decide) (all2_cons ?_ (all2_cons ?_ (all2_cons ?_ all2_nil)))
    · exact rp_tup (show asT (H7 t5) = some _ by rw [s57 _ _ h5]; rfl) lr (all2_strs ms)
    · exact rp_tup (show asT (H7 t6) = some _ by rw [s67 _ _ h6]; rfl) (by rw [pa.1]; omega) ((pa.sm s07).rp npd)
    · exact rp_list (asL_at (s27 _ _ (s2 _ _ h1))) lr (all2_strs ms)
  walk_at "s"
  have s08 := sm_trans s07 s8
  have h18 := s8 _ _ (s27 _ _ (s2 _ _ h1))
  refine q_for ?_
  rw [u_list]
  walk_at "s"
  refine ⟨⟨_, asL_seq (asL_at h18)⟩, ?_⟩
  refine loop_list (xs := (sortZ ts).map V.str) (fun i σ H' => ∃ c4 c5, σ = [some (.ref p), some (.ref pl), some (.ref pw), some (.ref pr), c4, c5, none] ∧ Sm H8 H') ⟨none, none, rfl, fun _ _ z => z⟩ (fun i σ H' _ ⟨_, _, _, s⟩ => asL_at (s _ _ h18)) ?_ ?_
  · rintro i x σ H9 hx ⟨c4, c5, rfl, s9⟩
    obtain ⟨z, hz, rfl⟩ := get_str hx
    have hz := List.mem_of_getElem? hz
    have hzt : z ∈ ts := (sortZ_perm ts).mem_iff.1 hz
    have nz := nts z hzt
    have s09 := sm_trans s08 s9
    walk_at "s"
    refine q_asg ?_
    rw [u_lc, u_list]
    walk_at "s"
    have h19 := s9 _ _ h18
    refine ⟨⟨_, asL_seq (asL_at h19)⟩, fun D nD => made_filter (joinB (dueS ch ts) z) (asL_at h19) nD (by omega) (fun _ => rfl) (fun i2 y H' Q2 hy s q2 => ?_) (fun y H' Q2 q2 => ⟨_, rfl, q2⟩) fun H10 s10 h10 => ?_⟩
    · walk_at "s"
      have s0' := sm_trans s09 s
      exact ⟨pw, wl, z, y, dueS ch ts, rfl, s0' _ _ hpw, pa.sm s0', npd, nz, nrow _ (List.mem_of_getElem? hy), fun H2 s2 => ⟨_, rfl, q2 H2 s2⟩⟩
    rw [← near_eq nd (fun p hp => dueS_lt nd hp) hzt] at h10
    have s010 := sm_trans s09 s10
    walk_at "s"
    refine q_if ?_
    walk_at "s"
    refine ⟨dx, _, s010 _ _ hp, lk_no (by decide +kernel) (by decide +kernel), p, .str z, wt, d, us, f, _, _, _, rfl, w.sm s010, tz_name nz, fun e => (by rw [show nameV (.str z) = true from nz] at e; cases e), fun _ e => (by rw [show inRow (sortZ ts) (.str z) = true from decide_eq_true hz] at e; cases e), fun z' H11 ez mz s11 => ?_⟩
    cases ez
    have s011 := sm_trans s010 s11
    simp only [asL_at (s11 _ _ h10)]
    refine fun t1 n1 => al n1 fun H12 s12 h12 => ?_
    have s012 := sm_trans s011 s12
    have nn := near_names (W := dueS ch ts) nts z hzt
    have lnn := near_len (ts := ts) (W := dueS ch ts) (z := z)
    refine ⟨.ref (f z), .ref t1, .tuple ((nearOf ts (dueS ch ts) z).map PyData.str), rfl, rp_tup (show asT (H12 (f z)) = some _ by rw [(w.sm s012).ne z hz]; rfl) (by rw [List.length_map]; omega) (all2_strs fun y hy => name_1000 (nn y hy)), rp_tup (show asT (H12 t1) = some _ by rw [h12]; rfl) (by rw [List.length_map]; omega) (all2_strs fun y hy => name_1000 (nn y hy)), fun H13 s13 => ?_⟩
    have s013 := sm_trans s012 s13
    walk_at "s"
    refine ⟨p, dx, _, rfl, s013 _ _ hp, p, .str z, wt, d, us, f, _, _, _, rfl, w.sm s013, tz_name nz, fun H14 s14 => ?_⟩
    have s014 := sm_trans s013 s14
    have s914 := sm_trans s10 (sm_trans s11 (sm_trans s12 (sm_trans s13 s14)))
    have h914 := s914 _ _ h19
    have h1014 := sm_trans s11 (sm_trans s12 (sm_trans s13 s14)) _ _ h10
    refine ⟨_, rfl, _, rfl, ?_⟩
    rw [show inRow (sortZ ts) (.str z) = true from decide_eq_true hz]
    simp only [Bool.xor_self, Bool.false_eq_true, if_false]
    refine q_if1 ?_
    walk_at "s"
    rw [u_list]
    walk_at "s"
    refine ⟨⟨_, asL_seq (asL_at h914)⟩, fun D2 nD2 => made_map (fun x => .bl (inRow (nearOf ts (dueS ch ts) z) x)) (asL_at h914) nD2 (by rw [List.length_map]; show _ < 2 ^ 24; omega) (fun _ => rfl) (fun i2 x H15 Q2 hx s15 q2 => ?_) fun H15 s15 h15 => ?_⟩
    · obtain ⟨y, hy, rfl⟩ := get_str hx
      have my := List.mem_of_getElem? hy
      have s015 := sm_trans s014 s15
      walk_at "s"
      refine ⟨dx, _, s015 _ _ hp, lk_no (by decide +kernel) (by decide +kernel), p, .str z, .str y, wt, d, us, f, _, _, _, rfl, w.sm s015, tz_name nz, tz_name (nrow y my), fun e => (by rw [show nameV (.str z) = true from nz] at e; cases e), fun _ e => (by rw [show nameV (.str y) = true from nrow y my] at e; cases e), fun _ _ e => (by rw [show inRow (sortZ ts) (.str z) = true from decide_eq_true hz] at e; cases e), fun _ _ e => (by rw [show inRow (sortZ ts) (.str y) = true from decide_eq_true my] at e; cases e), fun z' u H16 e1 e2 m1 m2 s16 => ?_⟩
      cases e1
      cases e2
      exact q2 H16 s16
    have h915 := s15 _ _ h914
    rw [u_list]
    walk_at "s"
    refine ⟨⟨_, asL_seq (asL_at h915)⟩, fun D3 nD3 => made_map (fun x => .bl (inRow (nearOf ts (dueS ch ts) z) x)) (asL_at h915) nD3 (by rw [List.length_map]; show _ < 2 ^ 24; omega) (fun _ => rfl) (fun i2 x H16 Q2 hx s16 q2 => ?_) fun H16 s16 h16 => ?_⟩
    · obtain ⟨y, hy, rfl⟩ := get_str hx
      walk_at "s"
      rw [f_inT (asS_at (sm_trans s15 s16 _ _ h1014))]
      exact q2 H16 fun _ _ h => h
    rw [List.map_map] at h15 h16
    refine ⟨.ref D2, .ref D3, .list ((sortZ ts).map fun y => .bool (inRow (nearOf ts (dueS ch ts) z) (.str y))), rfl, rp_list (asL_at (s16 _ _ h15)) (by rw [List.length_map]; omega) all2_bls, rp_list (asL_at h16) (by rw [List.length_map]; omega) all2_bls, fun H17 s17 => ?_⟩
    walk_at "s"
    exact sm_trans s9 (sm_trans s914 (sm_trans s15 (sm_trans s16 s17)))
  · rintro σ H9 ⟨c4, c5, rfl, s9⟩
    have s09 := sm_trans s08 s9
    walk_at "s"
    simp only [asS_at (s09 _ _ hpl)]
    refine fun r1 nl1 => al nl1 fun H10 s10 h10 => ?_
    simp only [asS_at (s10 _ _ (s09 _ _ hpw))]
    refine fun r2 nl2 => al nl2 fun H11 s11 h11 => ?_
    have s011 := sm_trans s09 (sm_trans s10 s11)
    refine make_web (Q := fun y H2 => rEqW C.Web (sp_Web_eq K C) (.ref p) y H2 Q) (D := r2) (us := wl) (ws := dueS ch ts) (sm_asS (asS_at h10) s11) l1 l8 nts (by rw [h11]; rfl) (pa.sm s011) npd (by omega) (web_q nd fun H12 p2 wt2 d2 us2 f2 s12 np2 w2 => ?_)
    have s012 := sm_trans s011 s12
    obtain ⟨dx2, hp2⟩ := w2.ob
    refine ⟨p, p2, dx, dx2, _, _, rfl, rfl, s012 _ _ hp, hp2, p, p2, wt, wt2, d, d2, us, us2, f, f2, _, _, _, _, _, _, rfl, w.sm s012, w2, ?_, ?_, ⟨_, rfl⟩, ?_⟩
    · exact fun z hz => near_names nts z ((sortZ_perm ts).mem_iff.1 hz)
    · exact fun z hz => near_names nts z ((sortZ_perm ts).mem_iff.1 hz)
    rw [eqW_self]
    exact q H12 s012
end XB

/-! Towns with one that is repeated. -/
namespace XB
open PySem L2
local macro_rules | `(tactic| walk_at "s") => `(tactic| try simp only [u_var, u_c, u_op, u_un, u_nil, u_cons, u_cb, u_call, u_callS, u_tup, u_lst, u_test, u_B, u_and, u_or, u_not, u_andV, u_orV, u_notV, u_ifE, u_chain, u_sl, u_noPart, u_part, u_bm, u_bm0, u_rev, u_lc, u_try, u_sui, u_sui0, u_unb_rt, u_unb_nx, u_xf, u_WE, w_nil, w_cons, u_raise, u_rng1, u_rng2, u_next, u_ret, u_gname, u_gnil, u_gcons, u_gsub, u_gtup,
  f_add, f_addS, f_addR, f_sub, f_mul, f_mulR, f_mod, f_div, f_pow, f_neg, f_cmp, f_eq, f_eqB, f_eqS, f_ne, f_neB, f_neS, f_isN, f_notN, f_isB, f_ix, f_ixS, f_int, f_intB, f_len, f_lenS, f_max, f_min, f_abs, f_list, f_tuple, f_all, f_sum, f_isi, f_isiT, f_append, f_insert, f_pop, f_sl, f_set, u_fldW, u_propW, u_makeS, u_makeL, u_cmethS, u_methS, u_ostW, f_isC, f_minSS, f_maxSS, f_reverse,
  kitS, tys, List.isEmpty_cons, Option.map_some, kt_NoneType_int, kt_NoneType_bool, kt_NoneType_str, kt_NoneType_list, kt_NoneType_tuple, kt_NoneType_dict, kt_int_int, kt_int_bool, kt_int_str, kt_int_list, kt_int_tuple, kt_int_dict, kt_bool_int, kt_bool_bool, kt_bool_str, kt_bool_list, kt_bool_tuple, kt_bool_dict, kt_str_int, kt_str_bool, kt_str_str, kt_str_list, kt_str_tuple, kt_str_dict, kt_list_int, kt_list_bool, kt_list_str, kt_list_list, kt_list_tuple, kt_list_dict, kt_tuple_int, kt_tuple_bool, kt_tuple_str, kt_tuple_list, kt_tuple_tuple, kt_tuple_dict, kt_dict_int, kt_dict_bool, kt_dict_str, kt_dict_list, kt_dict_tuple, kt_dict_dict, asL_lst, asL_frz, asL_tup, asT_tup, asS_lst, asS_frz, asS_tup, tyN_non, tyN_bl, tyN_int, tyN_str, atV_lit, ixN_lit, upd_same, upd_ne, upd_ne',
  List.getElem?_cons_zero, List.getElem?_cons_succ, List.set_cons_zero, List.set_cons_succ, List.append_nil, List.length_cons, List.length_nil, Option.some.injEq, exists_eq_left', exists_eq_left, exists_and_left, V.bl.injEq, V.int.injEq, V.str.injEq, V.ref.injEq, Bool.not_eq_true, Bool.not_true, Bool.not_false, decide_true, decide_false, decide_eq_true_eq, decide_eq_false_iff_not, Bool.false_eq_true, if_true, if_false, ite_true, ite_false, reduceCtorEq, true_and, and_true, Nat.reduceAdd, Nat.reduceLT, Nat.zero_add, ne_eq, not_false_eq_true, not_true_eq_false, List.cons.injEq, and_assoc])
local macro_rules | `(tactic| walk_at "S") => `(tactic| try simp only [u_var, u_c, u_op, u_un, u_nil, u_cons, u_cb, u_call, u_callS, u_tup, u_lst, u_test, u_B, u_and, u_or, u_not, u_andV, u_orV, u_notV, u_ifE, u_chain, u_sl, u_noPart, u_part, u_bm, u_bm0, u_rev, u_lc, u_try, u_sui, u_sui0, u_unb_rt, u_unb_nx, u_xf, u_WE, w_nil, w_cons, u_raise, u_rng1, u_rng2, u_next, u_ret, u_gname, u_gnil, u_gcons, u_gsub, u_gtup,
  f_add, f_addS, f_addR, f_sub, f_mul, f_mulR, f_mod, f_div, f_pow, f_neg, f_cmp, f_eq, f_eqB, f_eqS, f_ne, f_neB, f_neS, f_isN, f_notN, f_isB, f_ix, f_ixS, f_int, f_intB, f_len, f_lenS, f_max, f_min, f_abs, f_list, f_tuple, f_all, f_sum, f_isi, f_isiT, f_append, f_insert, f_pop, f_sl, f_set, u_fldW, u_propW, u_makeS, u_makeL, u_cmethS, u_methS, u_ostW, f_isC, f_minSS, f_maxSS, f_reverse,
  kitS, tys, List.isEmpty_cons, Option.map_some, kt_NoneType_int, kt_NoneType_bool, kt_NoneType_str, kt_NoneType_list, kt_NoneType_tuple, kt_NoneType_dict, kt_int_int, kt_int_bool, kt_int_str, kt_int_list, kt_int_tuple, kt_int_dict, kt_bool_int, kt_bool_bool, kt_bool_str, kt_bool_list, kt_bool_tuple, kt_bool_dict, kt_str_int, kt_str_bool, kt_str_str, kt_str_list, kt_str_tuple, kt_str_dict, kt_list_int, kt_list_bool, kt_list_str, kt_list_list, kt_list_tuple, kt_list_dict, kt_tuple_int, kt_tuple_bool, kt_tuple_str, kt_tuple_list, kt_tuple_tuple, kt_tuple_dict, kt_dict_int, kt_dict_bool, kt_dict_str, kt_dict_list, kt_dict_tuple, kt_dict_dict, asL_lst, asL_frz, asL_tup, asT_tup, asS_lst, asS_frz, asS_tup, tyN_non, tyN_bl, tyN_int, tyN_str, atV_lit, ixN_lit, upd_same, upd_ne, upd_ne',
  List.getElem?_cons_zero, List.getElem?_cons_succ, List.set_cons_zero, List.set_cons_succ, List.append_nil, List.length_cons, List.length_nil, Option.some.injEq, exists_eq_left', exists_eq_left, exists_and_left, V.bl.injEq, V.int.injEq, V.str.injEq, V.ref.injEq, Bool.not_eq_true, Bool.not_true, Bool.not_false, decide_true, decide_false, decide_eq_true_eq, decide_eq_false_iff_not, Bool.false_eq_true, if_true, if_false, ite_true, ite_false, reduceCtorEq, true_and, and_true, Nat.reduceAdd, Nat.reduceLT, Nat.zero_add, ne_eq, not_false_eq_true, not_true_eq_false, List.cons.injEq, and_assoc, *])
theorem put_rep {ds : List Str} {z : Str} {k : Nat} (h : z ∈ ds) : ¬ (ds.take k ++ [z] ++ ds.drop k).Nodup := fun nd => by
  have pm : (ds.take k ++ [z] ++ ds.drop k).Perm (z :: ds) := by
    rw [List.append_assoc]
    refine (List.perm_middle (l₁ := ds.take k) (l₂ := ds.drop k) (a := z)).trans ?_
    rw [List.take_append_drop]
  rw [pm.nodup_iff, List.nodup_cons] at nd
  exact nd.1 h
/-- a slice of a list -/
theorem sl2_lst {p : Addr} {lo hi : Option Int} {H : Hp} {Q : VK} {xs : List V} (h : H p = some (.lst xs)) (q : ∀ t H', H t = none → Sm H H' → H' t = some (.lst (cutV xs lo hi)) → Q (.ref t) H') : fSl2 (.ref p) lo hi H Q := by
  rw [f_slR, f_sl, asL_at h]
  exact fun t nt => q t _ nt (sm_new (fun _ _ z => z) nt) upd_same
def sp_l_doubled (K : PySem.W.Frag) (C : CA) : Sp := fun vs H Q _ => ∃ st pl ts, vs = [.ref st, .ref pl] ∧ StAt H st ∧ H pl = some (.lst (ts.map V.str)) ∧ pl ≠ st ∧ NamesZ ts ∧ 1 ≤ ts.length ∧ ts.length ≤ 8 ∧
  ∀ o r ds z H', H o = none → H r = none → H' o = some (.lst [.ref r, .str z]) → H' r = some (.lst (ds.map V.str)) → NamesZ ds → 1 ≤ ds.length → ds.length ≤ 8 → firstRep [] ds = some z → Kp st H H' → StAt H' st → Q (.ref o) H'
def rd_l_doubled (K : PySem.W.Frag) (C : CA) (E : XK) : TS :=
  (tSeq (tAsg (tSl fSl2 (tVar 1) tNoPart (tPart (tC (.int 7)))) (gName 2)) (tSeq (tFor (iRng1 (tCons (tOp fAdd (tC (.int 1)) (tOp fDiv (tCallS (sp_l_take K C) (fun _ => E0) (tCons (tVar 0) (tCons (tC (.int 8)) tNil))) (tC (.int 6)))) tNil)) (gName 3) (tIfS (tTest (tOp fLt (tCB fLen (tCons (tVar 2) tNil)) (tC (.int 8)))) (tDrop (tBMF "list" fInsert (tVar 2) (tCons (tCallS (sp_l_take K C) (fun _ => E0) (tCons (tVar 0) (tCons (tOp fAdd (tCB fLen (tCons (tVar 2) tNil)) (tC (.int 1))) tNil))) (tCons (tCallS (sp_l_pick K C) (fun _ => E0) (tCons (tVar 0) (tCons (tVar 2) tNil))) tNil)))) tNext)) (tSeq (tFor (iRng1 (tCons (tCB fLen (tCons (tVar 2) tNil)) tNil)) (gName 3) (tIfS (tTest (tOp (fIn K) (tOp fIx (tVar 2) (tVar 3)) (tSl fSl2 (tVar 2) tNoPart (tPart (tVar 3))))) (tRet (tLst (tCons (tVar 2) (tCons (tOp fIx (tVar 2) (tVar 3)) tNil)))) tNext)) (tRet (tLst (tCons (tVar 2) (tCons (tC .non) tNil)))))))
theorem pure_l_doubled {K : PySem.W.Frag} {C : CA} (vs : List V) (H : Hp) (Q : VK) (E : XK) (h : sp_l_doubled K C vs H Q E) : rd_l_doubled K C E { nx := fun _ H' => Q .non H', rt := Q } (start [("store" : Str), ("places" : Str), ("row" : Str), ("k" : Str)] vs) H := by
  obtain ⟨st, pl, ts, rfl, hs, hpl, np, nts, l1, l8, q⟩ := h
  show rd_l_doubled K C E _ [some (.ref st), some (.ref pl), none, none] H
  unfold rd_l_doubled
  refine q_asg ?_
  walk_at "s"
  refine sl2_lst hpl fun r H1 nr s1 h1 => ?_
  rw [cut_to (by decide), ← List.map_take] at h1
  have nst := hs.ne nr
  refine q_for ?_
  walk_at "s"
  refine take_ok (hs.sm s1) (by decide) fun r8 H2 r0 r1 k2 s2 => ?_
  walk_at "s"
  have r88 : r8 < 8 := by omega
  refine ⟨⟨by decide, by decide +kernel⟩, by omega, by omega, ?_⟩
  obtain ⟨m, em, hm1⟩ : ∃ m : Nat, (1 + r8 / 6).toNat = m ∧ 1 ≤ m := ⟨_, rfl, by omega⟩
  rw [em]
  have h2 := k2.1 _ _ nst h1
  have k02 := (kp_sm (st := st) s1).trans k2
  refine loop_range (fun i σ H' => ∃ c3 ds, σ = [some (.ref st), some (.ref pl), some (.ref r), c3] ∧ H' r = some (.lst (ds.map V.str)) ∧ NamesZ ds ∧ 1 ≤ ds.length ∧ ds.length ≤ 8 ∧ (i = 0 → ds.length ≤ 7) ∧ (0 < i → ¬ ds.Nodup) ∧ Kp st H H' ∧ StAt H' st)
    ⟨none, ts.take 7, rfl, h2, fun z hz => nts z (List.mem_of_mem_take hz), by rw [List.length_take]; omega, by rw [List.length_take]; omega, fun _ => by rw [List.length_take]; omega, fun h => absurd h (Nat.lt_irrefl _), k02, s2⟩ ?_ ?_
  · rintro i σ H3 hi ⟨c3, ds, rfl, h3, nds, d1, d8, d7, dn, k3, s3⟩
    walk_at "s"
    refine q_if1 ?_
    walk_at "s"
    simp only [asS_at h3]
    walk_at "s"
    rw [List.length_map]
    refine ite2 (fun c => ?_) fun c => ?_
    · refine q_drop1 ?_
      walk_at "s"
      refine ⟨tyN_lst h3, ?_⟩
      simp only [asS_at h3]
      rw [List.length_map]
      refine take_ok s3 (by omega) fun at_ H4 a0 a1 k4 s4 => ?_
      have h4 := k4.1 _ _ nst h3
      refine pick_ok s4 (asS_at h4) nst (by rw [List.length_map]; omega) (by intro e; rw [List.map_eq_nil_iff] at e; rw [e] at d1; simp at d1) fun j v H5 hj k5 s5 => ?_
      obtain ⟨z, hzj, rfl⟩ := get_str hj
      have hz := List.mem_of_getElem? hzj
      have h5 := k5.1 _ _ nst h4
      walk_at "s"
      simp only [h5]
      have k05 := k3.trans (k4.trans k5)
      refine ⟨by rw [List.length_map]; show _ < 2 ^ 24; omega, a0, by omega, ?_⟩
      refine ⟨ds.take at_.toNat ++ [z] ++ ds.drop at_.toNat, ?_, fun y hy => ?_, ?_, ?_, fun e => (by first | exact e.elim | cases e | omega), fun _ => put_rep hz, k05.put' nr nst, hs.put' nr k05 s5⟩
      · show _ = _
        simp
      · rw [List.mem_append, List.mem_append, List.mem_singleton] at hy
        rcases hy with (hy | hy) | hy
        · exact nds y (List.mem_of_mem_take hy)
        · rw [hy]; exact nds z hz
        · exact nds y (List.mem_of_mem_drop hy)
      · simp only [List.length_append, List.length_cons, List.length_nil]; omega
      · simp only [List.length_append, List.length_cons, List.length_nil, List.length_take, List.length_drop]; omega
    · walk_at "s"
      refine ⟨ds, h3, nds, d1, d8, fun e => (by first | exact e.elim | cases e | omega), fun _ => ?_, k3, s3⟩
      refine dn (Nat.pos_of_ne_zero fun e => ?_)
      have := d7 e
      omega
  · rintro σ H3 ⟨c3, ds, rfl, h3, nds, d1, d8, d7, dn, k3, s3⟩
    have dn := dn (by omega)
    dsimp only
    refine q_for ?_
    walk_at "s"
    simp only [asS_at h3]
    walk_at "s"
    rw [List.length_map]
    refine ⟨by omega, by omega, ?_⟩
    have en : ((ds.length : Nat) : Int).toNat = ds.length := by omega
    rw [en]
    refine loop_range (fun i σ H' => ∃ c3, σ = [some (.ref st), some (.ref pl), some (.ref r), c3] ∧ Sm H3 H' ∧ firstRep [] ds = firstRep (ds.take i) (ds.drop i)) ⟨c3, rfl, fun _ _ h => h, by simp⟩ ?_ ?_
    · rintro i σ H4 hi ⟨c3, rfl, s4, fr⟩
      have h4 := s4 _ _ h3
      obtain ⟨z, hz⟩ : ∃ z, ds[i]? = some z := ⟨ds[i], List.getElem?_eq_getElem hi⟩
      have gz : (ds.map V.str)[i]? = some (.str z) := by rw [List.getElem?_map, hz]; rfl
      have ei : ((0 : Int) + (i : Nat)) = (i : Nat) := Int.zero_add _
      walk_at "s"
      rw [ei]
      refine q_if1 ?_
      walk_at "s"
      simp only [asS_at h4]
      refine at_nat gz ?_
      refine sl2_lst h4 fun t H5 nt s5 h5 => ?_
      rw [cut_to (by omega), ← List.map_take, show ((i : Nat) : Int).toNat = i by omega] at h5
      rw [f_inT (asS_at h5)]
      have hd : ds.drop i = z :: ds.drop (i + 1) := by rw [List.drop_eq_getElem_cons hi, (List.getElem?_eq_some_iff.mp hz).2]
      rw [hd] at fr
      have h5r := s5 _ _ h4
      have s45 := sm_trans s4 s5
      refine ⟨_, rfl, ite2 (fun c => ?_) fun c => ?_⟩
      · have c : z ∈ ds.take i := by simpa using c
        walk_at "s"
        simp only [asS_at h5r]
        refine at_nat gz ?_
        walk_at "s"
        refine ⟨by decide, fun o no => al no fun H6 s6 h6 => ?_⟩
        have s36 := sm_trans s45 s6
        refine q o r ds z H6 ?_ nr h6 (s36 _ _ h3) nds d1 d8 (by rw [fr, firstRep, if_pos c]) (k3.trans (kp_sm s36)) (s3.sm s36)
        exact kp_none' hs k3 (sm_none s45 no) s3
      · have c : z ∉ ds.take i := by simpa using c
        walk_at "s"
        refine ⟨s45, ?_⟩
        rw [fr, firstRep, if_neg c, List.take_add_one, hz]
        rfl
    · rintro σ H4 ⟨c3, rfl, s4, fr⟩
      rw [List.drop_length] at fr
      have := (firstRep_none (r := ds) (seen := []) List.nodup_nil).1 fr
      rw [List.nil_append] at this
      exact absurd this dn
end XB

/-! The law. -/
namespace XB
open PySem L2
local macro_rules | `(tactic| walk_at "s") => `(tactic| try simp only [u_var, u_c, u_op, u_un, u_nil, u_cons, u_cb, u_call, u_callS, u_tup, u_lst, u_test, u_B, u_and, u_or, u_not, u_andV, u_orV, u_notV, u_ifE, u_chain, u_sl, u_noPart, u_part, u_bm, u_bm0, u_rev, u_lc, u_try, u_sui, u_sui0, u_unb_rt, u_unb_nx, u_xf, u_WE, w_nil, w_cons, u_raise, u_rng1, u_rng2, u_next, u_ret, u_gname, u_gnil, u_gcons, u_gsub, u_gtup,
  f_add, f_addS, f_addR, f_sub, f_mul, f_mulR, f_mod, f_div, f_pow, f_neg, f_cmp, f_eq, f_eqB, f_eqS, f_ne, f_neB, f_neS, f_isN, f_notN, f_isB, f_ix, f_ixS, f_int, f_intB, f_len, f_lenS, f_max, f_min, f_abs, f_list, f_tuple, f_all, f_sum, f_isi, f_isiT, f_append, f_insert, f_pop, f_sl, f_set, u_fldW, u_propW, u_makeS, u_makeL, u_cmethS, u_methS, u_ostW, f_isC, f_minSS, f_maxSS, f_reverse,
  kitS, tys, List.isEmpty_cons, Option.map_some, kt_NoneType_int, kt_NoneType_bool, kt_NoneType_str, kt_NoneType_list, kt_NoneType_tuple, kt_NoneType_dict, kt_int_int, kt_int_bool, kt_int_str, kt_int_list, kt_int_tuple, kt_int_dict, kt_bool_int, kt_bool_bool, kt_bool_str, kt_bool_list, kt_bool_tuple, kt_bool_dict, kt_str_int, kt_str_bool, kt_str_str, kt_str_list, kt_str_tuple, kt_str_dict, kt_list_int, kt_list_bool, kt_list_str, kt_list_list, kt_list_tuple, kt_list_dict, kt_tuple_int, kt_tuple_bool, kt_tuple_str, kt_tuple_list, kt_tuple_tuple, kt_tuple_dict, kt_dict_int, kt_dict_bool, kt_dict_str, kt_dict_list, kt_dict_tuple, kt_dict_dict, asL_lst, asL_frz, asL_tup, asT_tup, asS_lst, asS_frz, asS_tup, tyN_non, tyN_bl, tyN_int, tyN_str, atV_lit, ixN_lit, upd_same, upd_ne, upd_ne',
  List.getElem?_cons_zero, List.getElem?_cons_succ, List.set_cons_zero, List.set_cons_succ, List.append_nil, List.length_cons, List.length_nil, Option.some.injEq, exists_eq_left', exists_eq_left, exists_and_left, V.bl.injEq, V.int.injEq, V.str.injEq, V.ref.injEq, Bool.not_eq_true, Bool.not_true, Bool.not_false, decide_true, decide_false, decide_eq_true_eq, decide_eq_false_iff_not, Bool.false_eq_true, if_true, if_false, ite_true, ite_false, reduceCtorEq, true_and, and_true, Nat.reduceAdd, Nat.reduceLT, Nat.zero_add, ne_eq, not_false_eq_true, not_true_eq_false, List.cons.injEq, and_assoc])
local macro_rules | `(tactic| walk_at "S") => `(tactic| try simp only [u_var, u_c, u_op, u_un, u_nil, u_cons, u_cb, u_call, u_callS, u_tup, u_lst, u_test, u_B, u_and, u_or, u_not, u_andV, u_orV, u_notV, u_ifE, u_chain, u_sl, u_noPart, u_part, u_bm, u_bm0, u_rev, u_lc, u_try, u_sui, u_sui0, u_unb_rt, u_unb_nx, u_xf, u_WE, w_nil, w_cons, u_raise, u_rng1, u_rng2, u_next, u_ret, u_gname, u_gnil, u_gcons, u_gsub, u_gtup,
  f_add, f_addS, f_addR, f_sub, f_mul, f_mulR, f_mod, f_div, f_pow, f_neg, f_cmp, f_eq, f_eqB, f_eqS, f_ne, f_neB, f_neS, f_isN, f_notN, f_isB, f_ix, f_ixS, f_int, f_intB, f_len, f_lenS, f_max, f_min, f_abs, f_list, f_tuple, f_all, f_sum, f_isi, f_isiT, f_append, f_insert, f_pop, f_sl, f_set, u_fldW, u_propW, u_makeS, u_makeL, u_cmethS, u_methS, u_ostW, f_isC, f_minSS, f_maxSS, f_reverse,
  kitS, tys, List.isEmpty_cons, Option.map_some, kt_NoneType_int, kt_NoneType_bool, kt_NoneType_str, kt_NoneType_list, kt_NoneType_tuple, kt_NoneType_dict, kt_int_int, kt_int_bool, kt_int_str, kt_int_list, kt_int_tuple, kt_int_dict, kt_bool_int, kt_bool_bool, kt_bool_str, kt_bool_list, kt_bool_tuple, kt_bool_dict, kt_str_int, kt_str_bool, kt_str_str, kt_str_list, kt_str_tuple, kt_str_dict, kt_list_int, kt_list_bool, kt_list_str, kt_list_list, kt_list_tuple, kt_list_dict, kt_tuple_int, kt_tuple_bool, kt_tuple_str, kt_tuple_list, kt_tuple_tuple, kt_tuple_dict, kt_dict_int, kt_dict_bool, kt_dict_str, kt_dict_list, kt_dict_tuple, kt_dict_dict, asL_lst, asL_frz, asL_tup, asT_tup, asS_lst, asS_frz, asS_tup, tyN_non, tyN_bl, tyN_int, tyN_str, atV_lit, ixN_lit, upd_same, upd_ne, upd_ne',
  List.getElem?_cons_zero, List.getElem?_cons_succ, List.set_cons_zero, List.set_cons_succ, List.append_nil, List.length_cons, List.length_nil, Option.some.injEq, exists_eq_left', exists_eq_left, exists_and_left, V.bl.injEq, V.int.injEq, V.str.injEq, V.ref.injEq, Bool.not_eq_true, Bool.not_true, Bool.not_false, decide_true, decide_false, decide_eq_true_eq, decide_eq_false_iff_not, Bool.false_eq_true, if_true, if_false, ite_true, ite_false, reduceCtorEq, true_and, and_true, Nat.reduceAdd, Nat.reduceLT, Nat.zero_add, ne_eq, not_false_eq_true, not_true_eq_false, List.cons.injEq, and_assoc, *])
theorem fIx_at {p : Addr} {n : Nat} {xs : List V} {v : V} {H : Hp} {Q : VK} (h : asS (H p) = some xs) (hv : xs[n]? = some v) (q : Q v H) : fIx (.ref p) (.int (n : Nat)) H Q := by
  unfold fIx
  dsimp only
  rw [h]
  exact at_nat hv q
theorem heard_good {K : PySem.W.Frag} {C : CA} {a : Addr} {ts : List Str} {ch : Bool} {H : Hp} {Q : VK} {E : XK} (ha : asS (H a) = some (ts.map V.str)) (l1 : 1 ≤ ts.length) (l8 : ts.length ≤ 8) (nts : NamesZ ts) (nd : ts.Nodup)
    (q : ∀ t H' p wt d us f, Sm H H' → H t = none → H p = none → H' t = some (.lst [.str ("good" : Str), .ref p]) → WebX C.Web H' p wt d us f (sortZ ts) (dueS ch ts) (nearOf ts (dueS ch ts)) → Q (.ref t) H') : sp_l_heard K C [.ref a, .bl ch] H Q E := by
  have tq := TownQ.names ha (by omega) nts
  refine ⟨.ref a, ch, rfl, tq.1, tq.2, fun no => ?_, fun a' ts' ev ha' _ _ _ => ?_⟩
  · rw [townsV_of ha l1 l8 nts] at no
    cases no
  · cases ev
    rw [ha] at ha'
    injection ha' with ha'
    have := strs_inj ha'
    subst this
    have n0 := (firstRep_none (r := ts) (seen := []) List.nodup_nil).2 (by rw [List.nil_append]; exact nd)
    exact ⟨fun z e => (by rw [n0] at e; cases e), fun _ => q⟩
theorem WebX.updL {C : Addr} {H : Hp} {p wt d : Addr} {us : List V} {f : Str → Addr} {row : List Str} {ways : List (Str × Str)} {nr : Str → List Str} {a : Addr} {xs : List V} {o : HO} (w : WebX C H p wt d us f row ways nr) (h : H a = some (.lst xs)) : WebX C (upd H a o) p wt d us f row ways nr := by
  have k : ∀ b u, H b = some u → (∀ ys, u ≠ .lst ys) → upd H a o b = some u := fun b u e n => by
    rw [upd_ne (fun c => by rw [c, h] at e; cases e; exact n _ rfl)]
    exact e
  obtain ⟨dx, hp⟩ := w.ob
  exact ⟨⟨dx, k _ _ hp (fun ys z => nomatch z)⟩, k _ _ w.wy (fun ys z => nomatch z), w.ps.updL h, k _ _ w.dc (fun ys z => nomatch z), fun z hz => k _ _ (w.ne z hz) (fun ys z => nomatch z), w.nm, w.nd, w.l8⟩
def WebOK (C : CA) (H : Hp) (p : Addr) (ts : List Str) (ch : Bool) : Prop := ∃ wt d us f, WebX C.Web H p wt d us f (sortZ ts) (dueS ch ts) (nearOf ts (dueS ch ts))
theorem WebOK.sm {C : CA} {H H' : Hp} {p : Addr} {ts : List Str} {ch : Bool} (w : WebOK C H p ts ch) (s : Sm H H') : WebOK C H' p ts ch := by
  obtain ⟨wt, d, us, f, w⟩ := w
  exact ⟨wt, d, us, f, w.sm s⟩
theorem WebOK.updL {C : CA} {H : Hp} {p a : Addr} {ts : List Str} {ch : Bool} {xs : List V} {o : HO} (w : WebOK C H p ts ch) (h : H a = some (.lst xs)) : WebOK C (upd H a o) p ts ch := by
  obtain ⟨wt, d, us, f, w⟩ := w
  exact ⟨wt, d, us, f, w.updL h⟩
/-- a web with what is due for it holds -/
theorem holds_due {K : PySem.W.Frag} {C : CA} {H : Hp} {Q : VK} {E : XK} {p pl : Addr} {ts : List Str} {ch : Bool} (w : WebOK C H p ts ch) (hpl : H pl = some (.lst (ts.map V.str))) (l1 : 1 ≤ ts.length) (l8 : ts.length ≤ 8) (nts : NamesZ ts) (nd : ts.Nodup) (q : ∀ H', Sm H H' → Q (.bl true) H') :
    sp_l_due K C [.ref pl, .bl ch] H (fun v H1 => sp_l_holds K C [.ref p, .ref pl, v] H1 Q E) E := by
  obtain ⟨wt, d, us, f, w⟩ := w
  exact ⟨pl, ts, ch, rfl, asS_at hpl, nts, l8, fun t wl H1 s1 nt ht pa => ⟨p, wt, d, us, f, pl, t, ts, ch, wl, rfl, w.sm s1, s1 _ _ hpl, ht, pa, nd, nts, l1, l8, fun H2 s2 => q H2 (sm_trans s1 s2)⟩⟩
theorem few_two {ts : List Str} (nd : ts.Nodup) : eqW (sortZ ts) (sortZ ts) (nearOf ts (dueS false ts)) (nearOf ts (dueS true ts)) = decide (ts.length < 3) := by
  by_cases c : ts.length < 3
  · rw [few_alike c, eqW_self, decide_eq_true c]
  · rw [decide_eq_false c]
    obtain ⟨z, hz, ne⟩ := many_unlike nd c
    unfold eqW
    rw [Bool.and_eq_false_iff]
    refine .inr (Bool.eq_false_iff.2 fun h => ?_)
    rw [List.all_eq_true] at h
    have := h z ((sortZ_perm ts).mem_iff.2 hz)
    rw [Bool.and_eq_true, decide_eq_true_eq, decide_eq_true_eq] at this
    exact ne this.2
theorem towns_no {p : Addr} {xs : List V} {H : Hp} (hp : asS (H p) = some xs) (h : ¬ (1 ≤ xs.length) ∨ ¬ (xs.length ≤ 8) ∨ ∃ x ∈ xs, nameV x = false) : townsV (.ref p) H = false := by
  unfold townsV
  dsimp only
  rw [hp]
  dsimp only
  rw [Bool.and_eq_false_iff, Bool.and_eq_false_iff]
  rcases h with h | h | ⟨x, hx, e⟩
  · exact .inl (.inl (decide_eq_false h))
  · exact .inl (.inr (decide_eq_false h))
  · refine .inr (Bool.eq_false_iff.2 fun a => ?_)
    rw [List.all_eq_true] at a
    rw [a x hx] at e
    cases e
theorem firstRep_mem {z : Str} : ∀ {r seen : List Str}, firstRep seen r = some z → z ∈ r
  | [], seen, h => by cases h
  | y :: r, seen, h => by
    unfold firstRep at h
    split at h
    · cases h
      exact List.mem_cons_self
    · exact List.mem_cons_of_mem _ (firstRep_mem h)
theorem TownQ.seq {H : Hp} {a : Addr} {xs : List V} (ha : asS (H a) = some xs) (l : xs.length ≤ 1000) (t : ∀ x ∈ xs, Tz x H) : TownQ (.ref a) H := ⟨⟨ty_S ha, fun z e => by cases e⟩, fun b ys e hb => by
  cases e
  rw [ha] at hb
  cases hb
  exact ⟨l, t⟩⟩
theorem small_str : ∀ i : Nat, i < 9 → (toString (i : Int) : Str).length ≤ 3 := by decide +kernel
def sp_law (K : PySem.W.Frag) (C : CA) : Sp := fun vs H Q _ => ∃ (a : Addr) (ns : List Int), vs = [.ref a] ∧ SqL K H a (ns.map V.int) ∧ ns.length ≤ 63 ∧ ∀ H', Q (.bl true) H'
def rd_law (K : PySem.W.Frag) (C : CA) (E : XK) : TS :=
  (tSeq (tAsg (tCallS (sp_l_store K C) (fun _ => E0) (tCons (tVar 0) tNil)) (gName 1)) (tSeq (tAsg (tCallS (sp_l_names K C) (fun _ => E0) (tCons (tVar 1) (tCons (tOp fIx (tLst (tCons (tC (.int 1)) (tCons (tC (.int 2)) (tCons (tC (.int 3)) (tCons (tC (.int 4)) (tCons (tOp fAdd (tC (.int 2)) (tCallS (sp_l_take K C) (fun _ => E0) (tCons (tVar 1) (tCons (tC (.int 5)) tNil)))) (tCons (tC (.int 8)) tNil))))))) (tCallS (sp_l_take K C) (fun _ => E0) (tCons (tVar 1) (tCons (tC (.int 6)) tNil)))) tNil))) (gName 2)) (tSeq (tAsg (tLst tNil) (gName 3)) (tSeq (tFor (iList K (tLst (tCons (tC (.bl false)) (tCons (tC (.bl true)) tNil)))) (gName 4) (tSeq (tAsg (tCB fList (tCons (tVar 2) tNil)) (gName 5)) (tSeq (tAsg (tCallS (sp_l_heard K C) (fun _ => E0) (tCons (tVar 5) (tCons (tVar 4) tNil))) (gName 6)) (tSeq (tIfS (tOr (tTest (tOp (fNe K) (tOp fIx (tVar 6) (tC (.int 0))) (tC (.str ("good" : Str))))) (tNot (tB (tCallS (sp_l_same K C) (fun _ => E0) (tCons (tVar 5) (tCons (tVar 2) tNil)))))) (tRet (tC (.bl false))) tNext) (tSeq (tDrop (tBMF "list" fAppend (tVar 3) (tCons (tOp fIx (tVar 6) (tC (.int 1))) tNil))) (tSeq (tDrop (tBMF "list" fAppend (tVar 5) (tCons (tC (.str ("x" : Str))) tNil))) (tSeq (tDrop (tBM0F "list" fReverse (tVar 5))) (tSeq (tAsg (tCallS (sp_l_heard K C) (fun _ => E0) (tCons (tCB fTuple (tCons (tVar 2) tNil)) (tCons (tVar 4) tNil))) (gName 6)) (tIfS (tOr (tTest (tOp (fNe K) (tOp fIx (tVar 6) (tC (.int 0))) (tC (.str ("good" : Str))))) (tNot (tB (tCallS (sp_l_holds K C) (fun _ => E0) (tCons (tOp fIx (tVar 6) (tC (.int 1))) (tCons (tVar 2) (tCons (tCallS (sp_l_due K C) (fun _ => E0) (tCons (tVar 2) (tCons (tVar 4) tNil))) tNil))))))) (tRet (tC (.bl false))) tNext))))))))) (tSeq (tAsg (tCallS (sp_l_heard K C) (fun _ => E0) (tCons (tLc (iRng1 (tCons (tCB fLen (tCons (tVar 2) tNil)) tNil)) (gName 7) tYes (tOp fIx (tVar 2) (tOp fSub (tOp fSub (tCB fLen (tCons (tVar 2) tNil)) (tC (.int 1))) (tVar 7))) [7]) (tCons (tC (.bl true)) tNil))) (gName 8)) (tSeq (tIfS (tOr (tTest (tOp (fNe K) (tOp fIx (tVar 8) (tC (.int 0))) (tC (.str ("good" : Str))))) (tNot (tB (tCallS (sp_l_holds K C) (fun _ => E0) (tCons (tOp fIx (tVar 8) (tC (.int 1))) (tCons (tVar 2) (tCons (tCallS (sp_l_due K C) (fun _ => E0) (tCons (tVar 2) (tCons (tC (.bl true)) tNil))) tNil))))))) (tRet (tC (.bl false))) tNext) (tSeq (tFor (iRng1 (tCons (tC (.int 2)) tNil)) (gName 7) (tIfS (tNot (tB (tCallS (sp_l_holds K C) (fun _ => E0) (tCons (tOp fIx (tVar 3) (tVar 7)) (tCons (tVar 2) (tCons (tCallS (sp_l_due K C) (fun _ => E0) (tCons (tVar 2) (tCons (tOp (fEq K) (tVar 7) (tC (.int 1))) tNil))) tNil)))))) (tRet (tC (.bl false))) tNext)) (tSeq (tAsg (tOp (rEqW C.Web (sp_Web_eq K C)) (tOp fIx (tVar 3) (tC (.int 0))) (tOp fIx (tVar 3) (tC (.int 1)))) (gName 9)) (tSeq (tIfS (tNot (tB (tCallS (sp_l_same K C) (fun _ => E0) (tCons (tLst (tCons (tVar 9) (tCons (tOp (rEqW C.Web (sp_Web_eq K C)) (tOp fIx (tVar 3) (tC (.int 1))) (tOp fIx (tVar 8) (tC (.int 1)))) tNil))) (tCons (tLst (tCons (tOp fLt (tCB fLen (tCons (tVar 2) tNil)) (tC (.int 3))) (tCons (tC (.bl true)) tNil))) tNil))))) (tRet (tC (.bl false))) tNext) (tSeq (tAsg (tCallS (sp_l_doubled K C) (fun _ => E0) (tCons (tVar 1) (tCons (tVar 2) tNil))) (gName 10)) (tSeq (tIfS (tNot (tB (tCallS (sp_l_refused K C) (fun _ => E0) (tCons (tCB fList (tCons (tOp fIx (tVar 10) (tC (.int 0))) tNil)) (tCons (tLst (tCons (tC (.str ("Repeated" : Str))) (tCons (tOp fIx (tVar 10) (tC (.int 1))) tNil))) tNil))))) (tRet (tC (.bl false))) tNext) (tSeq (tIfS (tNot (tB (tCallS (sp_l_refused K C) (fun _ => E0) (tCons (tCB fTuple (tCons (tOp fIx (tVar 10) (tC (.int 0))) tNil)) (tCons (tLst (tCons (tC (.str ("Repeated" : Str))) (tCons (tOp fIx (tVar 10) (tC (.int 1))) tNil))) tNil))))) (tRet (tC (.bl false))) tNext) (tSeq (tAsg (tCallS (sp_l_take K C) (fun _ => E0) (tCons (tVar 1) (tCons (tOp fAdd (tCB fLen (tCons (tOp fIx (tVar 10) (tC (.int 0))) tNil)) (tC (.int 1))) tNil))) (gName 11)) (tSeq (tAsg (tOp fAdd (tOp fAdd (tSl fSl2 (tOp fIx (tVar 10) (tC (.int 0))) tNoPart (tPart (tVar 11))) (tLst (tCons (tCallS (sp_l_no_name K C) (fun _ => E0) (tCons (tVar 1) tNil)) tNil))) (tSl fSl2 (tOp fIx (tVar 10) (tC (.int 0))) (tPart (tVar 11)) tNoPart)) (gName 12)) (tSeq (tFor (iList K (tLst (tCons (tVar 12) (tCons (tCB fTuple (tCons (tVar 12) tNil)) (tCons (tOp fAdd (tVar 2) (tLc (iRng1 (tCons (tOp fSub (tC (.int 9)) (tCB fLen (tCons (tVar 2) tNil))) tNil)) (gName 7) tYes (tOp fAdd (tC (.str ("x" : Str))) (tCB fStrI (tCons (tVar 7) tNil))) [7])) (tCons (tOp fMul (tLst (tCons (tOp fIx (tVar 2) (tC (.int 0))) tNil)) (tC (.int 9))) tNil)))))) (gName 13) (tIfS (tNot (tB (tCallS (sp_l_refused K C) (fun _ => E0) (tCons (tVar 13) (tCons (tLst (tCons (tC (.str ("BadShape" : Str))) (tCons (tC (.str ("towns" : Str))) tNil))) tNil))))) (tRet (tC (.bl false))) tNext)) (tRet (tCallS (sp_l_refused K C) (fun _ => E0) (tCons (tOp fIx (tLst (tCons (tC .non) (tCons (tC (.str ("" : Str))) (tCons (tC (.str ("ab" : Str))) (tCons (tLst tNil) (tCons (tTup tNil) (tCons tDNewK (tCons (tC (.int 0)) (tCons (tC (.bl true)) tNil))))))))) (tCallS (sp_l_take K C) (fun _ => E0) (tCons (tVar 1) (tCons (tC (.int 8)) tNil)))) (tCons (tLst (tCons (tC (.str ("BadShape" : Str))) (tCons (tC (.str ("towns" : Str))) tNil))) tNil)))))))))))))))))))
theorem pure_law {K : PySem.W.Frag} {C : CA} (vs : List V) (H : Hp) (Q : VK) (E : XK) (h : sp_law K C vs H Q E) : rd_law K C E { nx := fun _ H' => Q .non H', rt := Q } (start [("script" : Str), ("store" : Str), ("places" : Str), ("webs" : Str), ("chained" : Str), ("handed" : Str), ("told" : Str), ("k" : Str), ("back" : Str), ("alike" : Str), ("doubled" : Str), ("at" : Str), ("strange" : Str), ("wrong" : Str)] vs) H := by
  obtain ⟨a, ns, rfl, ha, hn, q⟩ := h
  show rd_law K C E _ [some (.ref a), none, none, none, none, none, none, none, none, none, none, none, none, none] H
  unfold rd_law
  refine q_asg ?_
  walk_at "s"
  refine ⟨a, ns, rfl, ha, hn, fun st H1 t1 ne1 s1 => ?_⟩
  refine q_asg ?_
  walk_at "s"
  refine take_ok s1 (by decide) fun r5 H2 r50 r51 k2 s2 => ?_
  walk_at "s"
  refine ⟨by decide, fun pn npn => al npn fun H3 t3 h3 => ?_⟩
  have s3 := s2.sm t3
  have pn_st := s2.ne npn
  refine take_ok s3 (by decide) fun r6 H4 r60 r61 k4 s4 => ?_
  have h4 := k4.1 _ _ pn_st h3
  obtain ⟨j, rfl⟩ : ∃ j : Nat, r6 = j := ⟨r6.toNat, by omega⟩
  have j6 : j < 6 := by omega
  obtain ⟨n, hn1, hn8, hj⟩ : ∃ n : Nat, 1 ≤ n ∧ n ≤ 8 ∧ [V.int 1, V.int 2, V.int 3, V.int 4, V.int (2 + r5), V.int 8][j]? = some (V.int n) := by
    have r55 : r5 < 5 := by omega
    match j, j6 with
    | 0, _ => exact ⟨1, by decide, by decide, rfl⟩
    | 1, _ => exact ⟨2, by decide, by decide, rfl⟩
    | 2, _ => exact ⟨3, by decide, by decide, rfl⟩
    | 3, _ => exact ⟨4, by decide, by decide, rfl⟩
    | 4, _ => exact ⟨(2 + r5).toNat, by omega, by omega, by show some (V.int (2 + r5)) = _; congr 2; omega⟩
    | 5, _ => exact ⟨8, by decide, by decide, rfl⟩
  refine fIx_at (asS_at h4) hj ?_
  refine ⟨st, n, rfl, s4, by omega, fun pl H5 npl ⟨ts, hpl, lts, nd, nts⟩ k5 s5 => ?_⟩
  have l1 : 1 ≤ ts.length := by omega
  have l8 : ts.length ≤ 8 := by omega
  have pl_st := s4.ne npl
  refine q_asg ?_
  walk_at "s"
  refine ⟨by decide, fun wl nwl => al nwl fun H6 t6 h6 => ?_⟩
  have wl_st := s5.ne nwl
  have s6 := s5.sm t6
  refine q_for ?_
  rw [u_list]
  walk_at "s"
  refine ⟨by decide, fun pb npb => al npb fun H7 t7 h7 => ?_⟩
  have s7 := s6.sm t7
  have pb_st := s6.ne npb
  have npb5 := sm_none t6 npb
  refine ⟨⟨_, asL_seq (asL_at h7)⟩, ?_⟩
  have dR : ∀ {H : Hp} {h : Addr}, H h = some (.lst (ts.map V.str)) → Rp H 6 (.ref h) (.list (ts.map PyData.str)) := fun h => rp_list (asL_at h) (by rw [List.length_map]; omega) (all2_strs fun z hz => name_1000 (nts z hz))
  refine loop_list (xs := [V.bl false, V.bl true]) (fun i σ H' => ∃ c4 c5 c6 ws, σ = [some (.ref a), some (.ref st), some (.ref pl), some (.ref wl), c4, c5, c6, none, none, none, none, none, none, none] ∧ Kp st H5 H' ∧ StAt H' st ∧ H' pb = some (.lst [V.bl false, V.bl true]) ∧ H' wl = some (.lst (ws.map V.ref)) ∧ ws.length = i ∧ ∀ k p, ws[k]? = some p → WebOK C H' p ts (decide (k = 1)))
    ⟨none, none, none, [], rfl, kp_sm (sm_trans t6 t7), s7, h7, t7 _ _ h6, rfl, fun k p h => by simp at h⟩ (fun i σ H' _ ⟨_, _, _, _, _, _, _, h, _⟩ => asL_at h) ?_ ?_
  · rintro i x σ H8 hx ⟨c4, c5, c6, ws, rfl, k8, s8, hb8, hw8, lw, wok⟩
    have ex : x = .bl (decide (i = 1)) := by
      match i, hx with
      | 0, hx => cases hx; rfl
      | 1, hx => cases hx; rfl
      | n + 2, hx => simp at hx
    subst ex
    have hi : i < 2 := (List.getElem?_eq_some_iff.mp hx).1
    generalize hch : decide (i = 1) = ch
    have hp8 := k8.1 _ _ pl_st hpl
    walk_at "s"
    refine q_asg ?_
    walk_at "s"
    simp only [asS_at hp8]
    refine fun h nh => al nh fun H9 t9 h9 => ?_
    refine q_asg ?_
    walk_at "s"
    refine heard_good (asS_at h9) l1 l8 nts nd fun t H10 p wt d us f t10 nt np ht w => ?_
    have t810 := sm_trans t9 t10
    have wp : WebOK C H10 p ts ch := ⟨wt, d, us, f, w⟩
    refine q_if ?_
    walk_at "s"
    simp only [asS_at ht]
    walk_at "s"
    refine ⟨.ref h, .ref pl, _, rfl, dR (t10 _ _ h9), dR (t810 _ _ hp8), fun H11 t11 => ?_⟩
    walk_at "s"
    have t811 := sm_trans t810 t11
    have hw11 := t811 _ _ hw8
    have hh11 := sm_trans t10 t11 _ _ h9
    refine q_drop ?_
    walk_at "s"
    refine ⟨tyN_lst hw11, ?_⟩
    simp only [asS_at (t11 _ _ ht)]
    walk_at "s"
    simp only [hw11]
    refine ⟨by rw [List.length_map]; show _ < 2 ^ 24; omega, ?_⟩
    have k511 := k8.trans (kp_sm t811)
    have s11 := s8.sm t811
    have k512 := k511.put' (o := .lst (ws.map V.ref ++ [.ref p])) nwl wl_st
    have s12 := s5.put' (o := .lst (ws.map V.ref ++ [.ref p])) nwl k511 s11
    have wl_h : h ≠ wl := ne_of_none' hw8 nh
    have wl_pb : pb ≠ wl := ne_of_none' h6 npb
    have pb_h : h ≠ pb := ne_of_none' hb8 nh
    have w12 : ∀ k p', (ws ++ [p])[k]? = some p' → WebOK C (upd H11 wl (.lst (ws.map V.ref ++ [.ref p]))) p' ts (decide (k = 1)) := fun k p' hk => by
      by_cases ck : k < ws.length
      · rw [List.getElem?_append_left ck] at hk
        exact ((wok k p' hk).sm t811).updL hw11
      · rw [List.getElem?_append_right (by omega)] at hk
        have e0 : k - ws.length = 0 := by
          match e : k - ws.length, hk with
          | 0, _ => rfl
          | n + 1, hk => simp at hk
        rw [e0] at hk
        cases hk
        have : k = i := by omega
        subst this
        rw [hch]
        exact (wp.sm t11).updL hw11
    have hb12 : upd H11 wl (.lst (ws.map V.ref ++ [.ref p])) pb = some (.lst [V.bl false, V.bl true]) := by rw [upd_ne wl_pb]; exact t811 _ _ hb8
    have hp12 : upd H11 wl (.lst (ws.map V.ref ++ [.ref p])) pl = some (.lst (ts.map V.str)) := k512.1 _ _ pl_st hpl
    have hw12 : upd H11 wl (.lst (ws.map V.ref ++ [.ref p])) wl = some (.lst ((ws ++ [p]).map V.ref)) := by rw [upd_same, List.map_append]; rfl
    have hh12 : upd H11 wl (.lst (ws.map V.ref ++ [.ref p])) h = some (.lst (ts.map V.str)) := by rw [upd_ne wl_h]; exact hh11
    have nh5 : H5 h = none := kp_none' s5 k8 nh s8
    have h_st := s8.ne nh
    generalize upd H11 wl (.lst (ws.map V.ref ++ [.ref p])) = H12 at k512 s12 w12 hb12 hp12 hw12 hh12 ⊢
    refine q_drop ?_
    walk_at "s"
    refine ⟨tyN_lst hh12, ?_⟩
    simp only [hh12]
    refine ⟨by rw [List.length_map]; show _ < 2 ^ 24; omega, ?_⟩
    have pl_h : pl ≠ h := (ne_of_none' hpl nh5).symm
    have k513 := k512.put' (o := .lst (ts.map V.str ++ [V.str ("x" : Str)])) nh5 h_st
    have s13 := s5.put' (o := .lst (ts.map V.str ++ [V.str ("x" : Str)])) nh5 k512 s12
    refine q_drop ?_
    walk_at "s"
    refine ⟨tyN_lst upd_same, ?_⟩
    have k514 := k513.put' (o := .lst (ts.map V.str ++ [V.str ("x" : Str)]).reverse) nh5 h_st
    have s14 := s5.put' (o := .lst (ts.map V.str ++ [V.str ("x" : Str)]).reverse) nh5 k513 s13
    have w14 : ∀ k p', (ws ++ [p])[k]? = some p' → WebOK C (upd (upd H12 h (.lst (ts.map V.str ++ [V.str ("x" : Str)]))) h (.lst (ts.map V.str ++ [V.str ("x" : Str)]).reverse)) p' ts (decide (k = 1)) := fun k p' hk => ((w12 k p' hk).updL hh12).updL upd_same
    have hb14 : upd (upd H12 h (.lst (ts.map V.str ++ [V.str ("x" : Str)]))) h (.lst (ts.map V.str ++ [V.str ("x" : Str)]).reverse) pb = some (.lst [V.bl false, V.bl true]) := by rw [upd_ne pb_h.symm, upd_ne pb_h.symm]; exact hb12
    have hp14 : upd (upd H12 h (.lst (ts.map V.str ++ [V.str ("x" : Str)]))) h (.lst (ts.map V.str ++ [V.str ("x" : Str)]).reverse) pl = some (.lst (ts.map V.str)) := by rw [upd_ne pl_h, upd_ne pl_h]; exact hp12
    have hw14 : upd (upd H12 h (.lst (ts.map V.str ++ [V.str ("x" : Str)]))) h (.lst (ts.map V.str ++ [V.str ("x" : Str)]).reverse) wl = some (.lst ((ws ++ [p]).map V.ref)) := by rw [upd_ne wl_h.symm, upd_ne wl_h.symm]; exact hw12
    generalize upd (upd H12 h (.lst (ts.map V.str ++ [V.str ("x" : Str)]))) h (.lst (ts.map V.str ++ [V.str ("x" : Str)]).reverse) = H14 at k514 s14 w14 hb14 hp14 hw14 ⊢
    refine q_asg ?_
    walk_at "s"
    simp only [asL_at hp14]
    refine fun tp ntp => al ntp fun H15 t15 h15 => ?_
    refine heard_good (asS_of_T (show asT (H15 tp) = some (ts.map V.str) by rw [h15]; rfl)) l1 l8 nts nd fun t2 H16 p2 wt2 d2 us2 f2 t16 nt2 np2 ht2 w2 => ?_
    refine q_if1 ?_
    walk_at "s"
    simp only [asS_at ht2]
    walk_at "s"
    simp only [asS_at ht2]
    walk_at "s"
    have t1416 := sm_trans t15 t16
    refine holds_due (E := E0) ⟨wt2, d2, us2, f2, w2⟩ (t1416 _ _ hp14) l1 l8 nts nd fun H17 t17 => ?_
    walk_at "s"
    have t1417 := sm_trans t1416 t17
    exact ⟨k514.trans (kp_sm t1417), s14.sm t1417, t1417 _ _ hb14, ws ++ [p], t1417 _ _ hw14, by rw [List.length_append, lw]; rfl, fun k p' hk => (w14 k p' hk).sm t1417⟩
  rintro σ H8 ⟨c4, c5, c6, ws, rfl, k8, s8, hb8, hw8, lw, wok⟩
  have lw : ws.length = 2 := lw
  obtain ⟨p0, p1, rfl⟩ : ∃ p0 p1, ws = [p0, p1] := by
    match ws, lw with
    | [x, y], _ => exact ⟨x, y, rfl⟩
  have w0 : WebOK C H8 p0 ts false := wok 0 p0 rfl
  have w1 : WebOK C H8 p1 ts true := wok 1 p1 rfl
  clear wok lw
  have hp8 := k8.1 _ _ pl_st hpl
  have hw8 : H8 wl = some (.lst [.ref p0, .ref p1]) := hw8
  dsimp only
  refine q_asg ?_
  walk_at "s"
  simp only [asS_at hp8]
  walk_at "s"
  rw [List.length_map]
  refine ⟨by omega, by omega, fun D nD => ?_⟩
  have en : ((ts.length : Nat) : Int).toNat = ts.length := by omega
  rw [en]
  refine made_mapR (fun k => .str (atS ts (ts.length - 1 - k))) nD (by show _ < 2 ^ 24; omega) (fun _ => rfl) (fun i H9 Q1 hi t9 q1 => ?_) fun H9 t9 h9 => ?_
  · walk_at "s"
    simp only [asS_at (t9 _ _ hp8)]
    walk_at "s"
    have ei : ((ts.length : Nat) : Int) - 1 - (0 + (i : Nat)) = ((ts.length - 1 - i : Nat) : Int) := by omega
    rw [List.length_map]
    rw [ei]
    exact at_nat (by rw [List.getElem?_map, atS_get (by omega)]; rfl) (q1 H9 fun _ _ h => h)
  have er : (List.range ts.length).map (fun k => V.str (atS ts (ts.length - 1 - k))) = ts.reverse.map V.str := by
    refine List.ext_getElem? fun i => ?_
    rw [List.getElem?_map, List.getElem?_map]
    by_cases c : i < ts.length
    · rw [List.getElem?_range c, List.getElem?_reverse c, atS_get (by omega)]
      rfl
    · rw [List.getElem?_eq_none (by rw [List.length_range]; omega), List.getElem?_eq_none (by rw [List.length_reverse]; omega)]
      rfl
  rw [er] at h9
  have ntr : NamesZ ts.reverse := fun z hz => nts z (List.mem_reverse.1 hz)
  have ndr : ts.reverse.Nodup := (List.reverse_perm ts).nodup_iff.2 nd
  refine heard_good (asS_at h9) (by rw [List.length_reverse]; exact l1) (by rw [List.length_reverse]; exact l8) ntr ndr fun t H10 p2 wt d us f t10 nt np2 ht w => ?_
  rw [dueS_rev, sortZ_rev, near_of (List.reverse_perm ts)] at w
  have w2 : WebOK C H10 p2 ts true := ⟨wt, d, us, f, w⟩
  have t810 := sm_trans t9 t10
  refine q_if ?_
  walk_at "s"
  simp only [asS_at ht]
  walk_at "s"
  simp only [asS_at ht]
  walk_at "s"
  refine holds_due (E := E0) w2 (t810 _ _ hp8) l1 l8 nts nd fun H11 t11 => ?_
  walk_at "s"
  have t811 := sm_trans t810 t11
  refine q_for ?_
  walk_at "s"
  refine ⟨by decide, by decide, ?_⟩
  refine loop_range (fun i σ H' => ∃ c7, σ = [some (.ref a), some (.ref st), some (.ref pl), some (.ref wl), c4, c5, c6, c7, some (.ref t), none, none, none, none, none] ∧ Sm H11 H') ⟨_, rfl, fun _ _ h => h⟩ ?_ ?_
  · rintro i σ H12 hi ⟨c7, rfl, t12⟩
    have t812 := sm_trans t811 t12
    have hi2 : i < 2 := hi
    walk_at "s"
    refine q_if1 ?_
    walk_at "s"
    simp only [asS_at (t812 _ _ hw8)]
    obtain rfl | rfl : i = 0 ∨ i = 1 := by omega
    · rw [show decide ((0 : Int) + ((0 : Nat) : Int) = 1) = false by decide]
      refine at_nat (k := 0) (v := .ref p0) rfl (holds_due (E := E0) (w0.sm t812) (t812 _ _ hp8) l1 l8 nts nd fun H13 t13 => ?_)
      exact ⟨_, rfl, sm_trans t12 t13⟩
    · rw [show decide ((0 : Int) + ((1 : Nat) : Int) = 1) = true by decide]
      refine at_nat (k := 1) (v := .ref p1) rfl (holds_due (E := E0) (w1.sm t812) (t812 _ _ hp8) l1 l8 nts nd fun H13 t13 => ?_)
      exact ⟨_, rfl, sm_trans t12 t13⟩
  rintro σ H12 ⟨c7, rfl, t12⟩
  have t812 := sm_trans t811 t12
  have hw12 := t812 _ _ hw8
  have ht12 : H12 t = some (.lst [.str ("good" : Str), .ref p2]) := t12 _ _ (t11 _ _ ht)
  dsimp only
  refine q_asg ?_
  walk_at "s"
  simp only [asS_at hw12]
  walk_at "s"
  try simp only [asS_at hw12]
  walk_at "s"
  have eqs : ∀ {q0 q1 : Addr} {c0 c1 : Bool} {H : Hp} {Q : VK}, WebOK C H q0 ts c0 → WebOK C H q1 ts c1 → Q (.bl (eqW (sortZ ts) (sortZ ts) (nearOf ts (dueS c0 ts)) (nearOf ts (dueS c1 ts)))) H → rEqW C.Web (sp_Web_eq K C) (.ref q0) (.ref q1) H Q := fun w0 w1 q => by
    obtain ⟨wt, d, us, f, w⟩ := w0
    obtain ⟨wt', d', us', f', w'⟩ := w1
    obtain ⟨dx, hp⟩ := w.ob
    obtain ⟨dx', hp'⟩ := w'.ob
    exact ⟨_, _, dx, dx', _, _, rfl, rfl, hp, hp', _, _, wt, wt', d, d', us, us', f, f', _, _, _, _, _, _, rfl, w, w', fun z hz => near_names nts z ((sortZ_perm ts).mem_iff.1 hz), fun z hz => near_names nts z ((sortZ_perm ts).mem_iff.1 hz), ⟨_, rfl⟩, q⟩
  refine eqs (w0.sm t812) (w1.sm t812) ?_
  rw [few_two nd]
  refine q_if ?_
  walk_at "s"
  simp only [asS_at hw12]
  walk_at "s"
  try simp only [asS_at ht12]
  walk_at "s"
  refine eqs (w1.sm t812) (w2.sm (sm_trans t11 t12)) ?_
  rw [eqW_self]
  refine ⟨by decide, fun u1 nu1 => al nu1 fun H13 t13 h13 => ?_⟩
  simp only [asS_at (t13 _ _ (t812 _ _ hp8))]
  refine ⟨by decide, fun u2 nu2 => al nu2 fun H14 t14 h14 => ?_⟩
  rw [List.length_map, show decide ((ts.length : Int) < 3) = decide (ts.length < 3) from decide_eq_decide.2 (by omega)] at h14
  refine ⟨.ref u1, .ref u2, .list [.bool (decide (ts.length < 3)), .bool true], rfl, rp_list (asL_at (t14 _ _ h13)) (by show 2 ≤ 1000; decide) (all2_two rp_bl rp_bl), rp_list (asL_at h14) (by show 2 ≤ 1000; decide) (all2_two rp_bl rp_bl), fun H15 t15 => ?_⟩
  walk_at "s"
  have t815 := sm_trans t812 (sm_trans t13 (sm_trans t14 t15))
  have s15 := s8.sm t815
  have hp15 := t815 _ _ hp8
  clear eqs
  refine q_asg ?_
  walk_at "s"
  refine ⟨st, pl, ts, rfl, s15, hp15, pl_st, nts, l1, l8, fun o r ds z H16 no nr ho hr nds d1 d8 fr k16 s16 => ?_⟩
  have hp16 := k16.1 _ _ pl_st hp15
  have nz : nameS z = true := nds z (firstRep_mem fr)
  have o_st := s15.ne no
  have r_st := s15.ne nr
  have lR : ("Repeated" : Str).length ≤ 1000 := by decide +kernel
  have lB : ("BadShape" : Str).length ≤ 1000 := by decide +kernel
  have lT : ("towns" : Str).length ≤ 1000 := by decide +kernel
  refine q_if ?_
  walk_at "s"
  simp only [asS_at ho]
  walk_at "s"
  simp only [asS_at hr]
  refine fun v1 nv1 => al nv1 fun H17 t17 h17 => ?_
  simp only [asS_at (t17 _ _ ho)]
  walk_at "s"
  refine ⟨by decide, fun v2 nv2 => al nv2 fun H18 t18 h18 => ?_⟩
  have hd18 := asS_at (t18 _ _ h17)
  refine ⟨.ref v1, v2, "Repeated", z, rfl, TownQ.names hd18 (by omega) nds, .inr ⟨v1, ds, rfl, hd18, d1, d8, nds, fr, rfl⟩, lR, name_1000 nz, h18, fun H19 t19 => ?_⟩
  walk_at "s"
  have t1619 := sm_trans t17 (sm_trans t18 t19)
  have ho19 := t1619 _ _ ho
  have hr19 := t1619 _ _ hr
  refine q_if ?_
  walk_at "s"
  simp only [asS_at ho19]
  walk_at "s"
  simp only [asL_at hr19]
  refine fun v3 nv3 => al nv3 fun H20 t20 h20 => ?_
  simp only [asS_at (t20 _ _ ho19)]
  walk_at "s"
  refine ⟨by decide, fun v4 nv4 => al nv4 fun H21 t21 h21 => ?_⟩
  have hd21 := asS_of_T (show asT (H21 v3) = some (ds.map V.str) by rw [t21 _ _ h20]; rfl)
  refine ⟨.ref v3, v4, "Repeated", z, rfl, TownQ.names hd21 (by omega) nds, .inr ⟨v3, ds, rfl, hd21, d1, d8, nds, fr, rfl⟩, lR, name_1000 nz, h21, fun H22 t22 => ?_⟩
  walk_at "s"
  have t1922 := sm_trans t20 (sm_trans t21 t22)
  have ho22 := t1922 _ _ ho19
  have hr22 := t1922 _ _ hr19
  have hp22 := sm_trans t1619 t1922 _ _ hp16
  have s22 := s16.sm (sm_trans t1619 t1922)
  clear t1619 t1922 hd21 hd18 h21 h20 h18 h17 t17 t18 t19 t20 t21 t22
  refine q_asg ?_
  walk_at "s"
  simp only [asS_at ho22]
  walk_at "s"
  simp only [asS_at hr22]
  walk_at "s"
  rw [List.length_map]
  refine take_ok s22 (by omega) fun at_ H23 a0 a1 k23 s23 => ?_
  have ho23 := k23.1 _ _ o_st ho22
  have hr23 := k23.1 _ _ r_st hr22
  have hp23 := k23.1 _ _ pl_st hp22
  refine q_asg ?_
  walk_at "s"
  simp only [asS_at ho23]
  walk_at "s"
  refine sl2_lst hr23 fun x1 H24 nx1 t24 h24 => ?_
  rw [cut_to a0] at h24
  have x1_st := s23.ne nx1
  refine ⟨st, rfl, s23.sm t24, fun v H25 tk nv k25 s25 => ?_⟩
  have h25 := k25.1 _ _ x1_st h24
  have ho25 := k25.1 _ _ o_st (t24 _ _ ho23)
  have hr25 := k25.1 _ _ r_st (t24 _ _ hr23)
  have hp25 := k25.1 _ _ pl_st (t24 _ _ hp23)
  refine ⟨by decide, fun x2 nx2 => al nx2 fun H26 t26 h26 => ?_⟩
  simp only [f_addR, t26 _ _ h25, h26]
  have lds : (ds.map V.str).length ≤ 8 := by rw [List.length_map]; exact d8
  refine ⟨by rw [List.length_take]; show _ + 1 ≤ 2 ^ 24; omega, fun x3 nx3 => al nx3 fun H27 t27 h27 => ?_⟩
  simp only [asS_at (t27 _ _ (t26 _ _ ho25))]
  walk_at "s"
  refine sl2_lst (t27 _ _ (t26 _ _ hr25)) fun x4 H28 nx4 t28 h28 => ?_
  rw [cut_from a0] at h28
  simp only [f_addR, t28 _ _ h27, h28]
  refine ⟨by rw [List.length_append, List.length_take, List.length_drop]; show _ + 1 + _ ≤ 2 ^ 24; omega, fun x5 nx5 => al nx5 fun H29 t29 h29 => ?_⟩
  have t2529 := sm_trans t26 (sm_trans t27 (sm_trans t28 t29))
  have hp29 := t2529 _ _ hp25
  have s29 := s25.sm t2529
  have tzv := tk.1.mono t2529
  obtain ⟨L5, eL5⟩ : ∃ L, (ds.map V.str).take at_.toNat ++ [v] ++ (ds.map V.str).drop at_.toNat = L := ⟨_, rfl⟩
  rw [eL5] at h29
  have l5 : L5.length ≤ 1000 := by rw [← eL5, List.length_append, List.length_append, List.length_take, List.length_drop]; show _ + 1 + _ ≤ _; omega
  have v5 : v ∈ L5 := by rw [← eL5]; simp
  have z5 : ∀ {H' : Hp}, Sm H29 H' → ∀ x ∈ L5, Tz x H' := fun s x hx => by
    have e : x ∈ ds.map V.str ∨ x = v := by
      rw [← eL5, List.mem_append, List.mem_append, List.mem_singleton] at hx
      rcases hx with (hx | hx) | hx
      · exact .inl (List.mem_of_mem_take hx)
      · exact .inr hx
      · exact .inl (List.mem_of_mem_drop hx)
    rcases e with e | e
    · obtain ⟨y, hy, rfl⟩ := List.mem_map.1 e
      exact tz_name (nds y hy)
    · rw [e]
      exact tzv.mono s
  clear eL5 h28 h27 h26 h25 h24 t26 t27 t28 t29 ho25 hr25 hp25 ho23 hr23 hp23
  refine q_for ?_
  rw [u_list]
  walk_at "s"
  simp only [asL_at h29]
  refine fun y1 ny1 => al ny1 fun H30 t30 h30 => ?_
  have hp30 := t30 _ _ hp29
  simp only [asS_at hp30]
  rw [List.length_map]
  refine ⟨by omega, by omega, fun D nD => ?_⟩
  have e9 : (9 - (ts.length : Int)).toNat = 9 - ts.length := by omega
  rw [e9]
  refine made_mapR (fun k => .str (("x" : Str) ++ (toString (k : Int) : Str))) nD (by show _ < 2 ^ 24; omega) (fun _ => rfl) (fun i H' Q1 hi t' q1 => ?_) fun H31 t31 h31 => ?_
  · walk_at "s"
    have e0 : (0 : Int) + (i : Nat) = (i : Nat) := Int.zero_add _
    have := small_str i (by omega)
    rw [e0]
    exact ⟨Nat.lt_of_le_of_lt (Nat.log2_le_self _) (by omega), by have e1 : (Str.ofString "x").length = 1 := by decide +kernel
                                                                  rw [e1]; show _ ≤ 2 ^ 24; omega, q1 H' fun _ _ h => h⟩
  have hp31 := t31 _ _ hp30
  simp only [hp31, h31]
  refine ⟨by rw [List.length_map, List.length_map, List.length_range]; show _ ≤ 2 ^ 24; omega, fun y2 ny2 => al ny2 fun H32 t32 h32 => ?_⟩
  have g0 : (ts.map V.str)[0]? = some (V.str (atS ts 0)) := by rw [List.getElem?_map, atS_get (by omega)]; rfl
  simp only [asS_at (t32 _ _ hp31), g0]
  refine ⟨by decide, fun y3 ny3 => al ny3 fun H33 t33 h33 => ⟨by decide, by decide, by decide, fun y4 ny4 => al ny4 fun H34 t34 h34 => ⟨by decide, fun y5 ny5 => al ny5 fun H35 t35 h35 => ⟨⟨_, asL_seq (asL_at h35)⟩, ?_⟩⟩⟩⟩
  have t3235 := sm_trans t33 (sm_trans t34 t35)
  have t3035 := sm_trans t31 (sm_trans t32 t3235)
  have t2935 := sm_trans t30 t3035
  have n0 : nameS (atS ts 0) = true := nts _ (atS_mem (by omega))
  have all : ∀ x ∈ [V.ref x5, V.ref y1, V.ref y2, V.ref y4], TownQ x H35 ∧ townsV x H35 = false := by
    intro x hx
    simp only [List.mem_cons, List.not_mem_nil, or_false] at hx
    rcases hx with rfl | rfl | rfl | rfl
    · have g := asS_at (t2935 _ _ h29)
      exact ⟨TownQ.seq g l5 (z5 t2935), towns_no g (.inr (.inr ⟨v, v5, nv⟩))⟩
    · have g := asS_of_T (show asT (H35 y1) = some L5 by rw [t3035 _ _ h30]; rfl)
      exact ⟨TownQ.seq g l5 (z5 t2935), towns_no g (.inr (.inr ⟨v, v5, nv⟩))⟩
    · have g := asS_at (t3235 _ _ h32)
      have l : (ts.map V.str ++ (List.range (9 - ts.length)).map fun k => V.str (("x" : Str) ++ (toString ((k : Nat) : Int) : Str))).length = 9 := by
        rw [List.length_append, List.length_map, List.length_map, List.length_range]
        omega
      refine ⟨TownQ.seq g (by rw [l]; decide) fun x hx => ?_, towns_no g (.inr (.inl (by rw [l]; decide)))⟩
      rcases List.mem_append.1 hx with hx | hx
      · obtain ⟨y, hy, rfl⟩ := List.mem_map.1 hx
        exact tz_name (nts y hy)
      · obtain ⟨k, hk, rfl⟩ := List.mem_map.1 hx
        rw [List.mem_range] at hk
        refine ⟨⟨_, rfl⟩, fun y e => ?_⟩
        cases e
        have := small_str k (by omega)
        rw [str_len_add, show ("x" : Str).length = 1 by decide +kernel]
        omega
    · have g := asS_at (t35 _ _ h34)
      refine ⟨TownQ.seq g (by show 9 ≤ 1000; decide) fun x hx => ?_, towns_no g (.inr (.inl (by show ¬ 9 ≤ 8; decide)))⟩
      have : x = V.str (atS ts 0) := by simpa using hx
      rw [this]
      exact tz_name n0
  refine loop_list (xs := [V.ref x5, V.ref y1, V.ref y2, V.ref y4]) (fun i σ H' => ∃ c13, σ = [some (.ref a), some (.ref st), some (.ref pl), some (.ref wl), c4, c5, c6, c7, some (.ref t), some (.bl (decide (ts.length < 3))), some (.ref o), some (.int at_), some (.ref x5), c13] ∧ Sm H35 H') ⟨_, rfl, fun _ _ h => h⟩ (fun i σ H' _ ⟨_, _, s⟩ => asL_at (s _ _ h35)) ?_ ?_
  · rintro i x σ H36 hx ⟨c13, rfl, t36⟩
    obtain ⟨tq, no⟩ := all x (List.mem_of_getElem? hx)
    walk_at "s"
    refine q_if1 ?_
    walk_at "s"
    refine ⟨by decide, fun e1 ne1 => al ne1 fun H37 t37 h37 => ?_⟩
    have t3537 := sm_trans t36 t37
    refine ⟨x, e1, "BadShape", "towns", rfl, tq.mono t3537, .inl ⟨rfl, rfl, by rw [towns_same tq.1.1 t3537]; exact no⟩, lB, lT, h37, fun H38 t38 => ?_⟩
    walk_at "s"
    exact sm_trans t3537 t38
  rintro σ H36 ⟨c13, rfl, t36⟩
  have s36 := s29.sm (sm_trans t2935 t36)
  dsimp only
  refine q_ret ?_
  walk_at "s"
  refine ⟨by decide, fun z1 nz1 => al nz1 fun H37 t37 h37 => ?_⟩
  refine ⟨by decide, fun z2 nz2 => al nz2 fun H38 t38 h38 => ?_⟩
  refine fun z3 nz3 => al nz3 fun H39 t39 h39 => ?_
  refine ⟨by decide, fun z4 nz4 => al nz4 fun H40 t40 h40 => ?_⟩
  have s40 := s36.sm (sm_trans t37 (sm_trans t38 (sm_trans t39 t40)))
  refine take_ok s40 (by decide) fun r8 H41 r0 r1' k41 s41 => ?_
  have z1_st := s36.ne nz1
  have z2_st := (s36.sm t37).ne nz2
  have z3_st := (s36.sm (sm_trans t37 t38)).ne nz3
  have z4_st := (s36.sm (sm_trans t37 (sm_trans t38 t39))).ne nz4
  have g1 := k41.1 _ _ z1_st (sm_trans t38 (sm_trans t39 t40) _ _ h37)
  have g2 := k41.1 _ _ z2_st (sm_trans t39 t40 _ _ h38)
  have g3 := k41.1 _ _ z3_st (t40 _ _ h39)
  have g4 := k41.1 _ _ z4_st h40
  obtain ⟨j, rfl⟩ : ∃ j : Nat, r8 = j := ⟨r8.toNat, by omega⟩
  have j8 : j < 8 := by omega
  obtain ⟨x, hx, tq, no⟩ : ∃ x, [V.non, V.str (Str.ofString ""), V.str (Str.ofString "ab"), V.ref z1, V.ref z2, V.ref z3, V.int 0, V.bl true][j]? = some x ∧ TownQ x H41 ∧ townsV x H41 = false := by
    match j, j8 with
    | 0, _ => exact ⟨_, rfl, ⟨⟨⟨_, rfl⟩, fun z e => by cases e⟩, fun a xs e => by cases e⟩, rfl⟩
    | 1, _ => exact ⟨_, rfl, ⟨⟨⟨_, rfl⟩, fun z e => by cases e; decide +kernel⟩, fun a xs e => by cases e⟩, rfl⟩
    | 2, _ => exact ⟨_, rfl, ⟨⟨⟨_, rfl⟩, fun z e => by cases e; decide +kernel⟩, fun a xs e => by cases e⟩, rfl⟩
    | 3, _ => exact ⟨_, rfl, TownQ.seq (asS_at g1) (by decide) (fun x hx => by cases hx), towns_no (asS_at g1) (.inl (by decide))⟩
    | 4, _ => exact ⟨_, rfl, TownQ.seq (xs := []) (by rw [g2]; rfl) (by decide) (fun x hx => by cases hx), towns_no (xs := []) (by rw [g2]; rfl) (.inl (by decide))⟩
    | 5, _ => exact ⟨_, rfl, ⟨⟨⟨_, tyN_dK g3⟩, fun z e => by cases e⟩, fun a xs e h => by cases e; rw [g3] at h; cases h⟩, by unfold townsV; dsimp only; rw [g3]; rfl⟩
    | 6, _ => exact ⟨_, rfl, ⟨⟨⟨_, rfl⟩, fun z e => by cases e⟩, fun a xs e => by cases e⟩, rfl⟩
    | 7, _ => exact ⟨_, rfl, ⟨⟨⟨_, rfl⟩, fun z e => by cases e⟩, fun a xs e => by cases e⟩, rfl⟩
  refine fIx_at (asS_at g4) hx ?_
  refine ⟨by decide, fun e1 ne1 => al ne1 fun H42 t42 h42 => ?_⟩
  exact ⟨x, e1, "BadShape", "towns", rfl, tq.mono t42, .inl ⟨rfl, rfl, by rw [towns_same tq.1.1 t42]; exact no⟩, lB, lT, h42, fun H43 _ => q H43⟩
end XB


/-! Each def holds what it promises. -/
namespace XB
open PySem PySem.Spec PyProof.Rows L2
def top (i : Nat) : Stmt := PySem.Challenge.pw_crossfarers_k10_full_and_chain.main.body.getD i (.Pass ⟨0, 0, 0, 0⟩)
/-- a def of the text -/
structure Dfn (K : PySem.W.Frag) (mg : Str → Option Value) (x qual : Str) (st : Stmt) (ps : List Str) where
  f : Addr
  fd : FuncData
  mg : mg x = some (.ref f)
  fn : Fun K x qual st f fd
  bi : Binds K fd ps []
/-- an error's class and its __init__ -/
structure Ini (K : PySem.W.Frag) (C : Addr) (qual : Str) (st : Stmt) (ps names : List Str) where
  f : Addr
  fd : FuncData
  ex : OexC K C
  iC : PySem.W.findIn K (.ref C) "__init__" = some (some (.ref f))
  tI : PySem.W.typeIn K (.ref f) = some (.type "function")
  fn : Fun K "__init__" qual st f fd
  bi : Binds K fd ps []
  ec : ExcC K C
  xf : XfC K C
  no : ∀ n ∈ names, PySem.W.findIn K (.ref C) n = some none
theorem hot_of {X : Cx} {a : Addr} {oe : Obj} {cls : Value} {d : Option Addr} {pn : List (Addr × Obj)} (hz : L2N.Zn cls d oe) (hf : ∃ fv, oe.data = .fields fv) : L2H.HotC (X.suite a ((a, oe) :: pn)) := by
  obtain ⟨vs, e⟩ := hf
  exact ⟨(a, oe), ⟨rfl, vs, e, hz.2.2 vs e⟩, List.mem_cons_self⟩
theorem hu_H {k : Nat} {A : Around} (r : L2H.RoomH k A) : A.units + 64 < cLine := by have := r.un; omega
theorem no_fn {P : Program} {w : World} {K : PySem.W.Frag} {mg : Str → Option Value} {base : Heap} {CX : CXT} {k : Nat} {f : Addr} {fd : FuncData} {ps : List Str} : FnOk P w K mg base CX k f fd ps (fun _ _ _ _ => False) :=
  ⟨fun _ _ _ _ h => h.elim, fun _ _ _ _ _ _ _ _ _ _ _ _ _ h => h.elim⟩
theorem lt_one {n : Nat} (h : n + 64 < cLine) : n + 1 < cLine := by omega
theorem no_fnH {P : Program} {w : World} {K : PySem.W.Frag} {mg : Str → Option Value} {base : Heap} {CX : CXT} {k : Nat} {f : Addr} {fd : FuncData} {ps : List Str} : L2H.FnH P w K mg base CX k f fd ps (fun _ _ _ _ => False) :=
  ⟨fun _ _ _ _ h => h.elim, fun _ _ _ _ _ _ _ _ _ _ _ _ _ _ _ _ h => h.elim⟩
theorem okH {P : Program} {w : World} {K : PySem.W.Frag} {mg : Str → Option Value} {base : Heap} {x qual : Str} {st : Stmt} {f : Addr} {fd : FuncData} {N ps : List Str} {k : Nat} {sp : Sp} (F : Fun K x qual st f fd) (S : FnScope N ps (defScope st))
    (len : ∀ vs H Q E, sp vs H Q E → vs.length = ps.length)
    (hbody : ∀ (cdv : Value) (A : Around) (outer : List Env) (s : Shared) (H : Hp) (vs : List V) (Q : VK) (E : XK) (p : Addr × Obj), L2H.Hot1 A p → L2H.RoomH k (A.deeper (envOfC qual (defScope st) s.heap.objs.size f cdv)) → sp vs H Q E →
      ∃ t, PSs (L2H.cxH CX0 P w K mg base N qual (defScope st) f cdv A outer s H E p) (defBody st) t ∧ t { nx := fun _ H' => Q .non H', rt := Q } (start N vs) H) : L2H.FnH P w K mg base CX0 (k + 1) f fd ps sp := by
  obtain ⟨oc, od, kV, doc, pm, an, cdv, ct, osl, rfl, lk, hcd⟩ := F.ex
  exact L2H.fn_ofH lk hcd S len fun A outer s H vs Q E p hot hr hsp => hbody cdv A outer s H vs Q E p hot hr hsp
abbrev s_BadShape_init : Stmt := inClass (top 2) 0
abbrev sN_BadShape_init : List Str := [("self" : Str), ("parameter" : Str)]
theorem sc_BadShape_init : FnScope sN_BadShape_init [("self" : Str), ("parameter" : Str)] (defScope s_BadShape_init) := ⟨rfl, rfl, rfl, by decide +kernel, rfl, by decide +kernel, by decide +kernel⟩
abbrev s_Repeated_init : Stmt := inClass (top 3) 0
abbrev sN_Repeated_init : List Str := [("self" : Str), ("thing" : Str)]
theorem sc_Repeated_init : FnScope sN_Repeated_init [("self" : Str), ("thing" : Str)] (defScope s_Repeated_init) := ⟨rfl, rfl, rfl, by decide +kernel, rfl, by decide +kernel, by decide +kernel⟩
abbrev s_UnknownTown_init : Stmt := inClass (top 4) 0
abbrev sN_UnknownTown_init : List Str := [("self" : Str), ("town" : Str)]
theorem sc_UnknownTown_init : FnScope sN_UnknownTown_init [("self" : Str), ("town" : Str)] (defScope s_UnknownTown_init) := ⟨rfl, rfl, rfl, by decide +kernel, rfl, by decide +kernel, by decide +kernel⟩
abbrev s_SameTown_init : Stmt := inClass (top 5) 0
abbrev sN_SameTown_init : List Str := [("self" : Str), ("town" : Str)]
theorem sc_SameTown_init : FnScope sN_SameTown_init [("self" : Str), ("town" : Str)] (defScope s_SameTown_init) := ⟨rfl, rfl, rfl, by decide +kernel, rfl, by decide +kernel, by decide +kernel⟩
abbrev s_is_name : Stmt := top 11
abbrev sN_is_name : List Str := [("value" : Str), ("sign" : Str)]
theorem sc_is_name : FnScope sN_is_name [("value" : Str)] (defScope s_is_name) := ⟨rfl, rfl, rfl, by decide +kernel, rfl, by decide +kernel, by decide +kernel⟩
abbrev s_is_tuple_of : Stmt := top 12
abbrev sN_is_tuple_of : List Str := [("value" : Str), ("parts" : Str)]
theorem sc_is_tuple_of : FnScope sN_is_tuple_of [("value" : Str), ("parts" : Str)] (defScope s_is_tuple_of) := ⟨rfl, rfl, rfl, by decide +kernel, rfl, by decide +kernel, by decide +kernel⟩
abbrev s_check : Stmt := top 14
abbrev sN_check : List Str := [("fits" : Str), ("parameter" : Str)]
theorem sc_check : FnScope sN_check [("fits" : Str), ("parameter" : Str)] (defScope s_check) := ⟨rfl, rfl, rfl, by decide +kernel, rfl, by decide +kernel, by decide +kernel⟩
abbrev s_check_town : Stmt := top 15
abbrev sN_check_town : List Str := [("towns" : Str), ("town" : Str)]
theorem sc_check_town : FnScope sN_check_town [("towns" : Str), ("town" : Str)] (defScope s_check_town) := ⟨rfl, rfl, rfl, by decide +kernel, rfl, by decide +kernel, by decide +kernel⟩
abbrev s_is_series : Stmt := top 16
abbrev sN_is_series : List Str := [("value" : Str)]
theorem sc_is_series : FnScope sN_is_series [("value" : Str)] (defScope s_is_series) := ⟨rfl, rfl, rfl, by decide +kernel, rfl, by decide +kernel, by decide +kernel⟩
abbrev s_are_name_pairs : Stmt := top 17
abbrev sN_are_name_pairs : List Str := [("value" : Str), ("pair" : Str)]
theorem sc_are_name_pairs : FnScope sN_are_name_pairs [("value" : Str)] (defScope s_are_name_pairs) := ⟨rfl, rfl, rfl, by decide +kernel, rfl, by decide +kernel, by decide +kernel⟩
abbrev s_are_names : Stmt := top 18
abbrev sN_are_names : List Str := [("values" : Str), ("value" : Str)]
theorem sc_are_names : FnScope sN_are_names [("values" : Str)] (defScope s_are_names) := ⟨rfl, rfl, rfl, by decide +kernel, rfl, by decide +kernel, by decide +kernel⟩
abbrev s_first_repeated : Stmt := top 19
abbrev sN_first_repeated : List Str := [("things" : Str), ("seen" : Str), ("thing" : Str)]
theorem sc_first_repeated : FnScope sN_first_repeated [("things" : Str)] (defScope s_first_repeated) := ⟨rfl, rfl, rfl, by decide +kernel, rfl, by decide +kernel, by decide +kernel⟩
abbrev s_Web_init : Stmt := inClass (top 21) 0
abbrev sN_Web_init : List Str := [("self" : Str), ("towns" : Str), ("ways" : Str), ("again" : Str), ("town" : Str)]
theorem sc_Web_init : FnScope sN_Web_init [("self" : Str), ("towns" : Str), ("ways" : Str)] (defScope s_Web_init) := ⟨rfl, rfl, rfl, by decide +kernel, rfl, by decide +kernel, by decide +kernel⟩
abbrev s_Web_full : Stmt := inClass (top 21) 1
abbrev sN_Web_full : List Str := [("cls" : Str), ("towns" : Str), ("ways" : Str), ("here" : Str), ("there" : Str)]
theorem sc_Web_full : FnScope sN_Web_full [("cls" : Str), ("towns" : Str)] (defScope s_Web_full) := ⟨rfl, rfl, rfl, by decide +kernel, rfl, by decide +kernel, by decide +kernel⟩
abbrev s_Web_chain : Stmt := inClass (top 21) 2
abbrev sN_Web_chain : List Str := [("cls" : Str), ("towns" : Str), ("ways" : Str)]
theorem sc_Web_chain : FnScope sN_Web_chain [("cls" : Str), ("towns" : Str)] (defScope s_Web_chain) := ⟨rfl, rfl, rfl, by decide +kernel, rfl, by decide +kernel, by decide +kernel⟩
abbrev s_Web_contains : Stmt := inClass (top 21) 3
abbrev sN_Web_contains : List Str := [("self" : Str), ("x" : Str)]
theorem sc_Web_contains : FnScope sN_Web_contains [("self" : Str), ("x" : Str)] (defScope s_Web_contains) := ⟨rfl, rfl, rfl, by decide +kernel, rfl, by decide +kernel, by decide +kernel⟩
abbrev s_Web_iter : Stmt := inClass (top 21) 4
abbrev sN_Web_iter : List Str := [("self" : Str)]
theorem sc_Web_iter : FnScope sN_Web_iter [("self" : Str)] (defScope s_Web_iter) := ⟨rfl, rfl, rfl, by decide +kernel, rfl, by decide +kernel, by decide +kernel⟩
abbrev s_Web_eq : Stmt := inClass (top 21) 5
abbrev sN_Web_eq : List Str := [("self" : Str), ("other" : Str)]
theorem sc_Web_eq : FnScope sN_Web_eq [("self" : Str), ("other" : Str)] (defScope s_Web_eq) := ⟨rfl, rfl, rfl, by decide +kernel, rfl, by decide +kernel, by decide +kernel⟩
abbrev s_Web_towns : Stmt := inClass (top 21) 6
abbrev sN_Web_towns : List Str := [("self" : Str)]
theorem sc_Web_towns : FnScope sN_Web_towns [("self" : Str)] (defScope s_Web_towns) := ⟨rfl, rfl, rfl, by decide +kernel, rfl, by decide +kernel, by decide +kernel⟩
abbrev s_Web_ways : Stmt := inClass (top 21) 7
abbrev sN_Web_ways : List Str := [("self" : Str)]
theorem sc_Web_ways : FnScope sN_Web_ways [("self" : Str)] (defScope s_Web_ways) := ⟨rfl, rfl, rfl, by decide +kernel, rfl, by decide +kernel, by decide +kernel⟩
abbrev s_Web_joins : Stmt := inClass (top 21) 8
abbrev sN_Web_joins : List Str := [("self" : Str), ("here" : Str), ("there" : Str)]
theorem sc_Web_joins : FnScope sN_Web_joins [("self" : Str), ("here" : Str), ("there" : Str)] (defScope s_Web_joins) := ⟨rfl, rfl, rfl, by decide +kernel, rfl, by decide +kernel, by decide +kernel⟩
abbrev s_Web_near : Stmt := inClass (top 21) 9
abbrev sN_Web_near : List Str := [("self" : Str), ("town" : Str)]
theorem sc_Web_near : FnScope sN_Web_near [("self" : Str), ("town" : Str)] (defScope s_Web_near) := ⟨rfl, rfl, rfl, by decide +kernel, rfl, by decide +kernel, by decide +kernel⟩
abbrev s_are_towns : Stmt := top 22
abbrev sN_are_towns : List Str := [("value" : Str)]
theorem sc_are_towns : FnScope sN_are_towns [("value" : Str)] (defScope s_are_towns) := ⟨rfl, rfl, rfl, by decide +kernel, rfl, by decide +kernel, by decide +kernel⟩
abbrev s_sorted_ways : Stmt := top 23
abbrev sN_sorted_ways : List Str := [("towns" : Str), ("ways" : Str), ("found" : Str), ("here" : Str), ("there" : Str), ("town" : Str), ("way" : Str)]
theorem sc_sorted_ways : FnScope sN_sorted_ways [("towns" : Str), ("ways" : Str)] (defScope s_sorted_ways) := ⟨rfl, rfl, rfl, by decide +kernel, rfl, by decide +kernel, by decide +kernel⟩
abbrev s_near_towns : Stmt := top 24
abbrev sN_near_towns : List Str := [("town" : Str), ("towns" : Str), ("ways" : Str), ("joined" : Str), ("other" : Str)]
theorem sc_near_towns : FnScope sN_near_towns [("town" : Str), ("towns" : Str), ("ways" : Str)] (defScope s_near_towns) := ⟨rfl, rfl, rfl, by decide +kernel, rfl, by decide +kernel, by decide +kernel⟩
abbrev s_l_mixed : Stmt := top 26
abbrev sN_l_mixed : List Str := [("cell" : Str), ("k" : Str), ("first" : Str), ("second" : Str)]
theorem sc_l_mixed : FnScope sN_l_mixed [("cell" : Str), ("k" : Str)] (defScope s_l_mixed) := ⟨rfl, rfl, rfl, by decide +kernel, rfl, by decide +kernel, by decide +kernel⟩
abbrev s_l_store : Stmt := top 27
abbrev sN_l_store : List Str := [("script" : Str), ("cell" : Str), ("cells" : Str), ("seed" : Str)]
theorem sc_l_store : FnScope sN_l_store [("script" : Str)] (defScope s_l_store) := ⟨rfl, rfl, rfl, by decide +kernel, rfl, by decide +kernel, by decide +kernel⟩
abbrev s_l_take : Stmt := top 28
abbrev sN_l_take : List Str := [("store" : Str), ("many" : Str), ("base" : Str), ("cell" : Str), ("digit" : Str)]
theorem sc_l_take : FnScope sN_l_take [("store" : Str), ("many" : Str)] (defScope s_l_take) := ⟨rfl, rfl, rfl, by decide +kernel, rfl, by decide +kernel, by decide +kernel⟩
abbrev s_l_pick : Stmt := top 31
abbrev sN_l_pick : List Str := [("store" : Str), ("row" : Str)]
theorem sc_l_pick : FnScope sN_l_pick [("store" : Str), ("row" : Str)] (defScope s_l_pick) := ⟨rfl, rfl, rfl, by decide +kernel, rfl, by decide +kernel, by decide +kernel⟩
abbrev s_l_some : Stmt := top 32
abbrev sN_l_some : List Str := [("store" : Str), ("row" : Str), ("many" : Str), ("left" : Str), ("found" : Str), ("k" : Str), ("at" : Str)]
theorem sc_l_some : FnScope sN_l_some [("store" : Str), ("row" : Str), ("many" : Str)] (defScope s_l_some) := ⟨rfl, rfl, rfl, by decide +kernel, rfl, by decide +kernel, by decide +kernel⟩
abbrev s_l_turned : Stmt := top 33
abbrev sN_l_turned : List Str := [("store" : Str), ("row" : Str)]
theorem sc_l_turned : FnScope sN_l_turned [("store" : Str), ("row" : Str)] (defScope s_l_turned) := ⟨rfl, rfl, rfl, by decide +kernel, rfl, by decide +kernel, by decide +kernel⟩
abbrev s_l_word : Stmt := top 34
abbrev sN_l_word : List Str := [("store" : Str), ("size" : Str), ("letters" : Str), ("signs" : Str), ("word" : Str), ("k" : Str)]
theorem sc_l_word : FnScope sN_l_word [("store" : Str), ("size" : Str)] (defScope s_l_word) := ⟨rfl, rfl, rfl, by decide +kernel, rfl, by decide +kernel, by decide +kernel⟩
abbrev s_l_names : Stmt := top 35
abbrev sN_l_names : List Str := [("store" : Str), ("many" : Str), ("letters" : Str), ("form" : Str), ("word" : Str), ("k" : Str), ("row" : Str), ("stem" : Str), ("head" : Str), ("found" : Str), ("at" : Str), ("tail" : Str)]
theorem sc_l_names : FnScope sN_l_names [("store" : Str), ("many" : Str)] (defScope s_l_names) := ⟨rfl, rfl, rfl, by decide +kernel, rfl, by decide +kernel, by decide +kernel⟩
abbrev s_l_no_name : Stmt := top 36
abbrev sN_l_no_name : List Str := [("store" : Str), ("row" : Str)]
theorem sc_l_no_name : FnScope sN_l_no_name [("store" : Str)] (defScope s_l_no_name) := ⟨rfl, rfl, rfl, by decide +kernel, rfl, by decide +kernel, by decide +kernel⟩
abbrev s_l_same : Stmt := top 37
abbrev sN_l_same : List Str := [("one" : Str), ("other" : Str), ("key" : Str), ("k" : Str), ("alike" : Str), ("found" : Str)]
theorem sc_l_same : FnScope sN_l_same [("one" : Str), ("other" : Str)] (defScope s_l_same) := ⟨rfl, rfl, rfl, by decide +kernel, rfl, by decide +kernel, by decide +kernel⟩
abbrev s_l_joined : Stmt := top 38
abbrev sN_l_joined : List Str := [("roads" : Str), ("here" : Str), ("there" : Str)]
theorem sc_l_joined : FnScope sN_l_joined [("roads" : Str), ("here" : Str), ("there" : Str)] (defScope s_l_joined) := ⟨rfl, rfl, rfl, by decide +kernel, rfl, by decide +kernel, by decide +kernel⟩
abbrev s_l_heard : Stmt := top 39
abbrev sN_l_heard : List Str := [("places" : Str), ("chained" : Str), ("e" : Str)]
theorem sc_l_heard : FnScope sN_l_heard [("places" : Str), ("chained" : Str)] (defScope s_l_heard) := ⟨rfl, rfl, rfl, by decide +kernel, rfl, by decide +kernel, by decide +kernel⟩
abbrev s_l_due : Stmt := top 40
abbrev sN_l_due : List Str := [("places" : Str), ("chained" : Str), ("found" : Str), ("i" : Str), ("j" : Str)]
theorem sc_l_due : FnScope sN_l_due [("places" : Str), ("chained" : Str)] (defScope s_l_due) := ⟨rfl, rfl, rfl, by decide +kernel, rfl, by decide +kernel, by decide +kernel⟩
abbrev s_l_holds : Stmt := top 41
abbrev sN_l_holds : List Str := [("web" : Str), ("places" : Str), ("ways_due" : Str), ("row" : Str), ("here" : Str), ("nears" : Str), ("there" : Str)]
theorem sc_l_holds : FnScope sN_l_holds [("web" : Str), ("places" : Str), ("ways_due" : Str)] (defScope s_l_holds) := ⟨rfl, rfl, rfl, by decide +kernel, rfl, by decide +kernel, by decide +kernel⟩
abbrev s_l_refused : Stmt := top 42
abbrev sN_l_refused : List Str := [("places" : Str), ("due" : Str)]
theorem sc_l_refused : FnScope sN_l_refused [("places" : Str), ("due" : Str)] (defScope s_l_refused) := ⟨rfl, rfl, rfl, by decide +kernel, rfl, by decide +kernel, by decide +kernel⟩
abbrev s_l_doubled : Stmt := top 43
abbrev sN_l_doubled : List Str := [("store" : Str), ("places" : Str), ("row" : Str), ("k" : Str)]
theorem sc_l_doubled : FnScope sN_l_doubled [("store" : Str), ("places" : Str)] (defScope s_l_doubled) := ⟨rfl, rfl, rfl, by decide +kernel, rfl, by decide +kernel, by decide +kernel⟩
abbrev s_law : Stmt := top 44
abbrev sN_law : List Str := [("script" : Str), ("store" : Str), ("places" : Str), ("webs" : Str), ("chained" : Str), ("handed" : Str), ("told" : Str), ("k" : Str), ("back" : Str), ("alike" : Str), ("doubled" : Str), ("at" : Str), ("strange" : Str), ("wrong" : Str)]
theorem sc_law : FnScope sN_law [("script" : Str)] (defScope s_law) := ⟨rfl, rfl, rfl, by decide +kernel, rfl, by decide +kernel, by decide +kernel⟩
structure Txt (K : PySem.W.Frag) (mg : Str → Option Value) (C : CA) where
  e_BadShape : Ini K C.BadShape "BadShape.__init__" s_BadShape_init [("self" : Str), ("parameter" : Str)] [("parameter" : Str)]
  e_Repeated : Ini K C.Repeated "Repeated.__init__" s_Repeated_init [("self" : Str), ("thing" : Str)] [("thing" : Str)]
  e_UnknownTown : Ini K C.UnknownTown "UnknownTown.__init__" s_UnknownTown_init [("self" : Str), ("town" : Str)] [("town" : Str)]
  e_SameTown : Ini K C.SameTown "SameTown.__init__" s_SameTown_init [("self" : Str), ("town" : Str)] [("town" : Str)]
  d_is_name : Dfn K mg "is_name" "is_name" s_is_name [("value" : Str)]
  d_is_tuple_of : Dfn K mg "is_tuple_of" "is_tuple_of" s_is_tuple_of [("value" : Str), ("parts" : Str)]
  d_check : Dfn K mg "check" "check" s_check [("fits" : Str), ("parameter" : Str)]
  d_check_town : Dfn K mg "check_town" "check_town" s_check_town [("towns" : Str), ("town" : Str)]
  d_is_series : Dfn K mg "is_series" "is_series" s_is_series [("value" : Str)]
  d_are_name_pairs : Dfn K mg "are_name_pairs" "are_name_pairs" s_are_name_pairs [("value" : Str)]
  d_are_names : Dfn K mg "are_names" "are_names" s_are_names [("values" : Str)]
  d_first_repeated : Dfn K mg "first_repeated" "first_repeated" s_first_repeated [("things" : Str)]
  v_Web_init : List V
  d_Web_init : Ctr K C.Web "Web.__init__" s_Web_init [("self" : Str), ("towns" : Str), ("ways" : Str)] v_Web_init
  d_Web_full : Cmt K C.Web "full" "Web.full" s_Web_full [("cls" : Str), ("towns" : Str)]
  d_Web_chain : Cmt K C.Web "chain" "Web.chain" s_Web_chain [("cls" : Str), ("towns" : Str)]
  d_Web_contains : Mtd K C.Web "__contains__" "Web.__contains__" s_Web_contains [("self" : Str), ("x" : Str)]
  d_Web_iter : Mtd K C.Web "__iter__" "Web.__iter__" s_Web_iter [("self" : Str)]
  d_Web_eq : Mtd K C.Web "__eq__" "Web.__eq__" s_Web_eq [("self" : Str), ("other" : Str)]
  d_Web_towns : Prp K C.Web "towns" "Web.towns" s_Web_towns [("self" : Str)]
  d_Web_ways : Prp K C.Web "ways" "Web.ways" s_Web_ways [("self" : Str)]
  d_Web_joins : Mtd K C.Web "joins" "Web.joins" s_Web_joins [("self" : Str), ("here" : Str), ("there" : Str)]
  d_Web_near : Mtd K C.Web "near" "Web.near" s_Web_near [("self" : Str), ("town" : Str)]
  d_are_towns : Dfn K mg "are_towns" "are_towns" s_are_towns [("value" : Str)]
  d_sorted_ways : Dfn K mg "sorted_ways" "sorted_ways" s_sorted_ways [("towns" : Str), ("ways" : Str)]
  d_near_towns : Dfn K mg "near_towns" "near_towns" s_near_towns [("town" : Str), ("towns" : Str), ("ways" : Str)]
  d_l_mixed : Dfn K mg "_law_mixed" "_law_mixed" s_l_mixed [("cell" : Str), ("k" : Str)]
  d_l_store : Dfn K mg "_law_store" "_law_store" s_l_store [("script" : Str)]
  d_l_take : Dfn K mg "_law_take" "_law_take" s_l_take [("store" : Str), ("many" : Str)]
  d_l_pick : Dfn K mg "_law_pick" "_law_pick" s_l_pick [("store" : Str), ("row" : Str)]
  d_l_some : Dfn K mg "_law_some" "_law_some" s_l_some [("store" : Str), ("row" : Str), ("many" : Str)]
  d_l_turned : Dfn K mg "_law_turned" "_law_turned" s_l_turned [("store" : Str), ("row" : Str)]
  d_l_word : Dfn K mg "_law_word" "_law_word" s_l_word [("store" : Str), ("size" : Str)]
  d_l_names : Dfn K mg "_law_names" "_law_names" s_l_names [("store" : Str), ("many" : Str)]
  d_l_no_name : Dfn K mg "_law_no_name" "_law_no_name" s_l_no_name [("store" : Str)]
  d_l_same : Dfn K mg "_law_same" "_law_same" s_l_same [("one" : Str), ("other" : Str)]
  d_l_joined : Dfn K mg "_law_joined" "_law_joined" s_l_joined [("roads" : Str), ("here" : Str), ("there" : Str)]
  d_l_heard : Dfn K mg "_law_heard" "_law_heard" s_l_heard [("places" : Str), ("chained" : Str)]
  d_l_due : Dfn K mg "_law_due" "_law_due" s_l_due [("places" : Str), ("chained" : Str)]
  d_l_holds : Dfn K mg "_law_holds" "_law_holds" s_l_holds [("web" : Str), ("places" : Str), ("ways_due" : Str)]
  d_l_refused : Dfn K mg "_law_refused" "_law_refused" s_l_refused [("places" : Str), ("due" : Str)]
  d_l_doubled : Dfn K mg "_law_doubled" "_law_doubled" s_l_doubled [("store" : Str), ("places" : Str)]
  d_law : Dfn K mg "law" "law" s_law [("script" : Str)]
  o_Web : OwnC K C.Web [("_ways" : Str), ("_near" : Str)]
  g_BadShape : mg "BadShape" = some (.ref C.BadShape)
  g_CrossError : mg "CrossError" = some (.ref C.CrossError)
  g_Repeated : mg "Repeated" = some (.ref C.Repeated)
  g_SameTown : mg "SameTown" = some (.ref C.SameTown)
  g_UnknownTown : mg "UnknownTown" = some (.ref C.UnknownTown)
  g_Web : mg "Web" = some (.ref C.Web)
  t_LETTERS : Nat
  c_LETTERS : mg "LETTERS" = some (.str ("abcdefghijklmnopqrstuvwxyz" : Str) t_LETTERS)
  t_LETTERS_AND_DIGITS : Nat
  c_LETTERS_AND_DIGITS : mg "LETTERS_AND_DIGITS" = some (.str ("abcdefghijklmnopqrstuvwxyz0123456789" : Str) t_LETTERS_AND_DIGITS)
  t_LONGEST_NAME : Nat
  c_LONGEST_NAME : mg "LONGEST_NAME" = some (.int 8 t_LONGEST_NAME)
  t_MOST_TOWNS : Nat
  c_MOST_TOWNS : mg "MOST_TOWNS" = some (.int 8 t_MOST_TOWNS)
  b_ValueError : mg "ValueError" = none
  b_all : mg "all" = none
  b_bool : mg "bool" = none
  b_dict : mg "dict" = none
  b_int : mg "int" = none
  b_isinstance : mg "isinstance" = none
  b_iter : mg "iter" = none
  b_len : mg "len" = none
  b_list : mg "list" = none
  b_max : mg "max" = none
  b_min : mg "min" = none
  b_range : mg "range" = none
  b_set : mg "set" = none
  b_sorted : mg "sorted" = none
  b_str : mg "str" = none
  b_tuple : mg "tuple" = none
  b_zip : mg "zip" = none
  ef : EF K C
section
variable {P : Program} {w : World} {K : PySem.W.Frag} {mg : Str → Option Value} {base : Heap} {C : CA}
theorem pure_BadShape_init (I : Ini K C.BadShape "BadShape.__init__" s_BadShape_init [("self" : Str), ("parameter" : Str)] [("parameter" : Str)]) (vs : List V) (H : Hp) (Q : VK) (E : XK) (h : sp_einit C.BadShape [("parameter" : Str)] vs H Q E) : ((tOst K ("parameter" : Str) (tVar 0) (tVar 1))) { nx := fun _ H' => Q .non H', rt := Q } (start sN_BadShape_init vs) H := by
  obtain ⟨a, ws, rfl, hl, ha, q⟩ := h
  match ws, hl with
  | [x], _ =>
    refine ⟨_, rfl, _, rfl, a, C.BadShape, rfl, I.ex, I.no _ (by decide +kernel), .inl ⟨ha, fun d nd ne => ?_⟩⟩
    refine q d _ nd ne upd_same ?_ fun b na nb => ?_
    · rw [upd_ne ne]; exact upd_same
    · rw [upd_ne na, upd_ne nb]
theorem ok_BadShape_init (I : Ini K C.BadShape "BadShape.__init__" s_BadShape_init [("self" : Str), ("parameter" : Str)] [("parameter" : Str)]) : FnOk P w K mg base CX0 2 I.f I.fd [("self" : Str), ("parameter" : Str)] (sp_einit C.BadShape [("parameter" : Str)]) := by
  refine I.fn.ok sc_BadShape_init (fun vs H Q E h => ?_) (fun cdv A outer s H vs Q E hr h => ⟨_, ?_, pure_BadShape_init I vs H Q E h⟩)
  · obtain ⟨_, _, rfl, hl, _⟩ := h
    rw [List.length_cons, hl]
    rfl
  · exact (pss_one (ps_ost (pv 0) (pv 1)))
theorem pure_Repeated_init (I : Ini K C.Repeated "Repeated.__init__" s_Repeated_init [("self" : Str), ("thing" : Str)] [("thing" : Str)]) (vs : List V) (H : Hp) (Q : VK) (E : XK) (h : sp_einit C.Repeated [("thing" : Str)] vs H Q E) : ((tOst K ("thing" : Str) (tVar 0) (tVar 1))) { nx := fun _ H' => Q .non H', rt := Q } (start sN_Repeated_init vs) H := by
  obtain ⟨a, ws, rfl, hl, ha, q⟩ := h
  match ws, hl with
  | [x], _ =>
    refine ⟨_, rfl, _, rfl, a, C.Repeated, rfl, I.ex, I.no _ (by decide +kernel), .inl ⟨ha, fun d nd ne => ?_⟩⟩
    refine q d _ nd ne upd_same ?_ fun b na nb => ?_
    · rw [upd_ne ne]; exact upd_same
    · rw [upd_ne na, upd_ne nb]
theorem ok_Repeated_init (I : Ini K C.Repeated "Repeated.__init__" s_Repeated_init [("self" : Str), ("thing" : Str)] [("thing" : Str)]) : FnOk P w K mg base CX0 2 I.f I.fd [("self" : Str), ("thing" : Str)] (sp_einit C.Repeated [("thing" : Str)]) := by
  refine I.fn.ok sc_Repeated_init (fun vs H Q E h => ?_) (fun cdv A outer s H vs Q E hr h => ⟨_, ?_, pure_Repeated_init I vs H Q E h⟩)
  · obtain ⟨_, _, rfl, hl, _⟩ := h
    rw [List.length_cons, hl]
    rfl
  · exact (pss_one (ps_ost (pv 0) (pv 1)))
theorem pure_UnknownTown_init (I : Ini K C.UnknownTown "UnknownTown.__init__" s_UnknownTown_init [("self" : Str), ("town" : Str)] [("town" : Str)]) (vs : List V) (H : Hp) (Q : VK) (E : XK) (h : sp_einit C.UnknownTown [("town" : Str)] vs H Q E) : ((tOst K ("town" : Str) (tVar 0) (tVar 1))) { nx := fun _ H' => Q .non H', rt := Q } (start sN_UnknownTown_init vs) H := by
  obtain ⟨a, ws, rfl, hl, ha, q⟩ := h
  match ws, hl with
  | [x], _ =>
    refine ⟨_, rfl, _, rfl, a, C.UnknownTown, rfl, I.ex, I.no _ (by decide +kernel), .inl ⟨ha, fun d nd ne => ?_⟩⟩
    refine q d _ nd ne upd_same ?_ fun b na nb => ?_
    · rw [upd_ne ne]; exact upd_same
    · rw [upd_ne na, upd_ne nb]
theorem ok_UnknownTown_init (I : Ini K C.UnknownTown "UnknownTown.__init__" s_UnknownTown_init [("self" : Str), ("town" : Str)] [("town" : Str)]) : FnOk P w K mg base CX0 2 I.f I.fd [("self" : Str), ("town" : Str)] (sp_einit C.UnknownTown [("town" : Str)]) := by
  refine I.fn.ok sc_UnknownTown_init (fun vs H Q E h => ?_) (fun cdv A outer s H vs Q E hr h => ⟨_, ?_, pure_UnknownTown_init I vs H Q E h⟩)
  · obtain ⟨_, _, rfl, hl, _⟩ := h
    rw [List.length_cons, hl]
    rfl
  · exact (pss_one (ps_ost (pv 0) (pv 1)))
theorem pure_SameTown_init (I : Ini K C.SameTown "SameTown.__init__" s_SameTown_init [("self" : Str), ("town" : Str)] [("town" : Str)]) (vs : List V) (H : Hp) (Q : VK) (E : XK) (h : sp_einit C.SameTown [("town" : Str)] vs H Q E) : ((tOst K ("town" : Str) (tVar 0) (tVar 1))) { nx := fun _ H' => Q .non H', rt := Q } (start sN_SameTown_init vs) H := by
  obtain ⟨a, ws, rfl, hl, ha, q⟩ := h
  match ws, hl with
  | [x], _ =>
    refine ⟨_, rfl, _, rfl, a, C.SameTown, rfl, I.ex, I.no _ (by decide +kernel), .inl ⟨ha, fun d nd ne => ?_⟩⟩
    refine q d _ nd ne upd_same ?_ fun b na nb => ?_
    · rw [upd_ne ne]; exact upd_same
    · rw [upd_ne na, upd_ne nb]
theorem ok_SameTown_init (I : Ini K C.SameTown "SameTown.__init__" s_SameTown_init [("self" : Str), ("town" : Str)] [("town" : Str)]) : FnOk P w K mg base CX0 2 I.f I.fd [("self" : Str), ("town" : Str)] (sp_einit C.SameTown [("town" : Str)]) := by
  refine I.fn.ok sc_SameTown_init (fun vs H Q E h => ?_) (fun cdv A outer s H vs Q E hr h => ⟨_, ?_, pure_SameTown_init I vs H Q E h⟩)
  · obtain ⟨_, _, rfl, hl, _⟩ := h
    rw [List.length_cons, hl]
    rfl
  · exact (pss_one (ps_ost (pv 0) (pv 1)))
theorem ok_is_name (T : Txt K mg C) : FnOk P w K mg base CX0 2 T.d_is_name.f T.d_is_name.fd [("value" : Str)] (sp_is_name K C) := by
  refine T.d_is_name.fn.ok sc_is_name (fun vs H Q E h => ?_) (fun cdv A outer s H vs Q E hr h => ⟨rd_is_name K C E, ?_, pure_is_name vs H Q E h⟩)
  · first
    | (obtain ⟨_, rfl, _⟩ := h; rfl)
    | (obtain ⟨_, _, rfl, _⟩ := h; rfl)
    | (obtain ⟨_, _, _, rfl, _⟩ := h; rfl)
    | (obtain ⟨_, _, _, _, rfl, _⟩ := h; rfl)
    | (obtain ⟨_, _, _, _, _, rfl, _⟩ := h; rfl)
    | (obtain ⟨_, _, _, _, _, _, rfl, _⟩ := h; rfl)
    | (obtain ⟨_, _, _, _, _, _, _, rfl, _⟩ := h; rfl)
    | (obtain ⟨_, _, _, _, _, _, _, _, rfl, _⟩ := h; rfl)
    | (obtain ⟨_, _, _, _, _, _, _, _, _, rfl, _⟩ := h; rfl)
    | (obtain ⟨_, _, _, _, _, _, _, _, _, _, rfl, _⟩ := h; rfl)
    | (obtain ⟨_, _, _, _, _, _, _, _, _, _, _, rfl, _⟩ := h; rfl)
    | (obtain ⟨_, _, _, _, _, _, _, _, _, _, _, _, rfl, _⟩ := h; rfl)
    | (obtain ⟨_, _, _, _, _, _, _, _, _, _, _, _, _, rfl, _⟩ := h; rfl)
    | (obtain ⟨_, _, _, _, _, _, _, _, _, _, _, _, _, _, rfl, _⟩ := h; rfl)
    | (obtain ⟨_, _, _, _, _, _, _, _, _, _, _, _, _, _, _, rfl, _⟩ := h; rfl)
    | (obtain ⟨_, _, _, _, _, _, _, _, _, _, _, _, _, _, _, _, rfl, _⟩ := h; rfl)
    | (obtain ⟨_, _, _, _, _, _, _, _, _, _, _, _, _, _, _, _, _, rfl, _⟩ := h; rfl)
    | (obtain ⟨_, _, _, _, _, _, _, _, _, _, _, _, _, _, _, _, _, _, rfl, _⟩ := h; rfl)
    | (obtain ⟨_, _, _, _, _, _, _, _, _, _, _, _, _, _, _, _, _, _, _, rfl, _⟩ := h; rfl)
    | (obtain ⟨_, _, _, _, _, _, _, _, _, _, _, _, _, _, _, _, _, _, _, _, rfl, _⟩ := h; rfl)
    | (obtain ⟨_, _, _, _, _, _, _, _, _, _, _, _, _, _, _, _, _, _, _, _, _, rfl, _⟩ := h; rfl)
    | (obtain ⟨_, _, _, _, _, _, _, _, _, _, _, _, _, _, _, _, _, _, _, _, _, _, rfl, _⟩ := h; rfl)
    | (obtain ⟨_, _, _, _, _, _, _, _, _, _, _, _, _, _, _, _, _, _, _, _, _, _, _, rfl, _⟩ := h; rfl)
  · unfold rd_is_name
    exact (pss_cons (ps_if (PW.pt (pw_or (pt_not (pt_val (pe_callB c_isi (by rfl) T.b_isinstance (by decide +kernel) (pa_cons (pv 0) (pa_cons (pe_bltn (v := .ty "str") (by rfl) T.b_str (by decide +kernel) rfl) pa_nil))))) (pw_or1 (pt_not (pt_chain op_leF op_leF pe_int (pe_callB c_len (by rfl) T.b_len (by decide +kernel) (pa_cons (pv 0) pa_nil)) (pe_glob (by rfl) T.c_LONGEST_NAME ⟨_, rfl⟩)))))) (pss_one (ps_ret pe_bl)) pss_nil) (pss_one (ps_ret (pe_and (pe_cmpR op_inF (pe_ix ix_F (pv 0) pe_int (fun _ _ => rfl)) (pe_glob (by rfl) T.c_LETTERS ⟨_, rfl⟩) (by rfl)) (pe_one (pe_callB (c_all rfl) (by rfl) T.b_all (by decide +kernel) (pa_cons (pe_lc (own := [(("sign" : Str), 1)]) (g := (gName 1)) rfl sc_is_name.nd (pi_str (pv 0)) (blkOk_by (own := [(("sign" : Str), 1)]) (N := sN_is_name) (sc := defScope s_is_name) (by decide +kernel)) (fun _ _ _ _ _ => (pg_name (i := 1) sc_is_name.nd rfl (by first | exact .inl rfl | exact .inr rfl))) (fun _ _ _ _ _ => pts_nil) (fun _ _ _ _ _ => (pe_cmpR op_inF (pv 1) (pe_glob (by rfl) T.c_LETTERS_AND_DIGITS ⟨_, rfl⟩) (by rfl)))) pa_nil)))))))
theorem ok_is_tuple_of (T : Txt K mg C) : FnOk P w K mg base CX0 2 T.d_is_tuple_of.f T.d_is_tuple_of.fd [("value" : Str), ("parts" : Str)] (sp_is_tuple_of K C) := by
  refine T.d_is_tuple_of.fn.ok sc_is_tuple_of (fun vs H Q E h => ?_) (fun cdv A outer s H vs Q E hr h => ⟨rd_is_tuple_of K C E, ?_, pure_is_tuple_of vs H Q E h⟩)
  · first
    | (obtain ⟨_, rfl, _⟩ := h; rfl)
    | (obtain ⟨_, _, rfl, _⟩ := h; rfl)
    | (obtain ⟨_, _, _, rfl, _⟩ := h; rfl)
    | (obtain ⟨_, _, _, _, rfl, _⟩ := h; rfl)
    | (obtain ⟨_, _, _, _, _, rfl, _⟩ := h; rfl)
    | (obtain ⟨_, _, _, _, _, _, rfl, _⟩ := h; rfl)
    | (obtain ⟨_, _, _, _, _, _, _, rfl, _⟩ := h; rfl)
    | (obtain ⟨_, _, _, _, _, _, _, _, rfl, _⟩ := h; rfl)
    | (obtain ⟨_, _, _, _, _, _, _, _, _, rfl, _⟩ := h; rfl)
    | (obtain ⟨_, _, _, _, _, _, _, _, _, _, rfl, _⟩ := h; rfl)
    | (obtain ⟨_, _, _, _, _, _, _, _, _, _, _, rfl, _⟩ := h; rfl)
    | (obtain ⟨_, _, _, _, _, _, _, _, _, _, _, _, rfl, _⟩ := h; rfl)
    | (obtain ⟨_, _, _, _, _, _, _, _, _, _, _, _, _, rfl, _⟩ := h; rfl)
    | (obtain ⟨_, _, _, _, _, _, _, _, _, _, _, _, _, _, rfl, _⟩ := h; rfl)
    | (obtain ⟨_, _, _, _, _, _, _, _, _, _, _, _, _, _, _, rfl, _⟩ := h; rfl)
    | (obtain ⟨_, _, _, _, _, _, _, _, _, _, _, _, _, _, _, _, rfl, _⟩ := h; rfl)
    | (obtain ⟨_, _, _, _, _, _, _, _, _, _, _, _, _, _, _, _, _, rfl, _⟩ := h; rfl)
    | (obtain ⟨_, _, _, _, _, _, _, _, _, _, _, _, _, _, _, _, _, _, rfl, _⟩ := h; rfl)
    | (obtain ⟨_, _, _, _, _, _, _, _, _, _, _, _, _, _, _, _, _, _, _, rfl, _⟩ := h; rfl)
    | (obtain ⟨_, _, _, _, _, _, _, _, _, _, _, _, _, _, _, _, _, _, _, _, rfl, _⟩ := h; rfl)
    | (obtain ⟨_, _, _, _, _, _, _, _, _, _, _, _, _, _, _, _, _, _, _, _, _, rfl, _⟩ := h; rfl)
    | (obtain ⟨_, _, _, _, _, _, _, _, _, _, _, _, _, _, _, _, _, _, _, _, _, _, rfl, _⟩ := h; rfl)
    | (obtain ⟨_, _, _, _, _, _, _, _, _, _, _, _, _, _, _, _, _, _, _, _, _, _, _, rfl, _⟩ := h; rfl)
  · unfold rd_is_tuple_of
    exact (pss_one (ps_ret (pe_and (pe_callB c_isi (by rfl) T.b_isinstance (by decide +kernel) (pa_cons (pv 0) (pa_cons (pe_bltn (v := .ty "tuple") (by rfl) T.b_tuple (by decide +kernel) rfl) pa_nil))) (pe_one (pe_cmpR (op_eqF hr.units) (pe_callB c_len (by rfl) T.b_len (by decide +kernel) (pa_cons (pv 0) pa_nil)) (pv 1) (nomark _))))))
theorem ok_check (T : Txt K mg C) : FnOk P w K mg base (L2N.CX P w) 4 T.d_check.f T.d_check.fd [("fits" : Str), ("parameter" : Str)] (sp_check K C) := by
  have G_BadShape_init := ok_BadShape_init (P := P) (w := w) (mg := mg) (base := base) T.e_BadShape
  refine okN T.d_check.fn sc_check (fun vs H Q E h => ?_) (fun cdv A outer s H vs Q E hr h => ⟨rd_check K C E, ?_, pure_check vs H Q E h⟩)
  · first
    | (obtain ⟨_, rfl, _⟩ := h; rfl)
    | (obtain ⟨_, _, rfl, _⟩ := h; rfl)
    | (obtain ⟨_, _, _, rfl, _⟩ := h; rfl)
    | (obtain ⟨_, _, _, _, rfl, _⟩ := h; rfl)
    | (obtain ⟨_, _, _, _, _, rfl, _⟩ := h; rfl)
    | (obtain ⟨_, _, _, _, _, _, rfl, _⟩ := h; rfl)
    | (obtain ⟨_, _, _, _, _, _, _, rfl, _⟩ := h; rfl)
    | (obtain ⟨_, _, _, _, _, _, _, _, rfl, _⟩ := h; rfl)
    | (obtain ⟨_, _, _, _, _, _, _, _, _, rfl, _⟩ := h; rfl)
    | (obtain ⟨_, _, _, _, _, _, _, _, _, _, rfl, _⟩ := h; rfl)
    | (obtain ⟨_, _, _, _, _, _, _, _, _, _, _, rfl, _⟩ := h; rfl)
    | (obtain ⟨_, _, _, _, _, _, _, _, _, _, _, _, rfl, _⟩ := h; rfl)
    | (obtain ⟨_, _, _, _, _, _, _, _, _, _, _, _, _, rfl, _⟩ := h; rfl)
    | (obtain ⟨_, _, _, _, _, _, _, _, _, _, _, _, _, _, rfl, _⟩ := h; rfl)
    | (obtain ⟨_, _, _, _, _, _, _, _, _, _, _, _, _, _, _, rfl, _⟩ := h; rfl)
    | (obtain ⟨_, _, _, _, _, _, _, _, _, _, _, _, _, _, _, _, rfl, _⟩ := h; rfl)
    | (obtain ⟨_, _, _, _, _, _, _, _, _, _, _, _, _, _, _, _, _, rfl, _⟩ := h; rfl)
    | (obtain ⟨_, _, _, _, _, _, _, _, _, _, _, _, _, _, _, _, _, _, rfl, _⟩ := h; rfl)
    | (obtain ⟨_, _, _, _, _, _, _, _, _, _, _, _, _, _, _, _, _, _, _, rfl, _⟩ := h; rfl)
    | (obtain ⟨_, _, _, _, _, _, _, _, _, _, _, _, _, _, _, _, _, _, _, _, rfl, _⟩ := h; rfl)
    | (obtain ⟨_, _, _, _, _, _, _, _, _, _, _, _, _, _, _, _, _, _, _, _, _, rfl, _⟩ := h; rfl)
    | (obtain ⟨_, _, _, _, _, _, _, _, _, _, _, _, _, _, _, _, _, _, _, _, _, _, rfl, _⟩ := h; rfl)
    | (obtain ⟨_, _, _, _, _, _, _, _, _, _, _, _, _, _, _, _, _, _, _, _, _, _, _, rfl, _⟩ := h; rfl)
  · unfold rd_check
    exact (pss_one (ps_if (pt_not (pt_val (pv 0))) (pss_one (ps_raiseF rfl T.e_BadShape.ex T.e_BadShape.iC T.e_BadShape.tI G_BadShape_init (hr.mono (by decide)) T.e_BadShape.bi passE (by rfl) T.g_BadShape (L2N.takes_of rfl rfl rfl rfl) (mon_cons mon_var mon_nil) (pa_cons (pv 1) pa_nil))) pss_nil))
theorem ok_Web_contains (T : Txt K mg C) : FnOk P w K mg base CX0 3 T.d_Web_contains.f T.d_Web_contains.fd [("self" : Str), ("x" : Str)] (sp_Web_contains K C) := by
  have G_is_name := ok_is_name (P := P) (w := w) (mg := mg) (base := base) T
  refine T.d_Web_contains.fn.ok sc_Web_contains (fun vs H Q E h => ?_) (fun cdv A outer s H vs Q E hr h => ⟨rd_Web_contains K C E, ?_, pure_Web_contains vs H Q E h⟩)
  · first
    | (obtain ⟨_, rfl, _⟩ := h; rfl)
    | (obtain ⟨_, _, rfl, _⟩ := h; rfl)
    | (obtain ⟨_, _, _, rfl, _⟩ := h; rfl)
    | (obtain ⟨_, _, _, _, rfl, _⟩ := h; rfl)
    | (obtain ⟨_, _, _, _, _, rfl, _⟩ := h; rfl)
    | (obtain ⟨_, _, _, _, _, _, rfl, _⟩ := h; rfl)
    | (obtain ⟨_, _, _, _, _, _, _, rfl, _⟩ := h; rfl)
    | (obtain ⟨_, _, _, _, _, _, _, _, rfl, _⟩ := h; rfl)
    | (obtain ⟨_, _, _, _, _, _, _, _, _, rfl, _⟩ := h; rfl)
    | (obtain ⟨_, _, _, _, _, _, _, _, _, _, rfl, _⟩ := h; rfl)
    | (obtain ⟨_, _, _, _, _, _, _, _, _, _, _, rfl, _⟩ := h; rfl)
    | (obtain ⟨_, _, _, _, _, _, _, _, _, _, _, _, rfl, _⟩ := h; rfl)
    | (obtain ⟨_, _, _, _, _, _, _, _, _, _, _, _, _, rfl, _⟩ := h; rfl)
    | (obtain ⟨_, _, _, _, _, _, _, _, _, _, _, _, _, _, rfl, _⟩ := h; rfl)
    | (obtain ⟨_, _, _, _, _, _, _, _, _, _, _, _, _, _, _, rfl, _⟩ := h; rfl)
    | (obtain ⟨_, _, _, _, _, _, _, _, _, _, _, _, _, _, _, _, rfl, _⟩ := h; rfl)
    | (obtain ⟨_, _, _, _, _, _, _, _, _, _, _, _, _, _, _, _, _, rfl, _⟩ := h; rfl)
    | (obtain ⟨_, _, _, _, _, _, _, _, _, _, _, _, _, _, _, _, _, _, rfl, _⟩ := h; rfl)
    | (obtain ⟨_, _, _, _, _, _, _, _, _, _, _, _, _, _, _, _, _, _, _, rfl, _⟩ := h; rfl)
    | (obtain ⟨_, _, _, _, _, _, _, _, _, _, _, _, _, _, _, _, _, _, _, _, rfl, _⟩ := h; rfl)
    | (obtain ⟨_, _, _, _, _, _, _, _, _, _, _, _, _, _, _, _, _, _, _, _, _, rfl, _⟩ := h; rfl)
    | (obtain ⟨_, _, _, _, _, _, _, _, _, _, _, _, _, _, _, _, _, _, _, _, _, _, rfl, _⟩ := h; rfl)
    | (obtain ⟨_, _, _, _, _, _, _, _, _, _, _, _, _, _, _, _, _, _, _, _, _, _, _, rfl, _⟩ := h; rfl)
  · unfold rd_Web_contains
    exact (pss_one (ps_ret (pe_and (pe_callS G_is_name (hr.mono (by decide)) (by rfl) T.d_is_name.mg T.d_is_name.fn.kp T.d_is_name.bi pass0S (pa_cons (pv 1) pa_nil)) (pe_one (pe_cmp (pc_din (lt_one hr.units) (pv 1) (pe_fldW T.o_Web.cl (T.o_Web.no _ (by decide +kernel)) (pv 0))))))))
theorem ok_check_town (T : Txt K mg C) : FnOk P w K mg base (L2N.CX P w) 4 T.d_check_town.f T.d_check_town.fd [("towns" : Str), ("town" : Str)] (sp_check_town K C) := by
  have G_UnknownTown_init := ok_UnknownTown_init (P := P) (w := w) (mg := mg) (base := base) T.e_UnknownTown
  have G_Web_contains := ok_Web_contains (P := P) (w := w) (mg := mg) (base := base) T
  refine okN T.d_check_town.fn sc_check_town (fun vs H Q E h => ?_) (fun cdv A outer s H vs Q E hr h => ⟨rd_check_town K C E, ?_, pure_check_town vs H Q E h⟩)
  · first
    | (obtain ⟨_, rfl, _⟩ := h; rfl)
    | (obtain ⟨_, _, rfl, _⟩ := h; rfl)
    | (obtain ⟨_, _, _, rfl, _⟩ := h; rfl)
    | (obtain ⟨_, _, _, _, rfl, _⟩ := h; rfl)
    | (obtain ⟨_, _, _, _, _, rfl, _⟩ := h; rfl)
    | (obtain ⟨_, _, _, _, _, _, rfl, _⟩ := h; rfl)
    | (obtain ⟨_, _, _, _, _, _, _, rfl, _⟩ := h; rfl)
    | (obtain ⟨_, _, _, _, _, _, _, _, rfl, _⟩ := h; rfl)
    | (obtain ⟨_, _, _, _, _, _, _, _, _, rfl, _⟩ := h; rfl)
    | (obtain ⟨_, _, _, _, _, _, _, _, _, _, rfl, _⟩ := h; rfl)
    | (obtain ⟨_, _, _, _, _, _, _, _, _, _, _, rfl, _⟩ := h; rfl)
    | (obtain ⟨_, _, _, _, _, _, _, _, _, _, _, _, rfl, _⟩ := h; rfl)
    | (obtain ⟨_, _, _, _, _, _, _, _, _, _, _, _, _, rfl, _⟩ := h; rfl)
    | (obtain ⟨_, _, _, _, _, _, _, _, _, _, _, _, _, _, rfl, _⟩ := h; rfl)
    | (obtain ⟨_, _, _, _, _, _, _, _, _, _, _, _, _, _, _, rfl, _⟩ := h; rfl)
    | (obtain ⟨_, _, _, _, _, _, _, _, _, _, _, _, _, _, _, _, rfl, _⟩ := h; rfl)
    | (obtain ⟨_, _, _, _, _, _, _, _, _, _, _, _, _, _, _, _, _, rfl, _⟩ := h; rfl)
    | (obtain ⟨_, _, _, _, _, _, _, _, _, _, _, _, _, _, _, _, _, _, rfl, _⟩ := h; rfl)
    | (obtain ⟨_, _, _, _, _, _, _, _, _, _, _, _, _, _, _, _, _, _, _, rfl, _⟩ := h; rfl)
    | (obtain ⟨_, _, _, _, _, _, _, _, _, _, _, _, _, _, _, _, _, _, _, _, rfl, _⟩ := h; rfl)
    | (obtain ⟨_, _, _, _, _, _, _, _, _, _, _, _, _, _, _, _, _, _, _, _, _, rfl, _⟩ := h; rfl)
    | (obtain ⟨_, _, _, _, _, _, _, _, _, _, _, _, _, _, _, _, _, _, _, _, _, _, rfl, _⟩ := h; rfl)
    | (obtain ⟨_, _, _, _, _, _, _, _, _, _, _, _, _, _, _, _, _, _, _, _, _, _, _, rfl, _⟩ := h; rfl)
  · unfold rd_check_town
    exact (pss_one (ps_if (pt_cmpR (op_or (op_notInW T.d_Web_contains.op G_Web_contains (hr.mono (by decide)) T.d_Web_contains.bi) op_ninF) (pv 1) (pv 0) (by rfl)) (pss_one (ps_raiseF rfl T.e_UnknownTown.ex T.e_UnknownTown.iC T.e_UnknownTown.tI G_UnknownTown_init (hr.mono (by decide)) T.e_UnknownTown.bi passE (by rfl) T.g_UnknownTown (L2N.takes_of rfl rfl rfl rfl) (mon_cons mon_var mon_nil) (pa_cons (pv 1) pa_nil))) pss_nil))
theorem ok_is_series (T : Txt K mg C) : FnOk P w K mg base CX0 2 T.d_is_series.f T.d_is_series.fd [("value" : Str)] (sp_is_series K C) := by
  refine T.d_is_series.fn.ok sc_is_series (fun vs H Q E h => ?_) (fun cdv A outer s H vs Q E hr h => ⟨rd_is_series K C E, ?_, pure_is_series vs H Q E h⟩)
  · first
    | (obtain ⟨_, rfl, _⟩ := h; rfl)
    | (obtain ⟨_, _, rfl, _⟩ := h; rfl)
    | (obtain ⟨_, _, _, rfl, _⟩ := h; rfl)
    | (obtain ⟨_, _, _, _, rfl, _⟩ := h; rfl)
    | (obtain ⟨_, _, _, _, _, rfl, _⟩ := h; rfl)
    | (obtain ⟨_, _, _, _, _, _, rfl, _⟩ := h; rfl)
    | (obtain ⟨_, _, _, _, _, _, _, rfl, _⟩ := h; rfl)
    | (obtain ⟨_, _, _, _, _, _, _, _, rfl, _⟩ := h; rfl)
    | (obtain ⟨_, _, _, _, _, _, _, _, _, rfl, _⟩ := h; rfl)
    | (obtain ⟨_, _, _, _, _, _, _, _, _, _, rfl, _⟩ := h; rfl)
    | (obtain ⟨_, _, _, _, _, _, _, _, _, _, _, rfl, _⟩ := h; rfl)
    | (obtain ⟨_, _, _, _, _, _, _, _, _, _, _, _, rfl, _⟩ := h; rfl)
    | (obtain ⟨_, _, _, _, _, _, _, _, _, _, _, _, _, rfl, _⟩ := h; rfl)
    | (obtain ⟨_, _, _, _, _, _, _, _, _, _, _, _, _, _, rfl, _⟩ := h; rfl)
    | (obtain ⟨_, _, _, _, _, _, _, _, _, _, _, _, _, _, _, rfl, _⟩ := h; rfl)
    | (obtain ⟨_, _, _, _, _, _, _, _, _, _, _, _, _, _, _, _, rfl, _⟩ := h; rfl)
    | (obtain ⟨_, _, _, _, _, _, _, _, _, _, _, _, _, _, _, _, _, rfl, _⟩ := h; rfl)
    | (obtain ⟨_, _, _, _, _, _, _, _, _, _, _, _, _, _, _, _, _, _, rfl, _⟩ := h; rfl)
    | (obtain ⟨_, _, _, _, _, _, _, _, _, _, _, _, _, _, _, _, _, _, _, rfl, _⟩ := h; rfl)
    | (obtain ⟨_, _, _, _, _, _, _, _, _, _, _, _, _, _, _, _, _, _, _, _, rfl, _⟩ := h; rfl)
    | (obtain ⟨_, _, _, _, _, _, _, _, _, _, _, _, _, _, _, _, _, _, _, _, _, rfl, _⟩ := h; rfl)
    | (obtain ⟨_, _, _, _, _, _, _, _, _, _, _, _, _, _, _, _, _, _, _, _, _, _, rfl, _⟩ := h; rfl)
    | (obtain ⟨_, _, _, _, _, _, _, _, _, _, _, _, _, _, _, _, _, _, _, _, _, _, _, rfl, _⟩ := h; rfl)
  · unfold rd_is_series
    exact (pss_one (ps_ret (pe_callB c_isiT (by rfl) T.b_isinstance (by decide +kernel) (pa_cons (pv 0) (pa_cons (pe_tup (pa_cons (pe_bltn (v := .ty "list") (by rfl) T.b_list (by decide +kernel) rfl) (pa_cons (pe_bltn (v := .ty "tuple") (by rfl) T.b_tuple (by decide +kernel) rfl) pa_nil))) pa_nil)))))
theorem ok_are_names (T : Txt K mg C) : FnOk P w K mg base CX0 3 T.d_are_names.f T.d_are_names.fd [("values" : Str)] (sp_are_names K C) := by
  have G_is_name := ok_is_name (P := P) (w := w) (mg := mg) (base := base) T
  refine T.d_are_names.fn.ok sc_are_names (fun vs H Q E h => ?_) (fun cdv A outer s H vs Q E hr h => ⟨rd_are_names K C E, ?_, pure_are_names vs H Q E h⟩)
  · first
    | (obtain ⟨_, rfl, _⟩ := h; rfl)
    | (obtain ⟨_, _, rfl, _⟩ := h; rfl)
    | (obtain ⟨_, _, _, rfl, _⟩ := h; rfl)
    | (obtain ⟨_, _, _, _, rfl, _⟩ := h; rfl)
    | (obtain ⟨_, _, _, _, _, rfl, _⟩ := h; rfl)
    | (obtain ⟨_, _, _, _, _, _, rfl, _⟩ := h; rfl)
    | (obtain ⟨_, _, _, _, _, _, _, rfl, _⟩ := h; rfl)
    | (obtain ⟨_, _, _, _, _, _, _, _, rfl, _⟩ := h; rfl)
    | (obtain ⟨_, _, _, _, _, _, _, _, _, rfl, _⟩ := h; rfl)
    | (obtain ⟨_, _, _, _, _, _, _, _, _, _, rfl, _⟩ := h; rfl)
    | (obtain ⟨_, _, _, _, _, _, _, _, _, _, _, rfl, _⟩ := h; rfl)
    | (obtain ⟨_, _, _, _, _, _, _, _, _, _, _, _, rfl, _⟩ := h; rfl)
    | (obtain ⟨_, _, _, _, _, _, _, _, _, _, _, _, _, rfl, _⟩ := h; rfl)
    | (obtain ⟨_, _, _, _, _, _, _, _, _, _, _, _, _, _, rfl, _⟩ := h; rfl)
    | (obtain ⟨_, _, _, _, _, _, _, _, _, _, _, _, _, _, _, rfl, _⟩ := h; rfl)
    | (obtain ⟨_, _, _, _, _, _, _, _, _, _, _, _, _, _, _, _, rfl, _⟩ := h; rfl)
    | (obtain ⟨_, _, _, _, _, _, _, _, _, _, _, _, _, _, _, _, _, rfl, _⟩ := h; rfl)
    | (obtain ⟨_, _, _, _, _, _, _, _, _, _, _, _, _, _, _, _, _, _, rfl, _⟩ := h; rfl)
    | (obtain ⟨_, _, _, _, _, _, _, _, _, _, _, _, _, _, _, _, _, _, _, rfl, _⟩ := h; rfl)
    | (obtain ⟨_, _, _, _, _, _, _, _, _, _, _, _, _, _, _, _, _, _, _, _, rfl, _⟩ := h; rfl)
    | (obtain ⟨_, _, _, _, _, _, _, _, _, _, _, _, _, _, _, _, _, _, _, _, _, rfl, _⟩ := h; rfl)
    | (obtain ⟨_, _, _, _, _, _, _, _, _, _, _, _, _, _, _, _, _, _, _, _, _, _, rfl, _⟩ := h; rfl)
    | (obtain ⟨_, _, _, _, _, _, _, _, _, _, _, _, _, _, _, _, _, _, _, _, _, _, _, rfl, _⟩ := h; rfl)
  · unfold rd_are_names
    exact (pss_one (ps_ret (pe_callB (c_all rfl) (by rfl) T.b_all (by decide +kernel) (pa_cons (pe_lc (own := [(("value" : Str), 1)]) (g := (gName 1)) rfl sc_are_names.nd (pi_seq (pi_list (pv 0)) (pi_tup (pv 0))) (blkOk_by (own := [(("value" : Str), 1)]) (N := sN_are_names) (sc := defScope s_are_names) (by decide +kernel)) (fun _ _ _ _ _ => (pg_name (i := 1) sc_are_names.nd rfl (by first | exact .inl rfl | exact .inr rfl))) (fun _ _ _ _ _ => pts_nil) (fun _ _ _ _ _ => (pe_callS G_is_name (hr.mono (by decide)) (by rfl) T.d_is_name.mg T.d_is_name.fn.kp T.d_is_name.bi pass0S (pa_cons (pv 1) pa_nil)))) pa_nil))))
theorem ok_are_name_pairs (T : Txt K mg C) : FnOk P w K mg base CX0 4 T.d_are_name_pairs.f T.d_are_name_pairs.fd [("value" : Str)] (sp_are_name_pairs K C) := by
  have G_are_names := ok_are_names (P := P) (w := w) (mg := mg) (base := base) T
  have G_is_series := ok_is_series (P := P) (w := w) (mg := mg) (base := base) T
  have G_is_tuple_of := ok_is_tuple_of (P := P) (w := w) (mg := mg) (base := base) T
  refine T.d_are_name_pairs.fn.ok sc_are_name_pairs (fun vs H Q E h => ?_) (fun cdv A outer s H vs Q E hr h => ⟨rd_are_name_pairs K C E, ?_, pure_are_name_pairs vs H Q E h⟩)
  · first
    | (obtain ⟨_, rfl, _⟩ := h; rfl)
    | (obtain ⟨_, _, rfl, _⟩ := h; rfl)
    | (obtain ⟨_, _, _, rfl, _⟩ := h; rfl)
    | (obtain ⟨_, _, _, _, rfl, _⟩ := h; rfl)
    | (obtain ⟨_, _, _, _, _, rfl, _⟩ := h; rfl)
    | (obtain ⟨_, _, _, _, _, _, rfl, _⟩ := h; rfl)
    | (obtain ⟨_, _, _, _, _, _, _, rfl, _⟩ := h; rfl)
    | (obtain ⟨_, _, _, _, _, _, _, _, rfl, _⟩ := h; rfl)
    | (obtain ⟨_, _, _, _, _, _, _, _, _, rfl, _⟩ := h; rfl)
    | (obtain ⟨_, _, _, _, _, _, _, _, _, _, rfl, _⟩ := h; rfl)
    | (obtain ⟨_, _, _, _, _, _, _, _, _, _, _, rfl, _⟩ := h; rfl)
    | (obtain ⟨_, _, _, _, _, _, _, _, _, _, _, _, rfl, _⟩ := h; rfl)
    | (obtain ⟨_, _, _, _, _, _, _, _, _, _, _, _, _, rfl, _⟩ := h; rfl)
    | (obtain ⟨_, _, _, _, _, _, _, _, _, _, _, _, _, _, rfl, _⟩ := h; rfl)
    | (obtain ⟨_, _, _, _, _, _, _, _, _, _, _, _, _, _, _, rfl, _⟩ := h; rfl)
    | (obtain ⟨_, _, _, _, _, _, _, _, _, _, _, _, _, _, _, _, rfl, _⟩ := h; rfl)
    | (obtain ⟨_, _, _, _, _, _, _, _, _, _, _, _, _, _, _, _, _, rfl, _⟩ := h; rfl)
    | (obtain ⟨_, _, _, _, _, _, _, _, _, _, _, _, _, _, _, _, _, _, rfl, _⟩ := h; rfl)
    | (obtain ⟨_, _, _, _, _, _, _, _, _, _, _, _, _, _, _, _, _, _, _, rfl, _⟩ := h; rfl)
    | (obtain ⟨_, _, _, _, _, _, _, _, _, _, _, _, _, _, _, _, _, _, _, _, rfl, _⟩ := h; rfl)
    | (obtain ⟨_, _, _, _, _, _, _, _, _, _, _, _, _, _, _, _, _, _, _, _, _, rfl, _⟩ := h; rfl)
    | (obtain ⟨_, _, _, _, _, _, _, _, _, _, _, _, _, _, _, _, _, _, _, _, _, _, rfl, _⟩ := h; rfl)
    | (obtain ⟨_, _, _, _, _, _, _, _, _, _, _, _, _, _, _, _, _, _, _, _, _, _, _, rfl, _⟩ := h; rfl)
  · unfold rd_are_name_pairs
    exact (pss_one (ps_ret (pe_and (pe_callS G_is_series (hr.mono (by decide)) (by rfl) T.d_is_series.mg T.d_is_series.fn.kp T.d_is_series.bi pass0S (pa_cons (pv 0) pa_nil)) (pe_one (pe_callB (c_all rfl) (by rfl) T.b_all (by decide +kernel) (pa_cons (pe_lc (own := [(("pair" : Str), 1)]) (g := (gName 1)) rfl sc_are_name_pairs.nd (pi_seq (pi_list (pv 0)) (pi_tup (pv 0))) (blkOk_by (own := [(("pair" : Str), 1)]) (N := sN_are_name_pairs) (sc := defScope s_are_name_pairs) (by decide +kernel)) (fun _ _ _ _ _ => (pg_name (i := 1) sc_are_name_pairs.nd rfl (by first | exact .inl rfl | exact .inr rfl))) (fun _ _ _ _ _ => pts_nil) (fun _ _ _ _ _ => (pe_and (pe_callS G_is_tuple_of (hr.mono (by decide)) (by rfl) T.d_is_tuple_of.mg T.d_is_tuple_of.fn.kp T.d_is_tuple_of.bi pass0S (pa_cons (pv 1) (pa_cons pe_int pa_nil))) (pe_one (pe_callS G_are_names (hr.mono (by decide)) (by rfl) T.d_are_names.mg T.d_are_names.fn.kp T.d_are_names.bi pass0S (pa_cons (pv 1) pa_nil)))))) pa_nil))))))
theorem ok_first_repeated (T : Txt K mg C) : FnOk P w K mg base CX0 2 T.d_first_repeated.f T.d_first_repeated.fd [("things" : Str)] (sp_first_repeated K C) := by
  refine T.d_first_repeated.fn.ok sc_first_repeated (fun vs H Q E h => ?_) (fun cdv A outer s H vs Q E hr h => ⟨rd_first_repeated P w K C E, ?_, pure_first_repeated (P := P) (w := w) vs H Q E h⟩)
  · first
    | (obtain ⟨_, rfl, _⟩ := h; rfl)
    | (obtain ⟨_, _, rfl, _⟩ := h; rfl)
    | (obtain ⟨_, _, _, rfl, _⟩ := h; rfl)
    | (obtain ⟨_, _, _, _, rfl, _⟩ := h; rfl)
    | (obtain ⟨_, _, _, _, _, rfl, _⟩ := h; rfl)
    | (obtain ⟨_, _, _, _, _, _, rfl, _⟩ := h; rfl)
    | (obtain ⟨_, _, _, _, _, _, _, rfl, _⟩ := h; rfl)
    | (obtain ⟨_, _, _, _, _, _, _, _, rfl, _⟩ := h; rfl)
    | (obtain ⟨_, _, _, _, _, _, _, _, _, rfl, _⟩ := h; rfl)
    | (obtain ⟨_, _, _, _, _, _, _, _, _, _, rfl, _⟩ := h; rfl)
    | (obtain ⟨_, _, _, _, _, _, _, _, _, _, _, rfl, _⟩ := h; rfl)
    | (obtain ⟨_, _, _, _, _, _, _, _, _, _, _, _, rfl, _⟩ := h; rfl)
    | (obtain ⟨_, _, _, _, _, _, _, _, _, _, _, _, _, rfl, _⟩ := h; rfl)
    | (obtain ⟨_, _, _, _, _, _, _, _, _, _, _, _, _, _, rfl, _⟩ := h; rfl)
    | (obtain ⟨_, _, _, _, _, _, _, _, _, _, _, _, _, _, _, rfl, _⟩ := h; rfl)
    | (obtain ⟨_, _, _, _, _, _, _, _, _, _, _, _, _, _, _, _, rfl, _⟩ := h; rfl)
    | (obtain ⟨_, _, _, _, _, _, _, _, _, _, _, _, _, _, _, _, _, rfl, _⟩ := h; rfl)
    | (obtain ⟨_, _, _, _, _, _, _, _, _, _, _, _, _, _, _, _, _, _, rfl, _⟩ := h; rfl)
    | (obtain ⟨_, _, _, _, _, _, _, _, _, _, _, _, _, _, _, _, _, _, _, rfl, _⟩ := h; rfl)
    | (obtain ⟨_, _, _, _, _, _, _, _, _, _, _, _, _, _, _, _, _, _, _, _, rfl, _⟩ := h; rfl)
    | (obtain ⟨_, _, _, _, _, _, _, _, _, _, _, _, _, _, _, _, _, _, _, _, _, rfl, _⟩ := h; rfl)
    | (obtain ⟨_, _, _, _, _, _, _, _, _, _, _, _, _, _, _, _, _, _, _, _, _, _, rfl, _⟩ := h; rfl)
    | (obtain ⟨_, _, _, _, _, _, _, _, _, _, _, _, _, _, _, _, _, _, _, _, _, _, _, rfl, _⟩ := h; rfl)
  · unfold rd_first_repeated
    exact (pss_cons (ps_set (i := 1) sc_first_repeated.nd rfl (Or.inl rfl) (pe_callTy0 cr_set0K (by rfl) T.b_set (by decide +kernel))) (pss_cons (ps_for PassesOwn.never rfl (pi_seq (pi_list (pv 0)) (pi_tup (pv 0))) (pg_name (i := 2) sc_first_repeated.nd rfl (by first | exact .inl rfl | exact .inr rfl)) (pss_cons (ps_if (pt_cmpR or_sinK (pv 2) (pv 1) (by rfl)) (pss_one (ps_ret (pv 2))) pss_nil) (pss_one (ps_expr (pe_saddK (pv 1) (pa_cons (pv 2) pa_nil)))))) (pss_one (ps_ret pe_non))))
theorem ok_are_towns (T : Txt K mg C) : FnOk P w K mg base CX0 4 T.d_are_towns.f T.d_are_towns.fd [("value" : Str)] (sp_are_towns K C) := by
  have G_are_names := ok_are_names (P := P) (w := w) (mg := mg) (base := base) T
  have G_is_series := ok_is_series (P := P) (w := w) (mg := mg) (base := base) T
  refine T.d_are_towns.fn.ok sc_are_towns (fun vs H Q E h => ?_) (fun cdv A outer s H vs Q E hr h => ⟨rd_are_towns K C E, ?_, pure_are_towns vs H Q E h⟩)
  · first
    | (obtain ⟨_, rfl, _⟩ := h; rfl)
    | (obtain ⟨_, _, rfl, _⟩ := h; rfl)
    | (obtain ⟨_, _, _, rfl, _⟩ := h; rfl)
    | (obtain ⟨_, _, _, _, rfl, _⟩ := h; rfl)
    | (obtain ⟨_, _, _, _, _, rfl, _⟩ := h; rfl)
    | (obtain ⟨_, _, _, _, _, _, rfl, _⟩ := h; rfl)
    | (obtain ⟨_, _, _, _, _, _, _, rfl, _⟩ := h; rfl)
    | (obtain ⟨_, _, _, _, _, _, _, _, rfl, _⟩ := h; rfl)
    | (obtain ⟨_, _, _, _, _, _, _, _, _, rfl, _⟩ := h; rfl)
    | (obtain ⟨_, _, _, _, _, _, _, _, _, _, rfl, _⟩ := h; rfl)
    | (obtain ⟨_, _, _, _, _, _, _, _, _, _, _, rfl, _⟩ := h; rfl)
    | (obtain ⟨_, _, _, _, _, _, _, _, _, _, _, _, rfl, _⟩ := h; rfl)
    | (obtain ⟨_, _, _, _, _, _, _, _, _, _, _, _, _, rfl, _⟩ := h; rfl)
    | (obtain ⟨_, _, _, _, _, _, _, _, _, _, _, _, _, _, rfl, _⟩ := h; rfl)
    | (obtain ⟨_, _, _, _, _, _, _, _, _, _, _, _, _, _, _, rfl, _⟩ := h; rfl)
    | (obtain ⟨_, _, _, _, _, _, _, _, _, _, _, _, _, _, _, _, rfl, _⟩ := h; rfl)
    | (obtain ⟨_, _, _, _, _, _, _, _, _, _, _, _, _, _, _, _, _, rfl, _⟩ := h; rfl)
    | (obtain ⟨_, _, _, _, _, _, _, _, _, _, _, _, _, _, _, _, _, _, rfl, _⟩ := h; rfl)
    | (obtain ⟨_, _, _, _, _, _, _, _, _, _, _, _, _, _, _, _, _, _, _, rfl, _⟩ := h; rfl)
    | (obtain ⟨_, _, _, _, _, _, _, _, _, _, _, _, _, _, _, _, _, _, _, _, rfl, _⟩ := h; rfl)
    | (obtain ⟨_, _, _, _, _, _, _, _, _, _, _, _, _, _, _, _, _, _, _, _, _, rfl, _⟩ := h; rfl)
    | (obtain ⟨_, _, _, _, _, _, _, _, _, _, _, _, _, _, _, _, _, _, _, _, _, _, rfl, _⟩ := h; rfl)
    | (obtain ⟨_, _, _, _, _, _, _, _, _, _, _, _, _, _, _, _, _, _, _, _, _, _, _, rfl, _⟩ := h; rfl)
  · unfold rd_are_towns
    exact (pss_one (ps_ret (pe_and (pe_callS G_is_series (hr.mono (by decide)) (by rfl) T.d_is_series.mg T.d_is_series.fn.kp T.d_is_series.bi pass0S (pa_cons (pv 0) pa_nil)) (pe_and (pe_chain op_leF op_leF pe_int (pe_callB c_len (by rfl) T.b_len (by decide +kernel) (pa_cons (pv 0) pa_nil)) (pe_glob (by rfl) T.c_MOST_TOWNS ⟨_, rfl⟩)) (pe_one (pe_callS G_are_names (hr.mono (by decide)) (by rfl) T.d_are_names.mg T.d_are_names.fn.kp T.d_are_names.bi pass0S (pa_cons (pv 0) pa_nil)))))))
theorem ok_near_towns (T : Txt K mg C) : FnOk P w K mg base CX0 2 T.d_near_towns.f T.d_near_towns.fd [("town" : Str), ("towns" : Str), ("ways" : Str)] (sp_near_towns K C) := by
  refine T.d_near_towns.fn.ok sc_near_towns (fun vs H Q E h => ?_) (fun cdv A outer s H vs Q E hr h => ⟨rd_near_towns K C E, ?_, pure_near_towns vs H Q E h⟩)
  · first
    | (obtain ⟨_, rfl, _⟩ := h; rfl)
    | (obtain ⟨_, _, rfl, _⟩ := h; rfl)
    | (obtain ⟨_, _, _, rfl, _⟩ := h; rfl)
    | (obtain ⟨_, _, _, _, rfl, _⟩ := h; rfl)
    | (obtain ⟨_, _, _, _, _, rfl, _⟩ := h; rfl)
    | (obtain ⟨_, _, _, _, _, _, rfl, _⟩ := h; rfl)
    | (obtain ⟨_, _, _, _, _, _, _, rfl, _⟩ := h; rfl)
    | (obtain ⟨_, _, _, _, _, _, _, _, rfl, _⟩ := h; rfl)
    | (obtain ⟨_, _, _, _, _, _, _, _, _, rfl, _⟩ := h; rfl)
    | (obtain ⟨_, _, _, _, _, _, _, _, _, _, rfl, _⟩ := h; rfl)
    | (obtain ⟨_, _, _, _, _, _, _, _, _, _, _, rfl, _⟩ := h; rfl)
    | (obtain ⟨_, _, _, _, _, _, _, _, _, _, _, _, rfl, _⟩ := h; rfl)
    | (obtain ⟨_, _, _, _, _, _, _, _, _, _, _, _, _, rfl, _⟩ := h; rfl)
    | (obtain ⟨_, _, _, _, _, _, _, _, _, _, _, _, _, _, rfl, _⟩ := h; rfl)
    | (obtain ⟨_, _, _, _, _, _, _, _, _, _, _, _, _, _, _, rfl, _⟩ := h; rfl)
    | (obtain ⟨_, _, _, _, _, _, _, _, _, _, _, _, _, _, _, _, rfl, _⟩ := h; rfl)
    | (obtain ⟨_, _, _, _, _, _, _, _, _, _, _, _, _, _, _, _, _, rfl, _⟩ := h; rfl)
    | (obtain ⟨_, _, _, _, _, _, _, _, _, _, _, _, _, _, _, _, _, _, rfl, _⟩ := h; rfl)
    | (obtain ⟨_, _, _, _, _, _, _, _, _, _, _, _, _, _, _, _, _, _, _, rfl, _⟩ := h; rfl)
    | (obtain ⟨_, _, _, _, _, _, _, _, _, _, _, _, _, _, _, _, _, _, _, _, rfl, _⟩ := h; rfl)
    | (obtain ⟨_, _, _, _, _, _, _, _, _, _, _, _, _, _, _, _, _, _, _, _, _, rfl, _⟩ := h; rfl)
    | (obtain ⟨_, _, _, _, _, _, _, _, _, _, _, _, _, _, _, _, _, _, _, _, _, _, rfl, _⟩ := h; rfl)
    | (obtain ⟨_, _, _, _, _, _, _, _, _, _, _, _, _, _, _, _, _, _, _, _, _, _, _, rfl, _⟩ := h; rfl)
  · unfold rd_near_towns
    exact (pss_cons (ps_setLc (i := 3) (own := [(("other" : Str), 4)]) (g := (gName 4)) rfl sc_near_towns.nd rfl rfl (sw_true rfl rfl rfl (by decide +kernel)) (pi_seq (pi_list (pv 1)) (pi_tup (pv 1))) (blkOk_by (own := [(("other" : Str), 4)]) (N := sN_near_towns) (sc := defScope s_near_towns) (by decide +kernel)) (fun _ _ _ _ _ => (pg_name (i := 4) sc_near_towns.nd rfl (by first | exact .inl rfl | exact .inr rfl))) (fun _ _ _ _ _ => (pts_one (pt_cmpR (op_inDt (u65 hr)) (pe_tup (pa_cons (pe_callB (c_minS rfl) (by rfl) T.b_min (by decide +kernel) (pa_cons (pv 0) (pa_cons (pv 4) pa_nil))) (pa_cons (pe_callB (c_maxS rfl) (by rfl) T.b_max (by decide +kernel) (pa_cons (pv 0) (pa_cons (pv 4) pa_nil))) pa_nil))) (pv 2) (by rfl)))) (fun _ _ _ _ _ => (pv 4))) (pss_one (ps_ret (pe_callTy c_tuple (by rfl) T.b_tuple (by decide +kernel) (pa_cons (pe_callB (c_sortDq hr.units) (by rfl) T.b_sorted (by decide +kernel) (pa_cons (pe_op op_addF (pe_lst (pa_cons (pv 0) pa_nil)) (pv 3)) pa_nil)) pa_nil)))))
theorem ok_sorted_ways (T : Txt K mg C) : FnOk P w K mg base (L2N.CX P w) 5 T.d_sorted_ways.f T.d_sorted_ways.fd [("towns" : Str), ("ways" : Str)] (sp_sorted_ways K C) := by
  have G_Repeated_init := ok_Repeated_init (P := P) (w := w) (mg := mg) (base := base) T.e_Repeated
  have G_SameTown_init := ok_SameTown_init (P := P) (w := w) (mg := mg) (base := base) T.e_SameTown
  have G_check_town := ok_check_town (P := P) (w := w) (mg := mg) (base := base) T
  refine okN T.d_sorted_ways.fn sc_sorted_ways (fun vs H Q E h => ?_) (fun cdv A outer s H vs Q E hr h => ⟨rd_sorted_ways K C E, ?_, pure_sorted_ways vs H Q E h⟩)
  · first
    | (obtain ⟨_, rfl, _⟩ := h; rfl)
    | (obtain ⟨_, _, rfl, _⟩ := h; rfl)
    | (obtain ⟨_, _, _, rfl, _⟩ := h; rfl)
    | (obtain ⟨_, _, _, _, rfl, _⟩ := h; rfl)
    | (obtain ⟨_, _, _, _, _, rfl, _⟩ := h; rfl)
    | (obtain ⟨_, _, _, _, _, _, rfl, _⟩ := h; rfl)
    | (obtain ⟨_, _, _, _, _, _, _, rfl, _⟩ := h; rfl)
    | (obtain ⟨_, _, _, _, _, _, _, _, rfl, _⟩ := h; rfl)
    | (obtain ⟨_, _, _, _, _, _, _, _, _, rfl, _⟩ := h; rfl)
    | (obtain ⟨_, _, _, _, _, _, _, _, _, _, rfl, _⟩ := h; rfl)
    | (obtain ⟨_, _, _, _, _, _, _, _, _, _, _, rfl, _⟩ := h; rfl)
    | (obtain ⟨_, _, _, _, _, _, _, _, _, _, _, _, rfl, _⟩ := h; rfl)
    | (obtain ⟨_, _, _, _, _, _, _, _, _, _, _, _, _, rfl, _⟩ := h; rfl)
    | (obtain ⟨_, _, _, _, _, _, _, _, _, _, _, _, _, _, rfl, _⟩ := h; rfl)
    | (obtain ⟨_, _, _, _, _, _, _, _, _, _, _, _, _, _, _, rfl, _⟩ := h; rfl)
    | (obtain ⟨_, _, _, _, _, _, _, _, _, _, _, _, _, _, _, _, rfl, _⟩ := h; rfl)
    | (obtain ⟨_, _, _, _, _, _, _, _, _, _, _, _, _, _, _, _, _, rfl, _⟩ := h; rfl)
    | (obtain ⟨_, _, _, _, _, _, _, _, _, _, _, _, _, _, _, _, _, _, rfl, _⟩ := h; rfl)
    | (obtain ⟨_, _, _, _, _, _, _, _, _, _, _, _, _, _, _, _, _, _, _, rfl, _⟩ := h; rfl)
    | (obtain ⟨_, _, _, _, _, _, _, _, _, _, _, _, _, _, _, _, _, _, _, _, rfl, _⟩ := h; rfl)
    | (obtain ⟨_, _, _, _, _, _, _, _, _, _, _, _, _, _, _, _, _, _, _, _, _, rfl, _⟩ := h; rfl)
    | (obtain ⟨_, _, _, _, _, _, _, _, _, _, _, _, _, _, _, _, _, _, _, _, _, _, rfl, _⟩ := h; rfl)
    | (obtain ⟨_, _, _, _, _, _, _, _, _, _, _, _, _, _, _, _, _, _, _, _, _, _, _, rfl, _⟩ := h; rfl)
  · unfold rd_sorted_ways
    exact (pss_cons (ps_set (i := 2) sc_sorted_ways.nd rfl (Or.inl rfl) (pe_lst pa_nil)) (pss_cons (ps_for (passes_of rfl) rfl (pi_seq (pi_list (pv 1)) (pi_tup (pv 1))) (pg_tupF (by rfl) (pgs_cons (pg_name (i := 3) sc_sorted_ways.nd rfl (by first | exact .inl rfl | exact .inr rfl)) (pgs_cons (pg_name (i := 4) sc_sorted_ways.nd rfl (by first | exact .inl rfl | exact .inr rfl)) pgs_nil))) (pss_cons (ps_for (passes_of rfl) rfl (pi_tup (pe_tup (pa_cons (pv 3) (pa_cons (pv 4) pa_nil)))) (pg_name (i := 5) sc_sorted_ways.nd rfl (by first | exact .inl rfl | exact .inr rfl)) (pss_one (ps_expr (pe_callS G_check_town (hr.mono (by decide)) (by rfl) T.d_check_town.mg T.d_check_town.fn.kp T.d_check_town.bi (fun σ => L2N.passAt (W := fun cls d _ H => E cls d H) (L2N.takes_of rfl rfl rfl rfl) σ) (pa_cons (pv 0) (pa_cons (pv 5) pa_nil)))))) (pss_cons (ps_if (pt_cmpR (op_eqF hr.units) (pv 3) (pv 4) (nomark _)) (pss_one (ps_raiseF rfl T.e_SameTown.ex T.e_SameTown.iC T.e_SameTown.tI G_SameTown_init (hr.mono (by decide)) T.e_SameTown.bi passE (by rfl) T.g_SameTown (L2N.takes_of rfl rfl rfl rfl) (mon_cons mon_var mon_nil) (pa_cons (pv 3) pa_nil))) pss_nil) (pss_cons (ps_set (i := 6) sc_sorted_ways.nd rfl (Or.inl rfl) (pe_tup (pa_cons (pe_callB (c_minS rfl) (by rfl) T.b_min (by decide +kernel) (pa_cons (pv 3) (pa_cons (pv 4) pa_nil))) (pa_cons (pe_callB (c_maxS rfl) (by rfl) T.b_max (by decide +kernel) (pa_cons (pv 3) (pa_cons (pv 4) pa_nil))) pa_nil)))) (pss_cons (ps_if (pt_cmpR (op_inDt (u65 hr)) (pv 6) (pv 2) (by rfl)) (pss_one (ps_raiseF rfl T.e_Repeated.ex T.e_Repeated.iC T.e_Repeated.tI G_Repeated_init (hr.mono (by decide)) T.e_Repeated.bi passE (by rfl) T.g_Repeated (L2N.takes_of rfl rfl rfl rfl) (mon_cons mon_var mon_nil) (pa_cons (pv 6) pa_nil))) pss_nil) (pss_one (ps_expr (pe_imp (pe_bm PySem.F.plainAttrs_list PySem.F.slot_list_append PySem.F.type_list_append m_append (pv 2) (pa_cons (pv 6) pa_nil)) bm_var)))))))) (pss_one (ps_ret (pe_callB (c_sortDt hr.units) (by rfl) T.b_sorted (by decide +kernel) (pa_cons (pv 2) pa_nil))))))
theorem ok_Web_init (T : Txt K mg C) : FnOk P w K mg base (L2N.CX P w) 6 T.d_Web_init.f T.d_Web_init.fd [("self" : Str), ("towns" : Str), ("ways" : Str)] (sp_Web_init K C) := by
  have G_Repeated_init := ok_Repeated_init (P := P) (w := w) (mg := mg) (base := base) T.e_Repeated
  have G_are_name_pairs := ok_are_name_pairs (P := P) (w := w) (mg := mg) (base := base) T
  have G_are_towns := ok_are_towns (P := P) (w := w) (mg := mg) (base := base) T
  have G_check := ok_check (P := P) (w := w) (mg := mg) (base := base) T
  have G_first_repeated := ok_first_repeated (P := P) (w := w) (mg := mg) (base := base) T
  have G_near_towns := ok_near_towns (P := P) (w := w) (mg := mg) (base := base) T
  have G_sorted_ways := ok_sorted_ways (P := P) (w := w) (mg := mg) (base := base) T
  refine T.d_Web_init.fn.ok (CX := (L2N.CX P w)) sc_Web_init (fun vs H Q E h => ?_) (fun cdv A outer s H vs Q E hr h => ⟨rd_Web_init K C E, ?_, pure_Web_init vs H Q E h⟩)
  · first
    | (obtain ⟨_, rfl, _⟩ := h; rfl)
    | (obtain ⟨_, _, rfl, _⟩ := h; rfl)
    | (obtain ⟨_, _, _, rfl, _⟩ := h; rfl)
    | (obtain ⟨_, _, _, _, rfl, _⟩ := h; rfl)
    | (obtain ⟨_, _, _, _, _, rfl, _⟩ := h; rfl)
    | (obtain ⟨_, _, _, _, _, _, rfl, _⟩ := h; rfl)
    | (obtain ⟨_, _, _, _, _, _, _, rfl, _⟩ := h; rfl)
    | (obtain ⟨_, _, _, _, _, _, _, _, rfl, _⟩ := h; rfl)
    | (obtain ⟨_, _, _, _, _, _, _, _, _, rfl, _⟩ := h; rfl)
    | (obtain ⟨_, _, _, _, _, _, _, _, _, _, rfl, _⟩ := h; rfl)
    | (obtain ⟨_, _, _, _, _, _, _, _, _, _, _, rfl, _⟩ := h; rfl)
    | (obtain ⟨_, _, _, _, _, _, _, _, _, _, _, _, rfl, _⟩ := h; rfl)
    | (obtain ⟨_, _, _, _, _, _, _, _, _, _, _, _, _, rfl, _⟩ := h; rfl)
    | (obtain ⟨_, _, _, _, _, _, _, _, _, _, _, _, _, _, rfl, _⟩ := h; rfl)
    | (obtain ⟨_, _, _, _, _, _, _, _, _, _, _, _, _, _, _, rfl, _⟩ := h; rfl)
    | (obtain ⟨_, _, _, _, _, _, _, _, _, _, _, _, _, _, _, _, rfl, _⟩ := h; rfl)
    | (obtain ⟨_, _, _, _, _, _, _, _, _, _, _, _, _, _, _, _, _, rfl, _⟩ := h; rfl)
    | (obtain ⟨_, _, _, _, _, _, _, _, _, _, _, _, _, _, _, _, _, _, rfl, _⟩ := h; rfl)
    | (obtain ⟨_, _, _, _, _, _, _, _, _, _, _, _, _, _, _, _, _, _, _, rfl, _⟩ := h; rfl)
    | (obtain ⟨_, _, _, _, _, _, _, _, _, _, _, _, _, _, _, _, _, _, _, _, rfl, _⟩ := h; rfl)
    | (obtain ⟨_, _, _, _, _, _, _, _, _, _, _, _, _, _, _, _, _, _, _, _, _, rfl, _⟩ := h; rfl)
    | (obtain ⟨_, _, _, _, _, _, _, _, _, _, _, _, _, _, _, _, _, _, _, _, _, _, rfl, _⟩ := h; rfl)
    | (obtain ⟨_, _, _, _, _, _, _, _, _, _, _, _, _, _, _, _, _, _, _, _, _, _, _, rfl, _⟩ := h; rfl)
  · unfold rd_Web_init
    exact (pss_cons (ps_expr (pe_callS G_check (hr.mono (by decide)) (by rfl) T.d_check.mg T.d_check.fn.kp T.d_check.bi (fun σ => L2N.passAt (W := fun cls d _ H => E cls d H) (L2N.takes_of rfl rfl rfl rfl) σ) (pa_cons (pe_callS G_are_towns (hr.mono (by decide)) (by rfl) T.d_are_towns.mg T.d_are_towns.fn.kp T.d_are_towns.bi pass0S (pa_cons (pv 1) pa_nil)) (pa_cons pe_str pa_nil)))) (pss_cons (ps_expr (pe_callS G_check (hr.mono (by decide)) (by rfl) T.d_check.mg T.d_check.fn.kp T.d_check.bi (fun σ => L2N.passAt (W := fun cls d _ H => E cls d H) (L2N.takes_of rfl rfl rfl rfl) σ) (pa_cons (pe_callS G_are_name_pairs (hr.mono (by decide)) (by rfl) T.d_are_name_pairs.mg T.d_are_name_pairs.fn.kp T.d_are_name_pairs.bi pass0S (pa_cons (pv 2) pa_nil)) (pa_cons pe_str pa_nil)))) (pss_cons (ps_set (i := 3) sc_Web_init.nd rfl (Or.inl rfl) (pe_callS G_first_repeated (hr.mono (by decide)) (by rfl) T.d_first_repeated.mg T.d_first_repeated.fn.kp T.d_first_repeated.bi pass0S (pa_cons (pv 1) pa_nil))) (pss_cons (ps_if (pt_cmpR op_notNF (pv 3) pe_non (nomark _)) (pss_one (ps_raiseF rfl T.e_Repeated.ex T.e_Repeated.iC T.e_Repeated.tI G_Repeated_init (hr.mono (by decide)) T.e_Repeated.bi passE (by rfl) T.g_Repeated (L2N.takes_of rfl rfl rfl rfl) (mon_cons mon_var mon_nil) (pa_cons (pv 3) pa_nil))) pss_nil) (pss_cons (ps_ostW T.o_Web.cl (T.o_Web.no _ (by decide +kernel)) (pv 0) (pe_callTy c_tuple (by rfl) T.b_tuple (by decide +kernel) (pa_cons (pe_callS G_sorted_ways (hr.mono (by decide)) (by rfl) T.d_sorted_ways.mg T.d_sorted_ways.fn.kp T.d_sorted_ways.bi (fun σ => L2N.passAt (W := fun cls d _ H => E cls d H) (L2N.takes_of rfl rfl rfl rfl) σ) (pa_cons (pv 1) (pa_cons (pv 2) pa_nil))) pa_nil)) rfl) (pss_one (ps_ostW T.o_Web.cl (T.o_Web.no _ (by decide +kernel)) (pv 0) (pe_dc (own := [(("town" : Str), 4)]) (g := (gName 4)) rfl sc_Web_init.nd (pi_list (pe_callB (c_sortDq hr.units) (by rfl) T.b_sorted (by decide +kernel) (pa_cons (pv 1) pa_nil))) (blkOk_by (own := [(("town" : Str), 4)]) (N := sN_Web_init) (sc := defScope s_Web_init) (by decide +kernel)) (fun _ _ _ _ _ => (pg_name (i := 4) sc_Web_init.nd rfl (by first | exact .inl rfl | exact .inr rfl))) (fun _ _ _ _ _ => pts_nil) (fun _ _ _ _ _ => (pv 4)) (fun _ _ _ _ _ => (pe_callS G_near_towns (hr.mono (by decide)) (by rfl) T.d_near_towns.mg T.d_near_towns.fn.kp T.d_near_towns.bi pass0S (pa_cons (pv 4) (pa_cons (pv 1) (pa_cons (pe_fldW T.o_Web.cl (T.o_Web.no _ (by decide +kernel)) (pv 0)) pa_nil)))))) rfl)))))))
theorem ok_Web_full (T : Txt K mg C) : FnOk P w K mg base (L2N.CX P w) 8 T.d_Web_full.f T.d_Web_full.fd [("cls" : Str), ("towns" : Str)] (sp_Web_full K C) := by
  have G_Web_init := ok_Web_init (P := P) (w := w) (mg := mg) (base := base) T
  have G_are_towns := ok_are_towns (P := P) (w := w) (mg := mg) (base := base) T
  have G_check := ok_check (P := P) (w := w) (mg := mg) (base := base) T
  refine okN T.d_Web_full.fn sc_Web_full (fun vs H Q E h => ?_) (fun cdv A outer s H vs Q E hr h => ⟨rd_Web_full K C E, ?_, pure_Web_full vs H Q E h⟩)
  · first
    | (obtain ⟨_, rfl, _⟩ := h; rfl)
    | (obtain ⟨_, _, rfl, _⟩ := h; rfl)
    | (obtain ⟨_, _, _, rfl, _⟩ := h; rfl)
    | (obtain ⟨_, _, _, _, rfl, _⟩ := h; rfl)
    | (obtain ⟨_, _, _, _, _, rfl, _⟩ := h; rfl)
    | (obtain ⟨_, _, _, _, _, _, rfl, _⟩ := h; rfl)
    | (obtain ⟨_, _, _, _, _, _, _, rfl, _⟩ := h; rfl)
    | (obtain ⟨_, _, _, _, _, _, _, _, rfl, _⟩ := h; rfl)
    | (obtain ⟨_, _, _, _, _, _, _, _, _, rfl, _⟩ := h; rfl)
    | (obtain ⟨_, _, _, _, _, _, _, _, _, _, rfl, _⟩ := h; rfl)
    | (obtain ⟨_, _, _, _, _, _, _, _, _, _, _, rfl, _⟩ := h; rfl)
    | (obtain ⟨_, _, _, _, _, _, _, _, _, _, _, _, rfl, _⟩ := h; rfl)
    | (obtain ⟨_, _, _, _, _, _, _, _, _, _, _, _, _, rfl, _⟩ := h; rfl)
    | (obtain ⟨_, _, _, _, _, _, _, _, _, _, _, _, _, _, rfl, _⟩ := h; rfl)
    | (obtain ⟨_, _, _, _, _, _, _, _, _, _, _, _, _, _, _, rfl, _⟩ := h; rfl)
    | (obtain ⟨_, _, _, _, _, _, _, _, _, _, _, _, _, _, _, _, rfl, _⟩ := h; rfl)
    | (obtain ⟨_, _, _, _, _, _, _, _, _, _, _, _, _, _, _, _, _, rfl, _⟩ := h; rfl)
    | (obtain ⟨_, _, _, _, _, _, _, _, _, _, _, _, _, _, _, _, _, _, rfl, _⟩ := h; rfl)
    | (obtain ⟨_, _, _, _, _, _, _, _, _, _, _, _, _, _, _, _, _, _, _, rfl, _⟩ := h; rfl)
    | (obtain ⟨_, _, _, _, _, _, _, _, _, _, _, _, _, _, _, _, _, _, _, _, rfl, _⟩ := h; rfl)
    | (obtain ⟨_, _, _, _, _, _, _, _, _, _, _, _, _, _, _, _, _, _, _, _, _, rfl, _⟩ := h; rfl)
    | (obtain ⟨_, _, _, _, _, _, _, _, _, _, _, _, _, _, _, _, _, _, _, _, _, _, rfl, _⟩ := h; rfl)
    | (obtain ⟨_, _, _, _, _, _, _, _, _, _, _, _, _, _, _, _, _, _, _, _, _, _, _, rfl, _⟩ := h; rfl)
  · unfold rd_Web_full
    exact (pss_cons (ps_expr (pe_callS G_check (hr.mono (by decide)) (by rfl) T.d_check.mg T.d_check.fn.kp T.d_check.bi (fun σ => L2N.passAt (W := fun cls d _ H => E cls d H) (L2N.takes_of rfl rfl rfl rfl) σ) (pa_cons (pe_callS G_are_towns (hr.mono (by decide)) (by rfl) T.d_are_towns.mg T.d_are_towns.fn.kp T.d_are_towns.bi pass0S (pa_cons (pv 1) pa_nil)) (pa_cons pe_str pa_nil)))) (pss_cons (ps_setLc2 (i := 2) (own := [(("here" : Str), 3), (("there" : Str), 4)]) (vs1 := [4]) (g := (gName 3)) (g1 := (gName 4)) rfl sc_Web_full.nd rfl rfl (swaps2 rfl rfl rfl (by decide +kernel)) (pi_seq (pi_list (pv 1)) (pi_tup (pv 1))) (blkOk_by (own := [(("here" : Str), 3), (("there" : Str), 4)]) (N := sN_Web_full) (sc := defScope s_Web_full) (by decide +kernel)) (by decide) (fun _ _ _ _ _ => (pg_name (i := 3) sc_Web_full.nd rfl (by first | exact .inl rfl | exact .inr rfl))) (fun _ _ _ _ _ => pts_nil) (fun _ _ _ _ _ => (pi_seq (pi_list (pv 1)) (pi_tup (pv 1)))) (fun _ _ _ _ _ => (pg_name (i := 4) sc_Web_full.nd rfl (by first | exact .inl rfl | exact .inr rfl))) (fun _ _ _ _ _ => (pts_one (pt_cmpR (op_ltX hr.units) (pv 3) (pv 4) (nomark _)))) (fun _ _ _ _ _ => (pe_tup (pa_cons (pv 3) (pa_cons (pv 4) pa_nil))))) (pss_one (ps_ret (pe_makeL (i := 0) (by decide) (by decide) T.d_Web_init.made G_Web_init (hr.mono (by decide)) rfl (.inl rfl) T.d_Web_init.bi .nil (fun σ => L2N.passAt (W := fun cls d _ H => E cls d H) (L2N.takes_of rfl rfl rfl rfl) σ) (pa_cons (pv 1) (pa_cons (pv 2) pa_nil)))))))
theorem ok_Web_chain (T : Txt K mg C) : FnOk P w K mg base (L2N.CX P w) 8 T.d_Web_chain.f T.d_Web_chain.fd [("cls" : Str), ("towns" : Str)] (sp_Web_chain K C) := by
  have G_Web_init := ok_Web_init (P := P) (w := w) (mg := mg) (base := base) T
  have G_are_towns := ok_are_towns (P := P) (w := w) (mg := mg) (base := base) T
  have G_check := ok_check (P := P) (w := w) (mg := mg) (base := base) T
  refine okN T.d_Web_chain.fn sc_Web_chain (fun vs H Q E h => ?_) (fun cdv A outer s H vs Q E hr h => ⟨rd_Web_chain K C E, ?_, pure_Web_chain vs H Q E h⟩)
  · first
    | (obtain ⟨_, rfl, _⟩ := h; rfl)
    | (obtain ⟨_, _, rfl, _⟩ := h; rfl)
    | (obtain ⟨_, _, _, rfl, _⟩ := h; rfl)
    | (obtain ⟨_, _, _, _, rfl, _⟩ := h; rfl)
    | (obtain ⟨_, _, _, _, _, rfl, _⟩ := h; rfl)
    | (obtain ⟨_, _, _, _, _, _, rfl, _⟩ := h; rfl)
    | (obtain ⟨_, _, _, _, _, _, _, rfl, _⟩ := h; rfl)
    | (obtain ⟨_, _, _, _, _, _, _, _, rfl, _⟩ := h; rfl)
    | (obtain ⟨_, _, _, _, _, _, _, _, _, rfl, _⟩ := h; rfl)
    | (obtain ⟨_, _, _, _, _, _, _, _, _, _, rfl, _⟩ := h; rfl)
    | (obtain ⟨_, _, _, _, _, _, _, _, _, _, _, rfl, _⟩ := h; rfl)
    | (obtain ⟨_, _, _, _, _, _, _, _, _, _, _, _, rfl, _⟩ := h; rfl)
    | (obtain ⟨_, _, _, _, _, _, _, _, _, _, _, _, _, rfl, _⟩ := h; rfl)
    | (obtain ⟨_, _, _, _, _, _, _, _, _, _, _, _, _, _, rfl, _⟩ := h; rfl)
    | (obtain ⟨_, _, _, _, _, _, _, _, _, _, _, _, _, _, _, rfl, _⟩ := h; rfl)
    | (obtain ⟨_, _, _, _, _, _, _, _, _, _, _, _, _, _, _, _, rfl, _⟩ := h; rfl)
    | (obtain ⟨_, _, _, _, _, _, _, _, _, _, _, _, _, _, _, _, _, rfl, _⟩ := h; rfl)
    | (obtain ⟨_, _, _, _, _, _, _, _, _, _, _, _, _, _, _, _, _, _, rfl, _⟩ := h; rfl)
    | (obtain ⟨_, _, _, _, _, _, _, _, _, _, _, _, _, _, _, _, _, _, _, rfl, _⟩ := h; rfl)
    | (obtain ⟨_, _, _, _, _, _, _, _, _, _, _, _, _, _, _, _, _, _, _, _, rfl, _⟩ := h; rfl)
    | (obtain ⟨_, _, _, _, _, _, _, _, _, _, _, _, _, _, _, _, _, _, _, _, _, rfl, _⟩ := h; rfl)
    | (obtain ⟨_, _, _, _, _, _, _, _, _, _, _, _, _, _, _, _, _, _, _, _, _, _, rfl, _⟩ := h; rfl)
    | (obtain ⟨_, _, _, _, _, _, _, _, _, _, _, _, _, _, _, _, _, _, _, _, _, _, _, rfl, _⟩ := h; rfl)
  · unfold rd_Web_chain
    exact (pss_cons (ps_expr (pe_callS G_check (hr.mono (by decide)) (by rfl) T.d_check.mg T.d_check.fn.kp T.d_check.bi (fun σ => L2N.passAt (W := fun cls d _ H => E cls d H) (L2N.takes_of rfl rfl rfl rfl) σ) (pa_cons (pe_callS G_are_towns (hr.mono (by decide)) (by rfl) T.d_are_towns.mg T.d_are_towns.fn.kp T.d_are_towns.bi pass0S (pa_cons (pv 1) pa_nil)) (pa_cons pe_str pa_nil)))) (pss_cons (ps_set (i := 2) sc_Web_chain.nd rfl (Or.inl rfl) (pe_listZip (by rfl) T.b_list (by rfl) T.b_zip (pa_cons (pv 1) (pa_cons (pe_slice sl_FA (pv 1) (po_some pe_int) po_none) pa_nil)))) (pss_one (ps_ret (pe_makeL (i := 0) (by decide) (by decide) T.d_Web_init.made G_Web_init (hr.mono (by decide)) rfl (.inl rfl) T.d_Web_init.bi .nil (fun σ => L2N.passAt (W := fun cls d _ H => E cls d H) (L2N.takes_of rfl rfl rfl rfl) σ) (pa_cons (pv 1) (pa_cons (pv 2) pa_nil)))))))
theorem ok_Web_iter (T : Txt K mg C) : FnZ P w K mg base 2 T.d_Web_iter.f T.d_Web_iter.fd [("self" : Str)] (sp_Web_iter K C) := by
  refine okZ T.d_Web_iter.fn sc_Web_iter (fun n vs H Q E h => ?_) (fun cdv A outer s H vs Q E hr h => ⟨rd_Web_iter s.heap.objs.size K C E, ?_, pure_Web_iter _ vs H Q E h⟩)
  · first
    | (obtain ⟨_, rfl, _⟩ := h; rfl)
    | (obtain ⟨_, _, rfl, _⟩ := h; rfl)
    | (obtain ⟨_, _, _, rfl, _⟩ := h; rfl)
    | (obtain ⟨_, _, _, _, rfl, _⟩ := h; rfl)
    | (obtain ⟨_, _, _, _, _, rfl, _⟩ := h; rfl)
    | (obtain ⟨_, _, _, _, _, _, rfl, _⟩ := h; rfl)
    | (obtain ⟨_, _, _, _, _, _, _, rfl, _⟩ := h; rfl)
    | (obtain ⟨_, _, _, _, _, _, _, _, rfl, _⟩ := h; rfl)
    | (obtain ⟨_, _, _, _, _, _, _, _, _, rfl, _⟩ := h; rfl)
    | (obtain ⟨_, _, _, _, _, _, _, _, _, _, rfl, _⟩ := h; rfl)
    | (obtain ⟨_, _, _, _, _, _, _, _, _, _, _, rfl, _⟩ := h; rfl)
    | (obtain ⟨_, _, _, _, _, _, _, _, _, _, _, _, rfl, _⟩ := h; rfl)
    | (obtain ⟨_, _, _, _, _, _, _, _, _, _, _, _, _, rfl, _⟩ := h; rfl)
    | (obtain ⟨_, _, _, _, _, _, _, _, _, _, _, _, _, _, rfl, _⟩ := h; rfl)
    | (obtain ⟨_, _, _, _, _, _, _, _, _, _, _, _, _, _, _, rfl, _⟩ := h; rfl)
    | (obtain ⟨_, _, _, _, _, _, _, _, _, _, _, _, _, _, _, _, rfl, _⟩ := h; rfl)
    | (obtain ⟨_, _, _, _, _, _, _, _, _, _, _, _, _, _, _, _, _, rfl, _⟩ := h; rfl)
    | (obtain ⟨_, _, _, _, _, _, _, _, _, _, _, _, _, _, _, _, _, _, rfl, _⟩ := h; rfl)
    | (obtain ⟨_, _, _, _, _, _, _, _, _, _, _, _, _, _, _, _, _, _, _, rfl, _⟩ := h; rfl)
    | (obtain ⟨_, _, _, _, _, _, _, _, _, _, _, _, _, _, _, _, _, _, _, _, rfl, _⟩ := h; rfl)
    | (obtain ⟨_, _, _, _, _, _, _, _, _, _, _, _, _, _, _, _, _, _, _, _, _, rfl, _⟩ := h; rfl)
    | (obtain ⟨_, _, _, _, _, _, _, _, _, _, _, _, _, _, _, _, _, _, _, _, _, _, rfl, _⟩ := h; rfl)
    | (obtain ⟨_, _, _, _, _, _, _, _, _, _, _, _, _, _, _, _, _, _, _, _, _, _, _, rfl, _⟩ := h; rfl)
  · unfold rd_Web_iter
    exact (pss_one (ps_ret (pe_callB call_iterD (by rfl) T.b_iter (by decide +kernel) (pa_cons (pe_fldW T.o_Web.cl (T.o_Web.no _ (by decide +kernel)) (pv 0)) pa_nil))))
theorem ok_Web_eq (T : Txt K mg C) : FnOk P w K mg base CX0 2 T.d_Web_eq.f T.d_Web_eq.fd [("self" : Str), ("other" : Str)] (sp_Web_eq K C) := by
  refine T.d_Web_eq.fn.ok sc_Web_eq (fun vs H Q E h => ?_) (fun cdv A outer s H vs Q E hr h => ⟨rd_Web_eq K C E, ?_, pure_Web_eq vs H Q E h⟩)
  · first
    | (obtain ⟨_, rfl, _⟩ := h; rfl)
    | (obtain ⟨_, _, rfl, _⟩ := h; rfl)
    | (obtain ⟨_, _, _, rfl, _⟩ := h; rfl)
    | (obtain ⟨_, _, _, _, rfl, _⟩ := h; rfl)
    | (obtain ⟨_, _, _, _, _, rfl, _⟩ := h; rfl)
    | (obtain ⟨_, _, _, _, _, _, rfl, _⟩ := h; rfl)
    | (obtain ⟨_, _, _, _, _, _, _, rfl, _⟩ := h; rfl)
    | (obtain ⟨_, _, _, _, _, _, _, _, rfl, _⟩ := h; rfl)
    | (obtain ⟨_, _, _, _, _, _, _, _, _, rfl, _⟩ := h; rfl)
    | (obtain ⟨_, _, _, _, _, _, _, _, _, _, rfl, _⟩ := h; rfl)
    | (obtain ⟨_, _, _, _, _, _, _, _, _, _, _, rfl, _⟩ := h; rfl)
    | (obtain ⟨_, _, _, _, _, _, _, _, _, _, _, _, rfl, _⟩ := h; rfl)
    | (obtain ⟨_, _, _, _, _, _, _, _, _, _, _, _, _, rfl, _⟩ := h; rfl)
    | (obtain ⟨_, _, _, _, _, _, _, _, _, _, _, _, _, _, rfl, _⟩ := h; rfl)
    | (obtain ⟨_, _, _, _, _, _, _, _, _, _, _, _, _, _, _, rfl, _⟩ := h; rfl)
    | (obtain ⟨_, _, _, _, _, _, _, _, _, _, _, _, _, _, _, _, rfl, _⟩ := h; rfl)
    | (obtain ⟨_, _, _, _, _, _, _, _, _, _, _, _, _, _, _, _, _, rfl, _⟩ := h; rfl)
    | (obtain ⟨_, _, _, _, _, _, _, _, _, _, _, _, _, _, _, _, _, _, rfl, _⟩ := h; rfl)
    | (obtain ⟨_, _, _, _, _, _, _, _, _, _, _, _, _, _, _, _, _, _, _, rfl, _⟩ := h; rfl)
    | (obtain ⟨_, _, _, _, _, _, _, _, _, _, _, _, _, _, _, _, _, _, _, _, rfl, _⟩ := h; rfl)
    | (obtain ⟨_, _, _, _, _, _, _, _, _, _, _, _, _, _, _, _, _, _, _, _, _, rfl, _⟩ := h; rfl)
    | (obtain ⟨_, _, _, _, _, _, _, _, _, _, _, _, _, _, _, _, _, _, _, _, _, _, rfl, _⟩ := h; rfl)
    | (obtain ⟨_, _, _, _, _, _, _, _, _, _, _, _, _, _, _, _, _, _, _, _, _, _, _, rfl, _⟩ := h; rfl)
  · unfold rd_Web_eq
    exact (pss_one (ps_ret (pe_and (pe_callB (c_isC T.o_Web.isC) (by rfl) T.b_isinstance (by decide +kernel) (pa_cons (pv 1) (pa_cons (pe_glob (v := .ref C.Web) (by rfl) T.g_Web rfl) pa_nil))) (pe_one (pe_cmpR (op_eqDD (u65 hr)) (pe_fldW T.o_Web.cl (T.o_Web.no _ (by decide +kernel)) (pv 0)) (pe_fldW T.o_Web.cl (T.o_Web.no _ (by decide +kernel)) (pv 1)) (nomark _))))))
theorem ok_Web_towns (T : Txt K mg C) : FnOk P w K mg base CX0 2 T.d_Web_towns.f T.d_Web_towns.fd [("self" : Str)] (sp_Web_towns K C) := by
  refine T.d_Web_towns.fn.ok sc_Web_towns (fun vs H Q E h => ?_) (fun cdv A outer s H vs Q E hr h => ⟨rd_Web_towns K C E, ?_, pure_Web_towns vs H Q E h⟩)
  · first
    | (obtain ⟨_, rfl, _⟩ := h; rfl)
    | (obtain ⟨_, _, rfl, _⟩ := h; rfl)
    | (obtain ⟨_, _, _, rfl, _⟩ := h; rfl)
    | (obtain ⟨_, _, _, _, rfl, _⟩ := h; rfl)
    | (obtain ⟨_, _, _, _, _, rfl, _⟩ := h; rfl)
    | (obtain ⟨_, _, _, _, _, _, rfl, _⟩ := h; rfl)
    | (obtain ⟨_, _, _, _, _, _, _, rfl, _⟩ := h; rfl)
    | (obtain ⟨_, _, _, _, _, _, _, _, rfl, _⟩ := h; rfl)
    | (obtain ⟨_, _, _, _, _, _, _, _, _, rfl, _⟩ := h; rfl)
    | (obtain ⟨_, _, _, _, _, _, _, _, _, _, rfl, _⟩ := h; rfl)
    | (obtain ⟨_, _, _, _, _, _, _, _, _, _, _, rfl, _⟩ := h; rfl)
    | (obtain ⟨_, _, _, _, _, _, _, _, _, _, _, _, rfl, _⟩ := h; rfl)
    | (obtain ⟨_, _, _, _, _, _, _, _, _, _, _, _, _, rfl, _⟩ := h; rfl)
    | (obtain ⟨_, _, _, _, _, _, _, _, _, _, _, _, _, _, rfl, _⟩ := h; rfl)
    | (obtain ⟨_, _, _, _, _, _, _, _, _, _, _, _, _, _, _, rfl, _⟩ := h; rfl)
    | (obtain ⟨_, _, _, _, _, _, _, _, _, _, _, _, _, _, _, _, rfl, _⟩ := h; rfl)
    | (obtain ⟨_, _, _, _, _, _, _, _, _, _, _, _, _, _, _, _, _, rfl, _⟩ := h; rfl)
    | (obtain ⟨_, _, _, _, _, _, _, _, _, _, _, _, _, _, _, _, _, _, rfl, _⟩ := h; rfl)
    | (obtain ⟨_, _, _, _, _, _, _, _, _, _, _, _, _, _, _, _, _, _, _, rfl, _⟩ := h; rfl)
    | (obtain ⟨_, _, _, _, _, _, _, _, _, _, _, _, _, _, _, _, _, _, _, _, rfl, _⟩ := h; rfl)
    | (obtain ⟨_, _, _, _, _, _, _, _, _, _, _, _, _, _, _, _, _, _, _, _, _, rfl, _⟩ := h; rfl)
    | (obtain ⟨_, _, _, _, _, _, _, _, _, _, _, _, _, _, _, _, _, _, _, _, _, _, rfl, _⟩ := h; rfl)
    | (obtain ⟨_, _, _, _, _, _, _, _, _, _, _, _, _, _, _, _, _, _, _, _, _, _, _, rfl, _⟩ := h; rfl)
  · unfold rd_Web_towns
    exact (pss_one (ps_ret (pe_callTy (call_tuple_dK rfl) (by rfl) T.b_tuple (by decide +kernel) (pa_cons (pe_fldW T.o_Web.cl (T.o_Web.no _ (by decide +kernel)) (pv 0)) pa_nil))))
theorem ok_Web_ways (T : Txt K mg C) : FnOk P w K mg base CX0 2 T.d_Web_ways.f T.d_Web_ways.fd [("self" : Str)] (sp_Web_ways K C) := by
  refine T.d_Web_ways.fn.ok sc_Web_ways (fun vs H Q E h => ?_) (fun cdv A outer s H vs Q E hr h => ⟨rd_Web_ways K C E, ?_, pure_Web_ways vs H Q E h⟩)
  · first
    | (obtain ⟨_, rfl, _⟩ := h; rfl)
    | (obtain ⟨_, _, rfl, _⟩ := h; rfl)
    | (obtain ⟨_, _, _, rfl, _⟩ := h; rfl)
    | (obtain ⟨_, _, _, _, rfl, _⟩ := h; rfl)
    | (obtain ⟨_, _, _, _, _, rfl, _⟩ := h; rfl)
    | (obtain ⟨_, _, _, _, _, _, rfl, _⟩ := h; rfl)
    | (obtain ⟨_, _, _, _, _, _, _, rfl, _⟩ := h; rfl)
    | (obtain ⟨_, _, _, _, _, _, _, _, rfl, _⟩ := h; rfl)
    | (obtain ⟨_, _, _, _, _, _, _, _, _, rfl, _⟩ := h; rfl)
    | (obtain ⟨_, _, _, _, _, _, _, _, _, _, rfl, _⟩ := h; rfl)
    | (obtain ⟨_, _, _, _, _, _, _, _, _, _, _, rfl, _⟩ := h; rfl)
    | (obtain ⟨_, _, _, _, _, _, _, _, _, _, _, _, rfl, _⟩ := h; rfl)
    | (obtain ⟨_, _, _, _, _, _, _, _, _, _, _, _, _, rfl, _⟩ := h; rfl)
    | (obtain ⟨_, _, _, _, _, _, _, _, _, _, _, _, _, _, rfl, _⟩ := h; rfl)
    | (obtain ⟨_, _, _, _, _, _, _, _, _, _, _, _, _, _, _, rfl, _⟩ := h; rfl)
    | (obtain ⟨_, _, _, _, _, _, _, _, _, _, _, _, _, _, _, _, rfl, _⟩ := h; rfl)
    | (obtain ⟨_, _, _, _, _, _, _, _, _, _, _, _, _, _, _, _, _, rfl, _⟩ := h; rfl)
    | (obtain ⟨_, _, _, _, _, _, _, _, _, _, _, _, _, _, _, _, _, _, rfl, _⟩ := h; rfl)
    | (obtain ⟨_, _, _, _, _, _, _, _, _, _, _, _, _, _, _, _, _, _, _, rfl, _⟩ := h; rfl)
    | (obtain ⟨_, _, _, _, _, _, _, _, _, _, _, _, _, _, _, _, _, _, _, _, rfl, _⟩ := h; rfl)
    | (obtain ⟨_, _, _, _, _, _, _, _, _, _, _, _, _, _, _, _, _, _, _, _, _, rfl, _⟩ := h; rfl)
    | (obtain ⟨_, _, _, _, _, _, _, _, _, _, _, _, _, _, _, _, _, _, _, _, _, _, rfl, _⟩ := h; rfl)
    | (obtain ⟨_, _, _, _, _, _, _, _, _, _, _, _, _, _, _, _, _, _, _, _, _, _, _, rfl, _⟩ := h; rfl)
  · unfold rd_Web_ways
    exact (pss_one (ps_ret (pe_fldW T.o_Web.cl (T.o_Web.no _ (by decide +kernel)) (pv 0))))
theorem ok_Web_joins (T : Txt K mg C) : FnOk P w K mg base (L2N.CX P w) 5 T.d_Web_joins.f T.d_Web_joins.fd [("self" : Str), ("here" : Str), ("there" : Str)] (sp_Web_joins K C) := by
  have G_check := ok_check (P := P) (w := w) (mg := mg) (base := base) T
  have G_check_town := ok_check_town (P := P) (w := w) (mg := mg) (base := base) T
  have G_is_name := ok_is_name (P := P) (w := w) (mg := mg) (base := base) T
  refine okN T.d_Web_joins.fn sc_Web_joins (fun vs H Q E h => ?_) (fun cdv A outer s H vs Q E hr h => ⟨rd_Web_joins K C E, ?_, pure_Web_joins vs H Q E h⟩)
  · first
    | (obtain ⟨_, rfl, _⟩ := h; rfl)
    | (obtain ⟨_, _, rfl, _⟩ := h; rfl)
    | (obtain ⟨_, _, _, rfl, _⟩ := h; rfl)
    | (obtain ⟨_, _, _, _, rfl, _⟩ := h; rfl)
    | (obtain ⟨_, _, _, _, _, rfl, _⟩ := h; rfl)
    | (obtain ⟨_, _, _, _, _, _, rfl, _⟩ := h; rfl)
    | (obtain ⟨_, _, _, _, _, _, _, rfl, _⟩ := h; rfl)
    | (obtain ⟨_, _, _, _, _, _, _, _, rfl, _⟩ := h; rfl)
    | (obtain ⟨_, _, _, _, _, _, _, _, _, rfl, _⟩ := h; rfl)
    | (obtain ⟨_, _, _, _, _, _, _, _, _, _, rfl, _⟩ := h; rfl)
    | (obtain ⟨_, _, _, _, _, _, _, _, _, _, _, rfl, _⟩ := h; rfl)
    | (obtain ⟨_, _, _, _, _, _, _, _, _, _, _, _, rfl, _⟩ := h; rfl)
    | (obtain ⟨_, _, _, _, _, _, _, _, _, _, _, _, _, rfl, _⟩ := h; rfl)
    | (obtain ⟨_, _, _, _, _, _, _, _, _, _, _, _, _, _, rfl, _⟩ := h; rfl)
    | (obtain ⟨_, _, _, _, _, _, _, _, _, _, _, _, _, _, _, rfl, _⟩ := h; rfl)
    | (obtain ⟨_, _, _, _, _, _, _, _, _, _, _, _, _, _, _, _, rfl, _⟩ := h; rfl)
    | (obtain ⟨_, _, _, _, _, _, _, _, _, _, _, _, _, _, _, _, _, rfl, _⟩ := h; rfl)
    | (obtain ⟨_, _, _, _, _, _, _, _, _, _, _, _, _, _, _, _, _, _, rfl, _⟩ := h; rfl)
    | (obtain ⟨_, _, _, _, _, _, _, _, _, _, _, _, _, _, _, _, _, _, _, rfl, _⟩ := h; rfl)
    | (obtain ⟨_, _, _, _, _, _, _, _, _, _, _, _, _, _, _, _, _, _, _, _, rfl, _⟩ := h; rfl)
    | (obtain ⟨_, _, _, _, _, _, _, _, _, _, _, _, _, _, _, _, _, _, _, _, _, rfl, _⟩ := h; rfl)
    | (obtain ⟨_, _, _, _, _, _, _, _, _, _, _, _, _, _, _, _, _, _, _, _, _, _, rfl, _⟩ := h; rfl)
    | (obtain ⟨_, _, _, _, _, _, _, _, _, _, _, _, _, _, _, _, _, _, _, _, _, _, _, rfl, _⟩ := h; rfl)
  · unfold rd_Web_joins
    exact (pss_cons (ps_expr (pe_callS G_check (hr.mono (by decide)) (by rfl) T.d_check.mg T.d_check.fn.kp T.d_check.bi (fun σ => L2N.passAt (W := fun cls d _ H => E cls d H) (L2N.takes_of rfl rfl rfl rfl) σ) (pa_cons (pe_callS G_is_name (hr.mono (by decide)) (by rfl) T.d_is_name.mg T.d_is_name.fn.kp T.d_is_name.bi pass0S (pa_cons (pv 1) pa_nil)) (pa_cons pe_str pa_nil)))) (pss_cons (ps_expr (pe_callS G_check (hr.mono (by decide)) (by rfl) T.d_check.mg T.d_check.fn.kp T.d_check.bi (fun σ => L2N.passAt (W := fun cls d _ H => E cls d H) (L2N.takes_of rfl rfl rfl rfl) σ) (pa_cons (pe_callS G_is_name (hr.mono (by decide)) (by rfl) T.d_is_name.mg T.d_is_name.fn.kp T.d_is_name.bi pass0S (pa_cons (pv 2) pa_nil)) (pa_cons pe_str pa_nil)))) (pss_cons (ps_expr (pe_callS G_check_town (hr.mono (by decide)) (by rfl) T.d_check_town.mg T.d_check_town.fn.kp T.d_check_town.bi (fun σ => L2N.passAt (W := fun cls d _ H => E cls d H) (L2N.takes_of rfl rfl rfl rfl) σ) (pa_cons (pv 0) (pa_cons (pv 1) pa_nil)))) (pss_cons (ps_expr (pe_callS G_check_town (hr.mono (by decide)) (by rfl) T.d_check_town.mg T.d_check_town.fn.kp T.d_check_town.bi (fun σ => L2N.passAt (W := fun cls d _ H => E cls d H) (L2N.takes_of rfl rfl rfl rfl) σ) (pa_cons (pv 0) (pa_cons (pv 2) pa_nil)))) (pss_one (ps_ret (pe_cmpR op_inF (pv 2) (pe_dget (lt_one hr.units) (pe_fldW T.o_Web.cl (T.o_Web.no _ (by decide +kernel)) (pv 0)) (pv 1) (fun _ _ => rfl)) (by rfl))))))))
theorem ok_Web_near (T : Txt K mg C) : FnOk P w K mg base (L2N.CX P w) 5 T.d_Web_near.f T.d_Web_near.fd [("self" : Str), ("town" : Str)] (sp_Web_near K C) := by
  have G_check := ok_check (P := P) (w := w) (mg := mg) (base := base) T
  have G_check_town := ok_check_town (P := P) (w := w) (mg := mg) (base := base) T
  have G_is_name := ok_is_name (P := P) (w := w) (mg := mg) (base := base) T
  refine okN T.d_Web_near.fn sc_Web_near (fun vs H Q E h => ?_) (fun cdv A outer s H vs Q E hr h => ⟨rd_Web_near K C E, ?_, pure_Web_near vs H Q E h⟩)
  · first
    | (obtain ⟨_, rfl, _⟩ := h; rfl)
    | (obtain ⟨_, _, rfl, _⟩ := h; rfl)
    | (obtain ⟨_, _, _, rfl, _⟩ := h; rfl)
    | (obtain ⟨_, _, _, _, rfl, _⟩ := h; rfl)
    | (obtain ⟨_, _, _, _, _, rfl, _⟩ := h; rfl)
    | (obtain ⟨_, _, _, _, _, _, rfl, _⟩ := h; rfl)
    | (obtain ⟨_, _, _, _, _, _, _, rfl, _⟩ := h; rfl)
    | (obtain ⟨_, _, _, _, _, _, _, _, rfl, _⟩ := h; rfl)
    | (obtain ⟨_, _, _, _, _, _, _, _, _, rfl, _⟩ := h; rfl)
    | (obtain ⟨_, _, _, _, _, _, _, _, _, _, rfl, _⟩ := h; rfl)
    | (obtain ⟨_, _, _, _, _, _, _, _, _, _, _, rfl, _⟩ := h; rfl)
    | (obtain ⟨_, _, _, _, _, _, _, _, _, _, _, _, rfl, _⟩ := h; rfl)
    | (obtain ⟨_, _, _, _, _, _, _, _, _, _, _, _, _, rfl, _⟩ := h; rfl)
    | (obtain ⟨_, _, _, _, _, _, _, _, _, _, _, _, _, _, rfl, _⟩ := h; rfl)
    | (obtain ⟨_, _, _, _, _, _, _, _, _, _, _, _, _, _, _, rfl, _⟩ := h; rfl)
    | (obtain ⟨_, _, _, _, _, _, _, _, _, _, _, _, _, _, _, _, rfl, _⟩ := h; rfl)
    | (obtain ⟨_, _, _, _, _, _, _, _, _, _, _, _, _, _, _, _, _, rfl, _⟩ := h; rfl)
    | (obtain ⟨_, _, _, _, _, _, _, _, _, _, _, _, _, _, _, _, _, _, rfl, _⟩ := h; rfl)
    | (obtain ⟨_, _, _, _, _, _, _, _, _, _, _, _, _, _, _, _, _, _, _, rfl, _⟩ := h; rfl)
    | (obtain ⟨_, _, _, _, _, _, _, _, _, _, _, _, _, _, _, _, _, _, _, _, rfl, _⟩ := h; rfl)
    | (obtain ⟨_, _, _, _, _, _, _, _, _, _, _, _, _, _, _, _, _, _, _, _, _, rfl, _⟩ := h; rfl)
    | (obtain ⟨_, _, _, _, _, _, _, _, _, _, _, _, _, _, _, _, _, _, _, _, _, _, rfl, _⟩ := h; rfl)
    | (obtain ⟨_, _, _, _, _, _, _, _, _, _, _, _, _, _, _, _, _, _, _, _, _, _, _, rfl, _⟩ := h; rfl)
  · unfold rd_Web_near
    exact (pss_cons (ps_expr (pe_callS G_check (hr.mono (by decide)) (by rfl) T.d_check.mg T.d_check.fn.kp T.d_check.bi (fun σ => L2N.passAt (W := fun cls d _ H => E cls d H) (L2N.takes_of rfl rfl rfl rfl) σ) (pa_cons (pe_callS G_is_name (hr.mono (by decide)) (by rfl) T.d_is_name.mg T.d_is_name.fn.kp T.d_is_name.bi pass0S (pa_cons (pv 1) pa_nil)) (pa_cons pe_str pa_nil)))) (pss_cons (ps_expr (pe_callS G_check_town (hr.mono (by decide)) (by rfl) T.d_check_town.mg T.d_check_town.fn.kp T.d_check_town.bi (fun σ => L2N.passAt (W := fun cls d _ H => E cls d H) (L2N.takes_of rfl rfl rfl rfl) σ) (pa_cons (pv 0) (pa_cons (pv 1) pa_nil)))) (pss_one (ps_ret (pe_dget (lt_one hr.units) (pe_fldW T.o_Web.cl (T.o_Web.no _ (by decide +kernel)) (pv 0)) (pv 1) (fun _ _ => rfl))))))
theorem ok_l_mixed (T : Txt K mg C) : FnOk P w K mg base CX0 2 T.d_l_mixed.f T.d_l_mixed.fd [("cell" : Str), ("k" : Str)] (sp_l_mixed K C) := by
  refine T.d_l_mixed.fn.ok sc_l_mixed (fun vs H Q E h => ?_) (fun cdv A outer s H vs Q E hr h => ⟨rd_l_mixed K C E, ?_, pure_l_mixed vs H Q E h⟩)
  · first
    | (obtain ⟨_, rfl, _⟩ := h; rfl)
    | (obtain ⟨_, _, rfl, _⟩ := h; rfl)
    | (obtain ⟨_, _, _, rfl, _⟩ := h; rfl)
    | (obtain ⟨_, _, _, _, rfl, _⟩ := h; rfl)
    | (obtain ⟨_, _, _, _, _, rfl, _⟩ := h; rfl)
    | (obtain ⟨_, _, _, _, _, _, rfl, _⟩ := h; rfl)
    | (obtain ⟨_, _, _, _, _, _, _, rfl, _⟩ := h; rfl)
    | (obtain ⟨_, _, _, _, _, _, _, _, rfl, _⟩ := h; rfl)
    | (obtain ⟨_, _, _, _, _, _, _, _, _, rfl, _⟩ := h; rfl)
    | (obtain ⟨_, _, _, _, _, _, _, _, _, _, rfl, _⟩ := h; rfl)
    | (obtain ⟨_, _, _, _, _, _, _, _, _, _, _, rfl, _⟩ := h; rfl)
    | (obtain ⟨_, _, _, _, _, _, _, _, _, _, _, _, rfl, _⟩ := h; rfl)
    | (obtain ⟨_, _, _, _, _, _, _, _, _, _, _, _, _, rfl, _⟩ := h; rfl)
    | (obtain ⟨_, _, _, _, _, _, _, _, _, _, _, _, _, _, rfl, _⟩ := h; rfl)
    | (obtain ⟨_, _, _, _, _, _, _, _, _, _, _, _, _, _, _, rfl, _⟩ := h; rfl)
    | (obtain ⟨_, _, _, _, _, _, _, _, _, _, _, _, _, _, _, _, rfl, _⟩ := h; rfl)
    | (obtain ⟨_, _, _, _, _, _, _, _, _, _, _, _, _, _, _, _, _, rfl, _⟩ := h; rfl)
    | (obtain ⟨_, _, _, _, _, _, _, _, _, _, _, _, _, _, _, _, _, _, rfl, _⟩ := h; rfl)
    | (obtain ⟨_, _, _, _, _, _, _, _, _, _, _, _, _, _, _, _, _, _, _, rfl, _⟩ := h; rfl)
    | (obtain ⟨_, _, _, _, _, _, _, _, _, _, _, _, _, _, _, _, _, _, _, _, rfl, _⟩ := h; rfl)
    | (obtain ⟨_, _, _, _, _, _, _, _, _, _, _, _, _, _, _, _, _, _, _, _, _, rfl, _⟩ := h; rfl)
    | (obtain ⟨_, _, _, _, _, _, _, _, _, _, _, _, _, _, _, _, _, _, _, _, _, _, rfl, _⟩ := h; rfl)
    | (obtain ⟨_, _, _, _, _, _, _, _, _, _, _, _, _, _, _, _, _, _, _, _, _, _, _, rfl, _⟩ := h; rfl)
  · unfold rd_l_mixed
    exact (pss_cons (ps_set (i := 2) sc_l_mixed.nd rfl (Or.inl rfl) (pe_op op_modF (pe_callTy c_int (by rfl) T.b_int (by decide +kernel) (pa_cons (pe_op op_addF (pe_op op_addF (pe_op op_mulF (pe_callTy c_int (by rfl) T.b_int (by decide +kernel) (pa_cons (pv 0) pa_nil)) pe_int) (pe_op op_mulF (pv 1) pe_int)) pe_int) pa_nil)) pe_int)) (pss_cons (ps_set (i := 3) sc_l_mixed.nd rfl (Or.inl rfl) (pe_op op_modF (pe_callTy c_int (by rfl) T.b_int (by decide +kernel) (pa_cons (pe_op op_addF (pe_op op_addF (pe_op op_mulF (pv 2) (pv 2)) (pe_op op_mulF (pv 1) pe_int)) pe_int) pa_nil)) pe_int)) (pss_one (ps_ret (pe_op op_modF (pe_callTy c_int (by rfl) T.b_int (by decide +kernel) (pa_cons (pe_op op_addF (pe_op op_mulF (pv 3) (pv 3)) (pv 2)) pa_nil)) pe_int)))))
theorem ok_l_store (T : Txt K mg C) : FnOk P w K mg base CX0 3 T.d_l_store.f T.d_l_store.fd [("script" : Str)] (sp_l_store K C) := by
  have G_l_mixed := ok_l_mixed (P := P) (w := w) (mg := mg) (base := base) T
  refine T.d_l_store.fn.ok sc_l_store (fun vs H Q E h => ?_) (fun cdv A outer s H vs Q E hr h => ⟨rd_l_store K C E, ?_, pure_l_store vs H Q E h⟩)
  · first
    | (obtain ⟨_, rfl, _⟩ := h; rfl)
    | (obtain ⟨_, _, rfl, _⟩ := h; rfl)
    | (obtain ⟨_, _, _, rfl, _⟩ := h; rfl)
    | (obtain ⟨_, _, _, _, rfl, _⟩ := h; rfl)
    | (obtain ⟨_, _, _, _, _, rfl, _⟩ := h; rfl)
    | (obtain ⟨_, _, _, _, _, _, rfl, _⟩ := h; rfl)
    | (obtain ⟨_, _, _, _, _, _, _, rfl, _⟩ := h; rfl)
    | (obtain ⟨_, _, _, _, _, _, _, _, rfl, _⟩ := h; rfl)
    | (obtain ⟨_, _, _, _, _, _, _, _, _, rfl, _⟩ := h; rfl)
    | (obtain ⟨_, _, _, _, _, _, _, _, _, _, rfl, _⟩ := h; rfl)
    | (obtain ⟨_, _, _, _, _, _, _, _, _, _, _, rfl, _⟩ := h; rfl)
    | (obtain ⟨_, _, _, _, _, _, _, _, _, _, _, _, rfl, _⟩ := h; rfl)
    | (obtain ⟨_, _, _, _, _, _, _, _, _, _, _, _, _, rfl, _⟩ := h; rfl)
    | (obtain ⟨_, _, _, _, _, _, _, _, _, _, _, _, _, _, rfl, _⟩ := h; rfl)
    | (obtain ⟨_, _, _, _, _, _, _, _, _, _, _, _, _, _, _, rfl, _⟩ := h; rfl)
    | (obtain ⟨_, _, _, _, _, _, _, _, _, _, _, _, _, _, _, _, rfl, _⟩ := h; rfl)
    | (obtain ⟨_, _, _, _, _, _, _, _, _, _, _, _, _, _, _, _, _, rfl, _⟩ := h; rfl)
    | (obtain ⟨_, _, _, _, _, _, _, _, _, _, _, _, _, _, _, _, _, _, rfl, _⟩ := h; rfl)
    | (obtain ⟨_, _, _, _, _, _, _, _, _, _, _, _, _, _, _, _, _, _, _, rfl, _⟩ := h; rfl)
    | (obtain ⟨_, _, _, _, _, _, _, _, _, _, _, _, _, _, _, _, _, _, _, _, rfl, _⟩ := h; rfl)
    | (obtain ⟨_, _, _, _, _, _, _, _, _, _, _, _, _, _, _, _, _, _, _, _, _, rfl, _⟩ := h; rfl)
    | (obtain ⟨_, _, _, _, _, _, _, _, _, _, _, _, _, _, _, _, _, _, _, _, _, _, rfl, _⟩ := h; rfl)
    | (obtain ⟨_, _, _, _, _, _, _, _, _, _, _, _, _, _, _, _, _, _, _, _, _, _, _, rfl, _⟩ := h; rfl)
  · unfold rd_l_store
    exact (pss_cons (ps_setLc (i := 2) (own := [(("cell" : Str), 1)]) (g := (gName 1)) rfl sc_l_store.nd rfl rfl (sw_true rfl rfl rfl (by decide +kernel)) (pi_list (pv 0)) (blkOk_by (own := [(("cell" : Str), 1)]) (N := sN_l_store) (sc := defScope s_l_store) (by decide +kernel)) (fun _ _ _ _ _ => (pg_name (i := 1) sc_l_store.nd rfl (by first | exact .inl rfl | exact .inr rfl))) (fun _ _ _ _ _ => pts_nil) (fun _ _ _ _ _ => (pe_callTy c_int (by rfl) T.b_int (by decide +kernel) (pa_cons (pv 1) pa_nil)))) (pss_cons (ps_set (i := 3) sc_l_store.nd rfl (Or.inl rfl) pe_int) (pss_cons (ps_for PassesOwn.never rfl (pi_list (pv 2)) (pg_name (i := 1) sc_l_store.nd rfl (by first | exact .inl rfl | exact .inr rfl)) (pss_one (ps_set (i := 3) sc_l_store.nd rfl (Or.inl rfl) (pe_callS G_l_mixed (hr.mono (by decide)) (by rfl) T.d_l_mixed.mg T.d_l_mixed.fn.kp T.d_l_mixed.bi pass0S (pa_cons (pe_op op_addF (pe_callTy c_int (by rfl) T.b_int (by decide +kernel) (pa_cons (pv 1) pa_nil)) (pv 3)) (pa_cons (pe_callB c_len (by rfl) T.b_len (by decide +kernel) (pa_cons (pv 2) pa_nil)) pa_nil)))))) (pss_one (ps_ret (pe_lst (pa_cons (pv 2) (pa_cons pe_int (pa_cons pe_int (pa_cons pe_int (pa_cons (pv 3) pa_nil)))))))))))
theorem ok_l_take (T : Txt K mg C) : FnOk P w K mg base CX0 3 T.d_l_take.f T.d_l_take.fd [("store" : Str), ("many" : Str)] (sp_l_take K C) := by
  have G_l_mixed := ok_l_mixed (P := P) (w := w) (mg := mg) (base := base) T
  refine T.d_l_take.fn.ok sc_l_take (fun vs H Q E h => ?_) (fun cdv A outer s H vs Q E hr h => ⟨rd_l_take K C E, ?_, pure_l_take vs H Q E h⟩)
  · first
    | (obtain ⟨_, rfl, _⟩ := h; rfl)
    | (obtain ⟨_, _, rfl, _⟩ := h; rfl)
    | (obtain ⟨_, _, _, rfl, _⟩ := h; rfl)
    | (obtain ⟨_, _, _, _, rfl, _⟩ := h; rfl)
    | (obtain ⟨_, _, _, _, _, rfl, _⟩ := h; rfl)
    | (obtain ⟨_, _, _, _, _, _, rfl, _⟩ := h; rfl)
    | (obtain ⟨_, _, _, _, _, _, _, rfl, _⟩ := h; rfl)
    | (obtain ⟨_, _, _, _, _, _, _, _, rfl, _⟩ := h; rfl)
    | (obtain ⟨_, _, _, _, _, _, _, _, _, rfl, _⟩ := h; rfl)
    | (obtain ⟨_, _, _, _, _, _, _, _, _, _, rfl, _⟩ := h; rfl)
    | (obtain ⟨_, _, _, _, _, _, _, _, _, _, _, rfl, _⟩ := h; rfl)
    | (obtain ⟨_, _, _, _, _, _, _, _, _, _, _, _, rfl, _⟩ := h; rfl)
    | (obtain ⟨_, _, _, _, _, _, _, _, _, _, _, _, _, rfl, _⟩ := h; rfl)
    | (obtain ⟨_, _, _, _, _, _, _, _, _, _, _, _, _, _, rfl, _⟩ := h; rfl)
    | (obtain ⟨_, _, _, _, _, _, _, _, _, _, _, _, _, _, _, rfl, _⟩ := h; rfl)
    | (obtain ⟨_, _, _, _, _, _, _, _, _, _, _, _, _, _, _, _, rfl, _⟩ := h; rfl)
    | (obtain ⟨_, _, _, _, _, _, _, _, _, _, _, _, _, _, _, _, _, rfl, _⟩ := h; rfl)
    | (obtain ⟨_, _, _, _, _, _, _, _, _, _, _, _, _, _, _, _, _, _, rfl, _⟩ := h; rfl)
    | (obtain ⟨_, _, _, _, _, _, _, _, _, _, _, _, _, _, _, _, _, _, _, rfl, _⟩ := h; rfl)
    | (obtain ⟨_, _, _, _, _, _, _, _, _, _, _, _, _, _, _, _, _, _, _, _, rfl, _⟩ := h; rfl)
    | (obtain ⟨_, _, _, _, _, _, _, _, _, _, _, _, _, _, _, _, _, _, _, _, _, rfl, _⟩ := h; rfl)
    | (obtain ⟨_, _, _, _, _, _, _, _, _, _, _, _, _, _, _, _, _, _, _, _, _, _, rfl, _⟩ := h; rfl)
    | (obtain ⟨_, _, _, _, _, _, _, _, _, _, _, _, _, _, _, _, _, _, _, _, _, _, _, rfl, _⟩ := h; rfl)
  · unfold rd_l_take
    exact (pss_cons (ps_set (i := 2) sc_l_take.nd rfl (Or.inl rfl) (pe_callB (c_max rfl) (by rfl) T.b_max (by decide +kernel) (pa_cons pe_int (pa_cons (pv 1) pa_nil)))) (pss_cons (ps_asg (pe_op op_addF (pe_ix ix_F (pv 0) pe_int (fun _ _ => rfl)) pe_int) (pg_sub (pv 0) pe_int set_F)) (Evl.pss_cut (ps_if (PW.pt (pw_and (pt_cmpR (op_eqF hr.units) (pe_ix ix_F (pv 0) pe_int (fun _ _ => rfl)) pe_int (nomark _)) (pw_and1 (pt_cmpR op_ltF (pe_ix ix_F (pv 0) pe_int (fun _ _ => rfl)) (pe_callB c_len (by rfl) T.b_len (by decide +kernel) (pa_cons (pe_ix ix_F (pv 0) pe_int (fun _ _ => rfl)) pa_nil)) (nomark _))))) (pss_cons (ps_set (i := 3) sc_l_take.nd rfl (Or.inl rfl) (pe_callTy c_int (by rfl) T.b_int (by decide +kernel) (pa_cons (pe_ix ix_F (pe_ix ix_F (pv 0) pe_int (fun _ _ => rfl)) (pe_ix ix_F (pv 0) pe_int (fun _ _ => rfl)) (fun _ _ => rfl)) pa_nil))) (pss_cons (ps_asg (pe_op op_addF (pe_ix ix_F (pv 0) pe_int (fun _ _ => rfl)) pe_int) (pg_sub (pv 0) pe_int set_F)) (pss_cons (ps_if (pt_cmpR op_ltF (pv 3) (pe_op op_powF pe_int pe_int) (nomark _)) (pss_one (ps_ret (pe_op op_modF (pe_callTy c_int (by rfl) T.b_int (by decide +kernel) (pa_cons (pe_callS G_l_mixed (hr.mono (by decide)) (by rfl) T.d_l_mixed.mg T.d_l_mixed.fn.kp T.d_l_mixed.bi pass0S (pa_cons (pv 3) (pa_cons (pe_ix ix_F (pv 0) pe_int (fun _ _ => rfl)) pa_nil))) pa_nil)) (pv 2)))) pss_nil) (pss_one (ps_asg (pv 3) (pg_sub (pv 0) pe_int set_F)))))) pss_nil) (pss_cons (ps_if (pt_cmpR (op_eqF hr.units) (pe_ix ix_F (pv 0) pe_int (fun _ _ => rfl)) pe_int (nomark _)) (pss_one (ps_ret (pe_op op_modF (pe_callTy c_int (by rfl) T.b_int (by decide +kernel) (pa_cons (pe_callS G_l_mixed (hr.mono (by decide)) (by rfl) T.d_l_mixed.mg T.d_l_mixed.fn.kp T.d_l_mixed.bi pass0S (pa_cons (pe_ix ix_F (pv 0) pe_int (fun _ _ => rfl)) (pa_cons (pe_ix ix_F (pv 0) pe_int (fun _ _ => rfl)) pa_nil))) pa_nil)) (pv 2)))) pss_nil) (pss_cons (ps_set (i := 4) sc_l_take.nd rfl (Or.inl rfl) (pe_op op_modF (pe_callTy c_int (by rfl) T.b_int (by decide +kernel) (pa_cons (pe_ix ix_F (pv 0) pe_int (fun _ _ => rfl)) pa_nil)) (pv 2))) (pss_cons (ps_asg (pe_op op_divF (pe_callTy c_int (by rfl) T.b_int (by decide +kernel) (pa_cons (pe_ix ix_F (pv 0) pe_int (fun _ _ => rfl)) pa_nil)) (pv 2)) (pg_sub (pv 0) pe_int set_F)) (pss_one (ps_ret (pv 4)))))))))
theorem ok_l_pick (T : Txt K mg C) : FnOk P w K mg base CX0 4 T.d_l_pick.f T.d_l_pick.fd [("store" : Str), ("row" : Str)] (sp_l_pick K C) := by
  have G_l_take := ok_l_take (P := P) (w := w) (mg := mg) (base := base) T
  refine T.d_l_pick.fn.ok sc_l_pick (fun vs H Q E h => ?_) (fun cdv A outer s H vs Q E hr h => ⟨rd_l_pick K C E, ?_, pure_l_pick vs H Q E h⟩)
  · first
    | (obtain ⟨_, rfl, _⟩ := h; rfl)
    | (obtain ⟨_, _, rfl, _⟩ := h; rfl)
    | (obtain ⟨_, _, _, rfl, _⟩ := h; rfl)
    | (obtain ⟨_, _, _, _, rfl, _⟩ := h; rfl)
    | (obtain ⟨_, _, _, _, _, rfl, _⟩ := h; rfl)
    | (obtain ⟨_, _, _, _, _, _, rfl, _⟩ := h; rfl)
    | (obtain ⟨_, _, _, _, _, _, _, rfl, _⟩ := h; rfl)
    | (obtain ⟨_, _, _, _, _, _, _, _, rfl, _⟩ := h; rfl)
    | (obtain ⟨_, _, _, _, _, _, _, _, _, rfl, _⟩ := h; rfl)
    | (obtain ⟨_, _, _, _, _, _, _, _, _, _, rfl, _⟩ := h; rfl)
    | (obtain ⟨_, _, _, _, _, _, _, _, _, _, _, rfl, _⟩ := h; rfl)
    | (obtain ⟨_, _, _, _, _, _, _, _, _, _, _, _, rfl, _⟩ := h; rfl)
    | (obtain ⟨_, _, _, _, _, _, _, _, _, _, _, _, _, rfl, _⟩ := h; rfl)
    | (obtain ⟨_, _, _, _, _, _, _, _, _, _, _, _, _, _, rfl, _⟩ := h; rfl)
    | (obtain ⟨_, _, _, _, _, _, _, _, _, _, _, _, _, _, _, rfl, _⟩ := h; rfl)
    | (obtain ⟨_, _, _, _, _, _, _, _, _, _, _, _, _, _, _, _, rfl, _⟩ := h; rfl)
    | (obtain ⟨_, _, _, _, _, _, _, _, _, _, _, _, _, _, _, _, _, rfl, _⟩ := h; rfl)
    | (obtain ⟨_, _, _, _, _, _, _, _, _, _, _, _, _, _, _, _, _, _, rfl, _⟩ := h; rfl)
    | (obtain ⟨_, _, _, _, _, _, _, _, _, _, _, _, _, _, _, _, _, _, _, rfl, _⟩ := h; rfl)
    | (obtain ⟨_, _, _, _, _, _, _, _, _, _, _, _, _, _, _, _, _, _, _, _, rfl, _⟩ := h; rfl)
    | (obtain ⟨_, _, _, _, _, _, _, _, _, _, _, _, _, _, _, _, _, _, _, _, _, rfl, _⟩ := h; rfl)
    | (obtain ⟨_, _, _, _, _, _, _, _, _, _, _, _, _, _, _, _, _, _, _, _, _, _, rfl, _⟩ := h; rfl)
    | (obtain ⟨_, _, _, _, _, _, _, _, _, _, _, _, _, _, _, _, _, _, _, _, _, _, _, rfl, _⟩ := h; rfl)
  · unfold rd_l_pick
    exact (pss_cons (ps_if (pt_cmpR (op_eqF hr.units) (pe_callB c_len (by rfl) T.b_len (by decide +kernel) (pa_cons (pv 1) pa_nil)) pe_int (nomark _)) (pss_one (ps_ret pe_non)) pss_nil) (pss_one (ps_ret (pe_ix ix_F (pv 1) (pe_callS G_l_take (hr.mono (by decide)) (by rfl) T.d_l_take.mg T.d_l_take.fn.kp T.d_l_take.bi pass0S (pa_cons (pv 0) (pa_cons (pe_callB c_len (by rfl) T.b_len (by decide +kernel) (pa_cons (pv 1) pa_nil)) pa_nil))) (fun _ _ => rfl)))))
theorem ok_l_some (T : Txt K mg C) : FnOk P w K mg base CX0 4 T.d_l_some.f T.d_l_some.fd [("store" : Str), ("row" : Str), ("many" : Str)] (sp_l_some K C) := by
  have G_l_take := ok_l_take (P := P) (w := w) (mg := mg) (base := base) T
  refine T.d_l_some.fn.ok sc_l_some (fun vs H Q E h => ?_) (fun cdv A outer s H vs Q E hr h => ⟨rd_l_some K C E, ?_, pure_l_some vs H Q E h⟩)
  · first
    | (obtain ⟨_, rfl, _⟩ := h; rfl)
    | (obtain ⟨_, _, rfl, _⟩ := h; rfl)
    | (obtain ⟨_, _, _, rfl, _⟩ := h; rfl)
    | (obtain ⟨_, _, _, _, rfl, _⟩ := h; rfl)
    | (obtain ⟨_, _, _, _, _, rfl, _⟩ := h; rfl)
    | (obtain ⟨_, _, _, _, _, _, rfl, _⟩ := h; rfl)
    | (obtain ⟨_, _, _, _, _, _, _, rfl, _⟩ := h; rfl)
    | (obtain ⟨_, _, _, _, _, _, _, _, rfl, _⟩ := h; rfl)
    | (obtain ⟨_, _, _, _, _, _, _, _, _, rfl, _⟩ := h; rfl)
    | (obtain ⟨_, _, _, _, _, _, _, _, _, _, rfl, _⟩ := h; rfl)
    | (obtain ⟨_, _, _, _, _, _, _, _, _, _, _, rfl, _⟩ := h; rfl)
    | (obtain ⟨_, _, _, _, _, _, _, _, _, _, _, _, rfl, _⟩ := h; rfl)
    | (obtain ⟨_, _, _, _, _, _, _, _, _, _, _, _, _, rfl, _⟩ := h; rfl)
    | (obtain ⟨_, _, _, _, _, _, _, _, _, _, _, _, _, _, rfl, _⟩ := h; rfl)
    | (obtain ⟨_, _, _, _, _, _, _, _, _, _, _, _, _, _, _, rfl, _⟩ := h; rfl)
    | (obtain ⟨_, _, _, _, _, _, _, _, _, _, _, _, _, _, _, _, rfl, _⟩ := h; rfl)
    | (obtain ⟨_, _, _, _, _, _, _, _, _, _, _, _, _, _, _, _, _, rfl, _⟩ := h; rfl)
    | (obtain ⟨_, _, _, _, _, _, _, _, _, _, _, _, _, _, _, _, _, _, rfl, _⟩ := h; rfl)
    | (obtain ⟨_, _, _, _, _, _, _, _, _, _, _, _, _, _, _, _, _, _, _, rfl, _⟩ := h; rfl)
    | (obtain ⟨_, _, _, _, _, _, _, _, _, _, _, _, _, _, _, _, _, _, _, _, rfl, _⟩ := h; rfl)
    | (obtain ⟨_, _, _, _, _, _, _, _, _, _, _, _, _, _, _, _, _, _, _, _, _, rfl, _⟩ := h; rfl)
    | (obtain ⟨_, _, _, _, _, _, _, _, _, _, _, _, _, _, _, _, _, _, _, _, _, _, rfl, _⟩ := h; rfl)
    | (obtain ⟨_, _, _, _, _, _, _, _, _, _, _, _, _, _, _, _, _, _, _, _, _, _, _, rfl, _⟩ := h; rfl)
  · unfold rd_l_some
    exact (pss_cons (ps_set (i := 3) sc_l_some.nd rfl (Or.inl rfl) (pe_callTy c_list (by rfl) T.b_list (by decide +kernel) (pa_cons (pv 1) pa_nil))) (pss_cons (ps_set (i := 4) sc_l_some.nd rfl (Or.inl rfl) (pe_lst pa_nil)) (pss_cons (ps_for PassesOwn.never rfl (pi_range1 (by rfl) T.b_range (pa_cons (pe_callB (c_min rfl) (by rfl) T.b_min (by decide +kernel) (pa_cons (pv 2) (pa_cons (pe_callB c_len (by rfl) T.b_len (by decide +kernel) (pa_cons (pv 1) pa_nil)) pa_nil))) pa_nil)) (pg_name (i := 5) sc_l_some.nd rfl (by first | exact .inl rfl | exact .inr rfl)) (pss_cons (ps_set (i := 6) sc_l_some.nd rfl (Or.inl rfl) (pe_callS G_l_take (hr.mono (by decide)) (by rfl) T.d_l_take.mg T.d_l_take.fn.kp T.d_l_take.bi pass0S (pa_cons (pv 0) (pa_cons (pe_callB c_len (by rfl) T.b_len (by decide +kernel) (pa_cons (pv 3) pa_nil)) pa_nil)))) (pss_cons (ps_expr (pe_imp (pe_bm PySem.F.plainAttrs_list PySem.F.slot_list_append PySem.F.type_list_append m_append (pv 4) (pa_cons (pe_ix ix_F (pv 3) (pv 6) (fun _ _ => rfl)) pa_nil)) bm_var)) (pss_one (ps_set (i := 3) sc_l_some.nd rfl (Or.inl rfl) (pe_op op_addF (pe_slice sl_F2 (pv 3) po_none (po_some (pv 6))) (pe_slice sl_F2 (pv 3) (po_some (pe_op op_addF (pv 6) pe_int)) po_none))))))) (pss_one (ps_ret (pv 4))))))
theorem ok_l_turned (T : Txt K mg C) : FnOk P w K mg base CX0 5 T.d_l_turned.f T.d_l_turned.fd [("store" : Str), ("row" : Str)] (sp_l_turned K C) := by
  have G_l_some := ok_l_some (P := P) (w := w) (mg := mg) (base := base) T
  refine T.d_l_turned.fn.ok sc_l_turned (fun vs H Q E h => ?_) (fun cdv A outer s H vs Q E hr h => ⟨rd_l_turned K C E, ?_, pure_l_turned vs H Q E h⟩)
  · first
    | (obtain ⟨_, rfl, _⟩ := h; rfl)
    | (obtain ⟨_, _, rfl, _⟩ := h; rfl)
    | (obtain ⟨_, _, _, rfl, _⟩ := h; rfl)
    | (obtain ⟨_, _, _, _, rfl, _⟩ := h; rfl)
    | (obtain ⟨_, _, _, _, _, rfl, _⟩ := h; rfl)
    | (obtain ⟨_, _, _, _, _, _, rfl, _⟩ := h; rfl)
    | (obtain ⟨_, _, _, _, _, _, _, rfl, _⟩ := h; rfl)
    | (obtain ⟨_, _, _, _, _, _, _, _, rfl, _⟩ := h; rfl)
    | (obtain ⟨_, _, _, _, _, _, _, _, _, rfl, _⟩ := h; rfl)
    | (obtain ⟨_, _, _, _, _, _, _, _, _, _, rfl, _⟩ := h; rfl)
    | (obtain ⟨_, _, _, _, _, _, _, _, _, _, _, rfl, _⟩ := h; rfl)
    | (obtain ⟨_, _, _, _, _, _, _, _, _, _, _, _, rfl, _⟩ := h; rfl)
    | (obtain ⟨_, _, _, _, _, _, _, _, _, _, _, _, _, rfl, _⟩ := h; rfl)
    | (obtain ⟨_, _, _, _, _, _, _, _, _, _, _, _, _, _, rfl, _⟩ := h; rfl)
    | (obtain ⟨_, _, _, _, _, _, _, _, _, _, _, _, _, _, _, rfl, _⟩ := h; rfl)
    | (obtain ⟨_, _, _, _, _, _, _, _, _, _, _, _, _, _, _, _, rfl, _⟩ := h; rfl)
    | (obtain ⟨_, _, _, _, _, _, _, _, _, _, _, _, _, _, _, _, _, rfl, _⟩ := h; rfl)
    | (obtain ⟨_, _, _, _, _, _, _, _, _, _, _, _, _, _, _, _, _, _, rfl, _⟩ := h; rfl)
    | (obtain ⟨_, _, _, _, _, _, _, _, _, _, _, _, _, _, _, _, _, _, _, rfl, _⟩ := h; rfl)
    | (obtain ⟨_, _, _, _, _, _, _, _, _, _, _, _, _, _, _, _, _, _, _, _, rfl, _⟩ := h; rfl)
    | (obtain ⟨_, _, _, _, _, _, _, _, _, _, _, _, _, _, _, _, _, _, _, _, _, rfl, _⟩ := h; rfl)
    | (obtain ⟨_, _, _, _, _, _, _, _, _, _, _, _, _, _, _, _, _, _, _, _, _, _, rfl, _⟩ := h; rfl)
    | (obtain ⟨_, _, _, _, _, _, _, _, _, _, _, _, _, _, _, _, _, _, _, _, _, _, _, rfl, _⟩ := h; rfl)
  · unfold rd_l_turned
    exact (pss_one (ps_ret (pe_callS G_l_some (hr.mono (by decide)) (by rfl) T.d_l_some.mg T.d_l_some.fn.kp T.d_l_some.bi pass0S (pa_cons (pv 0) (pa_cons (pv 1) (pa_cons (pe_callB c_len (by rfl) T.b_len (by decide +kernel) (pa_cons (pv 1) pa_nil)) pa_nil))))))
theorem ok_l_word (T : Txt K mg C) : FnOk P w K mg base CX0 4 T.d_l_word.f T.d_l_word.fd [("store" : Str), ("size" : Str)] (sp_l_word K C) := by
  have G_l_take := ok_l_take (P := P) (w := w) (mg := mg) (base := base) T
  refine T.d_l_word.fn.ok sc_l_word (fun vs H Q E h => ?_) (fun cdv A outer s H vs Q E hr h => ⟨rd_l_word K C E, ?_, pure_l_word vs H Q E h⟩)
  · first
    | (obtain ⟨_, rfl, _⟩ := h; rfl)
    | (obtain ⟨_, _, rfl, _⟩ := h; rfl)
    | (obtain ⟨_, _, _, rfl, _⟩ := h; rfl)
    | (obtain ⟨_, _, _, _, rfl, _⟩ := h; rfl)
    | (obtain ⟨_, _, _, _, _, rfl, _⟩ := h; rfl)
    | (obtain ⟨_, _, _, _, _, _, rfl, _⟩ := h; rfl)
    | (obtain ⟨_, _, _, _, _, _, _, rfl, _⟩ := h; rfl)
    | (obtain ⟨_, _, _, _, _, _, _, _, rfl, _⟩ := h; rfl)
    | (obtain ⟨_, _, _, _, _, _, _, _, _, rfl, _⟩ := h; rfl)
    | (obtain ⟨_, _, _, _, _, _, _, _, _, _, rfl, _⟩ := h; rfl)
    | (obtain ⟨_, _, _, _, _, _, _, _, _, _, _, rfl, _⟩ := h; rfl)
    | (obtain ⟨_, _, _, _, _, _, _, _, _, _, _, _, rfl, _⟩ := h; rfl)
    | (obtain ⟨_, _, _, _, _, _, _, _, _, _, _, _, _, rfl, _⟩ := h; rfl)
    | (obtain ⟨_, _, _, _, _, _, _, _, _, _, _, _, _, _, rfl, _⟩ := h; rfl)
    | (obtain ⟨_, _, _, _, _, _, _, _, _, _, _, _, _, _, _, rfl, _⟩ := h; rfl)
    | (obtain ⟨_, _, _, _, _, _, _, _, _, _, _, _, _, _, _, _, rfl, _⟩ := h; rfl)
    | (obtain ⟨_, _, _, _, _, _, _, _, _, _, _, _, _, _, _, _, _, rfl, _⟩ := h; rfl)
    | (obtain ⟨_, _, _, _, _, _, _, _, _, _, _, _, _, _, _, _, _, _, rfl, _⟩ := h; rfl)
    | (obtain ⟨_, _, _, _, _, _, _, _, _, _, _, _, _, _, _, _, _, _, _, rfl, _⟩ := h; rfl)
    | (obtain ⟨_, _, _, _, _, _, _, _, _, _, _, _, _, _, _, _, _, _, _, _, rfl, _⟩ := h; rfl)
    | (obtain ⟨_, _, _, _, _, _, _, _, _, _, _, _, _, _, _, _, _, _, _, _, _, rfl, _⟩ := h; rfl)
    | (obtain ⟨_, _, _, _, _, _, _, _, _, _, _, _, _, _, _, _, _, _, _, _, _, _, rfl, _⟩ := h; rfl)
    | (obtain ⟨_, _, _, _, _, _, _, _, _, _, _, _, _, _, _, _, _, _, _, _, _, _, _, rfl, _⟩ := h; rfl)
  · unfold rd_l_word
    exact (pss_cons (ps_set (i := 2) sc_l_word.nd rfl (Or.inl rfl) pe_str) (pss_cons (ps_set (i := 3) sc_l_word.nd rfl (Or.inl rfl) (pe_op op_addF (pv 2) pe_str)) (pss_cons (ps_set (i := 4) sc_l_word.nd rfl (Or.inl rfl) (pe_ix ix_F (pv 2) (pe_callS G_l_take (hr.mono (by decide)) (by rfl) T.d_l_take.mg T.d_l_take.fn.kp T.d_l_take.bi pass0S (pa_cons (pv 0) (pa_cons pe_int pa_nil))) (fun _ _ => rfl))) (pss_cons (ps_for PassesOwn.never rfl (pi_range1 (by rfl) T.b_range (pa_cons (pe_callB (c_min rfl) (by rfl) T.b_min (by decide +kernel) (pa_cons pe_int (pa_cons (pe_op op_subF (pv 1) pe_int) pa_nil))) pa_nil)) (pg_name (i := 5) sc_l_word.nd rfl (by first | exact .inl rfl | exact .inr rfl)) (pss_one (ps_set (i := 4) sc_l_word.nd rfl (Or.inl rfl) (pe_op op_addF (pv 4) (pe_ix ix_F (pv 3) (pe_callS G_l_take (hr.mono (by decide)) (by rfl) T.d_l_take.mg T.d_l_take.fn.kp T.d_l_take.bi pass0S (pa_cons (pv 0) (pa_cons pe_int pa_nil))) (fun _ _ => rfl)))))) (pss_one (ps_ret (pv 4)))))))
theorem ok_l_names (T : Txt K mg C) : FnOk P w K mg base CX0 6 T.d_l_names.f T.d_l_names.fd [("store" : Str), ("many" : Str)] (sp_l_names K C) := by
  have G_l_some := ok_l_some (P := P) (w := w) (mg := mg) (base := base) T
  have G_l_take := ok_l_take (P := P) (w := w) (mg := mg) (base := base) T
  have G_l_turned := ok_l_turned (P := P) (w := w) (mg := mg) (base := base) T
  have G_l_word := ok_l_word (P := P) (w := w) (mg := mg) (base := base) T
  refine T.d_l_names.fn.ok sc_l_names (fun vs H Q E h => ?_) (fun cdv A outer s H vs Q E hr h => ⟨rd_l_names K C E, ?_, pure_l_names vs H Q E h⟩)
  · first
    | (obtain ⟨_, rfl, _⟩ := h; rfl)
    | (obtain ⟨_, _, rfl, _⟩ := h; rfl)
    | (obtain ⟨_, _, _, rfl, _⟩ := h; rfl)
    | (obtain ⟨_, _, _, _, rfl, _⟩ := h; rfl)
    | (obtain ⟨_, _, _, _, _, rfl, _⟩ := h; rfl)
    | (obtain ⟨_, _, _, _, _, _, rfl, _⟩ := h; rfl)
    | (obtain ⟨_, _, _, _, _, _, _, rfl, _⟩ := h; rfl)
    | (obtain ⟨_, _, _, _, _, _, _, _, rfl, _⟩ := h; rfl)
    | (obtain ⟨_, _, _, _, _, _, _, _, _, rfl, _⟩ := h; rfl)
    | (obtain ⟨_, _, _, _, _, _, _, _, _, _, rfl, _⟩ := h; rfl)
    | (obtain ⟨_, _, _, _, _, _, _, _, _, _, _, rfl, _⟩ := h; rfl)
    | (obtain ⟨_, _, _, _, _, _, _, _, _, _, _, _, rfl, _⟩ := h; rfl)
    | (obtain ⟨_, _, _, _, _, _, _, _, _, _, _, _, _, rfl, _⟩ := h; rfl)
    | (obtain ⟨_, _, _, _, _, _, _, _, _, _, _, _, _, _, rfl, _⟩ := h; rfl)
    | (obtain ⟨_, _, _, _, _, _, _, _, _, _, _, _, _, _, _, rfl, _⟩ := h; rfl)
    | (obtain ⟨_, _, _, _, _, _, _, _, _, _, _, _, _, _, _, _, rfl, _⟩ := h; rfl)
    | (obtain ⟨_, _, _, _, _, _, _, _, _, _, _, _, _, _, _, _, _, rfl, _⟩ := h; rfl)
    | (obtain ⟨_, _, _, _, _, _, _, _, _, _, _, _, _, _, _, _, _, _, rfl, _⟩ := h; rfl)
    | (obtain ⟨_, _, _, _, _, _, _, _, _, _, _, _, _, _, _, _, _, _, _, rfl, _⟩ := h; rfl)
    | (obtain ⟨_, _, _, _, _, _, _, _, _, _, _, _, _, _, _, _, _, _, _, _, rfl, _⟩ := h; rfl)
    | (obtain ⟨_, _, _, _, _, _, _, _, _, _, _, _, _, _, _, _, _, _, _, _, _, rfl, _⟩ := h; rfl)
    | (obtain ⟨_, _, _, _, _, _, _, _, _, _, _, _, _, _, _, _, _, _, _, _, _, _, rfl, _⟩ := h; rfl)
    | (obtain ⟨_, _, _, _, _, _, _, _, _, _, _, _, _, _, _, _, _, _, _, _, _, _, _, rfl, _⟩ := h; rfl)
  · unfold rd_l_names
    exact (pss_cons (ps_set (i := 2) sc_l_names.nd rfl (Or.inl rfl) pe_str) (pss_cons (ps_set (i := 3) sc_l_names.nd rfl (Or.inl rfl) (pe_callS G_l_take (hr.mono (by decide)) (by rfl) T.d_l_take.mg T.d_l_take.fn.kp T.d_l_take.bi pass0S (pa_cons (pv 0) (pa_cons pe_int pa_nil)))) (Evl.pss_cut (ps_if (PW.pt (pw_and (pt_cmpR (op_eqF hr.units) (pv 3) pe_int (nomark _)) (pw_and1 (pt_cmpR op_leF (pv 1) pe_int (nomark _))))) (pss_cons (ps_set (i := 4) sc_l_names.nd rfl (Or.inr rfl) (pe_callS G_l_word (hr.mono (by decide)) (by rfl) T.d_l_word.mg T.d_l_word.fn.kp T.d_l_word.bi pass0S (pa_cons (pv 0) (pa_cons pe_int pa_nil)))) (pss_one (ps_ret (pe_callS G_l_turned (hr.mono (by decide)) (by rfl) T.d_l_turned.mg T.d_l_turned.fn.kp T.d_l_turned.bi pass0S (pa_cons (pv 0) (pa_cons (pe_lc (own := [(("k" : Str), 5)]) (g := (gName 5)) rfl sc_l_names.nd (pi_range1 (by rfl) T.b_range (pa_cons (pv 1) pa_nil)) (blkOk_by (own := [(("k" : Str), 5)]) (N := sN_l_names) (sc := defScope s_l_names) (by decide +kernel)) (fun _ _ _ _ _ => (pg_name (i := 5) sc_l_names.nd rfl (by first | exact .inl rfl | exact .inr rfl))) (fun _ _ _ _ _ => pts_nil) (fun _ _ _ _ _ => (pe_slice sl_F2 (pv 4) po_none (po_some (pe_op op_addF (pv 5) pe_int))))) pa_nil)))))) pss_nil) (pss_cons (ps_if (pt_cmpR (op_eqF hr.units) (pv 3) pe_int (nomark _)) (pss_cons (ps_set (i := 6) sc_l_names.nd rfl (Or.inl rfl) (pe_lst (pa_cons pe_str (pa_cons pe_str (pa_cons pe_str (pa_cons pe_str (pa_cons pe_str (pa_cons pe_str (pa_cons pe_str (pa_cons pe_str (pa_cons pe_str (pa_cons pe_str (pa_cons pe_str (pa_cons pe_str pa_nil)))))))))))))) (pss_one (ps_ret (pe_callS G_l_some (hr.mono (by decide)) (by rfl) T.d_l_some.mg T.d_l_some.fn.kp T.d_l_some.bi pass0S (pa_cons (pv 0) (pa_cons (pe_op op_addF (pv 6) (pe_lst (pa_cons pe_str (pa_cons pe_str (pa_cons pe_str (pa_cons pe_str pa_nil)))))) (pa_cons (pv 1) pa_nil))))))) pss_nil) (pss_cons (ps_if (pt_cmpR (op_eqF hr.units) (pv 3) pe_int (nomark _)) (pss_cons (ps_set (i := 6) sc_l_names.nd rfl (Or.inl rfl) (pe_lst (pa_cons pe_str (pa_cons pe_str (pa_cons pe_str (pa_cons pe_str (pa_cons pe_str (pa_cons pe_str (pa_cons pe_str (pa_cons pe_str (pa_cons pe_str (pa_cons pe_str (pa_cons pe_str (pa_cons pe_str pa_nil)))))))))))))) (pss_cons (ps_set (i := 7) sc_l_names.nd rfl (Or.inr rfl) (pe_ix ix_F (pv 2) (pe_callS G_l_take (hr.mono (by decide)) (by rfl) T.d_l_take.mg T.d_l_take.fn.kp T.d_l_take.bi pass0S (pa_cons (pv 0) (pa_cons pe_int pa_nil))) (fun _ _ => rfl))) (pss_one (ps_ret (pe_lc (own := [(("word" : Str), 4)]) (g := (gName 4)) rfl sc_l_names.nd (pi_list (pe_callS G_l_some (hr.mono (by decide)) (by rfl) T.d_l_some.mg T.d_l_some.fn.kp T.d_l_some.bi pass0S (pa_cons (pv 0) (pa_cons (pv 6) (pa_cons (pv 1) pa_nil))))) (blkOk_by (own := [(("word" : Str), 4)]) (N := sN_l_names) (sc := defScope s_l_names) (by decide +kernel)) (fun _ _ _ _ _ => (pg_name (i := 4) sc_l_names.nd rfl (by first | exact .inl rfl | exact .inr rfl))) (fun _ _ _ _ _ => pts_nil) (fun _ _ _ _ _ => (pe_op op_addF (pv 7) (pv 4)))))))) pss_nil) (pss_cons (ps_set (i := 8) sc_l_names.nd rfl (Or.inl rfl) pe_str) (Evl.pss_cut (ps_if (pt_cmpR op_gtF (pv 3) pe_int (nomark _)) (pss_cons (ps_set (i := 8) sc_l_names.nd rfl (Or.inl rfl) (pe_callS G_l_word (hr.mono (by decide)) (by rfl) T.d_l_word.mg T.d_l_word.fn.kp T.d_l_word.bi pass0S (pa_cons (pv 0) (pa_cons (pe_op op_addF pe_int (pe_callS G_l_take (hr.mono (by decide)) (by rfl) T.d_l_take.mg T.d_l_take.fn.kp T.d_l_take.bi pass0S (pa_cons (pv 0) (pa_cons pe_int pa_nil)))) pa_nil)))) (pss_one (ps_set (i := 2) sc_l_names.nd rfl (Or.inl rfl) (pe_op op_addF (pv 2) pe_str)))) pss_nil) (pss_cons (ps_set (i := 9) sc_l_names.nd rfl (Or.inl rfl) (pe_lst pa_nil)) (pss_cons (ps_for PassesOwn.never rfl (pi_range1 (by rfl) T.b_range (pa_cons (pv 1) pa_nil)) (pg_name (i := 5) sc_l_names.nd rfl (by first | exact .inl rfl | exact .inr rfl)) (pss_cons (ps_set (i := 10) sc_l_names.nd rfl (Or.inl rfl) (pe_callS G_l_take (hr.mono (by decide)) (by rfl) T.d_l_take.mg T.d_l_take.fn.kp T.d_l_take.bi pass0S (pa_cons (pv 0) (pa_cons (pe_callB c_len (by rfl) T.b_len (by decide +kernel) (pa_cons (pv 2) pa_nil)) pa_nil)))) (pss_cons (ps_set (i := 11) sc_l_names.nd rfl (Or.inl rfl) pe_str) (Evl.pss_cut (ps_if (pt_cmpR op_gtF (pv 3) pe_int (nomark _)) (pss_one (ps_set (i := 11) sc_l_names.nd rfl (Or.inl rfl) (pe_slice sl_F2 (pe_callS G_l_word (hr.mono (by decide)) (by rfl) T.d_l_word.mg T.d_l_word.fn.kp T.d_l_word.bi pass0S (pa_cons (pv 0) (pa_cons pe_int pa_nil))) po_none (po_some (pe_callS G_l_take (hr.mono (by decide)) (by rfl) T.d_l_take.mg T.d_l_take.fn.kp T.d_l_take.bi pass0S (pa_cons (pv 0) (pa_cons (pe_op op_subF pe_int (pe_callB c_len (by rfl) T.b_len (by decide +kernel) (pa_cons (pv 8) pa_nil))) pa_nil))))))) pss_nil) (pss_cons (ps_expr (pe_imp (pe_bm PySem.F.plainAttrs_list PySem.F.slot_list_append PySem.F.type_list_append m_append (pv 9) (pa_cons (pe_op op_addF (pe_op op_addF (pv 8) (pe_ix ix_F (pv 2) (pv 10) (fun _ _ => rfl))) (pv 11)) pa_nil)) bm_var)) (pss_one (ps_set (i := 2) sc_l_names.nd rfl (Or.inl rfl) (pe_op op_addF (pe_slice sl_F2 (pv 2) po_none (po_some (pv 10))) (pe_slice sl_F2 (pv 2) (po_some (pe_op op_addF (pv 10) pe_int)) po_none))))))))) (pss_one (ps_ret (pv 9))))))))))))
theorem ok_l_no_name (T : Txt K mg C) : FnOk P w K mg base CX0 4 T.d_l_no_name.f T.d_l_no_name.fd [("store" : Str)] (sp_l_no_name K C) := by
  have G_l_take := ok_l_take (P := P) (w := w) (mg := mg) (base := base) T
  refine T.d_l_no_name.fn.ok sc_l_no_name (fun vs H Q E h => ?_) (fun cdv A outer s H vs Q E hr h => ⟨rd_l_no_name K C E, ?_, pure_l_no_name vs H Q E h⟩)
  · first
    | (obtain ⟨_, rfl, _⟩ := h; rfl)
    | (obtain ⟨_, _, rfl, _⟩ := h; rfl)
    | (obtain ⟨_, _, _, rfl, _⟩ := h; rfl)
    | (obtain ⟨_, _, _, _, rfl, _⟩ := h; rfl)
    | (obtain ⟨_, _, _, _, _, rfl, _⟩ := h; rfl)
    | (obtain ⟨_, _, _, _, _, _, rfl, _⟩ := h; rfl)
    | (obtain ⟨_, _, _, _, _, _, _, rfl, _⟩ := h; rfl)
    | (obtain ⟨_, _, _, _, _, _, _, _, rfl, _⟩ := h; rfl)
    | (obtain ⟨_, _, _, _, _, _, _, _, _, rfl, _⟩ := h; rfl)
    | (obtain ⟨_, _, _, _, _, _, _, _, _, _, rfl, _⟩ := h; rfl)
    | (obtain ⟨_, _, _, _, _, _, _, _, _, _, _, rfl, _⟩ := h; rfl)
    | (obtain ⟨_, _, _, _, _, _, _, _, _, _, _, _, rfl, _⟩ := h; rfl)
    | (obtain ⟨_, _, _, _, _, _, _, _, _, _, _, _, _, rfl, _⟩ := h; rfl)
    | (obtain ⟨_, _, _, _, _, _, _, _, _, _, _, _, _, _, rfl, _⟩ := h; rfl)
    | (obtain ⟨_, _, _, _, _, _, _, _, _, _, _, _, _, _, _, rfl, _⟩ := h; rfl)
    | (obtain ⟨_, _, _, _, _, _, _, _, _, _, _, _, _, _, _, _, rfl, _⟩ := h; rfl)
    | (obtain ⟨_, _, _, _, _, _, _, _, _, _, _, _, _, _, _, _, _, rfl, _⟩ := h; rfl)
    | (obtain ⟨_, _, _, _, _, _, _, _, _, _, _, _, _, _, _, _, _, _, rfl, _⟩ := h; rfl)
    | (obtain ⟨_, _, _, _, _, _, _, _, _, _, _, _, _, _, _, _, _, _, _, rfl, _⟩ := h; rfl)
    | (obtain ⟨_, _, _, _, _, _, _, _, _, _, _, _, _, _, _, _, _, _, _, _, rfl, _⟩ := h; rfl)
    | (obtain ⟨_, _, _, _, _, _, _, _, _, _, _, _, _, _, _, _, _, _, _, _, _, rfl, _⟩ := h; rfl)
    | (obtain ⟨_, _, _, _, _, _, _, _, _, _, _, _, _, _, _, _, _, _, _, _, _, _, rfl, _⟩ := h; rfl)
    | (obtain ⟨_, _, _, _, _, _, _, _, _, _, _, _, _, _, _, _, _, _, _, _, _, _, _, rfl, _⟩ := h; rfl)
  · unfold rd_l_no_name
    exact (pss_cons (ps_set (i := 1) sc_l_no_name.nd rfl (Or.inl rfl) (pe_lst (pa_cons pe_str (pa_cons pe_str (pa_cons pe_str (pa_cons pe_str (pa_cons pe_str (pa_cons pe_str (pa_cons pe_str (pa_cons pe_str (pa_cons pe_str (pa_cons pe_str (pa_cons pe_str (pa_cons pe_str (pa_cons pe_str (pa_cons pe_str pa_nil)))))))))))))))) (pss_cons (ps_set (i := 1) sc_l_no_name.nd rfl (Or.inl rfl) (pe_op op_addF (pv 1) (pe_lst (pa_cons pe_non (pa_cons pe_bl (pa_cons pe_int (pa_cons pe_int (pa_cons (pe_tup (pa_cons pe_str pa_nil)) (pa_cons (pe_lst (pa_cons pe_str pa_nil)) (pa_cons (pe_disp (pps_cons pe_str pe_str pps_nil) rfl rfl (by simp) (Nat.le_of_ble_eq_true rfl)) pa_nil)))))))))) (pss_one (ps_ret (pe_ix ix_F (pv 1) (pe_callS G_l_take (hr.mono (by decide)) (by rfl) T.d_l_take.mg T.d_l_take.fn.kp T.d_l_take.bi pass0S (pa_cons (pv 0) (pa_cons (pe_callB c_len (by rfl) T.b_len (by decide +kernel) (pa_cons (pv 1) pa_nil)) pa_nil))) (fun _ _ => rfl))))))
theorem step_same (T : Txt K mg C) (n : Nat) (G_l_same : FnOk P w K mg base CX0 (n + 1) T.d_l_same.f T.d_l_same.fd [("one" : Str), ("other" : Str)] (sp_same_in n)) : FnOk P w K mg base CX0 (n + 2) T.d_l_same.f T.d_l_same.fd [("one" : Str), ("other" : Str)] (sp_sameN n) := by
  refine T.d_l_same.fn.ok sc_l_same (fun vs H Q E h => ?_) (fun cdv A outer s H vs Q E hr h => ⟨rd_l_same K C (sp_same_in n) E, ?_, pure_l_sameN n vs H Q E h⟩)
  · obtain ⟨_, _, _, rfl, _⟩ := h
    rfl
  · unfold rd_l_same
    exact (pss_cons (ps_if (PW.pt (pw_or (pt_cmpR op_isNF (pv 0) pe_non (nomark _)) (pw_or1 (pt_cmpR op_isNF (pv 1) pe_non (nomark _))))) (pss_one (ps_ret (pe_and (pe_cmpR op_isNF (pv 0) pe_non (nomark _)) (pe_one (pe_cmpR op_isNF (pv 1) pe_non (nomark _)))))) pss_nil) (pss_cons (ps_if (PW.pt (pw_or (pt_val (pe_callB c_isi (by rfl) T.b_isinstance (by decide +kernel) (pa_cons (pv 0) (pa_cons (pe_bltn (v := .ty "bool") (by rfl) T.b_bool (by decide +kernel) rfl) pa_nil)))) (pw_or1 (pt_val (pe_callB c_isi (by rfl) T.b_isinstance (by decide +kernel) (pa_cons (pv 1) (pa_cons (pe_bltn (v := .ty "bool") (by rfl) T.b_bool (by decide +kernel) rfl) pa_nil))))))) (pss_one (ps_ret (pe_and (pe_callB c_isi (by rfl) T.b_isinstance (by decide +kernel) (pa_cons (pv 0) (pa_cons (pe_bltn (v := .ty "bool") (by rfl) T.b_bool (by decide +kernel) rfl) pa_nil))) (pe_and (pe_callB c_isi (by rfl) T.b_isinstance (by decide +kernel) (pa_cons (pv 1) (pa_cons (pe_bltn (v := .ty "bool") (by rfl) T.b_bool (by decide +kernel) rfl) pa_nil))) (pe_one (pe_cmpR (op_eqF hr.units) (pv 0) (pv 1) (nomark _))))))) pss_nil) (pss_cons (ps_if (PW.pt (pw_or (pt_val (pe_callB c_isi (by rfl) T.b_isinstance (by decide +kernel) (pa_cons (pv 0) (pa_cons (pe_bltn (v := .ty "int") (by rfl) T.b_int (by decide +kernel) rfl) pa_nil)))) (pw_or1 (pt_val (pe_callB c_isi (by rfl) T.b_isinstance (by decide +kernel) (pa_cons (pv 1) (pa_cons (pe_bltn (v := .ty "int") (by rfl) T.b_int (by decide +kernel) rfl) pa_nil))))))) (pss_one (ps_ret (pe_and (pe_callB c_isi (by rfl) T.b_isinstance (by decide +kernel) (pa_cons (pv 0) (pa_cons (pe_bltn (v := .ty "int") (by rfl) T.b_int (by decide +kernel) rfl) pa_nil))) (pe_and (pe_callB c_isi (by rfl) T.b_isinstance (by decide +kernel) (pa_cons (pv 1) (pa_cons (pe_bltn (v := .ty "int") (by rfl) T.b_int (by decide +kernel) rfl) pa_nil))) (pe_one (pe_cmpR (op_eqF hr.units) (pv 0) (pv 1) (nomark _))))))) pss_nil) (pss_cons (ps_if (PW.pt (pw_or (pt_val (pe_callB c_isi (by rfl) T.b_isinstance (by decide +kernel) (pa_cons (pv 0) (pa_cons (pe_bltn (v := .ty "str") (by rfl) T.b_str (by decide +kernel) rfl) pa_nil)))) (pw_or1 (pt_val (pe_callB c_isi (by rfl) T.b_isinstance (by decide +kernel) (pa_cons (pv 1) (pa_cons (pe_bltn (v := .ty "str") (by rfl) T.b_str (by decide +kernel) rfl) pa_nil))))))) (pss_one (ps_ret (pe_and (pe_callB c_isi (by rfl) T.b_isinstance (by decide +kernel) (pa_cons (pv 0) (pa_cons (pe_bltn (v := .ty "str") (by rfl) T.b_str (by decide +kernel) rfl) pa_nil))) (pe_and (pe_callB c_isi (by rfl) T.b_isinstance (by decide +kernel) (pa_cons (pv 1) (pa_cons (pe_bltn (v := .ty "str") (by rfl) T.b_str (by decide +kernel) rfl) pa_nil))) (pe_one (pe_cmpR (op_eqF hr.units) (pv 0) (pv 1) (nomark _))))))) pss_nil) (pss_cons (ps_if (PW.pt (pw_or (pt_val (pe_callB c_isi (by rfl) T.b_isinstance (by decide +kernel) (pa_cons (pv 0) (pa_cons (pe_bltn (v := .ty "dict") (by rfl) T.b_dict (by decide +kernel) rfl) pa_nil)))) (pw_or1 (pt_val (pe_callB c_isi (by rfl) T.b_isinstance (by decide +kernel) (pa_cons (pv 1) (pa_cons (pe_bltn (v := .ty "dict") (by rfl) T.b_dict (by decide +kernel) rfl) pa_nil))))))) (pss_cons (ps_if (PW.pt (pw_or (pt_not (pt_val (pe_callB c_isi (by rfl) T.b_isinstance (by decide +kernel) (pa_cons (pv 0) (pa_cons (pe_bltn (v := .ty "dict") (by rfl) T.b_dict (by decide +kernel) rfl) pa_nil))))) (pw_or (pt_not (pt_val (pe_callB c_isi (by rfl) T.b_isinstance (by decide +kernel) (pa_cons (pv 1) (pa_cons (pe_bltn (v := .ty "dict") (by rfl) T.b_dict (by decide +kernel) rfl) pa_nil))))) (pw_or1 (pt_cmpR (op_neF hr.units) (pe_callB c_len2 (by rfl) T.b_len (by decide +kernel) (pa_cons (pv 0) pa_nil)) (pe_callB c_len2 (by rfl) T.b_len (by decide +kernel) (pa_cons (pv 1) pa_nil)) (nomark _)))))) (pss_one (ps_ret pe_bl)) pss_nil) (pss_cons (ps_lock (ps_for PassesOwn.never rfl (pi_keys (pv 0)) (pg_name (i := 2) sc_l_same.nd rfl (by first | exact .inl rfl | exact .inr rfl)) pss_never)) (pss_one (ps_ret pe_bl)))) pss_nil) (pss_cons (ps_if (PW.pt (pw_or (pt_val (pe_callB c_isiT (by rfl) T.b_isinstance (by decide +kernel) (pa_cons (pv 0) (pa_cons (pe_tup (pa_cons (pe_bltn (v := .ty "list") (by rfl) T.b_list (by decide +kernel) rfl) (pa_cons (pe_bltn (v := .ty "tuple") (by rfl) T.b_tuple (by decide +kernel) rfl) pa_nil))) pa_nil)))) (pw_or1 (pt_val (pe_callB c_isiT (by rfl) T.b_isinstance (by decide +kernel) (pa_cons (pv 1) (pa_cons (pe_tup (pa_cons (pe_bltn (v := .ty "list") (by rfl) T.b_list (by decide +kernel) rfl) (pa_cons (pe_bltn (v := .ty "tuple") (by rfl) T.b_tuple (by decide +kernel) rfl) pa_nil))) pa_nil))))))) (pss_cons (ps_if (PW.pt (pw_or (pt_cmpR (op_neF hr.units) (pe_callB c_isi (by rfl) T.b_isinstance (by decide +kernel) (pa_cons (pv 0) (pa_cons (pe_bltn (v := .ty "list") (by rfl) T.b_list (by decide +kernel) rfl) pa_nil))) (pe_callB c_isi (by rfl) T.b_isinstance (by decide +kernel) (pa_cons (pv 1) (pa_cons (pe_bltn (v := .ty "list") (by rfl) T.b_list (by decide +kernel) rfl) pa_nil))) (nomark _)) (pw_or1 (pt_cmpR (op_neF hr.units) (pe_callB c_isi (by rfl) T.b_isinstance (by decide +kernel) (pa_cons (pv 0) (pa_cons (pe_bltn (v := .ty "tuple") (by rfl) T.b_tuple (by decide +kernel) rfl) pa_nil))) (pe_callB c_isi (by rfl) T.b_isinstance (by decide +kernel) (pa_cons (pv 1) (pa_cons (pe_bltn (v := .ty "tuple") (by rfl) T.b_tuple (by decide +kernel) rfl) pa_nil))) (nomark _))))) (pss_one (ps_ret pe_bl)) pss_nil) (pss_cons (ps_if (pt_cmpR (op_neF hr.units) (pe_callB c_len2 (by rfl) T.b_len (by decide +kernel) (pa_cons (pv 0) pa_nil)) (pe_callB c_len2 (by rfl) T.b_len (by decide +kernel) (pa_cons (pv 1) pa_nil)) (nomark _)) (pss_one (ps_ret pe_bl)) pss_nil) (pss_cons (ps_for PassesOwn.never rfl (pi_range1 (by rfl) T.b_range (pa_cons (pe_callB c_len2 (by rfl) T.b_len (by decide +kernel) (pa_cons (pv 0) pa_nil)) pa_nil)) (pg_name (i := 3) sc_l_same.nd rfl (by first | exact .inl rfl | exact .inr rfl)) (pss_one (ps_if (pt_not (pt_val (pe_callS G_l_same hr (by rfl) T.d_l_same.mg T.d_l_same.fn.kp T.d_l_same.bi pass0S (pa_cons (pe_ix ix_F (pv 0) (pv 3) (fun _ _ => rfl)) (pa_cons (pe_ix ix_F (pv 1) (pv 3) (fun _ _ => rfl)) pa_nil))))) (pss_one (ps_ret pe_bl)) pss_nil))) (pss_one (ps_ret pe_bl))))) pss_nil) (pss_cons ps_never (pss_one ps_never))))))))
theorem ok_sameN (T : Txt K mg C) (n : Nat) : FnOk P w K mg base CX0 (n + 2) T.d_l_same.f T.d_l_same.fd [("one" : Str), ("other" : Str)] (sp_sameN n) := by
  induction n with
  | zero => exact step_same T 0 no_fn
  | succ n ih => exact step_same T (n + 1) ih
theorem ok_l_same (T : Txt K mg C) : FnOk P w K mg base CX0 8 T.d_l_same.f T.d_l_same.fd [("one" : Str), ("other" : Str)] (sp_l_same K C) := ok_sameN T 6
theorem ok_l_joined (T : Txt K mg C) : FnOk P w K mg base CX0 2 T.d_l_joined.f T.d_l_joined.fd [("roads" : Str), ("here" : Str), ("there" : Str)] (sp_l_joined K C) := by
  refine T.d_l_joined.fn.ok sc_l_joined (fun vs H Q E h => ?_) (fun cdv A outer s H vs Q E hr h => ⟨rd_l_joined K C E, ?_, pure_l_joined vs H Q E h⟩)
  · first
    | (obtain ⟨_, rfl, _⟩ := h; rfl)
    | (obtain ⟨_, _, rfl, _⟩ := h; rfl)
    | (obtain ⟨_, _, _, rfl, _⟩ := h; rfl)
    | (obtain ⟨_, _, _, _, rfl, _⟩ := h; rfl)
    | (obtain ⟨_, _, _, _, _, rfl, _⟩ := h; rfl)
    | (obtain ⟨_, _, _, _, _, _, rfl, _⟩ := h; rfl)
    | (obtain ⟨_, _, _, _, _, _, _, rfl, _⟩ := h; rfl)
    | (obtain ⟨_, _, _, _, _, _, _, _, rfl, _⟩ := h; rfl)
    | (obtain ⟨_, _, _, _, _, _, _, _, _, rfl, _⟩ := h; rfl)
    | (obtain ⟨_, _, _, _, _, _, _, _, _, _, rfl, _⟩ := h; rfl)
    | (obtain ⟨_, _, _, _, _, _, _, _, _, _, _, rfl, _⟩ := h; rfl)
    | (obtain ⟨_, _, _, _, _, _, _, _, _, _, _, _, rfl, _⟩ := h; rfl)
    | (obtain ⟨_, _, _, _, _, _, _, _, _, _, _, _, _, rfl, _⟩ := h; rfl)
    | (obtain ⟨_, _, _, _, _, _, _, _, _, _, _, _, _, _, rfl, _⟩ := h; rfl)
    | (obtain ⟨_, _, _, _, _, _, _, _, _, _, _, _, _, _, _, rfl, _⟩ := h; rfl)
    | (obtain ⟨_, _, _, _, _, _, _, _, _, _, _, _, _, _, _, _, rfl, _⟩ := h; rfl)
    | (obtain ⟨_, _, _, _, _, _, _, _, _, _, _, _, _, _, _, _, _, rfl, _⟩ := h; rfl)
    | (obtain ⟨_, _, _, _, _, _, _, _, _, _, _, _, _, _, _, _, _, _, rfl, _⟩ := h; rfl)
    | (obtain ⟨_, _, _, _, _, _, _, _, _, _, _, _, _, _, _, _, _, _, _, rfl, _⟩ := h; rfl)
    | (obtain ⟨_, _, _, _, _, _, _, _, _, _, _, _, _, _, _, _, _, _, _, _, rfl, _⟩ := h; rfl)
    | (obtain ⟨_, _, _, _, _, _, _, _, _, _, _, _, _, _, _, _, _, _, _, _, _, rfl, _⟩ := h; rfl)
    | (obtain ⟨_, _, _, _, _, _, _, _, _, _, _, _, _, _, _, _, _, _, _, _, _, _, rfl, _⟩ := h; rfl)
    | (obtain ⟨_, _, _, _, _, _, _, _, _, _, _, _, _, _, _, _, _, _, _, _, _, _, _, rfl, _⟩ := h; rfl)
  · unfold rd_l_joined
    exact (pss_one (ps_ret (pe_or (pe_cmpR (op_eqF hr.units) (pv 1) (pv 2) (nomark _)) (pe_or (pe_cmpR (op_inDt (u65 hr)) (pe_tup (pa_cons (pv 1) (pa_cons (pv 2) pa_nil))) (pv 0) (by rfl)) (pe_one (pe_cmpR (op_inDt (u65 hr)) (pe_tup (pa_cons (pv 2) (pa_cons (pv 1) pa_nil))) (pv 0) (by rfl)))))))
theorem ok_l_heard (T : Txt K mg C) : FnOk P w K mg base CX0 9 T.d_l_heard.f T.d_l_heard.fd [("places" : Str), ("chained" : Str)] (sp_l_heard K C) := by
  have G_Web_chain := ok_Web_chain (P := P) (w := w) (mg := mg) (base := base) T
  have G_Web_full := ok_Web_full (P := P) (w := w) (mg := mg) (base := base) T
  refine T.d_l_heard.fn.ok sc_l_heard (fun vs H Q E h => ?_) (fun cdv A outer s H vs Q E hr h => ⟨rd_l_heard K C E, ?_, pure_l_heard T.ef vs H Q E h⟩)
  · first
    | (obtain ⟨_, rfl, _⟩ := h; rfl)
    | (obtain ⟨_, _, rfl, _⟩ := h; rfl)
    | (obtain ⟨_, _, _, rfl, _⟩ := h; rfl)
    | (obtain ⟨_, _, _, _, rfl, _⟩ := h; rfl)
    | (obtain ⟨_, _, _, _, _, rfl, _⟩ := h; rfl)
    | (obtain ⟨_, _, _, _, _, _, rfl, _⟩ := h; rfl)
    | (obtain ⟨_, _, _, _, _, _, _, rfl, _⟩ := h; rfl)
    | (obtain ⟨_, _, _, _, _, _, _, _, rfl, _⟩ := h; rfl)
    | (obtain ⟨_, _, _, _, _, _, _, _, _, rfl, _⟩ := h; rfl)
    | (obtain ⟨_, _, _, _, _, _, _, _, _, _, rfl, _⟩ := h; rfl)
    | (obtain ⟨_, _, _, _, _, _, _, _, _, _, _, rfl, _⟩ := h; rfl)
    | (obtain ⟨_, _, _, _, _, _, _, _, _, _, _, _, rfl, _⟩ := h; rfl)
    | (obtain ⟨_, _, _, _, _, _, _, _, _, _, _, _, _, rfl, _⟩ := h; rfl)
    | (obtain ⟨_, _, _, _, _, _, _, _, _, _, _, _, _, _, rfl, _⟩ := h; rfl)
    | (obtain ⟨_, _, _, _, _, _, _, _, _, _, _, _, _, _, _, rfl, _⟩ := h; rfl)
    | (obtain ⟨_, _, _, _, _, _, _, _, _, _, _, _, _, _, _, _, rfl, _⟩ := h; rfl)
    | (obtain ⟨_, _, _, _, _, _, _, _, _, _, _, _, _, _, _, _, _, rfl, _⟩ := h; rfl)
    | (obtain ⟨_, _, _, _, _, _, _, _, _, _, _, _, _, _, _, _, _, _, rfl, _⟩ := h; rfl)
    | (obtain ⟨_, _, _, _, _, _, _, _, _, _, _, _, _, _, _, _, _, _, _, rfl, _⟩ := h; rfl)
    | (obtain ⟨_, _, _, _, _, _, _, _, _, _, _, _, _, _, _, _, _, _, _, _, rfl, _⟩ := h; rfl)
    | (obtain ⟨_, _, _, _, _, _, _, _, _, _, _, _, _, _, _, _, _, _, _, _, _, rfl, _⟩ := h; rfl)
    | (obtain ⟨_, _, _, _, _, _, _, _, _, _, _, _, _, _, _, _, _, _, _, _, _, _, rfl, _⟩ := h; rfl)
    | (obtain ⟨_, _, _, _, _, _, _, _, _, _, _, _, _, _, _, _, _, _, _, _, _, _, _, rfl, _⟩ := h; rfl)
  · unfold rd_l_heard
    exact (pss_one (ps_tryX (tb := fun W => (tSeq (tIfS (tB (tVar 1)) (tRet (tLst (tCons (tC (.str ("good" : Str))) (tCons (tCMethS C.Web (sp_Web_chain K C) (WE W) (tC (.ref C.Web)) (tCons (tVar 0) tNil)) tNil)))) tNext) (tRet (tLst (tCons (tC (.str ("good" : Str))) (tCons (tCMethS C.Web (sp_Web_full K C) (WE W) (tC (.ref C.Web)) (tCons (tVar 0) tNil)) tNil)))))) (Wout := fun _ _ _ _ => False) rfl rfl takesN0 (fun W pn xe tk _ => (pss_cons (ps_if (pt_val (pv 1)) (pss_one (ps_ret (pe_lst (pa_cons pe_str (pa_cons (pe_cmethS (pe_glob (v := .ref C.Web) (by rfl) T.g_Web rfl) T.d_Web_chain.rd T.d_Web_chain.cm G_Web_chain (hr.mono (by decide)) T.d_Web_chain.bi (fun σ => L2N.passAt tk σ) (pa_cons (pv 0) pa_nil)) pa_nil))))) pss_nil) (pss_one (ps_ret (pe_lst (pa_cons pe_str (pa_cons (pe_cmethS (pe_glob (v := .ref C.Web) (by rfl) T.g_Web rfl) T.d_Web_full.rd T.d_Web_full.cm G_Web_full (hr.mono (by decide)) T.d_Web_full.bi (fun σ => L2N.passAt tk σ) (pa_cons (pv 0) pa_nil)) pa_nil))))))) (HdX.as (i := 2) sc_l_heard.nd rfl rfl ⟨rfl, by decide, .inl T.g_Repeated⟩ (fun a oe cls d pn hz hf => (pss_cons (ps_if (PW.pt (pw_or (pt_not (pt_val (pe_callB (c_isE T.e_Repeated.ec hz hf) (by rfl) T.b_isinstance (by decide +kernel) (pa_cons (pv 2) (pa_cons (pe_glob (v := .ref C.CrossError) (by rfl) T.g_CrossError rfl) pa_nil))))) (pw_or (pt_not (pt_val (pe_callB (c_isE T.e_Repeated.ec hz hf) (by rfl) T.b_isinstance (by decide +kernel) (pa_cons (pv 2) (pa_cons (pe_bltn (v := .ty "ValueError") (by rfl) T.b_ValueError (by decide +kernel) rfl) pa_nil))))) (pw_or1 (pt_val (pe_callB (c_isET T.e_Repeated.ec hz hf) (by rfl) T.b_isinstance (by decide +kernel) (pa_cons (pv 2) (pa_cons (pe_tup (pa_cons (pe_glob (v := .ref C.BadShape) (by rfl) T.g_BadShape rfl) (pa_cons (pe_glob (v := .ref C.SameTown) (by rfl) T.g_SameTown rfl) pa_nil))) pa_nil)))))))) (pss_one (ps_ret (pe_lst (pa_cons pe_str pa_nil)))) pss_nil) (pss_one (ps_ret (pe_lst (pa_cons pe_str (pa_cons (pe_xf T.e_Repeated.xf (T.e_Repeated.no _ (by decide +kernel)) hz.zc hf (pv 2)) pa_nil))))))) (HdX.as (i := 2) sc_l_heard.nd rfl rfl ⟨rfl, by decide, .inl T.g_BadShape⟩ (fun a oe cls d pn hz hf => (pss_cons (ps_if (PW.pt (pw_or (pt_not (pt_val (pe_callB (c_isE T.e_BadShape.ec hz hf) (by rfl) T.b_isinstance (by decide +kernel) (pa_cons (pv 2) (pa_cons (pe_glob (v := .ref C.CrossError) (by rfl) T.g_CrossError rfl) pa_nil))))) (pw_or (pt_not (pt_val (pe_callB (c_isE T.e_BadShape.ec hz hf) (by rfl) T.b_isinstance (by decide +kernel) (pa_cons (pv 2) (pa_cons (pe_bltn (v := .ty "ValueError") (by rfl) T.b_ValueError (by decide +kernel) rfl) pa_nil))))) (pw_or1 (pt_val (pe_callB (c_isET T.e_BadShape.ec hz hf) (by rfl) T.b_isinstance (by decide +kernel) (pa_cons (pv 2) (pa_cons (pe_tup (pa_cons (pe_glob (v := .ref C.UnknownTown) (by rfl) T.g_UnknownTown rfl) (pa_cons (pe_glob (v := .ref C.SameTown) (by rfl) T.g_SameTown rfl) pa_nil))) pa_nil)))))))) (pss_one (ps_ret (pe_lst (pa_cons pe_str pa_nil)))) pss_nil) (pss_one (ps_ret (pe_lst (pa_cons pe_str (pa_cons (pe_xf T.e_BadShape.xf (T.e_BadShape.no _ (by decide +kernel)) hz.zc hf (pv 2)) pa_nil))))))) (HdX.plain ⟨rfl, by decide, .inl T.g_CrossError⟩ (fun a oe cls d pn hz hf => (pss_one (ps_ret (pe_lst (pa_cons pe_str pa_nil))))) HdX.nil)))))
theorem ok_l_due (T : Txt K mg C) : FnOk P w K mg base CX0 2 T.d_l_due.f T.d_l_due.fd [("places" : Str), ("chained" : Str)] (sp_l_due K C) := by
  refine T.d_l_due.fn.ok sc_l_due (fun vs H Q E h => ?_) (fun cdv A outer s H vs Q E hr h => ⟨rd_l_due K C E, ?_, pure_l_due vs H Q E h⟩)
  · first
    | (obtain ⟨_, rfl, _⟩ := h; rfl)
    | (obtain ⟨_, _, rfl, _⟩ := h; rfl)
    | (obtain ⟨_, _, _, rfl, _⟩ := h; rfl)
    | (obtain ⟨_, _, _, _, rfl, _⟩ := h; rfl)
    | (obtain ⟨_, _, _, _, _, rfl, _⟩ := h; rfl)
    | (obtain ⟨_, _, _, _, _, _, rfl, _⟩ := h; rfl)
    | (obtain ⟨_, _, _, _, _, _, _, rfl, _⟩ := h; rfl)
    | (obtain ⟨_, _, _, _, _, _, _, _, rfl, _⟩ := h; rfl)
    | (obtain ⟨_, _, _, _, _, _, _, _, _, rfl, _⟩ := h; rfl)
    | (obtain ⟨_, _, _, _, _, _, _, _, _, _, rfl, _⟩ := h; rfl)
    | (obtain ⟨_, _, _, _, _, _, _, _, _, _, _, rfl, _⟩ := h; rfl)
    | (obtain ⟨_, _, _, _, _, _, _, _, _, _, _, _, rfl, _⟩ := h; rfl)
    | (obtain ⟨_, _, _, _, _, _, _, _, _, _, _, _, _, rfl, _⟩ := h; rfl)
    | (obtain ⟨_, _, _, _, _, _, _, _, _, _, _, _, _, _, rfl, _⟩ := h; rfl)
    | (obtain ⟨_, _, _, _, _, _, _, _, _, _, _, _, _, _, _, rfl, _⟩ := h; rfl)
    | (obtain ⟨_, _, _, _, _, _, _, _, _, _, _, _, _, _, _, _, rfl, _⟩ := h; rfl)
    | (obtain ⟨_, _, _, _, _, _, _, _, _, _, _, _, _, _, _, _, _, rfl, _⟩ := h; rfl)
    | (obtain ⟨_, _, _, _, _, _, _, _, _, _, _, _, _, _, _, _, _, _, rfl, _⟩ := h; rfl)
    | (obtain ⟨_, _, _, _, _, _, _, _, _, _, _, _, _, _, _, _, _, _, _, rfl, _⟩ := h; rfl)
    | (obtain ⟨_, _, _, _, _, _, _, _, _, _, _, _, _, _, _, _, _, _, _, _, rfl, _⟩ := h; rfl)
    | (obtain ⟨_, _, _, _, _, _, _, _, _, _, _, _, _, _, _, _, _, _, _, _, _, rfl, _⟩ := h; rfl)
    | (obtain ⟨_, _, _, _, _, _, _, _, _, _, _, _, _, _, _, _, _, _, _, _, _, _, rfl, _⟩ := h; rfl)
    | (obtain ⟨_, _, _, _, _, _, _, _, _, _, _, _, _, _, _, _, _, _, _, _, _, _, _, rfl, _⟩ := h; rfl)
  · unfold rd_l_due
    exact (pss_cons (ps_set (i := 2) sc_l_due.nd rfl (Or.inl rfl) (pe_lst pa_nil)) (pss_cons (ps_for PassesOwn.never rfl (pi_range1 (by rfl) T.b_range (pa_cons (pe_callB c_len (by rfl) T.b_len (by decide +kernel) (pa_cons (pv 0) pa_nil)) pa_nil)) (pg_name (i := 3) sc_l_due.nd rfl (by first | exact .inl rfl | exact .inr rfl)) (pss_one (ps_for PassesOwn.never rfl (pi_range1 (by rfl) T.b_range (pa_cons (pv 3) pa_nil)) (pg_name (i := 4) sc_l_due.nd rfl (by first | exact .inl rfl | exact .inr rfl)) (pss_one (ps_if (PW.pt (pw_or (pt_not (pt_val (pv 1))) (pw_or1 (pt_cmpR (op_eqF hr.units) (pe_op op_addF (pv 4) pe_int) (pv 3) (nomark _))))) (pss_one (ps_expr (pe_imp (pe_bm PySem.F.plainAttrs_list PySem.F.slot_list_append PySem.F.type_list_append m_append (pv 2) (pa_cons (pe_tup (pa_cons (pe_callB (c_minS rfl) (by rfl) T.b_min (by decide +kernel) (pa_cons (pe_ix ix_F (pv 0) (pv 3) (fun _ _ => rfl)) (pa_cons (pe_ix ix_F (pv 0) (pv 4) (fun _ _ => rfl)) pa_nil))) (pa_cons (pe_callB (c_maxS rfl) (by rfl) T.b_max (by decide +kernel) (pa_cons (pe_ix ix_F (pv 0) (pv 3) (fun _ _ => rfl)) (pa_cons (pe_ix ix_F (pv 0) (pv 4) (fun _ _ => rfl)) pa_nil))) pa_nil))) pa_nil)) bm_var))) pss_nil))))) (pss_one (ps_ret (pe_callB (c_sortDt hr.units) (by rfl) T.b_sorted (by decide +kernel) (pa_cons (pv 2) pa_nil))))))
theorem ok_l_holds (T : Txt K mg C) : FnOk P w K mg base CX0 9 T.d_l_holds.f T.d_l_holds.fd [("web" : Str), ("places" : Str), ("ways_due" : Str)] (sp_l_holds K C) := by
  have G_Web_contains := ok_Web_contains (P := P) (w := w) (mg := mg) (base := base) T
  have G_Web_eq := ok_Web_eq (P := P) (w := w) (mg := mg) (base := base) T
  have G_Web_init := ok_Web_init (P := P) (w := w) (mg := mg) (base := base) T
  have G_Web_iter := ok_Web_iter (P := P) (w := w) (mg := mg) (base := base) T
  have G_Web_joins := ok_Web_joins (P := P) (w := w) (mg := mg) (base := base) T
  have G_Web_near := ok_Web_near (P := P) (w := w) (mg := mg) (base := base) T
  have G_Web_towns := ok_Web_towns (P := P) (w := w) (mg := mg) (base := base) T
  have G_Web_ways := ok_Web_ways (P := P) (w := w) (mg := mg) (base := base) T
  have G_l_joined := ok_l_joined (P := P) (w := w) (mg := mg) (base := base) T
  have G_l_same := ok_l_same (P := P) (w := w) (mg := mg) (base := base) T
  refine T.d_l_holds.fn.ok sc_l_holds (fun vs H Q E h => ?_) (fun cdv A outer s H vs Q E hr h => ⟨rd_l_holds K C E, ?_, pure_l_holds vs H Q E h⟩)
  · first
    | (obtain ⟨_, rfl, _⟩ := h; rfl)
    | (obtain ⟨_, _, rfl, _⟩ := h; rfl)
    | (obtain ⟨_, _, _, rfl, _⟩ := h; rfl)
    | (obtain ⟨_, _, _, _, rfl, _⟩ := h; rfl)
    | (obtain ⟨_, _, _, _, _, rfl, _⟩ := h; rfl)
    | (obtain ⟨_, _, _, _, _, _, rfl, _⟩ := h; rfl)
    | (obtain ⟨_, _, _, _, _, _, _, rfl, _⟩ := h; rfl)
    | (obtain ⟨_, _, _, _, _, _, _, _, rfl, _⟩ := h; rfl)
    | (obtain ⟨_, _, _, _, _, _, _, _, _, rfl, _⟩ := h; rfl)
    | (obtain ⟨_, _, _, _, _, _, _, _, _, _, rfl, _⟩ := h; rfl)
    | (obtain ⟨_, _, _, _, _, _, _, _, _, _, _, rfl, _⟩ := h; rfl)
    | (obtain ⟨_, _, _, _, _, _, _, _, _, _, _, _, rfl, _⟩ := h; rfl)
    | (obtain ⟨_, _, _, _, _, _, _, _, _, _, _, _, _, rfl, _⟩ := h; rfl)
    | (obtain ⟨_, _, _, _, _, _, _, _, _, _, _, _, _, _, rfl, _⟩ := h; rfl)
    | (obtain ⟨_, _, _, _, _, _, _, _, _, _, _, _, _, _, _, rfl, _⟩ := h; rfl)
    | (obtain ⟨_, _, _, _, _, _, _, _, _, _, _, _, _, _, _, _, rfl, _⟩ := h; rfl)
    | (obtain ⟨_, _, _, _, _, _, _, _, _, _, _, _, _, _, _, _, _, rfl, _⟩ := h; rfl)
    | (obtain ⟨_, _, _, _, _, _, _, _, _, _, _, _, _, _, _, _, _, _, rfl, _⟩ := h; rfl)
    | (obtain ⟨_, _, _, _, _, _, _, _, _, _, _, _, _, _, _, _, _, _, _, rfl, _⟩ := h; rfl)
    | (obtain ⟨_, _, _, _, _, _, _, _, _, _, _, _, _, _, _, _, _, _, _, _, rfl, _⟩ := h; rfl)
    | (obtain ⟨_, _, _, _, _, _, _, _, _, _, _, _, _, _, _, _, _, _, _, _, _, rfl, _⟩ := h; rfl)
    | (obtain ⟨_, _, _, _, _, _, _, _, _, _, _, _, _, _, _, _, _, _, _, _, _, _, rfl, _⟩ := h; rfl)
    | (obtain ⟨_, _, _, _, _, _, _, _, _, _, _, _, _, _, _, _, _, _, _, _, _, _, _, rfl, _⟩ := h; rfl)
  · unfold rd_l_holds
    exact (pss_cons (ps_set (i := 3) sc_l_holds.nd rfl (Or.inl rfl) (pe_callB (c_sortDq hr.units) (by rfl) T.b_sorted (by decide +kernel) (pa_cons (pv 1) pa_nil))) (pss_cons (ps_if (pt_not (pt_val (pe_callS G_l_same (hr.mono (by decide)) (by rfl) T.d_l_same.mg T.d_l_same.fn.kp T.d_l_same.bi pass0S (pa_cons (pe_lst (pa_cons (pe_prop (pv 0) T.o_Web.cl T.d_Web_towns.pr G_Web_towns (hr.mono (by decide)) T.d_Web_towns.bi .nil passP rfl) (pa_cons (pe_prop (pv 0) T.o_Web.cl T.d_Web_ways.pr G_Web_ways (hr.mono (by decide)) T.d_Web_ways.bi .nil passP rfl) (pa_cons (pe_lock (pe_callTy (call_listW rfl (T.o_Web.iter T.d_Web_iter) G_Web_iter T.d_Web_iter.bi (hr.mono (by decide))) (by rfl) T.b_list (by decide +kernel) (pa_cons (pv 0) pa_nil))) pa_nil)))) (pa_cons (pe_lst (pa_cons (pe_callTy c_tuple (by rfl) T.b_tuple (by decide +kernel) (pa_cons (pv 3) pa_nil)) (pa_cons (pe_callTy c_tuple (by rfl) T.b_tuple (by decide +kernel) (pa_cons (pv 2) pa_nil)) (pa_cons (pv 3) pa_nil)))) pa_nil))))) (pss_one (ps_ret pe_bl)) pss_nil) (pss_cons (ps_for PassesOwn.never rfl (pi_list (pv 3)) (pg_name (i := 4) sc_l_holds.nd rfl (by first | exact .inl rfl | exact .inr rfl)) (pss_cons (ps_set (i := 5) sc_l_holds.nd rfl (Or.inr rfl) (pe_lc (own := [(("there" : Str), 6)]) (g := (gName 6)) rfl sc_l_holds.nd (pi_list (pv 3)) (blkOk_by (own := [(("there" : Str), 6)]) (N := sN_l_holds) (sc := defScope s_l_holds) (by decide +kernel)) (fun _ _ _ _ _ => (pg_name (i := 6) sc_l_holds.nd rfl (by first | exact .inl rfl | exact .inr rfl))) (fun _ _ _ _ _ => (pts_one (pt_val (pe_callS G_l_joined (hr.mono (by decide)) (by rfl) T.d_l_joined.mg T.d_l_joined.fn.kp T.d_l_joined.bi pass0S (pa_cons (pv 2) (pa_cons (pv 4) (pa_cons (pv 6) pa_nil))))))) (fun _ _ _ _ _ => (pv 6)))) (pss_cons (ps_if (PW.pt (pw_or (pt_not (pt_val (pe_callS G_l_same (hr.mono (by decide)) (by rfl) T.d_l_same.mg T.d_l_same.fn.kp T.d_l_same.bi pass0S (pa_cons (pe_methS (pv 0) T.o_Web.cl T.d_Web_near.meth G_Web_near (hr.mono (by decide)) T.d_Web_near.bi (fun σ => pass_no) (pa_cons (pv 4) pa_nil)) (pa_cons (pe_callTy c_tuple (by rfl) T.b_tuple (by decide +kernel) (pa_cons (pv 5) pa_nil)) pa_nil))))) (pw_or1 (pt_cmpR (op_notInW T.d_Web_contains.op G_Web_contains (hr.mono (by decide)) T.d_Web_contains.bi) (pv 4) (pv 0) (by rfl))))) (pss_one (ps_ret pe_bl)) pss_nil) (pss_one (ps_if (pt_not (pt_val (pe_callS G_l_same (hr.mono (by decide)) (by rfl) T.d_l_same.mg T.d_l_same.fn.kp T.d_l_same.bi pass0S (pa_cons (pe_lc (own := [(("there" : Str), 6)]) (g := (gName 6)) rfl sc_l_holds.nd (pi_list (pv 3)) (blkOk_by (own := [(("there" : Str), 6)]) (N := sN_l_holds) (sc := defScope s_l_holds) (by decide +kernel)) (fun _ _ _ _ _ => (pg_name (i := 6) sc_l_holds.nd rfl (by first | exact .inl rfl | exact .inr rfl))) (fun _ _ _ _ _ => pts_nil) (fun _ _ _ _ _ => (pe_methS (pv 0) T.o_Web.cl T.d_Web_joins.meth G_Web_joins (hr.mono (by decide)) T.d_Web_joins.bi (fun σ => pass_no) (pa_cons (pv 4) (pa_cons (pv 6) pa_nil))))) (pa_cons (pe_lc (own := [(("there" : Str), 6)]) (g := (gName 6)) rfl sc_l_holds.nd (pi_list (pv 3)) (blkOk_by (own := [(("there" : Str), 6)]) (N := sN_l_holds) (sc := defScope s_l_holds) (by decide +kernel)) (fun _ _ _ _ _ => (pg_name (i := 6) sc_l_holds.nd rfl (by first | exact .inl rfl | exact .inr rfl))) (fun _ _ _ _ _ => pts_nil) (fun _ _ _ _ _ => (pe_cmpR op_inF (pv 6) (pv 5) (by rfl)))) pa_nil))))) (pss_one (ps_ret pe_bl)) pss_nil))))) (pss_one (ps_ret (pe_cmpR (op_eqW T.d_Web_eq.op G_Web_eq (hr.mono (by decide)) T.d_Web_eq.bi) (pv 0) (pe_makeS T.d_Web_init.made G_Web_init (hr.mono (by decide)) (by rfl) T.g_Web T.d_Web_init.bi .nil (fun σ => pass_no) (pa_cons (pe_callTy c_list (by rfl) T.b_list (by decide +kernel) (pa_cons (pv 1) pa_nil)) (pa_cons (pe_callTy c_list (by rfl) T.b_list (by decide +kernel) (pa_cons (pv 2) pa_nil)) pa_nil))) (nomark _)))))))
theorem ok_l_refused (T : Txt K mg C) : FnOk P w K mg base CX0 10 T.d_l_refused.f T.d_l_refused.fd [("places" : Str), ("due" : Str)] (sp_l_refused K C) := by
  have G_l_heard := ok_l_heard (P := P) (w := w) (mg := mg) (base := base) T
  have G_l_same := ok_l_same (P := P) (w := w) (mg := mg) (base := base) T
  refine T.d_l_refused.fn.ok sc_l_refused (fun vs H Q E h => ?_) (fun cdv A outer s H vs Q E hr h => ⟨rd_l_refused K C E, ?_, pure_l_refused vs H Q E h⟩)
  · first
    | (obtain ⟨_, rfl, _⟩ := h; rfl)
    | (obtain ⟨_, _, rfl, _⟩ := h; rfl)
    | (obtain ⟨_, _, _, rfl, _⟩ := h; rfl)
    | (obtain ⟨_, _, _, _, rfl, _⟩ := h; rfl)
    | (obtain ⟨_, _, _, _, _, rfl, _⟩ := h; rfl)
    | (obtain ⟨_, _, _, _, _, _, rfl, _⟩ := h; rfl)
    | (obtain ⟨_, _, _, _, _, _, _, rfl, _⟩ := h; rfl)
    | (obtain ⟨_, _, _, _, _, _, _, _, rfl, _⟩ := h; rfl)
    | (obtain ⟨_, _, _, _, _, _, _, _, _, rfl, _⟩ := h; rfl)
    | (obtain ⟨_, _, _, _, _, _, _, _, _, _, rfl, _⟩ := h; rfl)
    | (obtain ⟨_, _, _, _, _, _, _, _, _, _, _, rfl, _⟩ := h; rfl)
    | (obtain ⟨_, _, _, _, _, _, _, _, _, _, _, _, rfl, _⟩ := h; rfl)
    | (obtain ⟨_, _, _, _, _, _, _, _, _, _, _, _, _, rfl, _⟩ := h; rfl)
    | (obtain ⟨_, _, _, _, _, _, _, _, _, _, _, _, _, _, rfl, _⟩ := h; rfl)
    | (obtain ⟨_, _, _, _, _, _, _, _, _, _, _, _, _, _, _, rfl, _⟩ := h; rfl)
    | (obtain ⟨_, _, _, _, _, _, _, _, _, _, _, _, _, _, _, _, rfl, _⟩ := h; rfl)
    | (obtain ⟨_, _, _, _, _, _, _, _, _, _, _, _, _, _, _, _, _, rfl, _⟩ := h; rfl)
    | (obtain ⟨_, _, _, _, _, _, _, _, _, _, _, _, _, _, _, _, _, _, rfl, _⟩ := h; rfl)
    | (obtain ⟨_, _, _, _, _, _, _, _, _, _, _, _, _, _, _, _, _, _, _, rfl, _⟩ := h; rfl)
    | (obtain ⟨_, _, _, _, _, _, _, _, _, _, _, _, _, _, _, _, _, _, _, _, rfl, _⟩ := h; rfl)
    | (obtain ⟨_, _, _, _, _, _, _, _, _, _, _, _, _, _, _, _, _, _, _, _, _, rfl, _⟩ := h; rfl)
    | (obtain ⟨_, _, _, _, _, _, _, _, _, _, _, _, _, _, _, _, _, _, _, _, _, _, rfl, _⟩ := h; rfl)
    | (obtain ⟨_, _, _, _, _, _, _, _, _, _, _, _, _, _, _, _, _, _, _, _, _, _, _, rfl, _⟩ := h; rfl)
  · unfold rd_l_refused
    exact (pss_one (ps_ret (pe_callS G_l_same (hr.mono (by decide)) (by rfl) T.d_l_same.mg T.d_l_same.fn.kp T.d_l_same.bi pass0S (pa_cons (pe_lst (pa_cons (pe_callS G_l_heard (hr.mono (by decide)) (by rfl) T.d_l_heard.mg T.d_l_heard.fn.kp T.d_l_heard.bi pass0S (pa_cons (pv 0) (pa_cons pe_bl pa_nil))) (pa_cons (pe_callS G_l_heard (hr.mono (by decide)) (by rfl) T.d_l_heard.mg T.d_l_heard.fn.kp T.d_l_heard.bi pass0S (pa_cons (pv 0) (pa_cons pe_bl pa_nil))) pa_nil))) (pa_cons (pe_lst (pa_cons (pv 1) (pa_cons (pv 1) pa_nil))) pa_nil)))))
theorem ok_l_doubled (T : Txt K mg C) : FnOk P w K mg base CX0 5 T.d_l_doubled.f T.d_l_doubled.fd [("store" : Str), ("places" : Str)] (sp_l_doubled K C) := by
  have G_l_pick := ok_l_pick (P := P) (w := w) (mg := mg) (base := base) T
  have G_l_take := ok_l_take (P := P) (w := w) (mg := mg) (base := base) T
  refine T.d_l_doubled.fn.ok sc_l_doubled (fun vs H Q E h => ?_) (fun cdv A outer s H vs Q E hr h => ⟨rd_l_doubled K C E, ?_, pure_l_doubled vs H Q E h⟩)
  · first
    | (obtain ⟨_, rfl, _⟩ := h; rfl)
    | (obtain ⟨_, _, rfl, _⟩ := h; rfl)
    | (obtain ⟨_, _, _, rfl, _⟩ := h; rfl)
    | (obtain ⟨_, _, _, _, rfl, _⟩ := h; rfl)
    | (obtain ⟨_, _, _, _, _, rfl, _⟩ := h; rfl)
    | (obtain ⟨_, _, _, _, _, _, rfl, _⟩ := h; rfl)
    | (obtain ⟨_, _, _, _, _, _, _, rfl, _⟩ := h; rfl)
    | (obtain ⟨_, _, _, _, _, _, _, _, rfl, _⟩ := h; rfl)
    | (obtain ⟨_, _, _, _, _, _, _, _, _, rfl, _⟩ := h; rfl)
    | (obtain ⟨_, _, _, _, _, _, _, _, _, _, rfl, _⟩ := h; rfl)
    | (obtain ⟨_, _, _, _, _, _, _, _, _, _, _, rfl, _⟩ := h; rfl)
    | (obtain ⟨_, _, _, _, _, _, _, _, _, _, _, _, rfl, _⟩ := h; rfl)
    | (obtain ⟨_, _, _, _, _, _, _, _, _, _, _, _, _, rfl, _⟩ := h; rfl)
    | (obtain ⟨_, _, _, _, _, _, _, _, _, _, _, _, _, _, rfl, _⟩ := h; rfl)
    | (obtain ⟨_, _, _, _, _, _, _, _, _, _, _, _, _, _, _, rfl, _⟩ := h; rfl)
    | (obtain ⟨_, _, _, _, _, _, _, _, _, _, _, _, _, _, _, _, rfl, _⟩ := h; rfl)
    | (obtain ⟨_, _, _, _, _, _, _, _, _, _, _, _, _, _, _, _, _, rfl, _⟩ := h; rfl)
    | (obtain ⟨_, _, _, _, _, _, _, _, _, _, _, _, _, _, _, _, _, _, rfl, _⟩ := h; rfl)
    | (obtain ⟨_, _, _, _, _, _, _, _, _, _, _, _, _, _, _, _, _, _, _, rfl, _⟩ := h; rfl)
    | (obtain ⟨_, _, _, _, _, _, _, _, _, _, _, _, _, _, _, _, _, _, _, _, rfl, _⟩ := h; rfl)
    | (obtain ⟨_, _, _, _, _, _, _, _, _, _, _, _, _, _, _, _, _, _, _, _, _, rfl, _⟩ := h; rfl)
    | (obtain ⟨_, _, _, _, _, _, _, _, _, _, _, _, _, _, _, _, _, _, _, _, _, _, rfl, _⟩ := h; rfl)
    | (obtain ⟨_, _, _, _, _, _, _, _, _, _, _, _, _, _, _, _, _, _, _, _, _, _, _, rfl, _⟩ := h; rfl)
  · unfold rd_l_doubled
    exact (pss_cons (ps_set (i := 2) sc_l_doubled.nd rfl (Or.inl rfl) (pe_slice sl_F2 (pv 1) po_none (po_some pe_int))) (pss_cons (ps_for PassesOwn.never rfl (pi_range1 (by rfl) T.b_range (pa_cons (pe_op op_addF pe_int (pe_op op_divF (pe_callS G_l_take (hr.mono (by decide)) (by rfl) T.d_l_take.mg T.d_l_take.fn.kp T.d_l_take.bi pass0S (pa_cons (pv 0) (pa_cons pe_int pa_nil))) pe_int)) pa_nil)) (pg_name (i := 3) sc_l_doubled.nd rfl (by first | exact .inl rfl | exact .inr rfl)) (pss_one (ps_if (pt_cmpR op_ltF (pe_callB c_len (by rfl) T.b_len (by decide +kernel) (pa_cons (pv 2) pa_nil)) pe_int (nomark _)) (pss_one (ps_expr (pe_imp (pe_bm PySem.F.plainAttrs_list PySem.F.slot_list_insert PySem.F.type_list_insert m_insert (pv 2) (pa_cons (pe_callS G_l_take (hr.mono (by decide)) (by rfl) T.d_l_take.mg T.d_l_take.fn.kp T.d_l_take.bi pass0S (pa_cons (pv 0) (pa_cons (pe_op op_addF (pe_callB c_len (by rfl) T.b_len (by decide +kernel) (pa_cons (pv 2) pa_nil)) pe_int) pa_nil))) (pa_cons (pe_callS G_l_pick (hr.mono (by decide)) (by rfl) T.d_l_pick.mg T.d_l_pick.fn.kp T.d_l_pick.bi pass0S (pa_cons (pv 0) (pa_cons (pv 2) pa_nil))) pa_nil))) bm_var))) pss_nil))) (pss_cons (ps_for PassesOwn.never rfl (pi_range1 (by rfl) T.b_range (pa_cons (pe_callB c_len (by rfl) T.b_len (by decide +kernel) (pa_cons (pv 2) pa_nil)) pa_nil)) (pg_name (i := 3) sc_l_doubled.nd rfl (by first | exact .inl rfl | exact .inr rfl)) (pss_one (ps_if (pt_cmpR op_inF (pe_ix ix_F (pv 2) (pv 3) (fun _ _ => rfl)) (pe_slice sl_F2 (pv 2) po_none (po_some (pv 3))) (by rfl)) (pss_one (ps_ret (pe_lst (pa_cons (pv 2) (pa_cons (pe_ix ix_F (pv 2) (pv 3) (fun _ _ => rfl)) pa_nil))))) pss_nil))) (pss_one (ps_ret (pe_lst (pa_cons (pv 2) (pa_cons pe_non pa_nil))))))))
theorem ok_law (T : Txt K mg C) : FnOk P w K mg base CX0 11 T.d_law.f T.d_law.fd [("script" : Str)] (sp_law K C) := by
  have G_Web_eq := ok_Web_eq (P := P) (w := w) (mg := mg) (base := base) T
  have G_l_doubled := ok_l_doubled (P := P) (w := w) (mg := mg) (base := base) T
  have G_l_due := ok_l_due (P := P) (w := w) (mg := mg) (base := base) T
  have G_l_heard := ok_l_heard (P := P) (w := w) (mg := mg) (base := base) T
  have G_l_holds := ok_l_holds (P := P) (w := w) (mg := mg) (base := base) T
  have G_l_names := ok_l_names (P := P) (w := w) (mg := mg) (base := base) T
  have G_l_no_name := ok_l_no_name (P := P) (w := w) (mg := mg) (base := base) T
  have G_l_refused := ok_l_refused (P := P) (w := w) (mg := mg) (base := base) T
  have G_l_same := ok_l_same (P := P) (w := w) (mg := mg) (base := base) T
  have G_l_store := ok_l_store (P := P) (w := w) (mg := mg) (base := base) T
  have G_l_take := ok_l_take (P := P) (w := w) (mg := mg) (base := base) T
  refine T.d_law.fn.ok sc_law (fun vs H Q E h => ?_) (fun cdv A outer s H vs Q E hr h => ⟨rd_law K C E, ?_, pure_law vs H Q E h⟩)
  · first
    | (obtain ⟨_, rfl, _⟩ := h; rfl)
    | (obtain ⟨_, _, rfl, _⟩ := h; rfl)
    | (obtain ⟨_, _, _, rfl, _⟩ := h; rfl)
    | (obtain ⟨_, _, _, _, rfl, _⟩ := h; rfl)
    | (obtain ⟨_, _, _, _, _, rfl, _⟩ := h; rfl)
    | (obtain ⟨_, _, _, _, _, _, rfl, _⟩ := h; rfl)
    | (obtain ⟨_, _, _, _, _, _, _, rfl, _⟩ := h; rfl)
    | (obtain ⟨_, _, _, _, _, _, _, _, rfl, _⟩ := h; rfl)
    | (obtain ⟨_, _, _, _, _, _, _, _, _, rfl, _⟩ := h; rfl)
    | (obtain ⟨_, _, _, _, _, _, _, _, _, _, rfl, _⟩ := h; rfl)
    | (obtain ⟨_, _, _, _, _, _, _, _, _, _, _, rfl, _⟩ := h; rfl)
    | (obtain ⟨_, _, _, _, _, _, _, _, _, _, _, _, rfl, _⟩ := h; rfl)
    | (obtain ⟨_, _, _, _, _, _, _, _, _, _, _, _, _, rfl, _⟩ := h; rfl)
    | (obtain ⟨_, _, _, _, _, _, _, _, _, _, _, _, _, _, rfl, _⟩ := h; rfl)
    | (obtain ⟨_, _, _, _, _, _, _, _, _, _, _, _, _, _, _, rfl, _⟩ := h; rfl)
    | (obtain ⟨_, _, _, _, _, _, _, _, _, _, _, _, _, _, _, _, rfl, _⟩ := h; rfl)
    | (obtain ⟨_, _, _, _, _, _, _, _, _, _, _, _, _, _, _, _, _, rfl, _⟩ := h; rfl)
    | (obtain ⟨_, _, _, _, _, _, _, _, _, _, _, _, _, _, _, _, _, _, rfl, _⟩ := h; rfl)
    | (obtain ⟨_, _, _, _, _, _, _, _, _, _, _, _, _, _, _, _, _, _, _, rfl, _⟩ := h; rfl)
    | (obtain ⟨_, _, _, _, _, _, _, _, _, _, _, _, _, _, _, _, _, _, _, _, rfl, _⟩ := h; rfl)
    | (obtain ⟨_, _, _, _, _, _, _, _, _, _, _, _, _, _, _, _, _, _, _, _, _, rfl, _⟩ := h; rfl)
    | (obtain ⟨_, _, _, _, _, _, _, _, _, _, _, _, _, _, _, _, _, _, _, _, _, _, rfl, _⟩ := h; rfl)
    | (obtain ⟨_, _, _, _, _, _, _, _, _, _, _, _, _, _, _, _, _, _, _, _, _, _, _, rfl, _⟩ := h; rfl)
  · unfold rd_law
    exact (pss_cons (ps_set (i := 1) sc_law.nd rfl (Or.inl rfl) (pe_callS G_l_store (hr.mono (by decide)) (by rfl) T.d_l_store.mg T.d_l_store.fn.kp T.d_l_store.bi pass0S (pa_cons (pv 0) pa_nil))) (pss_cons (ps_set (i := 2) sc_law.nd rfl (Or.inr rfl) (pe_callS G_l_names (hr.mono (by decide)) (by rfl) T.d_l_names.mg T.d_l_names.fn.kp T.d_l_names.bi pass0S (pa_cons (pv 1) (pa_cons (pe_ix ix_F (pe_lst (pa_cons pe_int (pa_cons pe_int (pa_cons pe_int (pa_cons pe_int (pa_cons (pe_op op_addF pe_int (pe_callS G_l_take (hr.mono (by decide)) (by rfl) T.d_l_take.mg T.d_l_take.fn.kp T.d_l_take.bi pass0S (pa_cons (pv 1) (pa_cons pe_int pa_nil)))) (pa_cons pe_int pa_nil))))))) (pe_callS G_l_take (hr.mono (by decide)) (by rfl) T.d_l_take.mg T.d_l_take.fn.kp T.d_l_take.bi pass0S (pa_cons (pv 1) (pa_cons pe_int pa_nil))) (fun _ _ => rfl)) pa_nil)))) (pss_cons (ps_set (i := 3) sc_law.nd rfl (Or.inl rfl) (pe_lst pa_nil)) (pss_cons (ps_for PassesOwn.never rfl (pi_list (pe_lst (pa_cons pe_bl (pa_cons pe_bl pa_nil)))) (pg_name (i := 4) sc_law.nd rfl (by first | exact .inl rfl | exact .inr rfl)) (pss_cons (ps_set (i := 5) sc_law.nd rfl (Or.inl rfl) (pe_callTy c_list (by rfl) T.b_list (by decide +kernel) (pa_cons (pv 2) pa_nil))) (pss_cons (ps_set (i := 6) sc_law.nd rfl (Or.inl rfl) (pe_callS G_l_heard (hr.mono (by decide)) (by rfl) T.d_l_heard.mg T.d_l_heard.fn.kp T.d_l_heard.bi pass0S (pa_cons (pv 5) (pa_cons (pv 4) pa_nil)))) (pss_cons (ps_if (PW.pt (pw_or (pt_cmpR (op_neF hr.units) (pe_ix ix_F (pv 6) pe_int (fun _ _ => rfl)) pe_str (nomark _)) (pw_or1 (pt_not (pt_val (pe_callS G_l_same (hr.mono (by decide)) (by rfl) T.d_l_same.mg T.d_l_same.fn.kp T.d_l_same.bi pass0S (pa_cons (pv 5) (pa_cons (pv 2) pa_nil)))))))) (pss_one (ps_ret pe_bl)) pss_nil) (pss_cons (ps_expr (pe_imp (pe_bm PySem.F.plainAttrs_list PySem.F.slot_list_append PySem.F.type_list_append m_append (pv 3) (pa_cons (pe_ix ix_F (pv 6) pe_int (fun _ _ => rfl)) pa_nil)) bm_var)) (pss_cons (ps_expr (pe_imp (pe_bm PySem.F.plainAttrs_list PySem.F.slot_list_append PySem.F.type_list_append m_append (pv 5) (pa_cons pe_str pa_nil)) bm_var)) (pss_cons (ps_expr (pe_imp (pe_bm0 PySem.F.plainAttrs_list PySem.F.slot_list_reverse PySem.F.type_list_reverse m_reverse (pv 5)) bm0_var)) (pss_cons (ps_set (i := 6) sc_law.nd rfl (Or.inl rfl) (pe_callS G_l_heard (hr.mono (by decide)) (by rfl) T.d_l_heard.mg T.d_l_heard.fn.kp T.d_l_heard.bi pass0S (pa_cons (pe_callTy c_tuple (by rfl) T.b_tuple (by decide +kernel) (pa_cons (pv 2) pa_nil)) (pa_cons (pv 4) pa_nil)))) (pss_one (ps_if (PW.pt (pw_or (pt_cmpR (op_neF hr.units) (pe_ix ix_F (pv 6) pe_int (fun _ _ => rfl)) pe_str (nomark _)) (pw_or1 (pt_not (pt_val (pe_callS G_l_holds (hr.mono (by decide)) (by rfl) T.d_l_holds.mg T.d_l_holds.fn.kp T.d_l_holds.bi pass0S (pa_cons (pe_ix ix_F (pv 6) pe_int (fun _ _ => rfl)) (pa_cons (pv 2) (pa_cons (pe_callS G_l_due (hr.mono (by decide)) (by rfl) T.d_l_due.mg T.d_l_due.fn.kp T.d_l_due.bi pass0S (pa_cons (pv 2) (pa_cons (pv 4) pa_nil))) pa_nil))))))))) (pss_one (ps_ret pe_bl)) pss_nil)))))))))) (pss_cons (ps_set (i := 8) sc_law.nd rfl (Or.inl rfl) (pe_callS G_l_heard (hr.mono (by decide)) (by rfl) T.d_l_heard.mg T.d_l_heard.fn.kp T.d_l_heard.bi pass0S (pa_cons (pe_lc (own := [(("k" : Str), 7)]) (g := (gName 7)) rfl sc_law.nd (pi_range1 (by rfl) T.b_range (pa_cons (pe_callB c_len (by rfl) T.b_len (by decide +kernel) (pa_cons (pv 2) pa_nil)) pa_nil)) (blkOk_by (own := [(("k" : Str), 7)]) (N := sN_law) (sc := defScope s_law) (by decide +kernel)) (fun _ _ _ _ _ => (pg_name (i := 7) sc_law.nd rfl (by first | exact .inl rfl | exact .inr rfl))) (fun _ _ _ _ _ => pts_nil) (fun _ _ _ _ _ => (pe_ix ix_F (pv 2) (pe_op op_subF (pe_op op_subF (pe_callB c_len (by rfl) T.b_len (by decide +kernel) (pa_cons (pv 2) pa_nil)) pe_int) (pv 7)) (fun _ _ => rfl)))) (pa_cons pe_bl pa_nil)))) (pss_cons (ps_if (PW.pt (pw_or (pt_cmpR (op_neF hr.units) (pe_ix ix_F (pv 8) pe_int (fun _ _ => rfl)) pe_str (nomark _)) (pw_or1 (pt_not (pt_val (pe_callS G_l_holds (hr.mono (by decide)) (by rfl) T.d_l_holds.mg T.d_l_holds.fn.kp T.d_l_holds.bi pass0S (pa_cons (pe_ix ix_F (pv 8) pe_int (fun _ _ => rfl)) (pa_cons (pv 2) (pa_cons (pe_callS G_l_due (hr.mono (by decide)) (by rfl) T.d_l_due.mg T.d_l_due.fn.kp T.d_l_due.bi pass0S (pa_cons (pv 2) (pa_cons pe_bl pa_nil))) pa_nil))))))))) (pss_one (ps_ret pe_bl)) pss_nil) (pss_cons (ps_for PassesOwn.never rfl (pi_range1 (by rfl) T.b_range (pa_cons pe_int pa_nil)) (pg_name (i := 7) sc_law.nd rfl (by first | exact .inl rfl | exact .inr rfl)) (pss_one (ps_if (pt_not (pt_val (pe_callS G_l_holds (hr.mono (by decide)) (by rfl) T.d_l_holds.mg T.d_l_holds.fn.kp T.d_l_holds.bi pass0S (pa_cons (pe_ix ix_F (pv 3) (pv 7) (fun _ _ => rfl)) (pa_cons (pv 2) (pa_cons (pe_callS G_l_due (hr.mono (by decide)) (by rfl) T.d_l_due.mg T.d_l_due.fn.kp T.d_l_due.bi pass0S (pa_cons (pv 2) (pa_cons (pe_cmpR (op_eqF hr.units) (pv 7) pe_int (nomark _)) pa_nil))) pa_nil)))))) (pss_one (ps_ret pe_bl)) pss_nil))) (pss_cons (ps_set (i := 9) sc_law.nd rfl (Or.inl rfl) (pe_cmpR (op_eqW T.d_Web_eq.op G_Web_eq (hr.mono (by decide)) T.d_Web_eq.bi) (pe_ix ix_F (pv 3) pe_int (fun _ _ => rfl)) (pe_ix ix_F (pv 3) pe_int (fun _ _ => rfl)) (nomark _))) (pss_cons (ps_if (pt_not (pt_val (pe_callS G_l_same (hr.mono (by decide)) (by rfl) T.d_l_same.mg T.d_l_same.fn.kp T.d_l_same.bi pass0S (pa_cons (pe_lst (pa_cons (pv 9) (pa_cons (pe_cmpR (op_eqW T.d_Web_eq.op G_Web_eq (hr.mono (by decide)) T.d_Web_eq.bi) (pe_ix ix_F (pv 3) pe_int (fun _ _ => rfl)) (pe_ix ix_F (pv 8) pe_int (fun _ _ => rfl)) (nomark _)) pa_nil))) (pa_cons (pe_lst (pa_cons (pe_cmpR op_ltF (pe_callB c_len (by rfl) T.b_len (by decide +kernel) (pa_cons (pv 2) pa_nil)) pe_int (nomark _)) (pa_cons pe_bl pa_nil))) pa_nil))))) (pss_one (ps_ret pe_bl)) pss_nil) (pss_cons (ps_set (i := 10) sc_law.nd rfl (Or.inl rfl) (pe_callS G_l_doubled (hr.mono (by decide)) (by rfl) T.d_l_doubled.mg T.d_l_doubled.fn.kp T.d_l_doubled.bi pass0S (pa_cons (pv 1) (pa_cons (pv 2) pa_nil)))) (pss_cons (ps_if (pt_not (pt_val (pe_callS G_l_refused (hr.mono (by decide)) (by rfl) T.d_l_refused.mg T.d_l_refused.fn.kp T.d_l_refused.bi pass0S (pa_cons (pe_callTy c_list (by rfl) T.b_list (by decide +kernel) (pa_cons (pe_ix ix_F (pv 10) pe_int (fun _ _ => rfl)) pa_nil)) (pa_cons (pe_lst (pa_cons pe_str (pa_cons (pe_ix ix_F (pv 10) pe_int (fun _ _ => rfl)) pa_nil))) pa_nil))))) (pss_one (ps_ret pe_bl)) pss_nil) (pss_cons (ps_if (pt_not (pt_val (pe_callS G_l_refused (hr.mono (by decide)) (by rfl) T.d_l_refused.mg T.d_l_refused.fn.kp T.d_l_refused.bi pass0S (pa_cons (pe_callTy c_tuple (by rfl) T.b_tuple (by decide +kernel) (pa_cons (pe_ix ix_F (pv 10) pe_int (fun _ _ => rfl)) pa_nil)) (pa_cons (pe_lst (pa_cons pe_str (pa_cons (pe_ix ix_F (pv 10) pe_int (fun _ _ => rfl)) pa_nil))) pa_nil))))) (pss_one (ps_ret pe_bl)) pss_nil) (pss_cons (ps_set (i := 11) sc_law.nd rfl (Or.inl rfl) (pe_callS G_l_take (hr.mono (by decide)) (by rfl) T.d_l_take.mg T.d_l_take.fn.kp T.d_l_take.bi pass0S (pa_cons (pv 1) (pa_cons (pe_op op_addF (pe_callB c_len (by rfl) T.b_len (by decide +kernel) (pa_cons (pe_ix ix_F (pv 10) pe_int (fun _ _ => rfl)) pa_nil)) pe_int) pa_nil)))) (pss_cons (ps_set (i := 12) sc_law.nd rfl (Or.inl rfl) (pe_op op_addF (pe_op op_addF (pe_slice sl_F2 (pe_ix ix_F (pv 10) pe_int (fun _ _ => rfl)) po_none (po_some (pv 11))) (pe_lst (pa_cons (pe_callS G_l_no_name (hr.mono (by decide)) (by rfl) T.d_l_no_name.mg T.d_l_no_name.fn.kp T.d_l_no_name.bi pass0S (pa_cons (pv 1) pa_nil)) pa_nil))) (pe_slice sl_F2 (pe_ix ix_F (pv 10) pe_int (fun _ _ => rfl)) (po_some (pv 11)) po_none))) (pss_cons (ps_for PassesOwn.never rfl (pi_list (pe_lst (pa_cons (pv 12) (pa_cons (pe_callTy c_tuple (by rfl) T.b_tuple (by decide +kernel) (pa_cons (pv 12) pa_nil)) (pa_cons (pe_op op_addF (pv 2) (pe_lc (own := [(("k" : Str), 7)]) (g := (gName 7)) rfl sc_law.nd (pi_range1 (by rfl) T.b_range (pa_cons (pe_op op_subF pe_int (pe_callB c_len (by rfl) T.b_len (by decide +kernel) (pa_cons (pv 2) pa_nil))) pa_nil)) (blkOk_by (own := [(("k" : Str), 7)]) (N := sN_law) (sc := defScope s_law) (by decide +kernel)) (fun _ _ _ _ _ => (pg_name (i := 7) sc_law.nd rfl (by first | exact .inl rfl | exact .inr rfl))) (fun _ _ _ _ _ => pts_nil) (fun _ _ _ _ _ => (pe_op op_addF pe_str (pe_callTy c_strI (by rfl) T.b_str (by decide +kernel) (pa_cons (pv 7) pa_nil)))))) (pa_cons (pe_op op_mulF (pe_lst (pa_cons (pe_ix ix_F (pv 2) pe_int (fun _ _ => rfl)) pa_nil)) pe_int) pa_nil)))))) (pg_name (i := 13) sc_law.nd rfl (by first | exact .inl rfl | exact .inr rfl)) (pss_one (ps_if (pt_not (pt_val (pe_callS G_l_refused (hr.mono (by decide)) (by rfl) T.d_l_refused.mg T.d_l_refused.fn.kp T.d_l_refused.bi pass0S (pa_cons (pv 13) (pa_cons (pe_lst (pa_cons pe_str (pa_cons pe_str pa_nil))) pa_nil))))) (pss_one (ps_ret pe_bl)) pss_nil))) (pss_one (ps_ret (pe_callS G_l_refused (hr.mono (by decide)) (by rfl) T.d_l_refused.mg T.d_l_refused.fn.kp T.d_l_refused.bi pass0S (pa_cons (pe_ix ix_F (pe_lst (pa_cons pe_non (pa_cons pe_str (pa_cons pe_str (pa_cons (pe_lst pa_nil) (pa_cons (pe_tup pa_nil) (pa_cons pe_dnewK (pa_cons pe_int (pa_cons pe_bl pa_nil))))))))) (pe_callS G_l_take (hr.mono (by decide)) (by rfl) T.d_l_take.mg T.d_l_take.fn.kp T.d_l_take.bi pass0S (pa_cons (pv 1) (pa_cons pe_int pa_nil))) (fun _ _ => rfl)) (pa_cons (pe_lst (pa_cons pe_str (pa_cons pe_str pa_nil))) pa_nil))))))))))))))))))))
end
end XB

/-! The end. -/
namespace XB
open PySem PySem.Spec PyProof.Rows L2
def sp_lawK (K : PySem.W.Frag) : Sp := fun vs H Q _ => ∃ (a : Addr) (ns : List Int), vs = [.ref a] ∧ SqL K H a (ns.map V.int) ∧ ns.length ≤ 63 ∧ ∀ H', Q (.bl true) H'
theorem all_mk {P : Program} {w : World} {K : PySem.W.Frag} {h : Heap} {mg : Str → Option Value} {fa : Addr} (X : K.In h) (G : h.Ns mainGlobals mg) (hfa : mg "law" = some (.ref fa))
    {q0 q1 q2 q3 q4 q5 : Addr}
    {f1 : Addr} {od1 an1 : Option Addr} {sl1 : Array (Option Value)} {oc1 kV1 dc1 pm1 cd1 ct1 : Value}
    {nm1 qn1 : Str} {N1 : Addr} {bs1 bm1 : List Value} {sn1 : List Str} {sub1 : List Value} {ab1 : Bool} {col1 : Option Bool} {dd1 : Option Addr} {m01 m11 m21 m31 m51 : Option Value}
    {f2 : Addr} {od2 an2 : Option Addr} {sl2 : Array (Option Value)} {oc2 kV2 dc2 pm2 cd2 ct2 : Value}
    {nm2 qn2 : Str} {N2 : Addr} {bs2 bm2 : List Value} {sn2 : List Str} {sub2 : List Value} {ab2 : Bool} {col2 : Option Bool} {dd2 : Option Addr} {m02 m12 m22 m32 m52 : Option Value}
    {f3 : Addr} {od3 an3 : Option Addr} {sl3 : Array (Option Value)} {oc3 kV3 dc3 pm3 cd3 ct3 : Value}
    {nm3 qn3 : Str} {N3 : Addr} {bs3 bm3 : List Value} {sn3 : List Str} {sub3 : List Value} {ab3 : Bool} {col3 : Option Bool} {dd3 : Option Addr} {m03 m13 m23 m33 m53 : Option Value}
    {f4 : Addr} {od4 an4 : Option Addr} {sl4 : Array (Option Value)} {oc4 kV4 dc4 pm4 cd4 ct4 : Value}
    {nm4 qn4 : Str} {N4 : Addr} {bs4 bm4 : List Value} {sn4 : List Str} {sub4 : List Value} {ab4 : Bool} {col4 : Option Bool} {dd4 : Option Addr} {m04 m14 m24 m34 m54 : Option Value}
    {f5 : Addr} {od5 an5 : Option Addr} {sl5 : Array (Option Value)} {oc5 kV5 dc5 pm5 cd5 ct5 : Value}
    {f6 : Addr} {od6 an6 : Option Addr} {sl6 : Array (Option Value)} {oc6 kV6 dc6 pm6 cd6 ct6 : Value}
    {f7 : Addr} {od7 an7 : Option Addr} {sl7 : Array (Option Value)} {oc7 kV7 dc7 pm7 cd7 ct7 : Value}
    {f8 : Addr} {od8 an8 : Option Addr} {sl8 : Array (Option Value)} {oc8 kV8 dc8 pm8 cd8 ct8 : Value}
    {f9 : Addr} {od9 an9 : Option Addr} {sl9 : Array (Option Value)} {oc9 kV9 dc9 pm9 cd9 ct9 : Value}
    {f10 : Addr} {od10 an10 : Option Addr} {sl10 : Array (Option Value)} {oc10 kV10 dc10 pm10 cd10 ct10 : Value}
    {f11 : Addr} {od11 an11 : Option Addr} {sl11 : Array (Option Value)} {oc11 kV11 dc11 pm11 cd11 ct11 : Value}
    {f12 : Addr} {od12 an12 : Option Addr} {sl12 : Array (Option Value)} {oc12 kV12 dc12 pm12 cd12 ct12 : Value}
    {f13 : Addr} {od13 an13 : Option Addr} {sl13 : Array (Option Value)} {oc13 kV13 dc13 pm13 cd13 ct13 : Value}
    {T13 : Addr} {oT13 : PySem.Obj} {nT13 : Nat}
    {eT13 : Addr}
    {f14 : Addr} {od14 an14 : Option Addr} {sl14 : Array (Option Value)} {oc14 kV14 dc14 pm14 cd14 ct14 : Value}
    {p14 : Addr} {rs14 : List Value}
    {f15 : Addr} {od15 an15 : Option Addr} {sl15 : Array (Option Value)} {oc15 kV15 dc15 pm15 cd15 ct15 : Value}
    {p15 : Addr} {rs15 : List Value}
    {f16 : Addr} {od16 an16 : Option Addr} {sl16 : Array (Option Value)} {oc16 kV16 dc16 pm16 cd16 ct16 : Value}
    {f17 : Addr} {od17 an17 : Option Addr} {sl17 : Array (Option Value)} {oc17 kV17 dc17 pm17 cd17 ct17 : Value}
    {f18 : Addr} {od18 an18 : Option Addr} {sl18 : Array (Option Value)} {oc18 kV18 dc18 pm18 cd18 ct18 : Value}
    {f19 : Addr} {od19 an19 : Option Addr} {sl19 : Array (Option Value)} {oc19 kV19 dc19 pm19 cd19 ct19 : Value}
    {p19 : Addr} {rs19 : List Value}
    {f20 : Addr} {od20 an20 : Option Addr} {sl20 : Array (Option Value)} {oc20 kV20 dc20 pm20 cd20 ct20 : Value}
    {p20 : Addr} {rs20 : List Value}
    {f21 : Addr} {od21 an21 : Option Addr} {sl21 : Array (Option Value)} {oc21 kV21 dc21 pm21 cd21 ct21 : Value}
    {f22 : Addr} {od22 an22 : Option Addr} {sl22 : Array (Option Value)} {oc22 kV22 dc22 pm22 cd22 ct22 : Value}
    {f23 : Addr} {od23 an23 : Option Addr} {sl23 : Array (Option Value)} {oc23 kV23 dc23 pm23 cd23 ct23 : Value}
    {f24 : Addr} {od24 an24 : Option Addr} {sl24 : Array (Option Value)} {oc24 kV24 dc24 pm24 cd24 ct24 : Value}
    {f25 : Addr} {od25 an25 : Option Addr} {sl25 : Array (Option Value)} {oc25 kV25 dc25 pm25 cd25 ct25 : Value}
    {f26 : Addr} {od26 an26 : Option Addr} {sl26 : Array (Option Value)} {oc26 kV26 dc26 pm26 cd26 ct26 : Value}
    {f27 : Addr} {od27 an27 : Option Addr} {sl27 : Array (Option Value)} {oc27 kV27 dc27 pm27 cd27 ct27 : Value}
    {f28 : Addr} {od28 an28 : Option Addr} {sl28 : Array (Option Value)} {oc28 kV28 dc28 pm28 cd28 ct28 : Value}
    {f29 : Addr} {od29 an29 : Option Addr} {sl29 : Array (Option Value)} {oc29 kV29 dc29 pm29 cd29 ct29 : Value}
    {f30 : Addr} {od30 an30 : Option Addr} {sl30 : Array (Option Value)} {oc30 kV30 dc30 pm30 cd30 ct30 : Value}
    {f31 : Addr} {od31 an31 : Option Addr} {sl31 : Array (Option Value)} {oc31 kV31 dc31 pm31 cd31 ct31 : Value}
    {f32 : Addr} {od32 an32 : Option Addr} {sl32 : Array (Option Value)} {oc32 kV32 dc32 pm32 cd32 ct32 : Value}
    {f33 : Addr} {od33 an33 : Option Addr} {sl33 : Array (Option Value)} {oc33 kV33 dc33 pm33 cd33 ct33 : Value}
    {f34 : Addr} {od34 an34 : Option Addr} {sl34 : Array (Option Value)} {oc34 kV34 dc34 pm34 cd34 ct34 : Value}
    {f35 : Addr} {od35 an35 : Option Addr} {sl35 : Array (Option Value)} {oc35 kV35 dc35 pm35 cd35 ct35 : Value}
    {f36 : Addr} {od36 an36 : Option Addr} {sl36 : Array (Option Value)} {oc36 kV36 dc36 pm36 cd36 ct36 : Value}
    {f37 : Addr} {od37 an37 : Option Addr} {sl37 : Array (Option Value)} {oc37 kV37 dc37 pm37 cd37 ct37 : Value}
    {f38 : Addr} {od38 an38 : Option Addr} {sl38 : Array (Option Value)} {oc38 kV38 dc38 pm38 cd38 ct38 : Value}
    {f39 : Addr} {od39 an39 : Option Addr} {sl39 : Array (Option Value)} {oc39 kV39 dc39 pm39 cd39 ct39 : Value}
    {f40 : Addr} {od40 an40 : Option Addr} {sl40 : Array (Option Value)} {oc40 kV40 dc40 pm40 cd40 ct40 : Value}
    {f41 : Addr} {od41 an41 : Option Addr} {sl41 : Array (Option Value)} {oc41 kV41 dc41 pm41 cd41 ct41 : Value}
    {f42 : Addr} {od42 an42 : Option Addr} {sl42 : Array (Option Value)} {oc42 kV42 dc42 pm42 cd42 ct42 : Value}
    {t_LETTERS : Nat}
    {t_LETTERS_AND_DIGITS : Nat}
    {t_LONGEST_NAME : Nat}
    {t_MOST_TOWNS : Nat}
    (a_BadShape : PySem.W.nsIn K mainGlobals "BadShape" = some (some (.ref q1)))
    (a_CrossError : PySem.W.nsIn K mainGlobals "CrossError" = some (some (.ref q0)))
    (a_Repeated : PySem.W.nsIn K mainGlobals "Repeated" = some (some (.ref q2)))
    (a_SameTown : PySem.W.nsIn K mainGlobals "SameTown" = some (some (.ref q4)))
    (a_UnknownTown : PySem.W.nsIn K mainGlobals "UnknownTown" = some (some (.ref q3)))
    (a_Web : PySem.W.nsIn K mainGlobals "Web" = some (some (.ref q5)))
    (x_BadShape : K.lookup q1 = some (excClassObj nm1 qn1 q1 N1 bs1 bm1 true sn1 sub1 ab1 col1 dd1 m01 m11 m21 m31 m51 "ValueError.__new__"))
    (rb_BadShape : PySem.HandSPX.refsVE bm1 = true)
    (sa_BadShape : PySem.W.findIn K (.ref q1) "__setattr__" = some (some (.builtin "object.__setattr__")))
    (ga_BadShape : PySem.W.findIn K (.ref q1) "__getattribute__" = some (some (.builtin "BaseException.__getattribute__")))
    (gg_BadShape : PySem.W.findIn K (.ref q1) "__getattr__" = some none)
    (ha_BadShape : PySem.W.findIn K (.ref q1) "__class__" = some (some (.builtin "object.__class__")))
    (iC_BadShape : PySem.W.findIn K (.ref q1) "__init__" = some (some (.ref f1)))
    (no_parameter_BadShape : PySem.W.findIn K (.ref q1) "parameter" = some none)
    (kC_BadShape : PySem.W.keepIn K (.ref q1) = true)
    (eC_BadShape : PySem.W.subIn K (.ref q1) (.type "BaseException") = some true)
    (tC_BadShape : PySem.W.typeIn K (.ref q1) = some (.type "type"))
    (hC_BadShape : PySem.W.hasDictIn K q1 = true)
    (mr_BadShape : PySem.W.mroIn K q1 (.type "object") = some true)
    (tI_BadShape : PySem.W.typeIn K (.ref f1) = some (.type "function"))
    (l_BadShape_init : K.lookup f1 = some ⟨oc1, od1, .func (PySem.W.fnOf "__init__" "BadShape.__init__" (defArgs s_BadShape_init) (defBody s_BadShape_init) (defScope s_BadShape_init) .none kV1 dc1 pm1 an1 cd1 ct1), sl1⟩)
    (c_BadShape_init : PySem.W.codeIn K cd1 "BadShape.__init__" = true)
    (k_BadShape_init : PySem.W.keepIn K (.ref f1) = true)
    (x_Repeated : K.lookup q2 = some (excClassObj nm2 qn2 q2 N2 bs2 bm2 true sn2 sub2 ab2 col2 dd2 m02 m12 m22 m32 m52 "ValueError.__new__"))
    (rb_Repeated : PySem.HandSPX.refsVE bm2 = true)
    (sa_Repeated : PySem.W.findIn K (.ref q2) "__setattr__" = some (some (.builtin "object.__setattr__")))
    (ga_Repeated : PySem.W.findIn K (.ref q2) "__getattribute__" = some (some (.builtin "BaseException.__getattribute__")))
    (gg_Repeated : PySem.W.findIn K (.ref q2) "__getattr__" = some none)
    (ha_Repeated : PySem.W.findIn K (.ref q2) "__class__" = some (some (.builtin "object.__class__")))
    (iC_Repeated : PySem.W.findIn K (.ref q2) "__init__" = some (some (.ref f2)))
    (no_thing_Repeated : PySem.W.findIn K (.ref q2) "thing" = some none)
    (kC_Repeated : PySem.W.keepIn K (.ref q2) = true)
    (eC_Repeated : PySem.W.subIn K (.ref q2) (.type "BaseException") = some true)
    (tC_Repeated : PySem.W.typeIn K (.ref q2) = some (.type "type"))
    (hC_Repeated : PySem.W.hasDictIn K q2 = true)
    (mr_Repeated : PySem.W.mroIn K q2 (.type "object") = some true)
    (tI_Repeated : PySem.W.typeIn K (.ref f2) = some (.type "function"))
    (l_Repeated_init : K.lookup f2 = some ⟨oc2, od2, .func (PySem.W.fnOf "__init__" "Repeated.__init__" (defArgs s_Repeated_init) (defBody s_Repeated_init) (defScope s_Repeated_init) .none kV2 dc2 pm2 an2 cd2 ct2), sl2⟩)
    (c_Repeated_init : PySem.W.codeIn K cd2 "Repeated.__init__" = true)
    (k_Repeated_init : PySem.W.keepIn K (.ref f2) = true)
    (x_UnknownTown : K.lookup q3 = some (excClassObj nm3 qn3 q3 N3 bs3 bm3 true sn3 sub3 ab3 col3 dd3 m03 m13 m23 m33 m53 "ValueError.__new__"))
    (rb_UnknownTown : PySem.HandSPX.refsVE bm3 = true)
    (sa_UnknownTown : PySem.W.findIn K (.ref q3) "__setattr__" = some (some (.builtin "object.__setattr__")))
    (ga_UnknownTown : PySem.W.findIn K (.ref q3) "__getattribute__" = some (some (.builtin "BaseException.__getattribute__")))
    (gg_UnknownTown : PySem.W.findIn K (.ref q3) "__getattr__" = some none)
    (ha_UnknownTown : PySem.W.findIn K (.ref q3) "__class__" = some (some (.builtin "object.__class__")))
    (iC_UnknownTown : PySem.W.findIn K (.ref q3) "__init__" = some (some (.ref f3)))
    (no_town_UnknownTown : PySem.W.findIn K (.ref q3) "town" = some none)
    (kC_UnknownTown : PySem.W.keepIn K (.ref q3) = true)
    (eC_UnknownTown : PySem.W.subIn K (.ref q3) (.type "BaseException") = some true)
    (tC_UnknownTown : PySem.W.typeIn K (.ref q3) = some (.type "type"))
    (hC_UnknownTown : PySem.W.hasDictIn K q3 = true)
    (mr_UnknownTown : PySem.W.mroIn K q3 (.type "object") = some true)
    (tI_UnknownTown : PySem.W.typeIn K (.ref f3) = some (.type "function"))
    (l_UnknownTown_init : K.lookup f3 = some ⟨oc3, od3, .func (PySem.W.fnOf "__init__" "UnknownTown.__init__" (defArgs s_UnknownTown_init) (defBody s_UnknownTown_init) (defScope s_UnknownTown_init) .none kV3 dc3 pm3 an3 cd3 ct3), sl3⟩)
    (c_UnknownTown_init : PySem.W.codeIn K cd3 "UnknownTown.__init__" = true)
    (k_UnknownTown_init : PySem.W.keepIn K (.ref f3) = true)
    (x_SameTown : K.lookup q4 = some (excClassObj nm4 qn4 q4 N4 bs4 bm4 true sn4 sub4 ab4 col4 dd4 m04 m14 m24 m34 m54 "ValueError.__new__"))
    (rb_SameTown : PySem.HandSPX.refsVE bm4 = true)
    (sa_SameTown : PySem.W.findIn K (.ref q4) "__setattr__" = some (some (.builtin "object.__setattr__")))
    (ga_SameTown : PySem.W.findIn K (.ref q4) "__getattribute__" = some (some (.builtin "BaseException.__getattribute__")))
    (gg_SameTown : PySem.W.findIn K (.ref q4) "__getattr__" = some none)
    (ha_SameTown : PySem.W.findIn K (.ref q4) "__class__" = some (some (.builtin "object.__class__")))
    (iC_SameTown : PySem.W.findIn K (.ref q4) "__init__" = some (some (.ref f4)))
    (no_town_SameTown : PySem.W.findIn K (.ref q4) "town" = some none)
    (kC_SameTown : PySem.W.keepIn K (.ref q4) = true)
    (eC_SameTown : PySem.W.subIn K (.ref q4) (.type "BaseException") = some true)
    (tC_SameTown : PySem.W.typeIn K (.ref q4) = some (.type "type"))
    (hC_SameTown : PySem.W.hasDictIn K q4 = true)
    (mr_SameTown : PySem.W.mroIn K q4 (.type "object") = some true)
    (tI_SameTown : PySem.W.typeIn K (.ref f4) = some (.type "function"))
    (l_SameTown_init : K.lookup f4 = some ⟨oc4, od4, .func (PySem.W.fnOf "__init__" "SameTown.__init__" (defArgs s_SameTown_init) (defBody s_SameTown_init) (defScope s_SameTown_init) .none kV4 dc4 pm4 an4 cd4 ct4), sl4⟩)
    (c_SameTown_init : PySem.W.codeIn K cd4 "SameTown.__init__" = true)
    (k_SameTown_init : PySem.W.keepIn K (.ref f4) = true)
    (a_is_name : PySem.W.nsIn K mainGlobals "is_name" = some (some (.ref f5)))
    (l_is_name : K.lookup f5 = some ⟨oc5, od5, .func (PySem.W.fnOf "is_name" "is_name" (defArgs s_is_name) (defBody s_is_name) (defScope s_is_name) .none kV5 dc5 pm5 an5 cd5 ct5), sl5⟩)
    (c_is_name : PySem.W.codeIn K cd5 "is_name" = true)
    (k_is_name : PySem.W.keepIn K (.ref f5) = true)
    (a_is_tuple_of : PySem.W.nsIn K mainGlobals "is_tuple_of" = some (some (.ref f6)))
    (l_is_tuple_of : K.lookup f6 = some ⟨oc6, od6, .func (PySem.W.fnOf "is_tuple_of" "is_tuple_of" (defArgs s_is_tuple_of) (defBody s_is_tuple_of) (defScope s_is_tuple_of) .none kV6 dc6 pm6 an6 cd6 ct6), sl6⟩)
    (c_is_tuple_of : PySem.W.codeIn K cd6 "is_tuple_of" = true)
    (k_is_tuple_of : PySem.W.keepIn K (.ref f6) = true)
    (a_check : PySem.W.nsIn K mainGlobals "check" = some (some (.ref f7)))
    (l_check : K.lookup f7 = some ⟨oc7, od7, .func (PySem.W.fnOf "check" "check" (defArgs s_check) (defBody s_check) (defScope s_check) .none kV7 dc7 pm7 an7 cd7 ct7), sl7⟩)
    (c_check : PySem.W.codeIn K cd7 "check" = true)
    (k_check : PySem.W.keepIn K (.ref f7) = true)
    (a_check_town : PySem.W.nsIn K mainGlobals "check_town" = some (some (.ref f8)))
    (l_check_town : K.lookup f8 = some ⟨oc8, od8, .func (PySem.W.fnOf "check_town" "check_town" (defArgs s_check_town) (defBody s_check_town) (defScope s_check_town) .none kV8 dc8 pm8 an8 cd8 ct8), sl8⟩)
    (c_check_town : PySem.W.codeIn K cd8 "check_town" = true)
    (k_check_town : PySem.W.keepIn K (.ref f8) = true)
    (a_is_series : PySem.W.nsIn K mainGlobals "is_series" = some (some (.ref f9)))
    (l_is_series : K.lookup f9 = some ⟨oc9, od9, .func (PySem.W.fnOf "is_series" "is_series" (defArgs s_is_series) (defBody s_is_series) (defScope s_is_series) .none kV9 dc9 pm9 an9 cd9 ct9), sl9⟩)
    (c_is_series : PySem.W.codeIn K cd9 "is_series" = true)
    (k_is_series : PySem.W.keepIn K (.ref f9) = true)
    (a_are_name_pairs : PySem.W.nsIn K mainGlobals "are_name_pairs" = some (some (.ref f10)))
    (l_are_name_pairs : K.lookup f10 = some ⟨oc10, od10, .func (PySem.W.fnOf "are_name_pairs" "are_name_pairs" (defArgs s_are_name_pairs) (defBody s_are_name_pairs) (defScope s_are_name_pairs) .none kV10 dc10 pm10 an10 cd10 ct10), sl10⟩)
    (c_are_name_pairs : PySem.W.codeIn K cd10 "are_name_pairs" = true)
    (k_are_name_pairs : PySem.W.keepIn K (.ref f10) = true)
    (a_are_names : PySem.W.nsIn K mainGlobals "are_names" = some (some (.ref f11)))
    (l_are_names : K.lookup f11 = some ⟨oc11, od11, .func (PySem.W.fnOf "are_names" "are_names" (defArgs s_are_names) (defBody s_are_names) (defScope s_are_names) .none kV11 dc11 pm11 an11 cd11 ct11), sl11⟩)
    (c_are_names : PySem.W.codeIn K cd11 "are_names" = true)
    (k_are_names : PySem.W.keepIn K (.ref f11) = true)
    (a_first_repeated : PySem.W.nsIn K mainGlobals "first_repeated" = some (some (.ref f12)))
    (l_first_repeated : K.lookup f12 = some ⟨oc12, od12, .func (PySem.W.fnOf "first_repeated" "first_repeated" (defArgs s_first_repeated) (defBody s_first_repeated) (defScope s_first_repeated) .none kV12 dc12 pm12 an12 cd12 ct12), sl12⟩)
    (c_first_repeated : PySem.W.codeIn K cd12 "first_repeated" = true)
    (k_first_repeated : PySem.W.keepIn K (.ref f12) = true)
    (iC_Web_init : PySem.W.findIn K (.ref q5) "__init__" = some (some (.ref f13)))
    (is_Web_init : PySem.W.isFn K (.ref f13) = true)
    (l_Web_init : K.lookup f13 = some ⟨oc13, od13, .func (PySem.W.fnOf "__init__" "Web.__init__" (defArgs s_Web_init) (defBody s_Web_init) (defScope s_Web_init) (.ref T13) kV13 dc13 pm13 an13 cd13 ct13), sl13⟩)
    (lT_Web_init : K.lookup T13 = some oT13)
    (oT_Web_init : oT13.data = .seq #[.ref eT13] nT13)
    (c_Web_init : PySem.W.codeIn K cd13 "Web.__init__" = true)
    (k_Web_init : PySem.W.keepIn K (.ref f13) = true)
    (at_Web_full : PySem.W.findCls K (.ref q5) (.type "type") "full" = some (.get (.builtin "classmethod.__get__") (.ref p14) .none (.ref q5)))
    (rc_Web_full : PySem.W.recIn K p14 "classmethod" = some (.ref f14 :: rs14))
    (fi_Web_full : PySem.W.fnIn K f14 = true)
    (l_Web_full : K.lookup f14 = some ⟨oc14, od14, .func (PySem.W.fnOf "full" "Web.full" (defArgs s_Web_full) (defBody s_Web_full) (defScope s_Web_full) .none kV14 dc14 pm14 an14 cd14 ct14), sl14⟩)
    (c_Web_full : PySem.W.codeIn K cd14 "Web.full" = true)
    (k_Web_full : PySem.W.keepIn K (.ref f14) = true)
    (at_Web_chain : PySem.W.findCls K (.ref q5) (.type "type") "chain" = some (.get (.builtin "classmethod.__get__") (.ref p15) .none (.ref q5)))
    (rc_Web_chain : PySem.W.recIn K p15 "classmethod" = some (.ref f15 :: rs15))
    (fi_Web_chain : PySem.W.fnIn K f15 = true)
    (l_Web_chain : K.lookup f15 = some ⟨oc15, od15, .func (PySem.W.fnOf "chain" "Web.chain" (defArgs s_Web_chain) (defBody s_Web_chain) (defScope s_Web_chain) .none kV15 dc15 pm15 an15 cd15 ct15), sl15⟩)
    (c_Web_chain : PySem.W.codeIn K cd15 "Web.chain" = true)
    (k_Web_chain : PySem.W.keepIn K (.ref f15) = true)
    (at_Web_contains : PySem.W.findIn K (.ref q5) "__contains__" = some (some (.ref f16)))
    (is_Web_contains : PySem.W.isFn K (.ref f16) = true)
    (l_Web_contains : K.lookup f16 = some ⟨oc16, od16, .func (PySem.W.fnOf "__contains__" "Web.__contains__" (defArgs s_Web_contains) (defBody s_Web_contains) (defScope s_Web_contains) .none kV16 dc16 pm16 an16 cd16 ct16), sl16⟩)
    (c_Web_contains : PySem.W.codeIn K cd16 "Web.__contains__" = true)
    (k_Web_contains : PySem.W.keepIn K (.ref f16) = true)
    (at_Web_iter : PySem.W.findIn K (.ref q5) "__iter__" = some (some (.ref f17)))
    (is_Web_iter : PySem.W.isFn K (.ref f17) = true)
    (l_Web_iter : K.lookup f17 = some ⟨oc17, od17, .func (PySem.W.fnOf "__iter__" "Web.__iter__" (defArgs s_Web_iter) (defBody s_Web_iter) (defScope s_Web_iter) .none kV17 dc17 pm17 an17 cd17 ct17), sl17⟩)
    (c_Web_iter : PySem.W.codeIn K cd17 "Web.__iter__" = true)
    (k_Web_iter : PySem.W.keepIn K (.ref f17) = true)
    (at_Web_eq : PySem.W.findIn K (.ref q5) "__eq__" = some (some (.ref f18)))
    (is_Web_eq : PySem.W.isFn K (.ref f18) = true)
    (l_Web_eq : K.lookup f18 = some ⟨oc18, od18, .func (PySem.W.fnOf "__eq__" "Web.__eq__" (defArgs s_Web_eq) (defBody s_Web_eq) (defScope s_Web_eq) .none kV18 dc18 pm18 an18 cd18 ct18), sl18⟩)
    (c_Web_eq : PySem.W.codeIn K cd18 "Web.__eq__" = true)
    (k_Web_eq : PySem.W.keepIn K (.ref f18) = true)
    (at_Web_towns : PySem.W.findIn K (.ref q5) "towns" = some (some (.ref p19)))
    (gt_Web_towns : PySem.W.specialIn K (.ref p19) "__get__" = some (some (.builtin "property.__get__")))
    (tk_Web_towns : PySem.W.takesIn K (.ref p19) = some true)
    (rc_Web_towns : PySem.W.recIn K p19 "property" = some (.ref f19 :: rs19))
    (l_Web_towns : K.lookup f19 = some ⟨oc19, od19, .func (PySem.W.fnOf "towns" "Web.towns" (defArgs s_Web_towns) (defBody s_Web_towns) (defScope s_Web_towns) .none kV19 dc19 pm19 an19 cd19 ct19), sl19⟩)
    (c_Web_towns : PySem.W.codeIn K cd19 "Web.towns" = true)
    (k_Web_towns : PySem.W.keepIn K (.ref f19) = true)
    (at_Web_ways : PySem.W.findIn K (.ref q5) "ways" = some (some (.ref p20)))
    (gt_Web_ways : PySem.W.specialIn K (.ref p20) "__get__" = some (some (.builtin "property.__get__")))
    (tk_Web_ways : PySem.W.takesIn K (.ref p20) = some true)
    (rc_Web_ways : PySem.W.recIn K p20 "property" = some (.ref f20 :: rs20))
    (l_Web_ways : K.lookup f20 = some ⟨oc20, od20, .func (PySem.W.fnOf "ways" "Web.ways" (defArgs s_Web_ways) (defBody s_Web_ways) (defScope s_Web_ways) .none kV20 dc20 pm20 an20 cd20 ct20), sl20⟩)
    (c_Web_ways : PySem.W.codeIn K cd20 "Web.ways" = true)
    (k_Web_ways : PySem.W.keepIn K (.ref f20) = true)
    (at_Web_joins : PySem.W.findIn K (.ref q5) "joins" = some (some (.ref f21)))
    (is_Web_joins : PySem.W.isFn K (.ref f21) = true)
    (l_Web_joins : K.lookup f21 = some ⟨oc21, od21, .func (PySem.W.fnOf "joins" "Web.joins" (defArgs s_Web_joins) (defBody s_Web_joins) (defScope s_Web_joins) .none kV21 dc21 pm21 an21 cd21 ct21), sl21⟩)
    (c_Web_joins : PySem.W.codeIn K cd21 "Web.joins" = true)
    (k_Web_joins : PySem.W.keepIn K (.ref f21) = true)
    (at_Web_near : PySem.W.findIn K (.ref q5) "near" = some (some (.ref f22)))
    (is_Web_near : PySem.W.isFn K (.ref f22) = true)
    (l_Web_near : K.lookup f22 = some ⟨oc22, od22, .func (PySem.W.fnOf "near" "Web.near" (defArgs s_Web_near) (defBody s_Web_near) (defScope s_Web_near) .none kV22 dc22 pm22 an22 cd22 ct22), sl22⟩)
    (c_Web_near : PySem.W.codeIn K cd22 "Web.near" = true)
    (k_Web_near : PySem.W.keepIn K (.ref f22) = true)
    (a_are_towns : PySem.W.nsIn K mainGlobals "are_towns" = some (some (.ref f23)))
    (l_are_towns : K.lookup f23 = some ⟨oc23, od23, .func (PySem.W.fnOf "are_towns" "are_towns" (defArgs s_are_towns) (defBody s_are_towns) (defScope s_are_towns) .none kV23 dc23 pm23 an23 cd23 ct23), sl23⟩)
    (c_are_towns : PySem.W.codeIn K cd23 "are_towns" = true)
    (k_are_towns : PySem.W.keepIn K (.ref f23) = true)
    (a_sorted_ways : PySem.W.nsIn K mainGlobals "sorted_ways" = some (some (.ref f24)))
    (l_sorted_ways : K.lookup f24 = some ⟨oc24, od24, .func (PySem.W.fnOf "sorted_ways" "sorted_ways" (defArgs s_sorted_ways) (defBody s_sorted_ways) (defScope s_sorted_ways) .none kV24 dc24 pm24 an24 cd24 ct24), sl24⟩)
    (c_sorted_ways : PySem.W.codeIn K cd24 "sorted_ways" = true)
    (k_sorted_ways : PySem.W.keepIn K (.ref f24) = true)
    (a_near_towns : PySem.W.nsIn K mainGlobals "near_towns" = some (some (.ref f25)))
    (l_near_towns : K.lookup f25 = some ⟨oc25, od25, .func (PySem.W.fnOf "near_towns" "near_towns" (defArgs s_near_towns) (defBody s_near_towns) (defScope s_near_towns) .none kV25 dc25 pm25 an25 cd25 ct25), sl25⟩)
    (c_near_towns : PySem.W.codeIn K cd25 "near_towns" = true)
    (k_near_towns : PySem.W.keepIn K (.ref f25) = true)
    (a_l_mixed : PySem.W.nsIn K mainGlobals "_law_mixed" = some (some (.ref f26)))
    (l_l_mixed : K.lookup f26 = some ⟨oc26, od26, .func (PySem.W.fnOf "_law_mixed" "_law_mixed" (defArgs s_l_mixed) (defBody s_l_mixed) (defScope s_l_mixed) .none kV26 dc26 pm26 an26 cd26 ct26), sl26⟩)
    (c_l_mixed : PySem.W.codeIn K cd26 "_law_mixed" = true)
    (k_l_mixed : PySem.W.keepIn K (.ref f26) = true)
    (a_l_store : PySem.W.nsIn K mainGlobals "_law_store" = some (some (.ref f27)))
    (l_l_store : K.lookup f27 = some ⟨oc27, od27, .func (PySem.W.fnOf "_law_store" "_law_store" (defArgs s_l_store) (defBody s_l_store) (defScope s_l_store) .none kV27 dc27 pm27 an27 cd27 ct27), sl27⟩)
    (c_l_store : PySem.W.codeIn K cd27 "_law_store" = true)
    (k_l_store : PySem.W.keepIn K (.ref f27) = true)
    (a_l_take : PySem.W.nsIn K mainGlobals "_law_take" = some (some (.ref f28)))
    (l_l_take : K.lookup f28 = some ⟨oc28, od28, .func (PySem.W.fnOf "_law_take" "_law_take" (defArgs s_l_take) (defBody s_l_take) (defScope s_l_take) .none kV28 dc28 pm28 an28 cd28 ct28), sl28⟩)
    (c_l_take : PySem.W.codeIn K cd28 "_law_take" = true)
    (k_l_take : PySem.W.keepIn K (.ref f28) = true)
    (a_l_pick : PySem.W.nsIn K mainGlobals "_law_pick" = some (some (.ref f29)))
    (l_l_pick : K.lookup f29 = some ⟨oc29, od29, .func (PySem.W.fnOf "_law_pick" "_law_pick" (defArgs s_l_pick) (defBody s_l_pick) (defScope s_l_pick) .none kV29 dc29 pm29 an29 cd29 ct29), sl29⟩)
    (c_l_pick : PySem.W.codeIn K cd29 "_law_pick" = true)
    (k_l_pick : PySem.W.keepIn K (.ref f29) = true)
    (a_l_some : PySem.W.nsIn K mainGlobals "_law_some" = some (some (.ref f30)))
    (l_l_some : K.lookup f30 = some ⟨oc30, od30, .func (PySem.W.fnOf "_law_some" "_law_some" (defArgs s_l_some) (defBody s_l_some) (defScope s_l_some) .none kV30 dc30 pm30 an30 cd30 ct30), sl30⟩)
    (c_l_some : PySem.W.codeIn K cd30 "_law_some" = true)
    (k_l_some : PySem.W.keepIn K (.ref f30) = true)
    (a_l_turned : PySem.W.nsIn K mainGlobals "_law_turned" = some (some (.ref f31)))
    (l_l_turned : K.lookup f31 = some ⟨oc31, od31, .func (PySem.W.fnOf "_law_turned" "_law_turned" (defArgs s_l_turned) (defBody s_l_turned) (defScope s_l_turned) .none kV31 dc31 pm31 an31 cd31 ct31), sl31⟩)
    (c_l_turned : PySem.W.codeIn K cd31 "_law_turned" = true)
    (k_l_turned : PySem.W.keepIn K (.ref f31) = true)
    (a_l_word : PySem.W.nsIn K mainGlobals "_law_word" = some (some (.ref f32)))
    (l_l_word : K.lookup f32 = some ⟨oc32, od32, .func (PySem.W.fnOf "_law_word" "_law_word" (defArgs s_l_word) (defBody s_l_word) (defScope s_l_word) .none kV32 dc32 pm32 an32 cd32 ct32), sl32⟩)
    (c_l_word : PySem.W.codeIn K cd32 "_law_word" = true)
    (k_l_word : PySem.W.keepIn K (.ref f32) = true)
    (a_l_names : PySem.W.nsIn K mainGlobals "_law_names" = some (some (.ref f33)))
    (l_l_names : K.lookup f33 = some ⟨oc33, od33, .func (PySem.W.fnOf "_law_names" "_law_names" (defArgs s_l_names) (defBody s_l_names) (defScope s_l_names) .none kV33 dc33 pm33 an33 cd33 ct33), sl33⟩)
    (c_l_names : PySem.W.codeIn K cd33 "_law_names" = true)
    (k_l_names : PySem.W.keepIn K (.ref f33) = true)
    (a_l_no_name : PySem.W.nsIn K mainGlobals "_law_no_name" = some (some (.ref f34)))
    (l_l_no_name : K.lookup f34 = some ⟨oc34, od34, .func (PySem.W.fnOf "_law_no_name" "_law_no_name" (defArgs s_l_no_name) (defBody s_l_no_name) (defScope s_l_no_name) .none kV34 dc34 pm34 an34 cd34 ct34), sl34⟩)
    (c_l_no_name : PySem.W.codeIn K cd34 "_law_no_name" = true)
    (k_l_no_name : PySem.W.keepIn K (.ref f34) = true)
    (a_l_same : PySem.W.nsIn K mainGlobals "_law_same" = some (some (.ref f35)))
    (l_l_same : K.lookup f35 = some ⟨oc35, od35, .func (PySem.W.fnOf "_law_same" "_law_same" (defArgs s_l_same) (defBody s_l_same) (defScope s_l_same) .none kV35 dc35 pm35 an35 cd35 ct35), sl35⟩)
    (c_l_same : PySem.W.codeIn K cd35 "_law_same" = true)
    (k_l_same : PySem.W.keepIn K (.ref f35) = true)
    (a_l_joined : PySem.W.nsIn K mainGlobals "_law_joined" = some (some (.ref f36)))
    (l_l_joined : K.lookup f36 = some ⟨oc36, od36, .func (PySem.W.fnOf "_law_joined" "_law_joined" (defArgs s_l_joined) (defBody s_l_joined) (defScope s_l_joined) .none kV36 dc36 pm36 an36 cd36 ct36), sl36⟩)
    (c_l_joined : PySem.W.codeIn K cd36 "_law_joined" = true)
    (k_l_joined : PySem.W.keepIn K (.ref f36) = true)
    (a_l_heard : PySem.W.nsIn K mainGlobals "_law_heard" = some (some (.ref f37)))
    (l_l_heard : K.lookup f37 = some ⟨oc37, od37, .func (PySem.W.fnOf "_law_heard" "_law_heard" (defArgs s_l_heard) (defBody s_l_heard) (defScope s_l_heard) .none kV37 dc37 pm37 an37 cd37 ct37), sl37⟩)
    (c_l_heard : PySem.W.codeIn K cd37 "_law_heard" = true)
    (k_l_heard : PySem.W.keepIn K (.ref f37) = true)
    (a_l_due : PySem.W.nsIn K mainGlobals "_law_due" = some (some (.ref f38)))
    (l_l_due : K.lookup f38 = some ⟨oc38, od38, .func (PySem.W.fnOf "_law_due" "_law_due" (defArgs s_l_due) (defBody s_l_due) (defScope s_l_due) .none kV38 dc38 pm38 an38 cd38 ct38), sl38⟩)
    (c_l_due : PySem.W.codeIn K cd38 "_law_due" = true)
    (k_l_due : PySem.W.keepIn K (.ref f38) = true)
    (a_l_holds : PySem.W.nsIn K mainGlobals "_law_holds" = some (some (.ref f39)))
    (l_l_holds : K.lookup f39 = some ⟨oc39, od39, .func (PySem.W.fnOf "_law_holds" "_law_holds" (defArgs s_l_holds) (defBody s_l_holds) (defScope s_l_holds) .none kV39 dc39 pm39 an39 cd39 ct39), sl39⟩)
    (c_l_holds : PySem.W.codeIn K cd39 "_law_holds" = true)
    (k_l_holds : PySem.W.keepIn K (.ref f39) = true)
    (a_l_refused : PySem.W.nsIn K mainGlobals "_law_refused" = some (some (.ref f40)))
    (l_l_refused : K.lookup f40 = some ⟨oc40, od40, .func (PySem.W.fnOf "_law_refused" "_law_refused" (defArgs s_l_refused) (defBody s_l_refused) (defScope s_l_refused) .none kV40 dc40 pm40 an40 cd40 ct40), sl40⟩)
    (c_l_refused : PySem.W.codeIn K cd40 "_law_refused" = true)
    (k_l_refused : PySem.W.keepIn K (.ref f40) = true)
    (a_l_doubled : PySem.W.nsIn K mainGlobals "_law_doubled" = some (some (.ref f41)))
    (l_l_doubled : K.lookup f41 = some ⟨oc41, od41, .func (PySem.W.fnOf "_law_doubled" "_law_doubled" (defArgs s_l_doubled) (defBody s_l_doubled) (defScope s_l_doubled) .none kV41 dc41 pm41 an41 cd41 ct41), sl41⟩)
    (c_l_doubled : PySem.W.codeIn K cd41 "_law_doubled" = true)
    (k_l_doubled : PySem.W.keepIn K (.ref f41) = true)
    (a_law : PySem.W.nsIn K mainGlobals "law" = some (some (.ref f42)))
    (l_law : K.lookup f42 = some ⟨oc42, od42, .func (PySem.W.fnOf "law" "law" (defArgs s_law) (defBody s_law) (defScope s_law) .none kV42 dc42 pm42 an42 cd42 ct42), sl42⟩)
    (c_law : PySem.W.codeIn K cd42 "law" = true)
    (k_law : PySem.W.keepIn K (.ref f42) = true)
    (pg_Web : PySem.W.plainGet K q5 Str.empty = true)
    (hd_Web : PySem.W.hasDictIn K q5 = true)
    (po_Web : PySem.W.plainOver K q5 = true)
    (sa_Web : PySem.W.findIn K (.ref q5) "__setattr__" = some (some (.builtin "object.__setattr__")))
    (ha_Web : PySem.W.findIn K (.ref q5) "__class__" = some (some (.builtin "object.__class__")))
    (mr_Web : PySem.W.mroIn K q5 (.type "object") = some true)
    (me_Web : PySem.W.kitOne K (.ref q5) (.ref q5) = some true)
    (nl_Web : PySem.W.findIn K (.ref q5) "__len__" = some none)
    (nh_Web : PySem.W.findIn K (.ref q5) "__length_hint__" = some none)
    (no__ways_Web : PySem.W.findIn K (.ref q5) "_ways" = some none)
    (no__near_Web : PySem.W.findIn K (.ref q5) "_near" = some none)
    (mk_Web : PySem.W.makesIn K q5 = true)
    (kp_Web : PySem.W.keepIn K (.ref q5) = true)
    (rd_Web : PySem.W.readsIn K q5 (.type "type") = true)
    (ga_Web : PySem.W.specialIn K (.ref q5) "__getattribute__" = some (some (.builtin "type.__getattribute__")))
    (hn : PySem.W.specialIn K (.builtin "object.__class__") "__get__" = some (some (.builtin "getset_descriptor.__get__")))
    (ht : PySem.W.takesIn K (.builtin "object.__class__") = some true)
    (a_LETTERS : PySem.W.nsIn K mainGlobals "LETTERS" = some (some (.str ("abcdefghijklmnopqrstuvwxyz" : Str) t_LETTERS)))
    (a_LETTERS_AND_DIGITS : PySem.W.nsIn K mainGlobals "LETTERS_AND_DIGITS" = some (some (.str ("abcdefghijklmnopqrstuvwxyz0123456789" : Str) t_LETTERS_AND_DIGITS)))
    (a_LONGEST_NAME : PySem.W.nsIn K mainGlobals "LONGEST_NAME" = some (some (.int 8 t_LONGEST_NAME)))
    (a_MOST_TOWNS : PySem.W.nsIn K mainGlobals "MOST_TOWNS" = some (some (.int 8 t_MOST_TOWNS)))
    (z_ValueError : PySem.W.nsIn K mainGlobals "ValueError" = some none)
    (z_all : PySem.W.nsIn K mainGlobals "all" = some none)
    (z_bool : PySem.W.nsIn K mainGlobals "bool" = some none)
    (z_dict : PySem.W.nsIn K mainGlobals "dict" = some none)
    (z_int : PySem.W.nsIn K mainGlobals "int" = some none)
    (z_isinstance : PySem.W.nsIn K mainGlobals "isinstance" = some none)
    (z_iter : PySem.W.nsIn K mainGlobals "iter" = some none)
    (z_len : PySem.W.nsIn K mainGlobals "len" = some none)
    (z_list : PySem.W.nsIn K mainGlobals "list" = some none)
    (z_max : PySem.W.nsIn K mainGlobals "max" = some none)
    (z_min : PySem.W.nsIn K mainGlobals "min" = some none)
    (z_range : PySem.W.nsIn K mainGlobals "range" = some none)
    (z_set : PySem.W.nsIn K mainGlobals "set" = some none)
    (z_sorted : PySem.W.nsIn K mainGlobals "sorted" = some none)
    (z_str : PySem.W.nsIn K mainGlobals "str" = some none)
    (z_tuple : PySem.W.nsIn K mainGlobals "tuple" = some none)
    (z_zip : PySem.W.nsIn K mainGlobals "zip" = some none)
    (ef_x_rr : PySem.W.exmOne K (.ref q2) (.ref q2) = some true)
    (ef_x_br : PySem.W.exmOne K (.ref q1) (.ref q2) = some false)
    (ef_x_bb : PySem.W.exmOne K (.ref q1) (.ref q1) = some true)
    (ef_k_rc : PySem.W.kitOne K (.ref q2) (.ref q0) = some true)
    (ef_k_rv : PySem.W.kitOne K (.ref q2) (.type "ValueError") = some true)
    (ef_a_r : PySem.W.kitAny K (.ref q2) [.ref q1, .ref q4] = some false)
    (ef_k_bc : PySem.W.kitOne K (.ref q1) (.ref q0) = some true)
    (ef_k_bv : PySem.W.kitOne K (.ref q1) (.type "ValueError") = some true)
    (ef_a_b : PySem.W.kitAny K (.ref q1) [.ref q3, .ref q4] = some false)
    : ∃ fd : FuncData, (∀ (s : Shared) (u : Value), BindsTo s fd ⟨[u], []⟩ [("script", u)]) ∧ ∀ base : Heap, K.In base → base.Ns mainGlobals mg → FnOk P w K mg base CX0 30 fa fd ["script"] (sp_lawK K) := by
  have e := hfa.symm.trans (PySem.W.mg_of X G a_law)
  cases e
  let T : Txt K mg (⟨q0, q1, q2, q3, q4, q5⟩ : CA) := {
    e_BadShape := ⟨f1, _, ⟨⟨_, _, _, _, _, _, _, _, _, _, _, _, _, _, _, x_BadShape, rb_BadShape⟩, sa_BadShape, eC_BadShape, tC_BadShape, kC_BadShape⟩, iC_BadShape, tI_BadShape, fun_mk (st := s_BadShape_init) l_BadShape_init c_BadShape_init k_BadShape_init, (Fun.binds (ps := [("self" : Str), ("parameter" : Str)]) (fun_mk (st := s_BadShape_init) l_BadShape_init c_BadShape_init k_BadShape_init) fun _ _ _ _ _ _ us hl => match us, hl with | [_, _], _ => rfl),
    ⟨ga_BadShape, gg_BadShape, eC_BadShape, hC_BadShape, ha_BadShape, hn, ht, mr_BadShape⟩, ⟨ga_BadShape, gg_BadShape, eC_BadShape, hC_BadShape⟩, (List.forall_mem_cons.2 ⟨no_parameter_BadShape, (fun _ h => absurd h List.not_mem_nil)⟩)⟩,
    e_Repeated := ⟨f2, _, ⟨⟨_, _, _, _, _, _, _, _, _, _, _, _, _, _, _, x_Repeated, rb_Repeated⟩, sa_Repeated, eC_Repeated, tC_Repeated, kC_Repeated⟩, iC_Repeated, tI_Repeated, fun_mk (st := s_Repeated_init) l_Repeated_init c_Repeated_init k_Repeated_init, (Fun.binds (ps := [("self" : Str), ("thing" : Str)]) (fun_mk (st := s_Repeated_init) l_Repeated_init c_Repeated_init k_Repeated_init) fun _ _ _ _ _ _ us hl => match us, hl with | [_, _], _ => rfl),
    ⟨ga_Repeated, gg_Repeated, eC_Repeated, hC_Repeated, ha_Repeated, hn, ht, mr_Repeated⟩, ⟨ga_Repeated, gg_Repeated, eC_Repeated, hC_Repeated⟩, (List.forall_mem_cons.2 ⟨no_thing_Repeated, (fun _ h => absurd h List.not_mem_nil)⟩)⟩,
    e_UnknownTown := ⟨f3, _, ⟨⟨_, _, _, _, _, _, _, _, _, _, _, _, _, _, _, x_UnknownTown, rb_UnknownTown⟩, sa_UnknownTown, eC_UnknownTown, tC_UnknownTown, kC_UnknownTown⟩, iC_UnknownTown, tI_UnknownTown, fun_mk (st := s_UnknownTown_init) l_UnknownTown_init c_UnknownTown_init k_UnknownTown_init, (Fun.binds (ps := [("self" : Str), ("town" : Str)]) (fun_mk (st := s_UnknownTown_init) l_UnknownTown_init c_UnknownTown_init k_UnknownTown_init) fun _ _ _ _ _ _ us hl => match us, hl with | [_, _], _ => rfl),
    ⟨ga_UnknownTown, gg_UnknownTown, eC_UnknownTown, hC_UnknownTown, ha_UnknownTown, hn, ht, mr_UnknownTown⟩, ⟨ga_UnknownTown, gg_UnknownTown, eC_UnknownTown, hC_UnknownTown⟩, (List.forall_mem_cons.2 ⟨no_town_UnknownTown, (fun _ h => absurd h List.not_mem_nil)⟩)⟩,
    e_SameTown := ⟨f4, _, ⟨⟨_, _, _, _, _, _, _, _, _, _, _, _, _, _, _, x_SameTown, rb_SameTown⟩, sa_SameTown, eC_SameTown, tC_SameTown, kC_SameTown⟩, iC_SameTown, tI_SameTown, fun_mk (st := s_SameTown_init) l_SameTown_init c_SameTown_init k_SameTown_init, (Fun.binds (ps := [("self" : Str), ("town" : Str)]) (fun_mk (st := s_SameTown_init) l_SameTown_init c_SameTown_init k_SameTown_init) fun _ _ _ _ _ _ us hl => match us, hl with | [_, _], _ => rfl),
    ⟨ga_SameTown, gg_SameTown, eC_SameTown, hC_SameTown, ha_SameTown, hn, ht, mr_SameTown⟩, ⟨ga_SameTown, gg_SameTown, eC_SameTown, hC_SameTown⟩, (List.forall_mem_cons.2 ⟨no_town_SameTown, (fun _ h => absurd h List.not_mem_nil)⟩)⟩,
    d_is_name := ⟨f5, _, PySem.W.mg_of X G a_is_name, fun_mk (st := s_is_name) l_is_name c_is_name k_is_name, (Fun.binds (ps := [("value" : Str)]) (fun_mk (st := s_is_name) l_is_name c_is_name k_is_name) fun _ _ _ _ _ _ us hl => match us, hl with | [_], _ => rfl)⟩,
    d_is_tuple_of := ⟨f6, _, PySem.W.mg_of X G a_is_tuple_of, fun_mk (st := s_is_tuple_of) l_is_tuple_of c_is_tuple_of k_is_tuple_of, (Fun.binds (ps := [("value" : Str), ("parts" : Str)]) (fun_mk (st := s_is_tuple_of) l_is_tuple_of c_is_tuple_of k_is_tuple_of) fun _ _ _ _ _ _ us hl => match us, hl with | [_, _], _ => rfl)⟩,
    d_check := ⟨f7, _, PySem.W.mg_of X G a_check, fun_mk (st := s_check) l_check c_check k_check, (Fun.binds (ps := [("fits" : Str), ("parameter" : Str)]) (fun_mk (st := s_check) l_check c_check k_check) fun _ _ _ _ _ _ us hl => match us, hl with | [_, _], _ => rfl)⟩,
    d_check_town := ⟨f8, _, PySem.W.mg_of X G a_check_town, fun_mk (st := s_check_town) l_check_town c_check_town k_check_town, (Fun.binds (ps := [("towns" : Str), ("town" : Str)]) (fun_mk (st := s_check_town) l_check_town c_check_town k_check_town) fun _ _ _ _ _ _ us hl => match us, hl with | [_, _], _ => rfl)⟩,
    d_is_series := ⟨f9, _, PySem.W.mg_of X G a_is_series, fun_mk (st := s_is_series) l_is_series c_is_series k_is_series, (Fun.binds (ps := [("value" : Str)]) (fun_mk (st := s_is_series) l_is_series c_is_series k_is_series) fun _ _ _ _ _ _ us hl => match us, hl with | [_], _ => rfl)⟩,
    d_are_name_pairs := ⟨f10, _, PySem.W.mg_of X G a_are_name_pairs, fun_mk (st := s_are_name_pairs) l_are_name_pairs c_are_name_pairs k_are_name_pairs, (Fun.binds (ps := [("value" : Str)]) (fun_mk (st := s_are_name_pairs) l_are_name_pairs c_are_name_pairs k_are_name_pairs) fun _ _ _ _ _ _ us hl => match us, hl with | [_], _ => rfl)⟩,
    d_are_names := ⟨f11, _, PySem.W.mg_of X G a_are_names, fun_mk (st := s_are_names) l_are_names c_are_names k_are_names, (Fun.binds (ps := [("values" : Str)]) (fun_mk (st := s_are_names) l_are_names c_are_names k_are_names) fun _ _ _ _ _ _ us hl => match us, hl with | [_], _ => rfl)⟩,
    d_first_repeated := ⟨f12, _, PySem.W.mg_of X G a_first_repeated, fun_mk (st := s_first_repeated) l_first_repeated c_first_repeated k_first_repeated, (Fun.binds (ps := [("things" : Str)]) (fun_mk (st := s_first_repeated) l_first_repeated c_first_repeated k_first_repeated) fun _ _ _ _ _ _ us hl => match us, hl with | [_], _ => rfl)⟩,
    v_Web_init := [.ref eT13],
    d_Web_init := ⟨f13, _, ⟨mk_Web, iC_Web_init, is_Web_init, kp_Web⟩, fund_mk (st := s_Web_init) l_Web_init lT_Web_init oT_Web_init c_Web_init k_Web_init,
    fund_bi (fund_mk (st := s_Web_init) l_Web_init lT_Web_init oT_Web_init c_Web_init k_Web_init) (n := 3) rfl fun _ _ _ _ _ _ _ us its hl hi => match us, its, hl, hi with | [_, _, _], [_], _, _ => ⟨_, rfl, rfl⟩⟩,
    d_Web_full := ⟨f14, _, p14, .type "type", ⟨rd_Web, ga_Web⟩, ⟨at_Web_full, ⟨_, rc_Web_full⟩, fi_Web_full⟩, fun_mk (st := s_Web_full) l_Web_full c_Web_full k_Web_full, (Fun.binds (ps := [("cls" : Str), ("towns" : Str)]) (fun_mk (st := s_Web_full) l_Web_full c_Web_full k_Web_full) fun _ _ _ _ _ _ us hl => match us, hl with | [_, _], _ => rfl)⟩,
    d_Web_chain := ⟨f15, _, p15, .type "type", ⟨rd_Web, ga_Web⟩, ⟨at_Web_chain, ⟨_, rc_Web_chain⟩, fi_Web_chain⟩, fun_mk (st := s_Web_chain) l_Web_chain c_Web_chain k_Web_chain, (Fun.binds (ps := [("cls" : Str), ("towns" : Str)]) (fun_mk (st := s_Web_chain) l_Web_chain c_Web_chain k_Web_chain) fun _ _ _ _ _ _ us hl => match us, hl with | [_, _], _ => rfl)⟩,
    d_Web_contains := ⟨f16, _, at_Web_contains, is_Web_contains, fun_mk (st := s_Web_contains) l_Web_contains c_Web_contains k_Web_contains, (Fun.binds (ps := [("self" : Str), ("x" : Str)]) (fun_mk (st := s_Web_contains) l_Web_contains c_Web_contains k_Web_contains) fun _ _ _ _ _ _ us hl => match us, hl with | [_, _], _ => rfl)⟩,
    d_Web_iter := ⟨f17, _, at_Web_iter, is_Web_iter, fun_mk (st := s_Web_iter) l_Web_iter c_Web_iter k_Web_iter, (Fun.binds (ps := [("self" : Str)]) (fun_mk (st := s_Web_iter) l_Web_iter c_Web_iter k_Web_iter) fun _ _ _ _ _ _ us hl => match us, hl with | [_], _ => rfl)⟩,
    d_Web_eq := ⟨f18, _, at_Web_eq, is_Web_eq, fun_mk (st := s_Web_eq) l_Web_eq c_Web_eq k_Web_eq, (Fun.binds (ps := [("self" : Str), ("other" : Str)]) (fun_mk (st := s_Web_eq) l_Web_eq c_Web_eq k_Web_eq) fun _ _ _ _ _ _ us hl => match us, hl with | [_, _], _ => rfl)⟩,
    d_Web_towns := ⟨f19, _, p19, ⟨at_Web_towns, gt_Web_towns, tk_Web_towns, ⟨_, rc_Web_towns⟩⟩, fun_mk (st := s_Web_towns) l_Web_towns c_Web_towns k_Web_towns, (Fun.binds (ps := [("self" : Str)]) (fun_mk (st := s_Web_towns) l_Web_towns c_Web_towns k_Web_towns) fun _ _ _ _ _ _ us hl => match us, hl with | [_], _ => rfl)⟩,
    d_Web_ways := ⟨f20, _, p20, ⟨at_Web_ways, gt_Web_ways, tk_Web_ways, ⟨_, rc_Web_ways⟩⟩, fun_mk (st := s_Web_ways) l_Web_ways c_Web_ways k_Web_ways, (Fun.binds (ps := [("self" : Str)]) (fun_mk (st := s_Web_ways) l_Web_ways c_Web_ways k_Web_ways) fun _ _ _ _ _ _ us hl => match us, hl with | [_], _ => rfl)⟩,
    d_Web_joins := ⟨f21, _, at_Web_joins, is_Web_joins, fun_mk (st := s_Web_joins) l_Web_joins c_Web_joins k_Web_joins, (Fun.binds (ps := [("self" : Str), ("here" : Str), ("there" : Str)]) (fun_mk (st := s_Web_joins) l_Web_joins c_Web_joins k_Web_joins) fun _ _ _ _ _ _ us hl => match us, hl with | [_, _, _], _ => rfl)⟩,
    d_Web_near := ⟨f22, _, at_Web_near, is_Web_near, fun_mk (st := s_Web_near) l_Web_near c_Web_near k_Web_near, (Fun.binds (ps := [("self" : Str), ("town" : Str)]) (fun_mk (st := s_Web_near) l_Web_near c_Web_near k_Web_near) fun _ _ _ _ _ _ us hl => match us, hl with | [_, _], _ => rfl)⟩,
    d_are_towns := ⟨f23, _, PySem.W.mg_of X G a_are_towns, fun_mk (st := s_are_towns) l_are_towns c_are_towns k_are_towns, (Fun.binds (ps := [("value" : Str)]) (fun_mk (st := s_are_towns) l_are_towns c_are_towns k_are_towns) fun _ _ _ _ _ _ us hl => match us, hl with | [_], _ => rfl)⟩,
    d_sorted_ways := ⟨f24, _, PySem.W.mg_of X G a_sorted_ways, fun_mk (st := s_sorted_ways) l_sorted_ways c_sorted_ways k_sorted_ways, (Fun.binds (ps := [("towns" : Str), ("ways" : Str)]) (fun_mk (st := s_sorted_ways) l_sorted_ways c_sorted_ways k_sorted_ways) fun _ _ _ _ _ _ us hl => match us, hl with | [_, _], _ => rfl)⟩,
    d_near_towns := ⟨f25, _, PySem.W.mg_of X G a_near_towns, fun_mk (st := s_near_towns) l_near_towns c_near_towns k_near_towns, (Fun.binds (ps := [("town" : Str), ("towns" : Str), ("ways" : Str)]) (fun_mk (st := s_near_towns) l_near_towns c_near_towns k_near_towns) fun _ _ _ _ _ _ us hl => match us, hl with | [_, _, _], _ => rfl)⟩,
    d_l_mixed := ⟨f26, _, PySem.W.mg_of X G a_l_mixed, fun_mk (st := s_l_mixed) l_l_mixed c_l_mixed k_l_mixed, (Fun.binds (ps := [("cell" : Str), ("k" : Str)]) (fun_mk (st := s_l_mixed) l_l_mixed c_l_mixed k_l_mixed) fun _ _ _ _ _ _ us hl => match us, hl with | [_, _], _ => rfl)⟩,
    d_l_store := ⟨f27, _, PySem.W.mg_of X G a_l_store, fun_mk (st := s_l_store) l_l_store c_l_store k_l_store, (Fun.binds (ps := [("script" : Str)]) (fun_mk (st := s_l_store) l_l_store c_l_store k_l_store) fun _ _ _ _ _ _ us hl => match us, hl with | [_], _ => rfl)⟩,
    d_l_take := ⟨f28, _, PySem.W.mg_of X G a_l_take, fun_mk (st := s_l_take) l_l_take c_l_take k_l_take, (Fun.binds (ps := [("store" : Str), ("many" : Str)]) (fun_mk (st := s_l_take) l_l_take c_l_take k_l_take) fun _ _ _ _ _ _ us hl => match us, hl with | [_, _], _ => rfl)⟩,
    d_l_pick := ⟨f29, _, PySem.W.mg_of X G a_l_pick, fun_mk (st := s_l_pick) l_l_pick c_l_pick k_l_pick, (Fun.binds (ps := [("store" : Str), ("row" : Str)]) (fun_mk (st := s_l_pick) l_l_pick c_l_pick k_l_pick) fun _ _ _ _ _ _ us hl => match us, hl with | [_, _], _ => rfl)⟩,
    d_l_some := ⟨f30, _, PySem.W.mg_of X G a_l_some, fun_mk (st := s_l_some) l_l_some c_l_some k_l_some, (Fun.binds (ps := [("store" : Str), ("row" : Str), ("many" : Str)]) (fun_mk (st := s_l_some) l_l_some c_l_some k_l_some) fun _ _ _ _ _ _ us hl => match us, hl with | [_, _, _], _ => rfl)⟩,
    d_l_turned := ⟨f31, _, PySem.W.mg_of X G a_l_turned, fun_mk (st := s_l_turned) l_l_turned c_l_turned k_l_turned, (Fun.binds (ps := [("store" : Str), ("row" : Str)]) (fun_mk (st := s_l_turned) l_l_turned c_l_turned k_l_turned) fun _ _ _ _ _ _ us hl => match us, hl with | [_, _], _ => rfl)⟩,
    d_l_word := ⟨f32, _, PySem.W.mg_of X G a_l_word, fun_mk (st := s_l_word) l_l_word c_l_word k_l_word, (Fun.binds (ps := [("store" : Str), ("size" : Str)]) (fun_mk (st := s_l_word) l_l_word c_l_word k_l_word) fun _ _ _ _ _ _ us hl => match us, hl with | [_, _], _ => rfl)⟩,
    d_l_names := ⟨f33, _, PySem.W.mg_of X G a_l_names, fun_mk (st := s_l_names) l_l_names c_l_names k_l_names, (Fun.binds (ps := [("store" : Str), ("many" : Str)]) (fun_mk (st := s_l_names) l_l_names c_l_names k_l_names) fun _ _ _ _ _ _ us hl => match us, hl with | [_, _], _ => rfl)⟩,
    d_l_no_name := ⟨f34, _, PySem.W.mg_of X G a_l_no_name, fun_mk (st := s_l_no_name) l_l_no_name c_l_no_name k_l_no_name, (Fun.binds (ps := [("store" : Str)]) (fun_mk (st := s_l_no_name) l_l_no_name c_l_no_name k_l_no_name) fun _ _ _ _ _ _ us hl => match us, hl with | [_], _ => rfl)⟩,
    d_l_same := ⟨f35, _, PySem.W.mg_of X G a_l_same, fun_mk (st := s_l_same) l_l_same c_l_same k_l_same, (Fun.binds (ps := [("one" : Str), ("other" : Str)]) (fun_mk (st := s_l_same) l_l_same c_l_same k_l_same) fun _ _ _ _ _ _ us hl => match us, hl with | [_, _], _ => rfl)⟩,
    d_l_joined := ⟨f36, _, PySem.W.mg_of X G a_l_joined, fun_mk (st := s_l_joined) l_l_joined c_l_joined k_l_joined, (Fun.binds (ps := [("roads" : Str), ("here" : Str), ("there" : Str)]) (fun_mk (st := s_l_joined) l_l_joined c_l_joined k_l_joined) fun _ _ _ _ _ _ us hl => match us, hl with | [_, _, _], _ => rfl)⟩,
    d_l_heard := ⟨f37, _, PySem.W.mg_of X G a_l_heard, fun_mk (st := s_l_heard) l_l_heard c_l_heard k_l_heard, (Fun.binds (ps := [("places" : Str), ("chained" : Str)]) (fun_mk (st := s_l_heard) l_l_heard c_l_heard k_l_heard) fun _ _ _ _ _ _ us hl => match us, hl with | [_, _], _ => rfl)⟩,
    d_l_due := ⟨f38, _, PySem.W.mg_of X G a_l_due, fun_mk (st := s_l_due) l_l_due c_l_due k_l_due, (Fun.binds (ps := [("places" : Str), ("chained" : Str)]) (fun_mk (st := s_l_due) l_l_due c_l_due k_l_due) fun _ _ _ _ _ _ us hl => match us, hl with | [_, _], _ => rfl)⟩,
    d_l_holds := ⟨f39, _, PySem.W.mg_of X G a_l_holds, fun_mk (st := s_l_holds) l_l_holds c_l_holds k_l_holds, (Fun.binds (ps := [("web" : Str), ("places" : Str), ("ways_due" : Str)]) (fun_mk (st := s_l_holds) l_l_holds c_l_holds k_l_holds) fun _ _ _ _ _ _ us hl => match us, hl with | [_, _, _], _ => rfl)⟩,
    d_l_refused := ⟨f40, _, PySem.W.mg_of X G a_l_refused, fun_mk (st := s_l_refused) l_l_refused c_l_refused k_l_refused, (Fun.binds (ps := [("places" : Str), ("due" : Str)]) (fun_mk (st := s_l_refused) l_l_refused c_l_refused k_l_refused) fun _ _ _ _ _ _ us hl => match us, hl with | [_, _], _ => rfl)⟩,
    d_l_doubled := ⟨f41, _, PySem.W.mg_of X G a_l_doubled, fun_mk (st := s_l_doubled) l_l_doubled c_l_doubled k_l_doubled, (Fun.binds (ps := [("store" : Str), ("places" : Str)]) (fun_mk (st := s_l_doubled) l_l_doubled c_l_doubled k_l_doubled) fun _ _ _ _ _ _ us hl => match us, hl with | [_, _], _ => rfl)⟩,
    d_law := ⟨fa, _, PySem.W.mg_of X G a_law, fun_mk (st := s_law) l_law c_law k_law, (Fun.binds (ps := [("script" : Str)]) (fun_mk (st := s_law) l_law c_law k_law) fun _ _ _ _ _ _ us hl => match us, hl with | [_], _ => rfl)⟩,
    o_Web := ⟨⟨pg_Web, hd_Web, po_Web, sa_Web⟩, ⟨⟨pg_Web, hd_Web, po_Web, sa_Web⟩, ha_Web, hn, ht, mr_Web, me_Web⟩, nl_Web, nh_Web, (List.forall_mem_cons.2 ⟨no__ways_Web, (List.forall_mem_cons.2 ⟨no__near_Web, (fun _ h => absurd h List.not_mem_nil)⟩)⟩)⟩,
    g_BadShape := PySem.W.mg_of X G a_BadShape,
    g_CrossError := PySem.W.mg_of X G a_CrossError,
    g_Repeated := PySem.W.mg_of X G a_Repeated,
    g_SameTown := PySem.W.mg_of X G a_SameTown,
    g_UnknownTown := PySem.W.mg_of X G a_UnknownTown,
    g_Web := PySem.W.mg_of X G a_Web,
    t_LETTERS := t_LETTERS,
    c_LETTERS := PySem.W.mg_of X G a_LETTERS,
    t_LETTERS_AND_DIGITS := t_LETTERS_AND_DIGITS,
    c_LETTERS_AND_DIGITS := PySem.W.mg_of X G a_LETTERS_AND_DIGITS,
    t_LONGEST_NAME := t_LONGEST_NAME,
    c_LONGEST_NAME := PySem.W.mg_of X G a_LONGEST_NAME,
    t_MOST_TOWNS := t_MOST_TOWNS,
    c_MOST_TOWNS := PySem.W.mg_of X G a_MOST_TOWNS,
    b_ValueError := PySem.W.mg_none_of X G z_ValueError,
    b_all := PySem.W.mg_none_of X G z_all,
    b_bool := PySem.W.mg_none_of X G z_bool,
    b_dict := PySem.W.mg_none_of X G z_dict,
    b_int := PySem.W.mg_none_of X G z_int,
    b_isinstance := PySem.W.mg_none_of X G z_isinstance,
    b_iter := PySem.W.mg_none_of X G z_iter,
    b_len := PySem.W.mg_none_of X G z_len,
    b_list := PySem.W.mg_none_of X G z_list,
    b_max := PySem.W.mg_none_of X G z_max,
    b_min := PySem.W.mg_none_of X G z_min,
    b_range := PySem.W.mg_none_of X G z_range,
    b_set := PySem.W.mg_none_of X G z_set,
    b_sorted := PySem.W.mg_none_of X G z_sorted,
    b_str := PySem.W.mg_none_of X G z_str,
    b_tuple := PySem.W.mg_none_of X G z_tuple,
    b_zip := PySem.W.mg_none_of X G z_zip,
    ef := ⟨ef_x_rr, ef_x_br, ef_x_bb, ef_k_rc, ef_k_rv, ef_a_r, ef_k_bc, ef_k_bv, ef_a_b⟩ }
  exact ⟨_, fun s u => .of_eq rfl, fun base _ _ => (ok_law T).mono (by decide)⟩
end XB

/-! The end. -/
namespace XB
open PySem PySem.Spec PyProof.Rows L2
theorem walk {l : PySem.W.OpenLaw} {q : Program} {loose : List Str} {XP : (Str → Option Value) → Heap → Prop} {YP : World → Heap → Prop} {d : DefRec} {K : Params → PySem.W.Frag} (hn : l.most = some 63) (hdf : d.params.defaults = [])
    (hY : ∀ (w : World) (h : Heap), YP w h → (K w.params).In h) 
    (F : ∀ (w : World) (mg : Str → Option Value) (fa : Addr) (h : Heap), (K w.params).In h → h.Ns mainGlobals mg → mg d.name = some (.ref fa) →
      ∃ fd : FuncData, (∀ (s : Shared) (u : Value), BindsTo s fd ⟨[u], []⟩ [("script", u)]) ∧ ∀ base : Heap, (K w.params).In base → base.Ns mainGlobals mg → FnOk l.prog w (K w.params) mg base CX0 30 fa fd ["script"] (sp_lawK (K w.params))) :
    PySem.W.WalkO q loose XP YP l.row.toRowW d [] (fun f vs => PySem.call f vs) :=
  L2.walk_of (n := 63) (k := 30) (x := "script") (CX := fun _ => CX0) (sp := fun w => sp_lawK (K w.params)) hn (by decide) hdf ⟨rfl, by decide, by decide⟩ hY F (fun _ _ a ns hl _ hS => ⟨a, ns, rfl, hS, hl, fun _ => rfl⟩) fun _ _ _ _ _ z => z
end XB
open PySem PySem.W PyProof.Rows in
set_option maxRecDepth 100000 in
set_option maxHeartbeats 0 in
theorem PySem.Challenge.cw_crossfarers_k10_full_and_chain_holds : PySem.Challenge.rw_crossfarers_k10_full_and_chain.Holds := by
  w_on; o_law; k_head; (case hw => w_witness2)
  k_fill
  refine XB.walk (l := PySem.Challenge.rw_crossfarers_k10_full_and_chain) rfl rfl (fun w h Y => PySem.W.kIn_of Y) ?F
  case F =>
    intro w mg fa h KX G hmg
    refine' XB.all_mk KX G hmg ?a_BadShape ?a_CrossError ?a_Repeated ?a_SameTown ?a_UnknownTown ?a_Web ?x_BadShape ?rb_BadShape ?sa_BadShape ?ga_BadShape ?gg_BadShape ?ha_BadShape ?iC_BadShape ?no_parameter_BadShape ?kC_BadShape ?eC_BadShape ?tC_BadShape ?hC_BadShape ?mr_BadShape ?tI_BadShape ?l_BadShape_init ?c_BadShape_init ?k_BadShape_init ?x_Repeated ?rb_Repeated ?sa_Repeated ?ga_Repeated ?gg_Repeated ?ha_Repeated ?iC_Repeated ?no_thing_Repeated ?kC_Repeated ?eC_Repeated ?tC_Repeated ?hC_Repeated ?mr_Repeated ?tI_Repeated ?l_Repeated_init ?c_Repeated_init ?k_Repeated_init ?x_UnknownTown ?rb_UnknownTown ?sa_UnknownTown ?ga_UnknownTown ?gg_UnknownTown ?ha_UnknownTown ?iC_UnknownTown ?no_town_UnknownTown ?kC_UnknownTown ?eC_UnknownTown ?tC_UnknownTown ?hC_UnknownTown ?mr_UnknownTown ?tI_UnknownTown ?l_UnknownTown_init ?c_UnknownTown_init ?k_UnknownTown_init ?x_SameTown ?rb_SameTown ?sa_SameTown ?ga_SameTown ?gg_SameTown ?ha_SameTown ?iC_SameTown ?no_town_SameTown ?kC_SameTown ?eC_SameTown ?tC_SameTown ?hC_SameTown ?mr_SameTown ?tI_SameTown ?l_SameTown_init ?c_SameTown_init ?k_SameTown_init ?a_is_name ?l_is_name ?c_is_name ?k_is_name ?a_is_tuple_of ?l_is_tuple_of ?c_is_tuple_of ?k_is_tuple_of ?a_check ?l_check ?c_check ?k_check ?a_check_town ?l_check_town ?c_check_town ?k_check_town ?a_is_series ?l_is_series ?c_is_series ?k_is_series ?a_are_name_pairs ?l_are_name_pairs ?c_are_name_pairs ?k_are_name_pairs ?a_are_names ?l_are_names ?c_are_names ?k_are_names ?a_first_repeated ?l_first_repeated ?c_first_repeated ?k_first_repeated ?iC_Web_init ?is_Web_init ?l_Web_init ?lT_Web_init ?oT_Web_init ?c_Web_init ?k_Web_init ?at_Web_full ?rc_Web_full ?fi_Web_full ?l_Web_full ?c_Web_full ?k_Web_full ?at_Web_chain ?rc_Web_chain ?fi_Web_chain ?l_Web_chain ?c_Web_chain ?k_Web_chain ?at_Web_contains ?is_Web_contains ?l_Web_contains ?c_Web_contains ?k_Web_contains ?at_Web_iter ?is_Web_iter ?l_Web_iter ?c_Web_iter ?k_Web_iter ?at_Web_eq ?is_Web_eq ?l_Web_eq ?c_Web_eq ?k_Web_eq ?at_Web_towns ?gt_Web_towns ?tk_Web_towns ?rc_Web_towns ?l_Web_towns ?c_Web_towns ?k_Web_towns ?at_Web_ways ?gt_Web_ways ?tk_Web_ways ?rc_Web_ways ?l_Web_ways ?c_Web_ways ?k_Web_ways ?at_Web_joins ?is_Web_joins ?l_Web_joins ?c_Web_joins ?k_Web_joins ?at_Web_near ?is_Web_near ?l_Web_near ?c_Web_near ?k_Web_near ?a_are_towns ?l_are_towns ?c_are_towns ?k_are_towns ?a_sorted_ways ?l_sorted_ways ?c_sorted_ways ?k_sorted_ways ?a_near_towns ?l_near_towns ?c_near_towns ?k_near_towns ?a_l_mixed ?l_l_mixed ?c_l_mixed ?k_l_mixed ?a_l_store ?l_l_store ?c_l_store ?k_l_store ?a_l_take ?l_l_take ?c_l_take ?k_l_take ?a_l_pick ?l_l_pick ?c_l_pick ?k_l_pick ?a_l_some ?l_l_some ?c_l_some ?k_l_some ?a_l_turned ?l_l_turned ?c_l_turned ?k_l_turned ?a_l_word ?l_l_word ?c_l_word ?k_l_word ?a_l_names ?l_l_names ?c_l_names ?k_l_names ?a_l_no_name ?l_l_no_name ?c_l_no_name ?k_l_no_name ?a_l_same ?l_l_same ?c_l_same ?k_l_same ?a_l_joined ?l_l_joined ?c_l_joined ?k_l_joined ?a_l_heard ?l_l_heard ?c_l_heard ?k_l_heard ?a_l_due ?l_l_due ?c_l_due ?k_l_due ?a_l_holds ?l_l_holds ?c_l_holds ?k_l_holds ?a_l_refused ?l_l_refused ?c_l_refused ?k_l_refused ?a_l_doubled ?l_l_doubled ?c_l_doubled ?k_l_doubled ?a_law ?l_law ?c_law ?k_law ?pg_Web ?hd_Web ?po_Web ?sa_Web ?ha_Web ?mr_Web ?me_Web ?nl_Web ?nh_Web ?no__ways_Web ?no__near_Web ?mk_Web ?kp_Web ?rd_Web ?ga_Web ?hn ?ht ?a_LETTERS ?a_LETTERS_AND_DIGITS ?a_LONGEST_NAME ?a_MOST_TOWNS ?z_ValueError ?z_all ?z_bool ?z_dict ?z_int ?z_isinstance ?z_iter ?z_len ?z_list ?z_max ?z_min ?z_range ?z_set ?z_sorted ?z_str ?z_tuple ?z_zip ?ef_x_rr ?ef_x_br ?ef_x_bb ?ef_k_rc ?ef_k_rv ?ef_a_r ?ef_k_bc ?ef_k_bv ?ef_a_b
    (case a_BadShape => k_is)
    (case a_CrossError => k_is)
    (case a_Repeated => k_is)
    (case a_SameTown => k_is)
    (case a_UnknownTown => k_is)
    (case a_Web => k_is)
    (case x_BadShape => k_is)
    (case rb_BadShape => decide +kernel)
    (case sa_BadShape => k_is)
    (case ga_BadShape => k_is)
    (case gg_BadShape => k_is)
    (case ha_BadShape => k_is)
    (case iC_BadShape => k_is)
    (case no_parameter_BadShape => k_is)
    (case kC_BadShape => k_is)
    (case eC_BadShape => k_is)
    (case tC_BadShape => k_is)
    (case hC_BadShape => k_is)
    (case mr_BadShape => k_is)
    (case tI_BadShape => k_is)
    (case l_BadShape_init => k_is)
    (case c_BadShape_init => k_is)
    (case k_BadShape_init => k_is)
    (case x_Repeated => k_is)
    (case rb_Repeated => decide +kernel)
    (case sa_Repeated => k_is)
    (case ga_Repeated => k_is)
    (case gg_Repeated => k_is)
    (case ha_Repeated => k_is)
    (case iC_Repeated => k_is)
    (case no_thing_Repeated => k_is)
    (case kC_Repeated => k_is)
    (case eC_Repeated => k_is)
    (case tC_Repeated => k_is)
    (case hC_Repeated => k_is)
    (case mr_Repeated => k_is)
    (case tI_Repeated => k_is)
    (case l_Repeated_init => k_is)
    (case c_Repeated_init => k_is)
    (case k_Repeated_init => k_is)
    (case x_UnknownTown => k_is)
    (case rb_UnknownTown => decide +kernel)
    (case sa_UnknownTown => k_is)
    (case ga_UnknownTown => k_is)
    (case gg_UnknownTown => k_is)
    (case ha_UnknownTown => k_is)
    (case iC_UnknownTown => k_is)
    (case no_town_UnknownTown => k_is)
    (case kC_UnknownTown => k_is)
    (case eC_UnknownTown => k_is)
    (case tC_UnknownTown => k_is)
    (case hC_UnknownTown => k_is)
    (case mr_UnknownTown => k_is)
    (case tI_UnknownTown => k_is)
    (case l_UnknownTown_init => k_is)
    (case c_UnknownTown_init => k_is)
    (case k_UnknownTown_init => k_is)
    (case x_SameTown => k_is)
    (case rb_SameTown => decide +kernel)
    (case sa_SameTown => k_is)
    (case ga_SameTown => k_is)
    (case gg_SameTown => k_is)
    (case ha_SameTown => k_is)
    (case iC_SameTown => k_is)
    (case no_town_SameTown => k_is)
    (case kC_SameTown => k_is)
    (case eC_SameTown => k_is)
    (case tC_SameTown => k_is)
    (case hC_SameTown => k_is)
    (case mr_SameTown => k_is)
    (case tI_SameTown => k_is)
    (case l_SameTown_init => k_is)
    (case c_SameTown_init => k_is)
    (case k_SameTown_init => k_is)
    (case a_is_name => k_is)
    (case l_is_name => k_is)
    (case c_is_name => k_is)
    (case k_is_name => k_is)
    (case a_is_tuple_of => k_is)
    (case l_is_tuple_of => k_is)
    (case c_is_tuple_of => k_is)
    (case k_is_tuple_of => k_is)
    (case a_check => k_is)
    (case l_check => k_is)
    (case c_check => k_is)
    (case k_check => k_is)
    (case a_check_town => k_is)
    (case l_check_town => k_is)
    (case c_check_town => k_is)
    (case k_check_town => k_is)
    (case a_is_series => k_is)
    (case l_is_series => k_is)
    (case c_is_series => k_is)
    (case k_is_series => k_is)
    (case a_are_name_pairs => k_is)
    (case l_are_name_pairs => k_is)
    (case c_are_name_pairs => k_is)
    (case k_are_name_pairs => k_is)
    (case a_are_names => k_is)
    (case l_are_names => k_is)
    (case c_are_names => k_is)
    (case k_are_names => k_is)
    (case a_first_repeated => k_is)
    (case l_first_repeated => k_is)
    (case c_first_repeated => k_is)
    (case k_first_repeated => k_is)
    (case iC_Web_init => k_is)
    (case is_Web_init => k_is)
    (case l_Web_init => k_is)
    (case lT_Web_init => k_is)
    (case oT_Web_init => exact rfl)
    (case c_Web_init => k_is)
    (case k_Web_init => k_is)
    (case at_Web_full => first | k_is | kernel_rfl | exact rfl)
    (case rc_Web_full => first | k_is | kernel_rfl | exact rfl)
    (case fi_Web_full => first | k_is | kernel_rfl | exact rfl)
    (case l_Web_full => k_is)
    (case c_Web_full => k_is)
    (case k_Web_full => k_is)
    (case at_Web_chain => first | k_is | kernel_rfl | exact rfl)
    (case rc_Web_chain => first | k_is | kernel_rfl | exact rfl)
    (case fi_Web_chain => first | k_is | kernel_rfl | exact rfl)
    (case l_Web_chain => k_is)
    (case c_Web_chain => k_is)
    (case k_Web_chain => k_is)
    (case at_Web_contains => k_is)
    (case is_Web_contains => k_is)
    (case l_Web_contains => k_is)
    (case c_Web_contains => k_is)
    (case k_Web_contains => k_is)
    (case at_Web_iter => k_is)
    (case is_Web_iter => k_is)
    (case l_Web_iter => k_is)
    (case c_Web_iter => k_is)
    (case k_Web_iter => k_is)
    (case at_Web_eq => k_is)
    (case is_Web_eq => k_is)
    (case l_Web_eq => k_is)
    (case c_Web_eq => k_is)
    (case k_Web_eq => k_is)
    (case at_Web_towns => k_is)
    (case gt_Web_towns => k_is)
    (case tk_Web_towns => k_is)
    (case rc_Web_towns => first | k_is | kernel_rfl | exact rfl)
    (case l_Web_towns => k_is)
    (case c_Web_towns => k_is)
    (case k_Web_towns => k_is)
    (case at_Web_ways => k_is)
    (case gt_Web_ways => k_is)
    (case tk_Web_ways => k_is)
    (case rc_Web_ways => first | k_is | kernel_rfl | exact rfl)
    (case l_Web_ways => k_is)
    (case c_Web_ways => k_is)
    (case k_Web_ways => k_is)
    (case at_Web_joins => k_is)
    (case is_Web_joins => k_is)
    (case l_Web_joins => k_is)
    (case c_Web_joins => k_is)
    (case k_Web_joins => k_is)
    (case at_Web_near => k_is)
    (case is_Web_near => k_is)
    (case l_Web_near => k_is)
    (case c_Web_near => k_is)
    (case k_Web_near => k_is)
    (case a_are_towns => k_is)
    (case l_are_towns => k_is)
    (case c_are_towns => k_is)
    (case k_are_towns => k_is)
    (case a_sorted_ways => k_is)
    (case l_sorted_ways => k_is)
    (case c_sorted_ways => k_is)
    (case k_sorted_ways => k_is)
    (case a_near_towns => k_is)
    (case l_near_towns => k_is)
    (case c_near_towns => k_is)
    (case k_near_towns => k_is)
    (case a_l_mixed => k_is)
    (case l_l_mixed => k_is)
    (case c_l_mixed => k_is)
    (case k_l_mixed => k_is)
    (case a_l_store => k_is)
    (case l_l_store => k_is)
    (case c_l_store => k_is)
    (case k_l_store => k_is)
    (case a_l_take => k_is)
    (case l_l_take => k_is)
    (case c_l_take => k_is)
    (case k_l_take => k_is)
    (case a_l_pick => k_is)
    (case l_l_pick => k_is)
    (case c_l_pick => k_is)
    (case k_l_pick => k_is)
    (case a_l_some => k_is)
    (case l_l_some => k_is)
    (case c_l_some => k_is)
    (case k_l_some => k_is)
    (case a_l_turned => k_is)
    (case l_l_turned => k_is)
    (case c_l_turned => k_is)
    (case k_l_turned => k_is)
    (case a_l_word => k_is)
    (case l_l_word => k_is)
    (case c_l_word => k_is)
    (case k_l_word => k_is)
    (case a_l_names => k_is)
    (case l_l_names => k_is)
    (case c_l_names => k_is)
    (case k_l_names => k_is)
    (case a_l_no_name => k_is)
    (case l_l_no_name => k_is)
    (case c_l_no_name => k_is)
    (case k_l_no_name => k_is)
    (case a_l_same => k_is)
    (case l_l_same => k_is)
    (case c_l_same => k_is)
    (case k_l_same => k_is)
    (case a_l_joined => k_is)
    (case l_l_joined => k_is)
    (case c_l_joined => k_is)
    (case k_l_joined => k_is)
    (case a_l_heard => k_is)
    (case l_l_heard => k_is)
    (case c_l_heard => k_is)
    (case k_l_heard => k_is)
    (case a_l_due => k_is)
    (case l_l_due => k_is)
    (case c_l_due => k_is)
    (case k_l_due => k_is)
    (case a_l_holds => k_is)
    (case l_l_holds => k_is)
    (case c_l_holds => k_is)
    (case k_l_holds => k_is)
    (case a_l_refused => k_is)
    (case l_l_refused => k_is)
    (case c_l_refused => k_is)
    (case k_l_refused => k_is)
    (case a_l_doubled => k_is)
    (case l_l_doubled => k_is)
    (case c_l_doubled => k_is)
    (case k_l_doubled => k_is)
    (case a_law => k_is)
    (case l_law => k_is)
    (case c_law => k_is)
    (case k_law => k_is)
    (case pg_Web => first | k_is | kernel_rfl | exact rfl)
    (case hd_Web => k_is)
    (case po_Web => first | k_is | kernel_rfl | exact rfl)
    (case sa_Web => k_is)
    (case ha_Web => k_is)
    (case mr_Web => k_is)
    (case me_Web => first | k_is | kernel_rfl | exact rfl)
    (case nl_Web => k_is)
    (case nh_Web => k_is)
    (case no__ways_Web => k_is)
    (case no__near_Web => k_is)
    (case mk_Web => first | k_is | kernel_rfl | exact rfl)
    (case kp_Web => k_is)
    (case rd_Web => first | k_is | kernel_rfl | exact rfl)
    (case ga_Web => first | k_is | kernel_rfl | exact rfl)
    (case hn => k_is)
    (case ht => k_is)
    (case a_LETTERS => k_is)
    (case a_LETTERS_AND_DIGITS => k_is)
    (case a_LONGEST_NAME => k_is)
    (case a_MOST_TOWNS => k_is)
    (case z_ValueError => k_is)
    (case z_all => k_is)
    (case z_bool => k_is)
    (case z_dict => k_is)
    (case z_int => k_is)
    (case z_isinstance => k_is)
    (case z_iter => k_is)
    (case z_len => k_is)
    (case z_list => k_is)
    (case z_max => k_is)
    (case z_min => k_is)
    (case z_range => k_is)
    (case z_set => k_is)
    (case z_sorted => k_is)
    (case z_str => k_is)
    (case z_tuple => k_is)
    (case z_zip => k_is)
    (case ef_x_rr => first | kernel_rfl | exact rfl)
    (case ef_x_br => first | kernel_rfl | exact rfl)
    (case ef_x_bb => first | kernel_rfl | exact rfl)
    (case ef_k_rc => first | kernel_rfl | exact rfl)
    (case ef_k_rv => first | kernel_rfl | exact rfl)
    (case ef_a_r => first | kernel_rfl | exact rfl)
    (case ef_k_bc => first | kernel_rfl | exact rfl)
    (case ef_k_bv => first | kernel_rfl | exact rfl)
    (case ef_a_b => first | kernel_rfl | exact rfl)
