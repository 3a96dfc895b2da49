import PyProof.Rows.All
import Wide.All
import OpenK.AllK
import Wide.FinOn
import HandS.ForMost
import HandS.ForExc
import HandS.Wide
import HandS.More
import HandS.Evl
import HandS.IsInst
import HandS.TupMul
import HandS.TupLe
import HandS.TryMany
import HandS.ExcInit
import HandS.ExcField
import HandS.ExcIs
import HandS.Style
import HandS.Zip
import HandS.HotCalls
import HandS.ExcInitHot
import HandS.Codes
import HandS.WordsDict
import HandS.DictEq
import HandS.TupAny
import HandS.SetKeys
import HandS.DictComp
import HandS.DictTup
import PyProof.ReprRoads
import HandS.Conv
import PySem.Challenge.RW_crossfarers_k00_shapes
set_option Elab.async false
set_option linter.all false
set_option maxRecDepth 100000
set_option maxHeartbeats 8000000

/-! Own words over the hand layer. Each operator's reading is a function of the values and the heap (so that simp runs it); how a reading is taken apart. -/
namespace XB
open PySem L2
/-! ### what stands in the heap -/
def asL : Option HO → Option (List V)
  | some (.lst xs) => some xs
  | some (.frz _ (.lst xs)) => some xs
  | _ => none
def asT : Option HO → Option (List V)
  | some (.tup xs) => some xs
  | some (.frz _ (.tup xs)) => some xs
  | _ => none
theorem asL_seq {K : PySem.W.Frag} {H : Hp} {p : Addr} {xs : List V} (h : asL (H p) = some xs) : SqL K H p xs := by
  unfold asL at h
  split at h
  · rename_i ys e; cases h; exact .inl (.inl e)
  · rename_i o ys e; cases h; exact .inl (.inr ⟨o, e⟩)
  · cases h
theorem asT_seq {K : PySem.W.Frag} {H : Hp} {p : Addr} {xs : List V} (h : asT (H p) = some xs) : SqT K H p xs := by
  unfold asT at h
  split at h
  · rename_i ys e; cases h; exact .inl (.inl e)
  · rename_i o ys e; cases h; exact .inl (.inr ⟨o, e⟩)
  · cases h
def asS (o : Option HO) : Option (List V) := match asL o with
  | some xs => some xs
  | none => asT o
theorem asS_or {o : Option HO} {xs : List V} (h : asS o = some xs) : asL o = some xs ∨ asT o = some xs := by
  unfold asS at h
  split at h
  · rename_i e; rw [← h]; exact .inl e
  · exact .inr h
def atV (xs : List V) (i : Int) (q : V → Prop) : Prop := match atI xs i with
  | some v => q v
  | none => False
/-! ### operators -/
def fAdd : R2 := fun x y H Q => match x, y with
  | .int i, .int j => Q (.int (i + j)) H
  | .str a, .str b => a.length + b.length ≤ sizeLine ∧ Q (.str (a ++ b)) H
  | .ref a, .ref b => (match H a, H b with
    | some (.lst xs), some (.lst ys) => xs.length + ys.length ≤ sizeLine ∧ ∀ p, H p = none → Q (.ref p) (upd H p (.lst (xs ++ ys)))
    | some (.tup xs), some (.tup ys) => xs ≠ [] ∧ ys ≠ [] ∧ xs.length + ys.length ≤ sizeLine ∧ ∀ p, H p = none → Q (.ref p) (upd H p (.tup (xs ++ ys)))
    | _, _ => False)
  | _, _ => False
def fSub : R2 := fun x y H Q => match x, y with
  | .int i, .int j => Q (.int (i - j)) H
  | _, _ => False
def fMul : R2 := fun x y H Q => match x, y with
  | .int i, .int j => CMul i j ∧ Q (.int (i * j)) H
  | .ref a, .int k => (match H a with
    | some (.lst xs) => (-(2 ^ 63) ≤ k ∧ k < 2 ^ 63 ∧ xs.length * k.toNat ≤ sizeLine) ∧ ∀ p, H p = none → Q (.ref p) (upd H p (.lst (List.replicate k.toNat xs).flatten))
    | _ => False)
  | _, _ => False
def fMod : R2 := fun x y H Q => match x, y with
  | .int i, .int j => 0 < j ∧ Q (.int (i % j)) H
  | _, _ => False
def fDiv : R2 := fun x y H Q => match x, y with
  | .int i, .int j => CDivW i j ∧ Q (.int (i / j)) H
  | _, _ => False
def fPow : R2 := fun x y H Q => match x, y with
  | .int i, .int j => CPow i j ∧ Q (.int (i ^ j.toNat)) H
  | _, _ => False
def fNeg : V → Hp → VK → Prop := fun x H Q => match x with
  | .int i => Q (.int (-i)) H
  | _ => False
def fCmp (f : Int → Int → Bool) : R2 := fun x y H Q => match x, y with
  | .int i, .int j => Q (.bl (f i j)) H
  | _, _ => False
abbrev fLt : R2 := fCmp fun i j => decide (i < j)
abbrev fLe : R2 := fCmp fun i j => decide (i ≤ j)
abbrev fGt : R2 := fCmp fun i j => decide (j < i)
abbrev fGe : R2 := fCmp fun i j => decide (j ≤ i)
def fEq (K : PySem.W.Frag) : R2 := fun x y H Q => match x, y with
  | .int i, .int j => Q (.bl (decide (i = j))) H
  | .bl i, .bl j => Q (.bl (decide (i = j))) H
  | .str i, .str j => Q (.bl (decide (i = j))) H
  | .ref a, .ref b => rEqD K (.ref a) (.ref b) H Q
  | x, y => scal x y = true ∧ Q (.bl (decide (x = y))) H
def fNe (K : PySem.W.Frag) : R2 := fun x y H Q => match x, y with
  | .int i, .int j => Q (.bl (!decide (i = j))) H
  | .bl i, .bl j => Q (.bl (!decide (i = j))) H
  | .str i, .str j => Q (.bl (!decide (i = j))) H
  | .ref a, .ref b => rNeD K (.ref a) (.ref b) H Q
  | x, y => scal x y = true ∧ Q (.bl (!decide (x = y))) H
def fIsN : R2 := fun x y H Q => match y with
  | .non => Q (.bl (decide (x = .non))) H
  | _ => False
def fNotN : R2 := fun x y H Q => match y with
  | .non => Q (.bl (!decide (x = .non))) H
  | _ => False
def fIsB : R2 := fun x y H Q => match x, y with
  | .bl a, .bl b => Q (.bl (decide (a = b))) H
  | _, _ => False
def fIx : R2 := fun x y H Q => match x, y with
  | .ref p, .int i => (match asS (H p) with
    | some xs => atV xs i fun v => Q v H
    | none => False)
  | .str z, .int i => z.length ≤ sizeLine ∧ ∃ c, atI z.cps.toList i = some c ∧ Q (.str ⟨#[c]⟩) H
  | _, _ => False
def fIn (K : PySem.W.Frag) : R2 := fun x y H Q => match x, y with
  | .str ⟨⟨[c]⟩⟩, .str z => Q (.bl (decide (c ∈ z.cps.toList))) H
  | x, .ref p => (match asS (H p) with
    | some xs => flatV x = true ∧ xs.all flatV = true ∧ Q (.bl (inV x xs)) H
    | none => False)
  | _, _ => False
/-! ### calls of what is built in -/
abbrev RL := List V → Hp → VK → Prop
def fInt : RL := fun xs H Q => match xs with
  | [.int i] => Q (.int i) H
  | [.bl k] => Q (.int (if k then 1 else 0)) H
  | _ => False
def fLen : RL := fun xs H Q => match xs with
  | [.str z] => z.length ≤ sizeLine ∧ Q (.int (z.length : Nat)) H
  | [.ref p] => (match asS (H p) with
    | some ys => Q (.int (ys.length : Nat)) H
    | none => False)
  | _ => False
def fMax : RL := fun xs H Q => match xs with
  | [.int i, .int j] => Q (.int (max i j)) H
  | _ => False
def fMin : RL := fun xs H Q => match xs with
  | [.int i, .int j] => Q (.int (min i j)) H
  | _ => False
def fAbs : RL := fun xs H Q => match xs with
  | [.int i] => Q (.int (if i < 0 then -i else i)) H
  | _ => False
def fList : RL := fun xs H Q => match xs with
  | [.ref p] => (match asS (H p) with
    | some ys => ∀ l, H l = none → Q (.ref l) (upd H l (.lst ys))
    | none => False)
  | _ => False
def fTuple : RL := fun xs H Q => match xs with
  | [.ref p] => (match asL (H p) with
    | some ys => ∀ l, H l = none → Q (.ref l) (upd H l (.tup ys))
    | none => False)
  | _ => False
def fAll : RL := fun xs H Q => match xs with
  | [.ref p] => (match asL (H p) with
    | some ys => ∃ bs : List Bool, ys = bs.map V.bl ∧ Q (.bl (bs.all id)) H
    | none => False)
  | _ => False
def fSum : RL := fun xs H Q => match xs with
  | [.ref p] => (match asL (H p) with
    | some ys => ∃ ns : List Int, ys = ns.map V.int ∧ Q (.int ns.sum) H
    | none => False)
  | _ => False
/-- the built-in class of a value -/
def tyN (x : V) (H : Hp) : Option String := match x with
  | .non => some "NoneType"
  | .bl _ => some "bool"
  | .int _ => some "int"
  | .str _ => some "str"
  | .ref p => (match H p with
    | some (.lst _) => some "list"
    | some (.frz _ (.lst _)) => some "list"
    | some (.tup _) => some "tuple"
    | some (.frz _ (.tup _)) => some "tuple"
    | some (.dK _) => some "dict"
    | some (.dT _) => some "dict"
    | some (.frz _ (.dK _)) => some "dict"
    | _ => none)
  | _ => none
theorem tyN_x {K : PySem.W.Frag} {x : V} {H : Hp} {t : String} (h : tyN x H = some t) : TyX K H x (.type t) := by
  unfold tyN at h
  split at h
  · cases h; exact .base .non
  · cases h; exact .base (.bl _)
  · cases h; exact .base (.int _)
  · cases h; exact .base (.str _)
  · split at h
    · rename_i e; cases h; exact .base (.lst e)
    · rename_i e; cases h; exact .base (.frz e)
    · rename_i e; cases h; exact .base (.tup e)
    · rename_i e; cases h; exact .fTuple e
    · rename_i e; cases h; exact .base (.dK e)
    · rename_i e; cases h; exact .base (.dT e)
    · rename_i e; cases h; exact .fDict e
    · cases h
  · cases h
def tys : List V → Option (List String)
  | [] => some []
  | .ty c :: r => (tys r).map (c :: ·)
  | _ => none
def kitS (t : String) : List String → Option Bool
  | [] => some false
  | c :: r => (match kitB t c with
    | some true => some true
    | some false => kitS t r
    | none => none)
theorem kitS_any {K : PySem.W.Frag} {t : String} : ∀ {ns : List String} {b : Bool}, kitS t ns = some b → PySem.W.kitAny K (.type t) (ns.map Value.type) = some b
  | [], b, h => h
  | c :: r, b, h => by
    unfold kitS at h
    split at h
    · rename_i e
      exact kitAny_cons (kit_ty e) (fun z => by cases z) (fun _ => by cases h; rfl)
    · rename_i e
      exact kitAny_cons (kit_ty e) (fun _ => kitS_any h) (fun z => by cases z)
    · cases h
theorem tys_pair : ∀ {cs : List V} {ns : List String}, tys cs = some ns → Paired ClsV cs (ns.map Value.type)
  | [], ns, h => by cases h; exact .nil
  | .ty c :: r, ns, h => by
    unfold tys at h
    cases e : tys r with
    | none => rw [e] at h; cases h
    | some m => rw [e] at h; cases h; exact .cons (.ty c) (tys_pair e)
  | .non :: _, _, h => by cases h
  | .bl _ :: _, _, h => by cases h
  | .int _ :: _, _, h => by cases h
  | .str _ :: _, _, h => by cases h
  | .byt _ :: _, _, h => by cases h
  | .flt _ :: _, _, h => by cases h
  | .ref _ :: _, _, h => by cases h
def fIsi : RL := fun xs H Q => match xs with
  | [x, .ty c] => (match tyN x H with
    | some t => (match kitB t c with
      | some b => Q (.bl b) H
      | none => False)
    | none => False)
  | _ => False
def fIsiT : RL := fun xs H Q => match xs with
  | [x, .ref tp] => (match tyN x H, H tp with
    | some t, some (.tup cs) => (match tys cs with
      | some ns => (match kitS t ns with
        | some b => Q (.bl b) H
        | none => False)
      | none => False)
    | _, _ => False)
  | _ => False
/-! ### methods, slices, stores, targets -/
abbrev RM := V → List V → Hp → VK → Prop
def fAppend : RM := fun x vs H Q => match x, vs with
  | .ref l, [y] => (match H l with
    | some (.lst xs) => xs.length < sizeLine ∧ Q .non (upd H l (.lst (xs ++ [y])))
    | _ => False)
  | _, _ => False
def fInsert : RM := fun x vs H Q => match x, vs with
  | .ref l, [.int i, y] => (match H l with
    | some (.lst xs) => (xs.length < sizeLine ∧ 0 ≤ i ∧ i < 2 ^ 63) ∧ Q .non (upd H l (.lst (xs.take i.toNat ++ [y] ++ xs.drop i.toNat)))
    | _ => False)
  | _, _ => False
def fPop : RM := fun x vs H Q => match x, vs with
  | .ref l, [] => (match H l with
    | some (.lst xs) => (match xs[xs.length - 1]? with
      | some y => Q y (upd H l (.lst xs.dropLast))
      | none => False)
    | _ => False)
  | _, _ => False
def fSl : V → Option Int → Option Int → Hp → VK → Prop := fun x lo hi H Q => match x with
  | .ref p => (match asL (H p) with
    | some xs => ∀ q, H q = none → Q (.ref q) (upd H q (.lst (cutV xs lo hi)))
    | none => (match asT (H p) with
      | some xs => ¬ (HT.sIx xs.length 0 lo = 0 ∧ HT.sIx xs.length xs.length hi = xs.length) ∧ ∀ q, H q = none → Q (.ref q) (upd H q (.tup (cutV xs lo hi)))
      | none => False))
  | _ => False
def fSet : V → V → V → Hp → (Hp → Prop) → Prop := fun o i v H Q => match o, i with
  | .ref p, .int k => (match H p with
    | some (.lst xs) => (match ixN xs.length k with
      | some j => Q (upd H p (.lst (xs.set j v)))
      | none => False)
    | _ => False)
  | _, _ => False
def gTupF (n : Nat) (t : TGs) : TG := fun v σ H Q => match v with
  | .ref a => (match asT (H a) with
    | some xs => xs.length = n ∧ t xs σ H Q
    | none => False)
  | _ => False
def tBMF (T : String) (r : RM) (to : TE) (t : TA) : TE := fun σ H Q => to σ H fun x H1 => tyN x H1 = some T ∧ t σ H1 fun xs H2 => r x xs H2 Q
def tBM0F (T : String) (r : RM) (to : TE) : TE := fun σ H Q => to σ H fun x H1 => tyN x H1 = some T ∧ r x [] H1 Q
def tRevF (te : TE) : TE := fun σ H Q => te σ H fun x H1 => match x with
  | .ref a => (match asL (H1 a) with
    | some xs => ∀ p, H1 p = none → Q (.ref p) (upd H1 p (.lst xs.reverse))
    | none => False)
  | _ => False
theorem ty_of_list {K : PySem.W.Frag} {x : V} {H : Hp} (h : tyN x H = some "list") : tyV K "list" x H := by
  unfold tyN at h
  split at h
  · exact absurd (Option.some.inj h) (by decide)
  · exact absurd (Option.some.inj h) (by decide)
  · exact absurd (Option.some.inj h) (by decide)
  · exact absurd (Option.some.inj h) (by decide)
  · split at h
    · rename_i e; exact .inl ⟨rfl, _, .inl (.inl e)⟩
    · rename_i o xs e; exact .inl ⟨rfl, _, .inl (.inr ⟨o, e⟩)⟩
    · exact absurd (Option.some.inj h) (by decide)
    · exact absurd (Option.some.inj h) (by decide)
    · exact absurd (Option.some.inj h) (by decide)
    · exact absurd (Option.some.inj h) (by decide)
    · exact absurd (Option.some.inj h) (by decide)
    · cases h
  · cases h
theorem bm_var {K : PySem.W.Frag} {r : RM} {n : Nat} {t : TA} : ∀ σ H Q, tBMF "list" r (tVar n) t σ H Q → tBM K "list" r (tVar n) t σ H Q := fun σ H Q ⟨v, e, h1, h2⟩ => ⟨v, e, ty_of_list h1, h2⟩
theorem bm0_var {K : PySem.W.Frag} {r : RM} {n : Nat} : ∀ σ H Q, tBM0F "list" r (tVar n) σ H Q → tBM0 K "list" r (tVar n) σ H Q := fun σ H Q ⟨v, e, h1, h2⟩ => ⟨v, e, ty_of_list h1, h2⟩
theorem rev_var {K : PySem.W.Frag} {n : Nat} : ∀ σ H Q, tRevF (tVar n) σ H Q → tRevL K (tVar n) σ H Q := fun σ H Q ⟨v, e, h⟩ => by
  refine ⟨v, e, ?_⟩
  dsimp only at h ⊢
  split at h
  · split at h
    · rename_i e2
      exact ⟨_, _, rfl, asL_seq e2, h⟩
    · exact h.elim
  · exact h.elim
section
variable {X : Cx}
theorem op_imp {f : Value → Value → Sem Value} {r r' : R2} (h : OpR X f r) (k : ∀ x y H Q, r' x y H Q → r x y H Q) : OpR X f r' :=
  fun pins s σ H x y v u Q I rx ry q => h pins s σ H x y v u Q I rx ry (k x y H Q q)
theorem un_imp {f : Value → Sem Value} {r r' : V → Hp → VK → Prop} (h : UnR X f r) (k : ∀ x H Q, r' x H Q → r x H Q) : UnR X f r' :=
  fun pins s σ H x v Q I rx q => h pins s σ H x v Q I rx (k x H Q q)
theorem call_imp {f : Value} {r r' : RL} (h : CallR X f r) (k : ∀ xs H Q, r' xs H Q → r xs H Q) : CallR X f r' :=
  fun pins s σ H xs us Q I rs q => h pins s σ H xs us Q I rs (k xs H Q q)
theorem mt_imp {id : String} {r r' : RM} (h : MtR X id r) (k : ∀ x xs H Q, r' x xs H Q → r x xs H Q) : MtR X id r' :=
  fun pins s σ H x xs v us Q I rx rs q => h pins s σ H x xs v us Q I rx rs (k x xs H Q q)
theorem ix_imp {r r' : R2} (h : IxR X r) (k : ∀ x y H Q, r' x y H Q → r x y H Q) : IxR X r' :=
  fun value slice pins s σ H x y v u Q I rx ry q hs => h value slice pins s σ H x y v u Q I rx ry (k x y H Q q) hs
theorem op_addF : OpR X (binaryOp .Add) fAdd := op_imp (op_add.or (op_cat.or (op_catT.or op_add_str))) fun x y H Q h => by
  unfold fAdd at h
  split at h
  · exact .inl ⟨_, _, rfl, rfl, h⟩
  · exact .inr (.inr (.inr ⟨_, _, rfl, rfl, h.1, h.2⟩))
  · split at h
    · rename_i e1 e2
      exact .inr (.inl ⟨_, _, _, _, rfl, rfl, e1, e2, h.1, h.2⟩)
    · rename_i e1 e2
      exact .inr (.inr (.inl ⟨_, _, _, _, rfl, rfl, .inl (.inl e1), .inl (.inl e2), h.1, h.2.2.1, fun z => absurd z h.2.1, fun _ => h.2.2.2⟩))
    · exact h.elim
  · exact h.elim
theorem op_subF : OpR X (binaryOp .Sub) fSub := op_imp op_sub fun x y H Q h => by
  unfold fSub at h
  split at h
  · exact ⟨_, _, rfl, rfl, h⟩
  · exact h.elim
theorem op_mulF : OpR X (binaryOp .Mult) fMul := op_imp (op_mul.or op_rep) fun x y H Q h => by
  unfold fMul at h
  split at h
  · exact .inl ⟨_, _, rfl, rfl, h.1, h.2⟩
  · split at h
    · rename_i e
      exact .inr ⟨_, _, _, rfl, rfl, e, h.1.1, h.1.2.1, h.1.2.2, h.2⟩
    · exact h.elim
  · exact h.elim
theorem op_modF : OpR X (binaryOp .Mod) fMod := op_imp op_mod fun x y H Q h => by
  unfold fMod at h
  split at h
  · exact ⟨_, _, rfl, rfl, h.1, h.2⟩
  · exact h.elim
theorem op_divF : OpR X (binaryOp .FloorDiv) fDiv := op_imp op_fdivW fun x y H Q h => by
  unfold fDiv at h
  split at h
  · exact ⟨_, _, rfl, rfl, h.1, h.2⟩
  · exact h.elim
theorem op_powF : OpR X (binaryOp .Pow) fPow := op_imp op_pow fun x y H Q h => by
  unfold fPow at h
  split at h
  · exact ⟨_, _, rfl, rfl, h.1, h.2⟩
  · exact h.elim
theorem un_negF : UnR X (unaryOp .USub) fNeg := un_imp un_neg fun x H Q h => by
  unfold fNeg at h
  split at h
  · exact ⟨_, rfl, h⟩
  · exact h.elim
theorem cmp_back {f : Int → Int → Bool} {x y : V} {H : Hp} {Q : VK} (h : fCmp f x y H Q) : rI0 (fun i j => .bl (f i j)) x y H Q := by
  unfold fCmp at h
  split at h
  · exact ⟨_, _, rfl, rfl, h⟩
  · exact h.elim
theorem op_ltF : OpR X (compareOp .Lt) fLt := op_imp op_lt fun _ _ _ _ h => cmp_back h
theorem op_leF : OpR X (compareOp .LtE) fLe := op_imp op_le fun _ _ _ _ h => cmp_back h
theorem op_gtF : OpR X (compareOp .Gt) fGt := op_imp op_gt fun _ _ _ _ h => cmp_back h
theorem op_geF : OpR X (compareOp .GtE) fGe := op_imp op_ge fun _ _ _ _ h => cmp_back h
theorem op_eqF (hu : X.A.units + 64 < cLine) : OpR X (compareOp .Eq) (fEq X.K) := op_imp (op_eq.or (op_eqD hu)) fun x y H Q h => by
  unfold fEq at h
  split at h
  · rename_i i j
    exact .inl ⟨rfl, by have e : decide (V.int i = V.int j) = decide (i = j) := by simp
                        rw [e]; exact h⟩
  · rename_i i j
    exact .inl ⟨rfl, by have e : decide (V.bl i = V.bl j) = decide (i = j) := by simp
                        rw [e]; exact h⟩
  · rename_i i j
    exact .inl ⟨rfl, by have e : decide (V.str i = V.str j) = decide (i = j) := by simp
                        rw [e]; exact h⟩
  · exact .inr h
  · exact .inl h
theorem op_neF (hu : X.A.units + 64 < cLine) : OpR X (compareOp .NotEq) (fNe X.K) := op_imp (op_ne.or (op_neD hu)) fun x y H Q h => by
  unfold fNe at h
  split at h
  · rename_i i j
    exact .inl ⟨rfl, by have e : decide (V.int i = V.int j) = decide (i = j) := by simp
                        rw [e]; exact h⟩
  · rename_i i j
    exact .inl ⟨rfl, by have e : decide (V.bl i = V.bl j) = decide (i = j) := by simp
                        rw [e]; exact h⟩
  · rename_i i j
    exact .inl ⟨rfl, by have e : decide (V.str i = V.str j) = decide (i = j) := by simp
                        rw [e]; exact h⟩
  · exact .inr h
  · exact .inl h
theorem op_isNF : OpR X (compareOp .Is) fIsN := op_imp op_isN fun x y H Q h => by
  unfold fIsN at h
  split at h
  · exact ⟨rfl, h⟩
  · exact h.elim
theorem op_notNF : OpR X (compareOp .IsNot) fNotN := op_imp op_notN fun x y H Q h => by
  unfold fNotN at h
  split at h
  · exact ⟨rfl, h⟩
  · exact h.elim
theorem op_isBF : OpR X (compareOp .Is) fIsB := op_imp op_is_bl fun x y H Q h => by
  unfold fIsB at h
  split at h
  · exact ⟨_, _, rfl, rfl, h⟩
  · exact h.elim
theorem ix_F : IxR X fIx := ix_imp ix_seq fun x y H Q h => by
  unfold fIx at h
  split at h
  · split at h
    · rename_i e
      unfold atV at h
      split at h
      · rename_i e2
        rcases asS_or e with e | e
        · exact .inl ⟨_, _, _, _, rfl, rfl, asL_seq e, e2, h⟩
        · exact .inr (.inl ⟨_, _, _, _, rfl, rfl, asT_seq e, e2, h⟩)
      · exact h.elim
    · exact h.elim
  · obtain ⟨h1, c, h2, h3⟩ := h
    exact .inr (.inr ⟨_, _, _, rfl, rfl, h1, h2, h3⟩)
  · exact h.elim
theorem op_inF : OpR X (compareOp .In) (fIn X.K) := op_imp (op_in_seq.or op_in_sign) fun x y H Q h => by
  unfold fIn at h
  split at h
  · exact .inr ⟨_, _, rfl, rfl, h⟩
  · split at h
    · rename_i e
      obtain ⟨h1, h2, h3⟩ := h
      exact .inl ⟨_, _, rfl, (asS_or e).elim (fun e => .inl (asL_seq e)) (fun e => .inr (asT_seq e)), h1, h2, h3⟩
    · exact h.elim
  · exact h.elim
theorem c_int : CallR X (.type "int") fInt := call_imp call_int1 fun xs H Q h => by
  unfold fInt at h
  split at h
  · exact .inl ⟨_, rfl, h⟩
  · exact .inr ⟨_, rfl, h⟩
  · exact h.elim
theorem c_len : CallR X (.builtin "len") fLen := call_imp call_len fun xs H Q h => by
  unfold fLen at h
  split at h
  · exact ⟨_, _, rfl, ⟨h.1, rfl⟩, h.2⟩
  · split at h
    · rename_i p _ ys e
      exact ⟨.ref p, _, rfl, (asS_or e).elim (fun e => .inl ⟨_, asL_seq e, rfl⟩) (fun e => .inr ⟨_, asT_seq e, rfl⟩), h⟩
    · exact h.elim
  · exact h.elim
theorem c_max (hc : X.calm = true) : CallR X (.builtin "max") fMax := call_imp (call_max2 hc) fun xs H Q h => by
  unfold fMax at h
  split at h
  · rename_i i j
    refine ⟨i, j, rfl, ?_⟩
    have e : (if j > i then j else i) = max i j := by
      split <;> omega
    rw [e]
    exact h
  · exact h.elim
theorem c_min (hc : X.calm = true) : CallR X (.builtin "min") fMin := call_imp (call_min2 hc) fun xs H Q h => by
  unfold fMin at h
  split at h
  · rename_i i j
    refine ⟨i, j, rfl, ?_⟩
    have e : (if j < i then j else i) = min i j := by
      split <;> omega
    rw [e]
    exact h
  · exact h.elim
theorem c_abs : CallR X (.builtin "abs") fAbs := call_imp call_abs fun xs H Q h => by
  unfold fAbs at h
  split at h
  · exact ⟨_, rfl, h⟩
  · exact h.elim
theorem c_list : CallR X (.type "list") fList := call_imp call_list_of fun xs H Q h => by
  unfold fList at h
  split at h
  · split at h
    · rename_i e
      exact ⟨_, _, rfl, (asS_or e).elim (fun e => .inl (asL_seq e)) (fun e => .inr (asT_seq e)), h⟩
    · exact h.elim
  · exact h.elim
theorem c_tuple : CallR X (.type "tuple") fTuple := call_imp call_tuple_of fun xs H Q h => by
  unfold fTuple at h
  split at h
  · split at h
    · rename_i e
      exact ⟨_, _, rfl, .inl ⟨asL_seq e, h⟩⟩
    · exact h.elim
  · exact h.elim
theorem c_all (hc : X.calm = true) : CallR X (.builtin "all") fAll := call_imp (cr_all hc) fun xs H Q h => by
  unfold fAll at h
  split at h
  · split at h
    · rename_i e
      obtain ⟨bs, rfl, q⟩ := h
      exact ⟨_, bs, rfl, asL_seq e, q⟩
    · exact h.elim
  · exact h.elim
theorem c_sum (hc : X.calm = true) : CallR X (.builtin "sum") fSum := call_imp (cr_sum hc) fun xs H Q h => by
  unfold fSum at h
  split at h
  · split at h
    · rename_i e
      obtain ⟨bs, rfl, q⟩ := h
      exact ⟨_, bs, rfl, asL_seq e, q⟩
    · exact h.elim
  · exact h.elim
theorem c_isi : CallR X (.builtin "isinstance") fIsi := call_imp call_isi fun xs H Q h => by
  unfold fIsi at h
  split at h
  · split at h
    · rename_i t e
      split at h
      · rename_i b e2
        exact ⟨_, _, _, _, b, rfl, .ty _, tyN_x e, kit_ty e2, h⟩
      · exact h.elim
    · exact h.elim
  · exact h.elim
theorem c_isiT : CallR X (.builtin "isinstance") fIsiT := call_imp call_isiT fun xs H Q h => by
  unfold fIsiT at h
  split at h
  · split at h
    · rename_i e1 e2
      split at h
      · rename_i e3
        split at h
        · rename_i b e4
          exact ⟨_, _, _, _, _, b, rfl, e2, tys_pair e3, tyN_x e1, kitS_any e4, h⟩
        · exact h.elim
      · exact h.elim
    · exact h.elim
  · exact h.elim
theorem m_append : MtR X "list.append" fAppend := mt_imp mt_append fun x xs H Q h => by
  unfold fAppend at h
  split at h
  · split at h
    · rename_i e
      exact ⟨_, _, _, rfl, rfl, e, h.1, h.2⟩
    · exact h.elim
  · exact h.elim
theorem m_insert : MtR X "list.insert" fInsert := mt_imp mt_insert fun x xs H Q h => by
  unfold fInsert at h
  split at h
  · split at h
    · rename_i e
      exact ⟨_, _, _, _, rfl, rfl, e, h.1.1, h.1.2.1, h.1.2.2, h.2⟩
    · exact h.elim
  · exact h.elim
theorem m_pop : MtR X "list.pop" fPop := mt_imp mt_pop fun x xs H Q h => by
  unfold fPop at h
  split at h
  · split at h
    · rename_i e
      split at h
      · rename_i e2
        exact ⟨_, _, _, rfl, rfl, e, e2, h⟩
      · exact h.elim
    · exact h.elim
  · exact h.elim
theorem sl_F : SlR X fSl := fun pins s σ H x v vl vu lo hi sl Q I rx hs pl pu h => by
  refine (sl_list.or sl_tup) pins s σ H x v vl vu lo hi sl Q I rx hs pl pu ?_
  unfold fSl at h
  split at h
  · split at h
    · rename_i e
      exact .inl ⟨_, _, rfl, asL_seq e, h⟩
    · split at h
      · rename_i e
        exact .inr ⟨_, _, rfl, asT_seq e, h.1, h.2⟩
      · exact h.elim
  · exact h.elim
theorem set_F : PSet X fSet := fun pins s σ H o i v ov iv u Q I ro ri rv h => by
  refine set_list pins s σ H o i v ov iv u Q I ro ri rv ?_
  unfold fSet at h
  split at h
  · split at h
    · rename_i e
      split at h
      · rename_i e2
        exact ⟨_, _, _, _, rfl, rfl, e, e2, h⟩
      · exact h.elim
    · exact h.elim
  · exact h.elim
theorem pg_tupF {es : List Expr} {k : Nat} {t : TGs} {n : Nat} {pos : Pos} (hc : X.calm = true) (h : PGs X es t)
    (hn : (assignEach es X.env).length = n := by rfl) (hst : (assignEach es X.env).findIdx? (·.1) = none := by rfl) : PG X (.Tuple es k pos) (gTupF n t) := by
  refine ⟨fun pins s σ H v u Q I r hw => (pg_tup hc h hn hst).run pins s σ H v u Q I r ?_⟩
  unfold gTupF at hw
  split at hw
  · split at hw
    · rename_i e
      exact ⟨_, _, rfl, asT_seq e, hw.1, hw.2⟩
    · exact hw.elim
  · exact hw.elim
theorem pe_imp {e : Expr} {t t' : TE} (h : PE X e t) (k : ∀ σ H Q, t' σ H Q → t σ H Q) : PE X e t' := ⟨fun pins s σ H Q I q => h.run pins s σ H Q I (k σ H Q q)⟩
end
/-! ### all that a reading's part does is bear a weaker wish -/
def MonE (t : TE) : Prop := ∀ σ H (Q Q' : VK), (∀ v H', Q v H' → Q' v H') → t σ H Q → t σ H Q'
theorem kit_table : kitB "NoneType" "int" = some false ∧ kitB "NoneType" "bool" = some false ∧ kitB "NoneType" "str" = some false ∧ kitB "NoneType" "list" = some false ∧ kitB "NoneType" "tuple" = some false ∧ kitB "NoneType" "dict" = some false ∧ kitB "int" "int" = some true ∧ kitB "int" "bool" = some false ∧ kitB "int" "str" = some false ∧ kitB "int" "list" = some false ∧ kitB "int" "tuple" = some false ∧ kitB "int" "dict" = some false ∧ kitB "bool" "int" = some true ∧ kitB "bool" "bool" = some true ∧ kitB "bool" "str" = some false ∧ kitB "bool" "list" = some false ∧ kitB "bool" "tuple" = some false ∧ kitB "bool" "dict" = some false ∧ kitB "str" "int" = some false ∧ kitB "str" "bool" = some false ∧ kitB "str" "str" = some true ∧ kitB "str" "list" = some false ∧ kitB "str" "tuple" = some false ∧ kitB "str" "dict" = some false ∧ kitB "list" "int" = some false ∧ kitB "list" "bool" = some false ∧ kitB "list" "str" = some false ∧ kitB "list" "list" = some true ∧ kitB "list" "tuple" = some false ∧ kitB "list" "dict" = some false ∧ kitB "tuple" "int" = some false ∧ kitB "tuple" "bool" = some false ∧ kitB "tuple" "str" = some false ∧ kitB "tuple" "list" = some false ∧ kitB "tuple" "tuple" = some true ∧ kitB "tuple" "dict" = some false ∧ kitB "dict" "int" = some false ∧ kitB "dict" "bool" = some false ∧ kitB "dict" "str" = some false ∧ kitB "dict" "list" = some false ∧ kitB "dict" "tuple" = some false ∧ kitB "dict" "dict" = some true := by decide +kernel
theorem kt_NoneType_int : kitB "NoneType" "int" = some false := kit_table.1
theorem kt_NoneType_bool : kitB "NoneType" "bool" = some false := kit_table.2.1
theorem kt_NoneType_str : kitB "NoneType" "str" = some false := kit_table.2.2.1
theorem kt_NoneType_list : kitB "NoneType" "list" = some false := kit_table.2.2.2.1
theorem kt_NoneType_tuple : kitB "NoneType" "tuple" = some false := kit_table.2.2.2.2.1
theorem kt_NoneType_dict : kitB "NoneType" "dict" = some false := kit_table.2.2.2.2.2.1
theorem kt_int_int : kitB "int" "int" = some true := kit_table.2.2.2.2.2.2.1
theorem kt_int_bool : kitB "int" "bool" = some false := kit_table.2.2.2.2.2.2.2.1
theorem kt_int_str : kitB "int" "str" = some false := kit_table.2.2.2.2.2.2.2.2.1
theorem kt_int_list : kitB "int" "list" = some false := kit_table.2.2.2.2.2.2.2.2.2.1
theorem kt_int_tuple : kitB "int" "tuple" = some false := kit_table.2.2.2.2.2.2.2.2.2.2.1
theorem kt_int_dict : kitB "int" "dict" = some false := kit_table.2.2.2.2.2.2.2.2.2.2.2.1
theorem kt_bool_int : kitB "bool" "int" = some true := kit_table.2.2.2.2.2.2.2.2.2.2.2.2.1
theorem kt_bool_bool : kitB "bool" "bool" = some true := kit_table.2.2.2.2.2.2.2.2.2.2.2.2.2.1
theorem kt_bool_str : kitB "bool" "str" = some false := kit_table.2.2.2.2.2.2.2.2.2.2.2.2.2.2.1
theorem kt_bool_list : kitB "bool" "list" = some false := kit_table.2.2.2.2.2.2.2.2.2.2.2.2.2.2.2.1
theorem kt_bool_tuple : kitB "bool" "tuple" = some false := kit_table.2.2.2.2.2.2.2.2.2.2.2.2.2.2.2.2.1
theorem kt_bool_dict : kitB "bool" "dict" = some false := kit_table.2.2.2.2.2.2.2.2.2.2.2.2.2.2.2.2.2.1
theorem kt_str_int : kitB "str" "int" = some false := kit_table.2.2.2.2.2.2.2.2.2.2.2.2.2.2.2.2.2.2.1
theorem kt_str_bool : kitB "str" "bool" = some false := kit_table.2.2.2.2.2.2.2.2.2.2.2.2.2.2.2.2.2.2.2.1
theorem kt_str_str : kitB "str" "str" = some true := kit_table.2.2.2.2.2.2.2.2.2.2.2.2.2.2.2.2.2.2.2.2.1
theorem kt_str_list : kitB "str" "list" = some false := kit_table.2.2.2.2.2.2.2.2.2.2.2.2.2.2.2.2.2.2.2.2.2.1
theorem kt_str_tuple : kitB "str" "tuple" = some false := kit_table.2.2.2.2.2.2.2.2.2.2.2.2.2.2.2.2.2.2.2.2.2.2.1
theorem kt_str_dict : kitB "str" "dict" = some false := kit_table.2.2.2.2.2.2.2.2.2.2.2.2.2.2.2.2.2.2.2.2.2.2.2.1
theorem kt_list_int : kitB "list" "int" = some false := kit_table.2.2.2.2.2.2.2.2.2.2.2.2.2.2.2.2.2.2.2.2.2.2.2.2.1
theorem kt_list_bool : kitB "list" "bool" = some false := kit_table.2.2.2.2.2.2.2.2.2.2.2.2.2.2.2.2.2.2.2.2.2.2.2.2.2.1
theorem kt_list_str : kitB "list" "str" = some false := kit_table.2.2.2.2.2.2.2.2.2.2.2.2.2.2.2.2.2.2.2.2.2.2.2.2.2.2.1
theorem kt_list_list : kitB "list" "list" = some true := kit_table.2.2.2.2.2.2.2.2.2.2.2.2.2.2.2.2.2.2.2.2.2.2.2.2.2.2.2.1
theorem kt_list_tuple : kitB "list" "tuple" = some false := kit_table.2.2.2.2.2.2.2.2.2.2.2.2.2.2.2.2.2.2.2.2.2.2.2.2.2.2.2.2.1
theorem kt_list_dict : kitB "list" "dict" = some false := kit_table.2.2.2.2.2.2.2.2.2.2.2.2.2.2.2.2.2.2.2.2.2.2.2.2.2.2.2.2.2.1
theorem kt_tuple_int : kitB "tuple" "int" = some false := kit_table.2.2.2.2.2.2.2.2.2.2.2.2.2.2.2.2.2.2.2.2.2.2.2.2.2.2.2.2.2.2.1
theorem kt_tuple_bool : kitB "tuple" "bool" = some false := kit_table.2.2.2.2.2.2.2.2.2.2.2.2.2.2.2.2.2.2.2.2.2.2.2.2.2.2.2.2.2.2.2.1
theorem kt_tuple_str : kitB "tuple" "str" = some false := kit_table.2.2.2.2.2.2.2.2.2.2.2.2.2.2.2.2.2.2.2.2.2.2.2.2.2.2.2.2.2.2.2.2.1
theorem kt_tuple_list : kitB "tuple" "list" = some false := kit_table.2.2.2.2.2.2.2.2.2.2.2.2.2.2.2.2.2.2.2.2.2.2.2.2.2.2.2.2.2.2.2.2.2.1
theorem kt_tuple_tuple : kitB "tuple" "tuple" = some true := kit_table.2.2.2.2.2.2.2.2.2.2.2.2.2.2.2.2.2.2.2.2.2.2.2.2.2.2.2.2.2.2.2.2.2.2.1
theorem kt_tuple_dict : kitB "tuple" "dict" = some false := kit_table.2.2.2.2.2.2.2.2.2.2.2.2.2.2.2.2.2.2.2.2.2.2.2.2.2.2.2.2.2.2.2.2.2.2.2.1
theorem kt_dict_int : kitB "dict" "int" = some false := kit_table.2.2.2.2.2.2.2.2.2.2.2.2.2.2.2.2.2.2.2.2.2.2.2.2.2.2.2.2.2.2.2.2.2.2.2.2.1
theorem kt_dict_bool : kitB "dict" "bool" = some false := kit_table.2.2.2.2.2.2.2.2.2.2.2.2.2.2.2.2.2.2.2.2.2.2.2.2.2.2.2.2.2.2.2.2.2.2.2.2.2.1
theorem kt_dict_str : kitB "dict" "str" = some false := kit_table.2.2.2.2.2.2.2.2.2.2.2.2.2.2.2.2.2.2.2.2.2.2.2.2.2.2.2.2.2.2.2.2.2.2.2.2.2.2.1
theorem kt_dict_list : kitB "dict" "list" = some false := kit_table.2.2.2.2.2.2.2.2.2.2.2.2.2.2.2.2.2.2.2.2.2.2.2.2.2.2.2.2.2.2.2.2.2.2.2.2.2.2.2.1
theorem kt_dict_tuple : kitB "dict" "tuple" = some false := kit_table.2.2.2.2.2.2.2.2.2.2.2.2.2.2.2.2.2.2.2.2.2.2.2.2.2.2.2.2.2.2.2.2.2.2.2.2.2.2.2.2.1
theorem kt_dict_dict : kitB "dict" "dict" = some true := kit_table.2.2.2.2.2.2.2.2.2.2.2.2.2.2.2.2.2.2.2.2.2.2.2.2.2.2.2.2.2.2.2.2.2.2.2.2.2.2.2.2.2
end XB

/-! How a reading is taken apart: each row fires where the reading stands with all that it wants. -/
namespace XB
open PySem L2
/-- a loop that has its iterator -/
def Loop (J : It) (g : TG) (tb : TS) (D : Ends) (σ : L2.St) (H : Hp) : Prop := ∃ W : Nat → Nat → L2.St → Hp → Prop, (∃ m, W 0 m σ H) ∧ ∀ i m σ H, W i m σ H →
  (J.stop i H ∧ D.nx σ H) ∨ (J.go i H ∧ ∃ N : L2.St → Hp → Prop, (∀ σ' H', N σ' H' → ∃ m', m' < m ∧ W (i + 1) m' σ' H') ∧ ∀ x H', J.yld i H x H' → g x σ H' fun σ2 H2 => tb { D with nx := N, ct := N, bk := D.nx } σ2 H2)
/-- a comprehension that has its iterator and its new list at D -/
def Made (J : It) (g : TG) (tt : TT) (te : TE) (vs : List Nat) (σ : L2.St) (D : Addr) (H1 : Hp) (Qd : Hp → Prop) : Prop := ∃ W : Nat → Nat → Hp → Prop, (∃ m, W 0 m (upd H1 D (.lst []))) ∧ ∀ i m H, W i m H →
  (J.stop i H ∧ Qd H) ∨ (J.go i H ∧ ∃ Nx : Hp → Prop, (∀ H', Nx H' → ∃ m', m' < m ∧ W (i + 1) m' H') ∧ ∀ x H', J.yld i H x H' → g x (wipe σ vs) H' fun σ2 H2 => wipe σ2 vs = wipe σ vs ∧ tt σ2 H2 fun b H3 =>
    if b = true then te σ2 H3 fun y H4 => ∃ acc, H4 D = some (.lst acc) ∧ acc.length < sizeLine ∧ Nx (upd H4 D (.lst (acc ++ [y]))) else Nx H3)
section
variable {K : PySem.W.Frag} {σ : L2.St} {H : Hp} {Q : VK} {i j : Int} {v : V}
theorem u_var {n : Nat} : tVar n σ H Q = ∃ v, σ[n]? = some (some v) ∧ Q v H := rfl
theorem u_c : tC v σ H Q = Q v H := rfl
theorem u_op {r : R2} {ta tb : TE} : tOp r ta tb σ H Q = ta σ H fun x H1 => tb σ H1 fun y H2 => r x y H2 Q := rfl
theorem u_un {r : V → Hp → VK → Prop} {ta : TE} : tUn r ta σ H Q = ta σ H fun x H1 => r x H1 Q := rfl
theorem u_nil {R : List V → Hp → Prop} : tNil σ H R = R [] H := rfl
theorem u_cons {te : TE} {tr : TA} {R : List V → Hp → Prop} : tCons te tr σ H R = te σ H fun x H1 => tr σ H1 fun xs H2 => R (x :: xs) H2 := rfl
theorem u_cb {r : List V → Hp → VK → Prop} {t : TA} : tCB r t σ H Q = t σ H fun vs H1 => r vs H1 Q := rfl
theorem u_call {sp : Sp} {dvs : List V} {E : XK} {t : TA} : tCall sp dvs E t σ H Q = t σ H fun vs H1 => sp (vs ++ dvs) H1 Q E := rfl
theorem u_callS {sp : Sp} {E : L2.St → XK} {t : TA} : tCallS sp E t σ H Q = t σ H fun vs H1 => sp vs H1 Q (E σ) := rfl
theorem u_tup {t : TA} : tTup t σ H Q = t σ H fun xs H1 => xs.length ≤ sizeLine ∧ ∀ p, H1 p = none → Q (.ref p) (upd H1 p (.tup xs)) := rfl
theorem u_lst {t : TA} : tLst t σ H Q = t σ H fun xs H1 => xs.length ≤ sizeLine ∧ ∀ p, H1 p = none → Q (.ref p) (upd H1 p (.lst xs)) := rfl
theorem u_test {te : TE} {R : Bool → Hp → Prop} : tTest te σ H R = te σ H fun x H1 => ∃ k, x = .bl k ∧ R k H1 := rfl
theorem u_B {te : TE} {R : Bool → Hp → Prop} : tB te σ H R = te σ H fun x H1 => ∃ k, x = .bl k ∧ R k H1 := rfl
theorem u_and {t u : TT} {R : Bool → Hp → Prop} : tAnd t u σ H R = t σ H fun c H1 => if c = true then u σ H1 R else R false H1 := rfl
theorem u_or {t u : TT} {R : Bool → Hp → Prop} : tOr t u σ H R = t σ H fun c H1 => if c = true then R true H1 else u σ H1 R := rfl
theorem u_not {t : TT} {R : Bool → Hp → Prop} : tNot t σ H R = t σ H fun c H1 => R (!c) H1 := rfl
theorem u_andV {ta tb : TE} : tAndV ta tb σ H Q = ta σ H fun x H1 => ∃ c, x = .bl c ∧ if c = true then tb σ H1 Q else Q (.bl false) H1 := rfl
theorem u_orV {ta tb : TE} : tOrV ta tb σ H Q = ta σ H fun x H1 => ∃ c, x = .bl c ∧ if c = true then Q (.bl true) H1 else tb σ H1 Q := rfl
theorem u_notV {ta : TE} : tNotV ta σ H Q = ta σ H fun x H1 => ∃ c, x = .bl c ∧ Q (.bl (!c)) H1 := rfl
theorem u_ifE {t : TT} {ta tb : TE} : tIf t ta tb σ H Q = t σ H fun c H1 => if c = true then ta σ H1 Q else tb σ H1 Q := rfl
theorem u_chain {r r' : R2} {ta tb tc : TE} : tChain r r' ta tb tc σ H Q = ta σ H fun x H1 => tb σ H1 fun y H2 => r x y H2 fun z H3 => ∃ k, z = .bl k ∧ (if k = true then tc σ H3 fun w' H4 => r' y w' H4 Q else Q (.bl false) H3) := rfl
theorem u_sl {r : V → Option Int → Option Int → Hp → VK → Prop} {te : TE} {tl th : TO} : tSl r te tl th σ H Q = te σ H fun x H1 => tl σ H1 fun l H2 => th σ H2 fun u H3 => r x l u H3 Q := rfl
theorem u_noPart {R : Option Int → Hp → Prop} : tNoPart σ H R = R none H := rfl
theorem u_part {te : TE} {R : Option Int → Hp → Prop} : tPart te σ H R = te σ H fun x H1 => ∃ i, x = .int i ∧ R (some i) H1 := rfl
theorem u_bm {T : String} {r : RM} {to : TE} {t : TA} : tBMF T r to t σ H Q = to σ H fun x H1 => tyN x H1 = some T ∧ t σ H1 fun xs H2 => r x xs H2 Q := rfl
theorem u_bm0 {T : String} {r : RM} {to : TE} : tBM0F T r to σ H Q = to σ H fun x H1 => tyN x H1 = some T ∧ r x [] H1 Q := rfl
theorem u_rev {te : TE} : tRevF te σ H Q = te σ H fun x H1 => match x with
  | .ref a => (match asL (H1 a) with
    | some xs => ∀ p, H1 p = none → Q (.ref p) (upd H1 p (.lst xs.reverse))
    | none => False)
  | _ => False := rfl
theorem u_lc {wi : TI} {g : TG} {tt : TT} {te : TE} {vs : List Nat} : tLc wi g tt te vs σ H Q = wi σ H fun J H1 => ∀ D, H1 D = none → Made J g tt te vs σ D H1 fun H' => Q (.ref D) H' := rfl
-- what is walked
variable {R : It → Hp → Prop}
theorem u_rng1 {ta : TA} : iRng1 ta σ H R = ta σ H fun vs H1 => ∃ j : Int, vs = [.int j] ∧ -(2 ^ 62) ≤ j ∧ j < 2 ^ 62 ∧ R (Itr 0 j.toNat) H1 := rfl
theorem u_rng2 {ta : TA} : iRng2 ta σ H R = ta σ H fun vs H1 => ∃ i j : Int, vs = [.int i, .int j] ∧ (-(2 ^ 62) ≤ i ∧ i < 2 ^ 62 ∧ -(2 ^ 62) ≤ j ∧ j < 2 ^ 62) ∧ R (Itr i (j - i).toNat) H1 := rfl
theorem u_list {tl : TE} : iList K tl σ H R = tl σ H fun x H1 => ∃ a, x = .ref a ∧ (∃ xs, SqL K H1 a xs) ∧ R (Itl K a) H1 := rfl
theorem u_revI {ta : TA} : iRev K ta σ H R = ta σ H fun vs H1 => ∃ (a : Addr) (xs : List V), vs = [.ref a] ∧ SqL K H1 a xs ∧ R (Itv K a xs.length) H1 := rfl
theorem u_zipI {ta : TA} : iZip K ta σ H R = ta σ H fun vs H1 => ∃ a b xs ys, vs = [.ref a, .ref b] ∧ SqL K H1 a xs ∧ SqL K H1 b ys ∧ R (Itz K a b) H1 := rfl
-- statements
variable {D : Ends} {t u w : TS} {te : TE} {g : TG} {n : Nat}
theorem u_next : tNext D σ H = D.nx σ H := rfl
theorem u_ret : tRet te D σ H = te σ H D.rt := rfl
theorem u_gname {S : L2.St → Hp → Prop} : gName n v σ H S = S (σ.set n (some v)) H := rfl
theorem u_gnil {vs : List V} {S : L2.St → Hp → Prop} : gNil vs σ H S = (vs = [] ∧ S σ H) := rfl
theorem u_gcons {t : TG} {u : TGs} {vs : List V} {S : L2.St → Hp → Prop} : gCons t u vs σ H S = ∃ v r, vs = v :: r ∧ t v σ H fun σ' H' => u r σ' H' S := rfl
theorem u_gsub {to ti : TE} {t : TSet} {S : L2.St → Hp → Prop} : gSub to ti t v σ H S = to σ H fun o H1 => ti σ H1 fun i H2 => t o i v H2 fun H3 => S σ H3 := rfl
theorem u_gtup {t : TGs} {a : Addr} {S : L2.St → Hp → Prop} : gTupF n t (.ref a) σ H S = (match asT (H a) with
    | some xs => xs.length = n ∧ t xs σ H S
    | none => False) := rfl
theorem q_asg (h : te σ H fun x H1 => g x σ H1 (u D)) : tSeq (tAsg te g) u D σ H := h
theorem q_asg1 (h : te σ H fun x H1 => g x σ H1 D.nx) : tAsg te g D σ H := h
theorem q_drop (h : te σ H fun _ H1 => u D σ H1) : tSeq (tDrop te) u D σ H := h
theorem q_drop1 (h : te σ H fun _ H1 => D.nx σ H1) : tDrop te D σ H := h
theorem q_if {c : TT} (h : c σ H fun b H1 => if b = true then t { D with nx := u D } σ H1 else w { D with nx := u D } σ H1) : tSeq (tIfS c t w) u D σ H := h
theorem q_if1 {c : TT} (h : c σ H fun b H1 => if b = true then t D σ H1 else w D σ H1) : tIfS c t w D σ H := h
theorem q_ret (h : te σ H D.rt) : tRet te D σ H := h
theorem q_seq (h : t { D with nx := u D } σ H) : tSeq t u D σ H := h
theorem q_for {wi : TI} (h : wi σ H fun J H1 => Loop J g t { D with nx := u D } σ H1) : tSeq (tFor wi g t) u D σ H := h
theorem q_for1 {wi : TI} (h : wi σ H fun J H1 => Loop J g t D σ H1) : tFor wi g t D σ H := h
-- operators at values
theorem f_add : fAdd (.int i) (.int j) H Q = Q (.int (i + j)) H := rfl
theorem f_addS {a b : Str} : fAdd (.str a) (.str b) H Q = (a.length + b.length ≤ sizeLine ∧ Q (.str (a ++ b)) H) := rfl
theorem f_addR {a b : Addr} : fAdd (.ref a) (.ref b) H Q = (match H a, H b with
    | some (.lst xs), some (.lst ys) => xs.length + ys.length ≤ sizeLine ∧ ∀ p, H p = none → Q (.ref p) (upd H p (.lst (xs ++ ys)))
    | some (.tup xs), some (.tup ys) => xs ≠ [] ∧ ys ≠ [] ∧ xs.length + ys.length ≤ sizeLine ∧ ∀ p, H p = none → Q (.ref p) (upd H p (.tup (xs ++ ys)))
    | _, _ => False) := rfl
theorem f_sub : fSub (.int i) (.int j) H Q = Q (.int (i - j)) H := rfl
theorem f_mul : fMul (.int i) (.int j) H Q = (CMul i j ∧ Q (.int (i * j)) H) := rfl
theorem f_mulR {a : Addr} : fMul (.ref a) (.int i) H Q = (match H a with
    | some (.lst xs) => (-(2 ^ 63) ≤ i ∧ i < 2 ^ 63 ∧ xs.length * i.toNat ≤ sizeLine) ∧ ∀ p, H p = none → Q (.ref p) (upd H p (.lst (List.replicate i.toNat xs).flatten))
    | _ => False) := rfl
theorem f_mod : fMod (.int i) (.int j) H Q = (0 < j ∧ Q (.int (i % j)) H) := rfl
theorem f_div : fDiv (.int i) (.int j) H Q = (CDivW i j ∧ Q (.int (i / j)) H) := rfl
theorem f_pow : fPow (.int i) (.int j) H Q = (CPow i j ∧ Q (.int (i ^ j.toNat)) H) := rfl
theorem f_neg : fNeg (.int i) H Q = Q (.int (-i)) H := rfl
theorem f_cmp {f : Int → Int → Bool} : fCmp f (.int i) (.int j) H Q = Q (.bl (f i j)) H := rfl
theorem f_eq : fEq K (.int i) (.int j) H Q = Q (.bl (decide (i = j))) H := rfl
theorem f_eqB {a b : Bool} : fEq K (.bl a) (.bl b) H Q = Q (.bl (decide (a = b))) H := rfl
theorem f_eqS {a b : Str} : fEq K (.str a) (.str b) H Q = Q (.bl (decide (a = b))) H := rfl
theorem f_ne : fNe K (.int i) (.int j) H Q = Q (.bl (!decide (i = j))) H := rfl
theorem f_neB {a b : Bool} : fNe K (.bl a) (.bl b) H Q = Q (.bl (!decide (a = b))) H := rfl
theorem f_neS {a b : Str} : fNe K (.str a) (.str b) H Q = Q (.bl (!decide (a = b))) H := rfl
theorem f_isN : fIsN v .non H Q = Q (.bl (decide (v = .non))) H := rfl
theorem f_notN : fNotN v .non H Q = Q (.bl (!decide (v = .non))) H := rfl
theorem f_isB {a b : Bool} : fIsB (.bl a) (.bl b) H Q = Q (.bl (decide (a = b))) H := rfl
theorem f_ix {p : Addr} : fIx (.ref p) (.int i) H Q = (match asS (H p) with
    | some xs => atV xs i fun v => Q v H
    | none => False) := rfl
theorem f_ixS {z : Str} : fIx (.str z) (.int i) H Q = (z.length ≤ sizeLine ∧ ∃ c, atI z.cps.toList i = some c ∧ Q (.str ⟨#[c]⟩) H) := rfl
theorem f_int : fInt [.int i] H Q = Q (.int i) H := rfl
theorem f_intB {k : Bool} : fInt [.bl k] H Q = Q (.int (if k then 1 else 0)) H := rfl
theorem f_len {p : Addr} : fLen [.ref p] H Q = (match asS (H p) with
    | some ys => Q (.int (ys.length : Nat)) H
    | none => False) := rfl
theorem f_lenS {z : Str} : fLen [.str z] H Q = (z.length ≤ sizeLine ∧ Q (.int (z.length : Nat)) H) := rfl
theorem f_max : fMax [.int i, .int j] H Q = Q (.int (max i j)) H := rfl
theorem f_min : fMin [.int i, .int j] H Q = Q (.int (min i j)) H := rfl
theorem f_abs : fAbs [.int i] H Q = Q (.int (if i < 0 then -i else i)) H := rfl
theorem f_list {p : Addr} : fList [.ref p] H Q = (match asS (H p) with
    | some ys => ∀ l, H l = none → Q (.ref l) (upd H l (.lst ys))
    | none => False) := rfl
theorem f_tuple {p : Addr} : fTuple [.ref p] H Q = (match asL (H p) with
    | some ys => ∀ l, H l = none → Q (.ref l) (upd H l (.tup ys))
    | none => False) := rfl
theorem f_all {p : Addr} : fAll [.ref p] H Q = (match asL (H p) with
    | some ys => ∃ bs : List Bool, ys = bs.map V.bl ∧ Q (.bl (bs.all id)) H
    | none => False) := rfl
theorem f_sum {p : Addr} : fSum [.ref p] H Q = (match asL (H p) with
    | some ys => ∃ ns : List Int, ys = ns.map V.int ∧ Q (.int ns.sum) H
    | none => False) := rfl
theorem f_isi {c : String} : fIsi [v, .ty c] H Q = (match tyN v H with
    | some t => (match kitB t c with
      | some b => Q (.bl b) H
      | none => False)
    | none => False) := rfl
theorem f_isiT {p : Addr} : fIsiT [v, .ref p] H Q = (match tyN v H, H p with
    | some t, some (.tup cs) => (match tys cs with
      | some ns => (match kitS t ns with
        | some b => Q (.bl b) H
        | none => False)
      | none => False)
    | _, _ => False) := rfl
theorem f_append {l : Addr} : fAppend (.ref l) [v] H Q = (match H l with
    | some (.lst xs) => xs.length < sizeLine ∧ Q .non (upd H l (.lst (xs ++ [v])))
    | _ => False) := rfl
theorem f_insert {l : Addr} : fInsert (.ref l) [.int i, v] H Q = (match H l with
    | some (.lst xs) => (xs.length < sizeLine ∧ 0 ≤ i ∧ i < 2 ^ 63) ∧ Q .non (upd H l (.lst (xs.take i.toNat ++ [v] ++ xs.drop i.toNat)))
    | _ => False) := rfl
theorem f_pop {l : Addr} : fPop (.ref l) [] H Q = (match H l with
    | some (.lst xs) => (match xs[xs.length - 1]? with
      | some y => Q y (upd H l (.lst xs.dropLast))
      | none => False)
    | _ => False) := rfl
theorem f_sl {p : Addr} {lo hi : Option Int} : fSl (.ref p) lo hi H Q = (match asL (H p) with
    | some xs => ∀ q, H q = none → Q (.ref q) (upd H q (.lst (cutV xs lo hi)))
    | none => (match asT (H p) with
      | some xs => ¬ (HT.sIx xs.length 0 lo = 0 ∧ HT.sIx xs.length xs.length hi = xs.length) ∧ ∀ q, H q = none → Q (.ref q) (upd H q (.tup (cutV xs lo hi)))
      | none => False)) := rfl
theorem f_set {p : Addr} {S : Hp → Prop} : fSet (.ref p) (.int i) v H S = (match H p with
    | some (.lst xs) => (match ixN xs.length i with
      | some j => S (upd H p (.lst (xs.set j v)))
      | none => False)
    | _ => False) := rfl
theorem asL_lst {xs : List V} : asL (some (.lst xs)) = some xs := rfl
theorem asL_frz {xs : List V} {o : Obj} : asL (some (.frz o (.lst xs))) = some xs := rfl
theorem asL_tup {xs : List V} : asL (some (.tup xs)) = none := rfl
theorem asT_tup {xs : List V} : asT (some (.tup xs)) = some xs := rfl
theorem asS_lst {xs : List V} : asS (some (.lst xs)) = some xs := rfl
theorem asS_frz {xs : List V} {o : Obj} : asS (some (.frz o (.lst xs))) = some xs := rfl
theorem asS_tup {xs : List V} : asS (some (.tup xs)) = some xs := rfl
theorem tyN_non : tyN .non H = some "NoneType" := rfl
theorem tyN_bl {b : Bool} : tyN (.bl b) H = some "bool" := rfl
theorem tyN_int : tyN (.int i) H = some "int" := rfl
theorem tyN_str {z : Str} : tyN (.str z) H = some "str" := rfl
theorem tyN_lst {p : Addr} {xs : List V} (h : H p = some (.lst xs)) : tyN (.ref p) H = some "list" := by simp only [tyN, h]
theorem tyN_tup {p : Addr} {xs : List V} (h : H p = some (.tup xs)) : tyN (.ref p) H = some "tuple" := by simp only [tyN, h]
theorem tyN_dK {p : Addr} {kvs : List (Key × V)} (h : H p = some (.dK kvs)) : tyN (.ref p) H = some "dict" := by simp only [tyN, h]
theorem at_nat {xs : List V} {k : Nat} {q : V → Prop} (h : xs[k]? = some v) (hq : q v) : atV xs (k : Int) q := by
  unfold atV
  rw [atI_nat h]
  exact hq
theorem atV_lit {xs : List V} {k : Nat} {q : V → Prop} : atV xs (no_index (OfNat.ofNat k)) q = (match xs[k]? with
    | some v => q v
    | none => False) := by
  have e : (OfNat.ofNat k : Int) = (k : Int) := rfl
  unfold atV
  cases h : xs[k]? with
  | some v => rw [e, atI_nat h]
  | none =>
    have hk : xs.length ≤ k := List.getElem?_eq_none_iff.mp h
    have e2 : atI xs (OfNat.ofNat k) = none := by
      unfold atI ixN
      rw [e, if_pos (by omega), if_neg (by omega)]
      rfl
    rw [e2]
theorem ixN_lit {n k : Nat} : ixN n (no_index (OfNat.ofNat k)) = if k < n then some k else none := by
  have e : (OfNat.ofNat k : Int) = (k : Int) := rfl
  unfold ixN
  rw [e, if_pos (by omega)]
  by_cases h : k < n
  · rw [if_pos (by omega), if_pos h]
    simp
  · rw [if_neg (by omega), if_neg h]
/-! ### loops -/
theorem loop_list {a : Addr} {xs : List V} {tb : TS} (Pv : Nat → L2.St → Hp → Prop) (h0 : Pv 0 σ H) (hl : ∀ i σ H, i ≤ xs.length → Pv i σ H → asL (H a) = some xs)
    (hs : ∀ i x σ H, xs[i]? = some x → Pv i σ H → g x σ H fun σ2 H2 => tb { D with nx := Pv (i + 1), ct := Pv (i + 1), bk := D.nx } σ2 H2) (hd : ∀ σ H, Pv xs.length σ H → D.nx σ H) : Loop (Itl K a) g tb D σ H :=
  for_list (K := K) Pv h0 (fun i σ H h p => asL_seq (hl i σ H h p)) hs hd
theorem loop_range {lo : Int} {m : Nat} {tb : TS} (Pv : Nat → L2.St → Hp → Prop) (h0 : Pv 0 σ H) (hs : ∀ i σ H, i < m → Pv i σ H → g (.int (lo + i)) σ H fun σ2 H2 => tb { D with nx := Pv (i + 1), ct := Pv (i + 1), bk := D.nx } σ2 H2)
    (hd : ∀ σ H, Pv m σ H → D.nx σ H) : Loop (Itr lo m) g tb D σ H := for_range Pv h0 hs hd
theorem walk_list {te : TE} {R : It → Hp → Prop} (h : te σ H fun x H1 => ∃ a xs, x = .ref a ∧ asL (H1 a) = some xs ∧ R (Itl K a) H1) (m : ∀ (Q Q' : VK), (∀ v H', Q v H' → Q' v H') → te σ H Q → te σ H Q') : iList K te σ H R :=
  m _ _ (fun v H' ⟨a, xs, e, e2, r⟩ => ⟨a, e, ⟨xs, asL_seq e2⟩, r⟩) h
theorem u_listV {R : It → Hp → Prop} {a : Addr} {xs : List V} (h : σ[n]? = some (some (.ref a))) (e : asL (H a) = some xs) (q : R (Itl K a) H) : iList K (tVar n) σ H R := ⟨_, h, a, rfl, ⟨xs, asL_seq e⟩, q⟩
theorem made_list {a Dd : Addr} {xs : List V} {tt : TT} {te : TE} {vs : List Nat} {Qd : Hp → Prop} (Pv : Nat → Hp → Prop) (h0 : Pv 0 (upd H Dd (.lst []))) (hl : ∀ i H, i ≤ xs.length → Pv i H → asL (H a) = some xs)
    (hs : ∀ i x H, xs[i]? = some x → Pv i H → g x (wipe σ vs) H fun σ2 H2 => wipe σ2 vs = wipe σ vs ∧ tt σ2 H2 fun b H3 =>
      if b = true then te σ2 H3 fun y H4 => ∃ acc, H4 Dd = some (.lst acc) ∧ acc.length < sizeLine ∧ Pv (i + 1) (upd H4 Dd (.lst (acc ++ [y]))) else Pv (i + 1) H3) (hd : ∀ H, Pv xs.length H → Qd H) : Made (Itl K a) g tt te vs σ Dd H Qd :=
  lc_list (K := K) Pv h0 (fun i H h p => asL_seq (hl i H h p)) hs hd
theorem made_range {lo : Int} {m : Nat} {Dd : Addr} {tt : TT} {te : TE} {vs : List Nat} {Qd : Hp → Prop} (Pv : Nat → Hp → Prop) (h0 : Pv 0 (upd H Dd (.lst [])))
    (hs : ∀ i H, i < m → Pv i H → g (.int (lo + i)) (wipe σ vs) H fun σ2 H2 => wipe σ2 vs = wipe σ vs ∧ tt σ2 H2 fun b H3 =>
      if b = true then te σ2 H3 fun y H4 => ∃ acc, H4 Dd = some (.lst acc) ∧ acc.length < sizeLine ∧ Pv (i + 1) (upd H4 Dd (.lst (acc ++ [y]))) else Pv (i + 1) H3) (hd : ∀ H, Pv m H → Qd H) : Made (Itr lo m) g tt te vs σ Dd H Qd :=
  lc_range Pv h0 hs hd
theorem w_nil : wipe σ [] = σ := rfl
theorem w_cons {k : Nat} {ks : List Nat} : wipe σ (k :: ks) = (wipe σ ks).set k none := rfl
/-- what stood stands -/
abbrev Sm (H H' : Hp) : Prop := ∀ b o, H b = some o → H' b = some o
theorem sm_new {H H1 : Hp} {p : Addr} {o : HO} (s : Sm H H1) (h : H1 p = none) : Sm H (upd H1 p o) := fun b u e => by
  rw [upd_ne (ne_of_none (s b u e) h)]
  exact s b u e
@[elab_as_elim] theorem al {H : Hp} {p : Addr} {o : HO} {motive : Hp → Prop} (np : H p = none) (k : ∀ H', Sm H H' → H' p = some o → motive H') : motive (upd H p o) := k _ (sm_new (fun _ _ z => z) np) upd_same
theorem sm_none {H H' : Hp} {p : Addr} (s : Sm H H') (h : H' p = none) : H p = none := by
  cases e : H p with
  | none => rfl
  | some o => rw [s _ _ e] at h; cases h
theorem sm_trans {H H1 H2 : Hp} (a : Sm H H1) (b : Sm H1 H2) : Sm H H2 := fun p o z => b p o (a p o z)
theorem sm_put {H H1 : Hp} {p : Addr} {o : HO} (s : Sm H H1) (h : H p = none) : Sm H (upd H1 p o) := fun b u e => by
  rw [upd_ne (ne_of_none e h)]
  exact s b u e
theorem sm_L {p : Addr} {H H' : Hp} {xs : List V} (s : Sm H H') (h : asL (H p) = some xs) : asL (H' p) = some xs := by
  cases e : H p with
  | none => rw [e] at h; cases h
  | some o => rw [s p o e, ← e]; exact h
theorem sm_T {p : Addr} {H H' : Hp} {xs : List V} (s : Sm H H') (h : asT (H p) = some xs) : asT (H' p) = some xs := by
  cases e : H p with
  | none => rw [e] at h; cases h
  | some o => rw [s p o e, ← e]; exact h
theorem sm_S {p : Addr} {H H' : Hp} {xs : List V} (s : Sm H H') (h : asS (H p) = some xs) : asS (H' p) = some xs := by
  cases e : H p with
  | none => rw [e] at h; cases h
  | some o => rw [s p o e, ← e]; exact h
theorem take_map_succ {α β : Type} {xs : List α} {i : Nat} {x : α} {f : α → β} (h : xs[i]? = some x) : (xs.take (i + 1)).map f = (xs.take i).map f ++ [f x] := by
  have hi := (List.getElem?_eq_some_iff.mp h)
  obtain ⟨hl, e⟩ := hi
  rw [List.take_add_one, h]
  simp
/-- a comprehension over a list, one value for each item -/
theorem made_map {a Dd : Addr} {xs : List V} {te : TE} {vs : List Nat} {Qd : Hp → Prop} (f : V → V) (hl : asL (H a) = some xs) (hD : H Dd = none) (hz : xs.length < sizeLine) (hw : ∀ x, wipe ((wipe σ vs).set n (some x)) vs = wipe σ vs)
    (he : ∀ (i : Nat) (x : V) (H' : Hp) (Q : VK), xs[i]? = some x → Sm H H' → (∀ H2, Sm H' H2 → Q (f x) H2) → te ((wipe σ vs).set n (some x)) H' Q) (hd : ∀ H', Sm H H' → H' Dd = some (.lst (xs.map f)) → Qd H') : Made (Itl K a) (gName n) tYes te vs σ Dd H Qd := by
  refine made_list (fun i H' => Sm H H' ∧ H' Dd = some (.lst ((xs.take i).map f))) ⟨sm_new (fun _ _ h => h) hD, upd_same⟩ (fun i H' _ p => sm_L p.1 hl) (fun i x H' hx p => ⟨hw x, ?_⟩) fun H' p => hd H' p.1 (by rw [← List.take_length (l := xs)]; exact p.2)
  refine iteT (B := Sm H H' ∧ H' Dd = some (.lst ((xs.take (i + 1)).map f))) ?_
  refine he i x H' _ hx p.1 fun H2 s2 => ⟨(xs.take i).map f, s2 _ _ p.2, ?_, ?_, ?_⟩
  · rw [List.length_map, List.length_take]; omega
  · exact sm_put (fun b o z => s2 b o (p.1 b o z)) hD
  · rw [upd_same, take_map_succ hx]
/-- .. over a list that stands for good -/
theorem made_mapS {a Dd : Addr} {xs : List V} {te : TE} {vs : List Nat} {Qd : Hp → Prop} (f : V → V) (hl : ∀ H', Sm H H' → SqL K H' a xs) (hD : H Dd = none) (hz : xs.length < sizeLine) (hw : ∀ x, wipe ((wipe σ vs).set n (some x)) vs = wipe σ vs)
    (he : ∀ (i : Nat) (x : V) (H' : Hp) (Q : VK), xs[i]? = some x → Sm H H' → (∀ H2, Sm H' H2 → Q (f x) H2) → te ((wipe σ vs).set n (some x)) H' Q) (hd : ∀ H', Sm H H' → H' Dd = some (.lst (xs.map f)) → Qd H') : Made (Itl K a) (gName n) tYes te vs σ Dd H Qd := by
  refine lc_list (K := K) (fun i H' => Sm H H' ∧ H' Dd = some (.lst ((xs.take i).map f))) ⟨sm_new (fun _ _ h => h) hD, upd_same⟩ (fun i H' _ p => hl H' p.1) (fun i x H' hx p => ⟨hw x, ?_⟩) fun H' p => hd H' p.1 (by rw [← List.take_length (l := xs)]; exact p.2)
  refine iteT (B := Sm H H' ∧ H' Dd = some (.lst ((xs.take (i + 1)).map f))) ?_
  refine he i x H' _ hx p.1 fun H2 s2 => ⟨(xs.take i).map f, s2 _ _ p.2, ?_, ?_, ?_⟩
  · rw [List.length_map, List.length_take]; omega
  · exact sm_put (fun b o z => s2 b o (p.1 b o z)) hD
  · rw [upd_same, take_map_succ hx]
/-- .. over a range -/
theorem made_mapR {lo : Int} {m : Nat} {Dd : Addr} {te : TE} {vs : List Nat} {Qd : Hp → Prop} (f : Nat → V) (hD : H Dd = none) (hz : m < sizeLine) (hw : ∀ x, wipe ((wipe σ vs).set n (some x)) vs = wipe σ vs)
    (he : ∀ (i : Nat) (H' : Hp) (Q : VK), i < m → Sm H H' → (∀ H2, Sm H' H2 → Q (f i) H2) → te ((wipe σ vs).set n (some (.int (lo + (i : Nat))))) H' Q) (hd : ∀ H', Sm H H' → H' Dd = some (.lst ((List.range m).map f)) → Qd H') : Made (Itr lo m) (gName n) tYes te vs σ Dd H Qd := by
  refine made_range (fun i H' => Sm H H' ∧ H' Dd = some (.lst ((List.range i).map f))) ⟨sm_new (fun _ _ h => h) hD, upd_same⟩ (fun i H' hi p => ⟨hw _, ?_⟩) fun H' p => hd H' p.1 p.2
  refine iteT (B := Sm H H' ∧ H' Dd = some (.lst ((List.range (i + 1)).map f))) ?_
  refine he i H' _ hi p.1 fun H2 s2 => ⟨(List.range i).map f, s2 _ _ p.2, ?_, ?_, ?_⟩
  · rw [List.length_map, List.length_range]; omega
  · exact sm_put (fun b o z => s2 b o (p.1 b o z)) hD
  · rw [upd_same, List.range_succ, List.map_append]
    rfl
/-- a comprehension over two lists of one length -/
theorem made_zip {a b Dd : Addr} {xs ys : List V} {tt : TT} {te : TE} {vs : List Nat} {Qd : Hp → Prop} (hl : xs.length = ys.length) (Pv : Nat → Hp → Prop) (h0 : Pv 0 (upd H Dd (.lst [])))
    (hq : ∀ i H, Pv i H → asL (H a) = some xs ∧ asL (H b) = some ys)
    (hs : ∀ (i : Nat) (x y : V) (T : Addr) (H : Hp), xs[i]? = some x → ys[i]? = some y → Pv i H → H T = none → g (.ref T) (wipe σ vs) (upd H T (.tup [x, y])) fun σ2 H2 => wipe σ2 vs = wipe σ vs ∧ tt σ2 H2 fun b H3 =>
      if b = true then te σ2 H3 fun y H4 => ∃ acc, H4 Dd = some (.lst acc) ∧ acc.length < sizeLine ∧ Pv (i + 1) (upd H4 Dd (.lst (acc ++ [y]))) else Pv (i + 1) H3)
    (hd : ∀ H, Pv xs.length H → Qd H) : Made (Itz K a b) g tt te vs σ Dd H Qd := by
  refine ⟨fun i m H => m = xs.length - i ∧ i ≤ xs.length ∧ Pv i H, ⟨xs.length, by simp, Nat.zero_le _, h0⟩, ?_⟩
  rintro i m H2 ⟨rfl, hi, p⟩
  obtain ⟨q1, q2⟩ := hq i H2 p
  by_cases hlt : i < xs.length
  · have hly : i < ys.length := by omega
    refine .inr ⟨⟨xs, ys, xs[i], ys[i], asL_seq q1, asL_seq q2, by simp [hlt], by simp [hly]⟩, Pv (i + 1), fun H' p' => ⟨xs.length - (i + 1), by omega, rfl, hlt, p'⟩, ?_⟩
    rintro v H' ⟨T, x, y, rfl, hT, rfl, hx, hy⟩
    exact hs i x y T H2 (hx xs (asL_seq q1)) (hy ys (asL_seq q2)) p hT
  · have e : i = xs.length := by omega
    subst e
    exact .inl ⟨⟨xs, ys, asL_seq q1, asL_seq q2, .inl (Nat.le_refl _)⟩, hd H2 p⟩
theorem loop_zip {a b : Addr} {xs ys : List V} {tb : TS} (hl : xs.length = ys.length) (Pv : Nat → L2.St → Hp → Prop) (h0 : Pv 0 σ H) (hq : ∀ i σ H, Pv i σ H → asL (H a) = some xs ∧ asL (H b) = some ys)
    (hs : ∀ (i : Nat) (x y : V) (T : Addr) (σ : L2.St) (H : Hp), xs[i]? = some x → ys[i]? = some y → Pv i σ H → H T = none → g (.ref T) σ (upd H T (.tup [x, y])) fun σ2 H2 => tb { D with nx := Pv (i + 1), ct := Pv (i + 1), bk := D.nx } σ2 H2)
    (hd : ∀ σ H, Pv xs.length σ H → D.nx σ H) : Loop (Itz K a b) g tb D σ H := RZ.for_zipL hl Pv h0 (fun i σ H p => ⟨asL_seq (hq i σ H p).1, asL_seq (hq i σ H p).2⟩) hs hd
theorem loop_rev {a : Addr} {xs : List V} {m : Nat} {tb : TS} (hm : m = xs.length) (Pv : Nat → L2.St → Hp → Prop) (h0 : Pv 0 σ H) (hl : ∀ i σ H, i ≤ xs.length → Pv i σ H → asL (H a) = some xs)
    (hs : ∀ (i : Nat) (x : V) (σ : L2.St) (H : Hp), i < xs.length → xs[xs.length - 1 - i]? = some x → Pv i σ H → g x σ H fun σ2 H2 => tb { D with nx := Pv (i + 1), ct := Pv (i + 1), bk := D.nx } σ2 H2) (hd : ∀ σ H, Pv xs.length σ H → D.nx σ H) : Loop (Itv K a m) g tb D σ H := by
  subst hm
  refine ⟨fun i m σ H => m = xs.length - i ∧ i ≤ xs.length ∧ Pv i σ H, ⟨xs.length, by simp, Nat.zero_le _, h0⟩, ?_⟩
  rintro i m σ2 H2 ⟨rfl, hi, p⟩
  have q := asL_seq (K := K) (hl i σ2 H2 hi p)
  by_cases hlt : i < xs.length
  · have hj : xs.length - 1 - i < xs.length := by omega
    refine .inr ⟨⟨hlt, xs, xs[xs.length - 1 - i], q, by simp [hj]⟩, Pv (i + 1), fun σ' H' p' => ⟨xs.length - (i + 1), by omega, rfl, hlt, p'⟩, ?_⟩
    rintro x H' ⟨rfl, hx⟩
    exact hs i x σ2 H' hlt (hx xs q) p
  · have e : i = xs.length := by omega
    subst e
    exact .inl ⟨Nat.le_refl _, hd σ2 H2 p⟩
theorem made_zipmap {a b Dd : Addr} {xs ys : List V} {te : TE} {vs : List Nat} {m : Nat} {Qd : Hp → Prop} (f : V → V → V) (ha : asL (H a) = some xs) (hb : asL (H b) = some ys) (hl : xs.length = ys.length) (hD : H Dd = none) (hz : xs.length < sizeLine)
    (hw : ∀ x y, wipe (((wipe σ vs).set m (some x)).set n (some y)) vs = wipe σ vs)
    (he : ∀ (i : Nat) (x y : V) (H' : Hp) (Q : VK), xs[i]? = some x → ys[i]? = some y → Sm H H' → (∀ H2, Sm H' H2 → Q (f x y) H2) → te (((wipe σ vs).set m (some x)).set n (some y)) H' Q)
    (hd : ∀ H', Sm H H' → H' Dd = some (.lst (List.zipWith f xs ys)) → Qd H') : Made (Itz K a b) (gTupF 2 (gCons (gName m) (gCons (gName n) gNil))) tYes te vs σ Dd H Qd := by
  refine made_zip hl (fun i H' => Sm H H' ∧ H' Dd = some (.lst (List.zipWith f (xs.take i) (ys.take i)))) ⟨sm_new (fun _ _ h => h) hD, upd_same⟩ (fun i H' p => ⟨sm_L p.1 ha, sm_L p.1 hb⟩) (fun i x y T H' hx hy p hT => ?_)
    fun H' p => hd H' p.1 (by have e := p.2; rw [List.take_length, hl, List.take_length] at e; exact e)
  have e1 : asT (upd H' T (.tup [x, y]) T) = some [x, y] := by rw [upd_same] <;> rfl
  rw [u_gtup, e1]
  refine ⟨rfl, x, [y], rfl, y, [], rfl, rfl, hw x y, ?_⟩
  have s1 : Sm H (upd H' T (.tup [x, y])) := sm_new p.1 hT
  have d1 : upd H' T (.tup [x, y]) Dd = some (.lst (List.zipWith f (xs.take i) (ys.take i))) := by
    rw [upd_ne (ne_of_none p.2 hT)]; exact p.2
  refine iteT (B := Sm H (upd H' T (.tup [x, y])) ∧ (upd H' T (.tup [x, y])) Dd = some (.lst (List.zipWith f (xs.take (i + 1)) (ys.take (i + 1))))) ?_
  refine he i x y _ _ hx hy s1 fun H2 s2 => ⟨_, s2 _ _ d1, ?_, ?_, ?_⟩
  · rw [List.length_zipWith, List.length_take]; omega
  · exact sm_put (fun b o z => s2 b o (s1 b o z)) hD
  · rw [upd_same, List.take_add_one, List.take_add_one, hx, hy, List.zipWith_append]
    · rfl
    · rw [List.length_take, List.length_take, hl]
end
end XB

/-! Errors: several clauses with and without a name, the making of an error with fields, isinstance of a caught one. -/
namespace XB
open PySem PySem.Spec PyProof.Rows L2 L2N
abbrev Sui := Addr → Value → Option Addr → TS
/-- the ends of a suite whose clause binds the name in slot i -/
def unb (i : Nat) (D : Ends) : Ends := { nx := fun σ H => D.nx (σ.set i none) H, rt := D.rt, bk := fun σ H => D.bk (σ.set i none) H, ct := fun σ H => D.ct (σ.set i none) H }
def suiAt (o : Option Nat) (ts : Sui) (a : Addr) (cls : Value) (d : Option Addr) (D : Ends) (σ : L2.St) (H : Hp) : Prop := match o with
  | none => ts a cls d D σ H
  | some i => ts a cls d (unb i D) (σ.set i (some (.ref a))) H
def wX (K : PySem.W.Frag) (Wout : WX) (D : Ends) : List (Value × Option Nat × Sui) → WX
  | [] => Wout
  | (c, o, ts) :: r => fun cls d σ H => ∃ b, PySem.W.exmOne K cls c = some b ∧ (b = true → ∀ a, H a = none → suiAt o ts a cls d D σ H) ∧ (b = false → wX K Wout D r cls d σ H)
def tTryX (K : PySem.W.Frag) (tb : WX → TS) (Wout : WX) (l : List (Value × Option Nat × Sui)) : TS := fun D σ H => tb (wX K Wout D l) D σ H
/-- a suite holds for every error that may come -/
def SuOk (X : Cx) (sts : List Stmt) (ts : Sui) : Prop := ∀ (a : Addr) (oe : Obj) (cls : Value) (d : Option Addr) (pn : List (Addr × Obj)), Zn cls d oe → (∃ fv, oe.data = .fields fv) → PSs (X.suite a ((a, oe) :: pn)) sts (ts a cls d)
inductive HdX (X : Cx) : List ExceptHandler → List (Value × Option Nat × Sui) → Prop
  | nil : HdX X [] []
  | plain {x : Str} {c : Value} {ts : Sui} {s0 : Stmt} {sr : List Stmt} {p1 p2 : Pos} {hs : List ExceptHandler} {l : List (Value × Option Nat × Sui)} (nm : Names X x c) (su : SuOk X (s0 :: sr) ts) (r : HdX X hs l) :
      HdX X (.ExceptHandler (some (.Name x p1)) none (s0 :: sr) p2 :: hs) ((c, none, ts) :: l)
  | as {x n : Str} {i : Nat} {c : Value} {ts : Sui} {s0 : Stmt} {sr : List Stmt} {p1 p2 : Pos} {hs : List ExceptHandler} {l : List (Value × Option Nat × Sui)} (nd : X.N.Nodup) (at_ : X.N[i]? = some n) (loc : X.env.kindOf n = some .local) (nm : Names X x c) (su : SuOk X (s0 :: sr) ts) (r : HdX X hs l) :
      HdX X (.ExceptHandler (some (.Name x p1)) (some n) (s0 :: sr) p2 :: hs) ((c, some i, ts) :: l)
section
variable {X : Cx}
theorem ps_tryX {body : List Stmt} {h0 : ExceptHandler} {hr : List ExceptHandler} {l : List (Value × Option Nat × Sui)} {pos : Pos} {tb : WX → TS} {Wout : WX} (stk : X.stack = X.env :: X.outer) (frm : X.env.frame = some X.env.locals) (tk : L2N.Takes X Wout)
    (bd : ∀ (W : WX) (pn : List (Addr × Obj)) (xe : Value → Shared → Prop), L2N.Takes (X.tr pn xe) W → PassesOwn (model X.prog X.w) X.A X.env xe → PSs (X.tr pn xe) body (tb W))
    (hd : HdX X (h0 :: hr) l) : PS X (.Try body (h0 :: hr) [] [] pos) (tTryX X.K tb Wout l) := by
  refine ⟨fun pins s σ H D I hyp => ?_⟩
  have okX := I.ok
  have frs2 : X.A.frames = some (X.env :: X.outer) := okX.frames.trans (by rw [stk])
  refine wpAny_Try_except ?_
  refine wpAny_mono ((bd (wX X.K Wout D l) (X.pn ++ pins) (fun er sa => wpAny (model X.prog X.w) X.A (noteFrame er X.env)
    (fun _ sb => wpAny (model X.prog X.w) X.A (setFlight er none) (fun _ sc => wpAny (model X.prog X.w) X.A (handleBy er X.env (h0 :: hr)) (SP X pins D) X.xe sc) X.xe sb) X.xe sa)
    (fun er st thrown => ?caught) PassesOwn.looking).run [] s σ H D (I.toTry _) hyp) (fun fl st done => ?went) (fun er st z => z)
  case caught =>
    obtain ⟨ea, G, sI, pinsT, σ2, H2, cls, d, rfl, Itry, nb, upS, sky, nea, eos, bare, wish⟩ := thrown
    have J : Inv X pins σ2 H2 sI := Itry.ofTry okX
    have sky2 : Sky G (X.env :: X.outer) ea (Zn cls d) X.env.locals st.heap := stk ▸ sky
    show wpAny (model X.prog X.w) X.A (noteFrame (.ref ea) X.env) _ _ _
    refine L2N.Sky.land Zn.steady frs2 frm sky2 fun ha fla upa => ?_
    have Ja : Inv X pins σ2 H2 { st with heap := ha } := J.landed nb fla.1 (upS.trans upa) eos bare
    obtain ⟨oa, va, ga, za, da⟩ := fla.there
    have out : ea ∉ frs (X.env :: X.outer) := fun inn => by
      obtain ⟨_, o2, g2, fv⟩ := fla.2.2.1.mem inn
      rw [ga] at g2
      cases g2
      exact fv _ da
    have ne1 : ea ≠ X.env.locals := fun z => out (List.mem_filterMap.mpr ⟨X.env, List.mem_cons_self, by rw [frm, z]⟩)
    have ne2 : ea ∉ X.fs := fun inn => by
      obtain ⟨e2, m2, q2⟩ := List.mem_filterMap.mp inn
      exact out (List.mem_filterMap.mpr ⟨e2, List.mem_cons_of_mem _ m2, q2⟩)
    have Sa := Ja.suite ga da nea ne1 ne2
    -- what a clause's test tells
    have asks : ∀ {x : Str} {c : Value} {b : Bool} {np : Pos} {Q : Value → Shared → Prop} {E : Value → Shared → Prop}, Names X x c → (∀ sx, sx = { st with heap := ha } → Q c sx) →
        wpAny (model X.prog X.w) (X.A.mark (some (.ref ea))) (eval (.Name x np) X.env) Q E { st with heap := ha } := fun {x c b np Q E} nm q => by
      obtain ⟨gl, dbg, k1 | ⟨k1, k2, k3⟩⟩ := nm
      · exact ld_glob (X := X.suite ea ((ea, oa) :: (X.pn ++ pins))) Sa gl k1 (q _ rfl) dbg
      · exact ld_blt (X := X.suite ea ((ea, oa) :: (X.pn ++ pins))) Sa gl k1 k2 (q _ rfl) k3 dbg
    have ty : PySem.W.Looks (model X.prog X.w) ha (typeOf (.ref ea)) cls := fun A Q E s5 k q => wpAny_typeOf_ref (k _ _ ga) (za.1 ▸ q)
    have walk : ∀ {hs2 : List ExceptHandler} {l2 : List (Value × Option Nat × Sui)}, HdX X hs2 l2 → wX X.K Wout D l2 cls d σ2 H2 → wpAny (model X.prog X.w) X.A (handleBy (.ref ea) X.env hs2) (SP X pins D) X.xe { st with heap := ha } := by
      intro hs2 l2 hok
      induction hok with
      | nil =>
        intro wl
        refine wpAny_handleBy_nil ?_
        obtain ⟨r1, r2, r3, ox, vx, T, oT, tx, gx, zx, dx, t1, rx⟩ := id fla
        unfold PySem.passOn
        refine wpAny_bind (wpAny_field gx dx t1 ?_)
        have nn : ¬ ((Value.ref T == Value.none) = true) := by simp
        rw [if_neg nn]
        have up9 : wpAny (model X.prog X.w) X.A (setFlight (.ref ea) X.env.frame) (fun _ s9 => wpAny (model X.prog X.w) X.A (throw (.ref ea) : Sem Flow) (SP X pins D) X.xe s9) X.xe { st with heap := ha } := by
          rw [frm]
          refine HandSPX.setFlight_upZ fla fun hb hhb upb => wpAny_throw (tk _ _ ?_)
          exact ⟨ea, G, sI, pins, σ2, H2, cls, d, rfl, J, nb, (upS.trans upa).trans upb, .inr (.inr (stk.symm ▸ hhb)), nea, eos, bare, wl⟩
        first
          | exact wpAny_bind (wpAny_pure (wpAny_bind up9))
          | exact wpAny_bind up9
      | @plain x c ts s0 sr p1 p2 hs3 l3 nm su r ih =>
        intro wl
        obtain ⟨b, hb, yes, no⟩ := wl
        refine wpAny_handleBy_cons (codeAny_handlers_test ?_) (by intro q; cases q)
        have LM := PySem.W.exm_one (M := model X.prog X.w) Ja.kIn ty hb
        refine asks (b := b) nm fun sx ex => ?_
        subst ex
        refine LM.here ?_
        cases b with
        | false => exact ih (no rfl)
        | true =>
          refine codeAny_handlers_suite ?_
          refine HandSPX.lands_againZ fla fun hb2 flb upb => ?_
          have Jb : Inv X pins σ2 H2 { st with heap := hb2 } := J.landed nb flb.1 ((upS.trans upa).trans upb) eos bare
          obtain ⟨ob, vb, gb, zb, db⟩ := flb.there
          have Sb := Jb.suite gb db nea ne1 ne2
          refine wpAny_mono ((su ea ob cls d (X.pn ++ pins) zb ⟨_, db⟩).run [] _ _ H2 _ Sb (yes rfl ea nea)) (fun f s6 res => ?_) (fun _ _ z => False.elim z)
          cases f with
          | next => obtain ⟨σ6, H6, S6, q6⟩ := res; exact ⟨_, _, S6.unsuite okX, q6⟩
          | brk => obtain ⟨σ6, H6, S6, q6⟩ := res; exact ⟨_, _, S6.unsuite okX, q6⟩
          | cont => obtain ⟨σ6, H6, S6, q6⟩ := res; exact ⟨_, _, S6.unsuite okX, q6⟩
          | ret u => obtain ⟨v6, σ6, H6, S6, r6, q6⟩ := res; exact ⟨_, _, _, S6.unsuite okX, r6, q6⟩
      | @as x n i c ts s0 sr p1 p2 hs3 l3 nd at_ loc nm su r ih =>
        intro wl
        obtain ⟨b, hb, yes, no⟩ := wl
        have hloc : Loc X.env.scope n := .inl loc
        refine wpAny_handleBy_cons (codeAny_handlers_test ?_) (by intro q; cases q)
        have LM := PySem.W.exm_one (M := model X.prog X.w) Ja.kIn ty hb
        refine asks (b := b) nm fun sx ex => ?_
        subst ex
        refine LM.here ?_
        cases b with
        | false => exact ih (no rfl)
        | true =>
          refine codeAny_handlers_suite_as ?_
          refine HandSPX.lands_againZ fla fun hb2 flb upb => ?_
          have Jb : Inv X pins σ2 H2 { st with heap := hb2 } := J.landed nb flb.1 ((upS.trans upa).trans upb) eos bare
          obtain ⟨ob, vb, gb, zb, db⟩ := flb.there
          have Sb := Jb.suite gb db nea ne1 ne2
          refine store_ok (X := X.suite ea ((ea, ob) :: (X.pn ++ pins))) (v := .ref ea) Sb nd at_ hloc rfl (fun s5 S5 => ?_) (.inr loc)
          refine wpAny_mono ((su ea ob cls d (X.pn ++ pins) zb ⟨_, db⟩).run [] s5 _ H2 _ S5 (yes rfl ea nea)) (fun f s6 res => ?_) (fun _ _ z => False.elim z)
          have fin : ∀ {σ6 : L2.St} {H6 : Hp} {Q : Shared → Prop}, Inv (X.suite ea ((ea, ob) :: (X.pn ++ pins))) [] σ6 H6 s6 → (∀ s7, Inv X pins (σ6.set i none) H6 s7 → Q s7) →
              wpAny (model X.prog X.w) X.A (do bindName X.env n .none; unbindBehindTheSuite X.env n p2) (fun _ s7 => Q s7) X.xe s6 := fun {σ6 H6 Q} S6 k => gone_ok (S6.unsuite okX) nd at_ loc k
          cases f with
          | next => obtain ⟨σ6, H6, S6, q6⟩ := res; exact fin S6 fun s7 J7 => ⟨_, _, J7, q6⟩
          | brk => obtain ⟨σ6, H6, S6, q6⟩ := res; exact fin S6 fun s7 J7 => ⟨_, _, J7, q6⟩
          | cont => obtain ⟨σ6, H6, S6, q6⟩ := res; exact fin S6 fun s7 J7 => ⟨_, _, J7, q6⟩
          | ret u => obtain ⟨v6, σ6, H6, S6, r6, q6⟩ := res; exact fin S6 fun s7 J7 => ⟨_, _, _, J7, r6, q6⟩
    exact walk hd wish
  case went =>
    cases fl with
    | next => obtain ⟨σ2, H2, J2, q⟩ := done; exact wpAny_execs_nil ⟨σ2, H2, J2.ofTry okX, q⟩
    | brk => obtain ⟨σ2, H2, J2, q⟩ := done; exact ⟨σ2, H2, J2.ofTry okX, q⟩
    | cont => obtain ⟨σ2, H2, J2, q⟩ := done; exact ⟨σ2, H2, J2.ofTry okX, q⟩
    | ret u => obtain ⟨v, σ2, H2, J2, r, q⟩ := done; exact ⟨v, σ2, H2, J2.ofTry okX, r, q⟩
/-- C(e, ..), C an error's class with its own __init__; what is made has no context -/
theorem pmk_N {CX : CXT} {x : Str} {e : Expr} {es : List Expr} {ta : TA} {p pos : Pos} {C fI : Addr} {k : Nat} {fd : FuncData} {ps : List Str} {sp : Sp} (T : OexC X.K C)
    (iC : PySem.W.findIn X.K (.ref C) "__init__" = some (some (.ref fI))) (tI : PySem.W.typeIn X.K (.ref fI) = some (.type "function")) (F1 : FnOk X.prog X.w X.K X.mg X.base CX k fI fd ps sp) (hr : Room (k + 1) X.A)
    (hb : Binds X.K fd ps []) (hx : Passes CX X (fun _ _ _ => False)) (hg : Gl X x) (hm : X.mg x = some (.ref C)) (ha : PA X (e :: es) ta) (hdb : (x == ("__debug__" : Str)) = false := by decide)
    (he : starEach (e :: es) X.env = (false, eval e X.env) :: starEach es X.env := by rfl) (hpl : (backTo pos (starEach es X.env)).any (·.1) = false := by rfl) : L2N.PMk X (.Call (.Name x p) (e :: es) [] pos) (tMkO C sp [] ta) := by
  intro pins s σ H Q I hyp
  obtain ⟨nm, qn, N, bs, bm, sn, sub, ab, col, dd, m0, m1, m2, m3, m5, lkC, okB⟩ := T.cls
  refine wpAny_Call_Name_kw (ld_glob I hg hm ?_ hdb)
  refine PySem.W.callWith_K (h₀ := X.base) I.ok.mod.kin T.kC (thn (ha.run pos pins s σ H _ I hyp) fun us st ⟨vs, H1, I1, rel, short, next⟩ => ⟨I1.kIn, ?_⟩) he hpl
  show wpAny _ _ (call (.ref C) us) _ _ _
  obtain ⟨hp, gs, dr, tk, os⟩ := st
  have sz1 : hp.objs.size ≤ hp.objs.size + 1 := Nat.le_succ _
  have fresh : H1 (hp.objs.size + 1) = none := I1.hok.fresh sz1
  have pro := next (hp.objs.size + 1) fresh
  rw [List.append_nil] at pro
  have keeps : ∀ b o, hp.get? b = some o → ((hp.push (PySem.W.kdv_tup us)).push (PySem.HandSPX.excO C hp.objs.size)).get? b = some o := fun b o z => Heap.get?_push_of_some _ (Heap.get?_push_of_some _ z)
  have stands : ((hp.push (PySem.W.kdv_tup us)).push (PySem.HandSPX.excO C hp.objs.size)).get? (hp.objs.size + 1) = some (PySem.HandSPX.excO C hp.objs.size) := by heap_get
  have Inew : Inv X pins σ (upd H1 (hp.objs.size + 1) (exo (hp.objs.size + 1) C none)) ⟨(hp.push (PySem.W.kdv_tup us)).push (PySem.HandSPX.excO C hp.objs.size), gs, dr, tk, os⟩ :=
    I1.laid (t' := tk) (h' := (hp.push (PySem.W.kdv_tup us)).push (PySem.HandSPX.excO C hp.objs.size)) (o := exo (hp.objs.size + 1) C none) (a := hp.objs.size + 1) keeps sz1 (exo_ok stands)
  have rel2 : Vals (V.ref (hp.objs.size + 1) :: vs) (Value.ref (hp.objs.size + 1) :: us) := .cons rfl rel
  have len2 : (Value.ref (hp.objs.size + 1) :: us ++ []).length = ps.length := by
    have z := rel2.length
    rw [F1.len _ _ _ _ pro] at z
    rw [List.append_nil]
    exact z.symm
  have fits : us.length ≤ sizeLine := by
    rw [← Paired.length rel, sizeLine_eq]
    omega
  have bnd := hb _ (Value.ref (hp.objs.size + 1) :: us) Inew.kIn len2
  rw [List.append_nil] at bnd
  refine wpAny_call (PySem.HandSPX.call_own F.excBase_ValueError (fun Y => PySem.HandSPX.refsVE_contains Y bm okB) (I1.kIn _ _ lkC) (PySem.W.looks_findIn I1.kIn iC) (fun me => PySem.W.bind_fn I1.kIn me tI) fits
    (codeAny_mono (F1.run _ X.stack _ _ ⟨Value.ref (hp.objs.size + 1) :: us, []⟩ (Value.ref (hp.objs.size + 1) :: us) _ _ (fun _ _ _ => False) (hr.make C us []) (Inew.env0.make C us []) bnd rel2 pro) fun r s2 res => ?_))
  cases r with
  | error er => exact hx pins σ _ _ er s2 Inew res
  | ok fl =>
    cases fl with
    | ret u =>
      obtain ⟨v, H2, os2, bare2, un2, hok2, rv, ev, d, fs, ea, ed, hd1, q2⟩ := res
      subst ev
      obtain ⟨h2, g2, d2, t2, osx⟩ := s2
      obtain ⟨t0, G, J, kG, gone, there, na⟩ := mk_end0 (d2 := d2) (t2 := t2) I1 sz1 keeps un2 hok2 os2 bare2 ea ed hd1
      refine ⟨rv, hp.objs.size + 1, _, _, ⟨G, g2, d2, t2, osx⟩, _, .ref C, some d, rfl, J, kG, gone, there, ⟨rfl, rfl, fun fv z => ?_⟩, rfl, rfl, na, rfl, bare2, raises_own T.exC T.tyC, q2⟩
      cases z
      rfl
    | next => exact False.elim res
    | brk => exact False.elim res
    | cont => exact False.elim res
end
/-- the fields that an error's __init__ stores, the last one first -/
def flds : List Str → List V → List (Str × V) → List (Str × V)
  | f :: fs, v :: vs, acc => flds fs vs ((f, v) :: acc)
  | _, _, acc => acc
/-- __init__(self, f1, ..): the fields are stored in order -/
def sp_einit (C : Addr) (names : List Str) : Sp := fun vs H Q _ => ∃ (a : Addr) (ws : List V), vs = .ref a :: ws ∧ ws.length = names.length ∧ H a = some (exo a C none) ∧
  ∀ (d : Addr) (H' : Hp), H d = none → d ≠ a → H' a = some (exo a C (some d)) → H' d = some (exd d (flds names ws [])) → (∀ b, b ≠ a → b ≠ d → H' b = H b) → Q .non H'
/-- raise C(e, ..): an error of the class, whose own dict at d, new, holds the fields -/
def tRaiseF (C : Addr) (names : List Str) (Wout : WX) (ta : TA) : TS := fun D σ H => ta σ H fun vs H1 => vs.length = names.length ∧ vs.length ≤ 1000 ∧
  ∀ (d : Addr) (H' : Hp), H1 d = none → H' d = some (.xd (flds names vs [])) → (∀ b o, H1 b = some o → H' b = some o) → Wout (.ref C) (some d) σ H'
theorem mko_of {C : Addr} {names : List Str} {ta : TA} {σ : L2.St} {H : Hp} {Q : XK} (m : ∀ (R R' : List V → Hp → Prop), (∀ vs H1, R vs H1 → R' vs H1) → ta σ H R → ta σ H R')
    (h : ta σ H fun vs H1 => vs.length = names.length ∧ vs.length ≤ 1000 ∧ ∀ (d : Addr) (H' : Hp), H1 d = none → H' d = some (.xd (flds names vs [])) → (∀ b o, H1 b = some o → H' b = some o) → Q (.ref C) (some d) H') :
    tMkO C (sp_einit C names) [] ta σ H Q := m _ _ (fun vs H1 ⟨l1, l2, k⟩ => ⟨l2, fun a na => by
  rw [List.append_nil]
  refine ⟨a, vs, rfl, l1, upd_same, fun d H' nd ne ha hd rest => ⟨rfl, d, _, ha, hd, ?_, ?_⟩⟩
  · rw [upd_ne ne] at nd; exact nd
  · rw [upd_ne ne] at nd
    refine k d _ nd upd_same fun b o hb => ?_
    have nba : b ≠ a := ne_of_none hb na
    have nbd : b ≠ d := ne_of_none hb nd
    rw [upd_ne nbd, del_ne nba, rest b nba nbd, upd_ne nba]
    exact hb⟩) h
theorem u_try {K : PySem.W.Frag} {tb : WX → TS} {W : WX} {l : List (Value × Option Nat × Sui)} {D : Ends} {σ : L2.St} {H : Hp} : tTryX K tb W l D σ H = tb (wX K W D l) D σ H := rfl
theorem u_sui {i : Nat} {ts : Sui} {a : Addr} {cls : Value} {d : Option Addr} {D : Ends} {σ : L2.St} {H : Hp} : suiAt (some i) ts a cls d D σ H = ts a cls d (unb i D) (σ.set i (some (.ref a))) H := rfl
theorem u_sui0 {ts : Sui} {a : Addr} {cls : Value} {d : Option Addr} {D : Ends} {σ : L2.St} {H : Hp} : suiAt none ts a cls d D σ H = ts a cls d D σ H := rfl
theorem u_unb_rt {i : Nat} {D : Ends} : (unb i D).rt = D.rt := rfl
theorem u_unb_nx {i : Nat} {D : Ends} {σ : L2.St} {H : Hp} : (unb i D).nx σ H = D.nx (σ.set i none) H := rfl
theorem u_xf {a C : Addr} {cls : Value} {d : Option Addr} {f : Str} {te : TE} {σ : L2.St} {H : Hp} {Q : VK} : tXf a cls d C f te σ H Q = te σ H fun x H1 => x = .ref a ∧ cls = .ref C ∧ ∃ (dd : Addr) (fs : List (Str × V)) (v : V), d = some dd ∧ H1 dd = some (.xd fs) ∧ fs.lookup f = some v ∧ Q v H1 := rfl
/-- the clause that takes the error *)-/
theorem wX_yes {K : PySem.W.Frag} {W : WX} {D : Ends} {c : Value} {o : Option Nat} {ts : Sui} {r : List (Value × Option Nat × Sui)} {cls : Value} {d : Option Addr} {σ : L2.St} {H : Hp} (h : PySem.W.exmOne K cls c = some true) (k : ∀ a, H a = none → suiAt o ts a cls d D σ H) :
    wX K W D ((c, o, ts) :: r) cls d σ H := ⟨true, h, fun _ => k, fun z => (by cases z)⟩
theorem wX_no {K : PySem.W.Frag} {W : WX} {D : Ends} {c : Value} {o : Option Nat} {ts : Sui} {r : List (Value × Option Nat × Sui)} {cls : Value} {d : Option Addr} {σ : L2.St} {H : Hp} (h : PySem.W.exmOne K cls c = some false) (k : wX K W D r cls d σ H) :
    wX K W D ((c, o, ts) :: r) cls d σ H := ⟨false, h, fun z => (by cases z), fun _ => k⟩
theorem u_WE {W : WX} {σ : L2.St} {cls : Value} {d : Option Addr} {H : Hp} : WE W σ cls d H = W cls d σ H := rfl
theorem u_raise {C : Addr} {names : List Str} {W : WX} {ta : TA} {D : Ends} {σ : L2.St} {H : Hp} : tRaiseF C names W ta D σ H = ta σ H fun vs H1 => vs.length = names.length ∧ vs.length ≤ 1000 ∧
  ∀ (d : Addr) (H' : Hp), H1 d = none → H' d = some (.xd (flds names vs [])) → (∀ b o, H1 b = some o → H' b = some o) → W (.ref C) (some d) σ H' := rfl
/-- an argument list bears a weaker wish -/
def MonA (ta : TA) : Prop := ∀ (σ : L2.St) (H : Hp) (R R' : List V → Hp → Prop), (∀ vs H1, R vs H1 → R' vs H1) → ta σ H R → ta σ H R'
def MonT (te : TE) : Prop := ∀ (σ : L2.St) (H : Hp) (R R' : VK), (∀ v H1, R v H1 → R' v H1) → te σ H R → te σ H R'
theorem mon_nil : MonA tNil := fun σ H R R' k h => k _ _ h
theorem mon_cons {te : TE} {tr : TA} (h1 : MonT te) (h2 : MonA tr) : MonA (tCons te tr) := fun σ H R R' k h => h1 σ H _ _ (fun v H1 q => h2 σ H1 _ _ (fun vs H2 q2 => k _ _ q2) q) h
theorem mon_var {i : Nat} : MonT (tVar i) := fun σ H R R' k ⟨v, e, q⟩ => ⟨v, e, k _ _ q⟩
theorem mon_c {v : V} : MonT (tC v) := fun σ H R R' k q => k _ _ q
section
variable {X : Cx}
theorem ps_raiseF {CX : CXT} {x : Str} {e : Expr} {es : List Expr} {ta : TA} {p pos pos2 : Pos} {C fI : Addr} {k : Nat} {fd : FuncData} {ps names : List Str} {W : WX} (hc : X.calm = true) (T : OexC X.K C)
    (iC : PySem.W.findIn X.K (.ref C) "__init__" = some (some (.ref fI))) (tI : PySem.W.typeIn X.K (.ref fI) = some (.type "function")) (F1 : FnOk X.prog X.w X.K X.mg X.base CX k fI fd ps (sp_einit C names)) (hr : Room (k + 1) X.A)
    (hb : Binds X.K fd ps []) (hx : Passes CX X (fun _ _ _ => False)) (hg : Gl X x) (hm : X.mg x = some (.ref C)) (tk : L2N.Takes X W) (mon : MonA ta) (ha : PA X (e :: es) ta) (hdb : (x == ("__debug__" : Str)) = false := by decide)
    (he : starEach (e :: es) X.env = (false, eval e X.env) :: starEach es X.env := by rfl) (hpl : (backTo pos (starEach es X.env)).any (·.1) = false := by rfl) :
    PS X (.Raise (some (.Call (.Name x p) (e :: es) [] pos)) none pos2) (tRaiseF C names W ta) :=
  ⟨fun pins s σ H D I q => (L2N.ps_raise hc tk (pmk_N T iC tI F1 hr hb hx hg hm ha hdb he hpl)).run pins s σ H D I (mko_of (Q := fun cls d H' => W cls d σ H') (fun R R' => mon σ H R R') q)⟩
theorem takesN0 {X : Cx} : L2N.Takes X (fun _ _ _ _ => False) := fun _ _ z => by
  obtain ⟨_, _, _, _, _, _, _, _, _, _, _, _, _, _, _, _, no⟩ := z
  exact no.elim
theorem pass0S {X : Cx} {E : L2.St → XK} : ∀ σ, PassesAt CX0 X σ (E σ) := fun _ _ _ _ _ _ _ z => z.elim
theorem passE {X : Cx} {E : XK} : Passes CX0 X E := fun _ _ _ _ _ _ _ z => z.elim
/-- a def that may raise -/
theorem okN {P : Program} {w : World} {K : PySem.W.Frag} {mg : Str → Option Value} {base : Heap} {x qual : Str} {st : Stmt} {f : Addr} {fd : FuncData} {N ps : List Str} {k : Nat} {sp : Sp} (F : Fun K x qual st f fd) (S : FnScope N ps (defScope st))
    (len : ∀ vs H Q E, sp vs H Q E → vs.length = ps.length)
    (hbody : ∀ (cdv : Value) (A : Around) (outer : List Env) (s : Shared) (H : Hp) (vs : List V) (Q : VK) (E : XK), Room k (A.deeper (envOfC qual (defScope st) s.heap.objs.size f cdv)) → sp vs H Q E →
      ∃ t, PSs (cxOf (L2N.CX P w) P w K mg base N qual (defScope st) f cdv A outer s H E) (defBody st) t ∧ t { nx := fun _ H' => Q .non H', rt := Q } (start N vs) H) : FnOk P w K mg base (L2N.CX P w) (k + 1) f fd ps sp := by
  obtain ⟨oc, od, kV, doc, pm, an, cdv, ct, osl, rfl, lk, hcd⟩ := F.ex
  exact fn_of lk hcd S len fun A outer s H vs Q E hr hsp => hbody cdv A outer s H vs Q E hr hsp
end
end XB

/-! isinstance of a caught error that has its own dict. -/
namespace XB
open PySem PySem.Spec PySem.Calls PyProof.Rows PySem.W
section
variable {prog : Program} {w : World} {A : Around} {E : Value → Shared → Prop} {s : Shared} {K : Frag} {x D : Addr} {ox : Obj} {od : Option Obj}
theorem err_class {Q : Option Value → Shared → Prop} (T : L2.ExcC K D) (hf : findObj K D od "__class__" = some (.bind (.builtin "getset_descriptor.__get__") (.builtin "object.__class__")))
    (X : K.In s.heap) (I : InstAt s.heap x ox D od) (h : Q (some (.ref D)) { s with toks := s.toks + 1 }) : wpAny (model prog w) A (getAttr? (.ref x) "__class__") Q E s := by
  obtain ⟨hp, gs, dr, tk, os⟩ := s
  have lk0 := I.type (M := model prog w)
  have lk1 := looks_findIn (M := model prog w) X T.hg
  have lk2 := looks_findIn (M := model prog w) X T.hk
  have lk3 := looks_find (M := model prog w) X I hf
  have isB : Looks (model prog w) hp (isInstance (.ref x) (.type "BaseException")) true := lk0.andThen (looks_subIn X T.hs)
  have e0 : (false && onTheHeap (Value.builtin "BaseException.__getattribute__")) = false := rfl
  have e2 : (Value.builtin "BaseException.__getattribute__" == Value.builtin "object.__getattribute__") = false := by decide +kernel
  have e1 : (onTheHeap (Value.ref D) && Value.builtin "BaseException.__getattribute__" == Value.builtin "object.__getattribute__") = false := by rw [e2] <;> rfl
  unfold getAttr? getAttrBy? getAttrBy
  refine wpAny_bind (wpAny_mkText (wpAny_bind (wpAny_attempt (wpAny_holding (wpAny_bind (lk0.at (wpAny_bind (lk1.at ?go))))))))
  case go =>
    show wpAny _ _ (if (onTheHeap (Value.ref D) && Value.builtin "BaseException.__getattribute__" == Value.builtin "object.__getattribute__") = true then _ else _) _ _ _
    rw [e1]
    rw [if_neg Bool.false_ne_true]
    unfold getAttrByItsOwn hookBefore
    refine wpAny_bind ?own
    case own =>
      rw [if_pos (show onTheHeap (Value.ref D) = true from rfl)]
      refine lk2.at (wpAny_bind (wpAny_attempt (wpAny_holding ?inner)))
      case inner =>
        unfold callGetattribute
        rw [e0]
        rw [if_neg Bool.false_ne_true]
        unfold boundAndCalled
        rw [PySem.F.excAttr_ValueError.ga.bind (.ref x)]
        refine wpAny_bind (wpAny_pure ?called)
        case called =>
          show wpAny _ _ (call (.builtin "BaseException.__getattribute__") [.ref x, .str "__class__" tk]) _ _ _
          refine wpAny_call (codeAny_call_builtin PySem.F.excAttr_ValueError.ga.plain PySem.F.entry_bexc_ga ?slot)
          case slot =>
            refine @check_slot (model prog w) _ _ ⟨hp, gs, dr, tk + 1, os⟩ "BaseException.__getattribute__" "BaseException" "__getattribute__" (.ref x) [.str "__class__" tk] [] _ (by decide +kernel) (by decide +kernel) isB (PySem.F.args_bexc_ga (.ref x) (.str "__class__" tk)) ?body
            case body =>
              unfold Builtin.«object.__getattribute__»
              refine wpAny_bind (wpAny_of_eq (a := ((Value.ref x : Value), [Value.str "__class__" tk])) (by first | rfl | (simp only [slotArgs] <;> rfl)) ?rest)
              case rest =>
                refine wpAny_bind (wpAny_pure (wpAny_bind (lk0.at (wpAny_bind (lk3.at ?get)))))
                case get =>
                  show wpAny _ _ (holding [Value.builtin "object.__class__"] (call (.builtin "getset_descriptor.__get__") [.builtin "object.__class__", .ref x, .ref D]) >>= ret) _ _ _
                  refine wpAny_bind (wpAny_holding (wpAny_call (class_get (s := ⟨hp, gs, dr, tk + 1, os⟩) (ox := ox) (od := od) X I T.hm ?out)))
                  case out =>
                    refine wpAny_pure ?end_
                    case end_ =>
                      show wpAny _ _ (handedOut (.ref D)) _ _ _
                      rw [handedOut_of (v := .ref D) rfl]
                      first
                        | exact wpAny_pure (wpAny_pure h)
                        | exact wpAny_pure h
                        | exact wpAny_pure (wpAny_bind (wpAny_pure (wpAny_pure h)))
theorem err_kit (T : L2.ExcC K D) (hf : findObj K D od "__class__" = some (.bind (.builtin "getset_descriptor.__get__") (.builtin "object.__class__"))) : KitX K (.ref x) (.ref D) (fun hp => InstAt hp x ox D od) where
  ty := fun _ _ _ I => I.type
  it := fun _ _ X _ => by
    obtain ⟨cd, hc, _⟩ := any_some T.hd
    unfold clsIn at hc
    split at hc
    · rename_i o2 d2 c2 l2 at2
      intro A2 Q2 E2 s2 k q
      unfold isType loadHead
      exact wpAny_bind (wpAny_loadPart (k _ _ (X _ _ at2)) (wpAny_pure q))
    · cases hc
  ne := fun hp tp dd its n sl X at_ => by
    obtain ⟨cd, hc, _⟩ := any_some T.hd
    refine Bool.eq_false_iff.mpr fun z => ?_
    have same : D = tp := Value.ref.inj (beq_iff_eq.mp z)
    subst same
    unfold clsIn at hc
    split at hc
    · rename_i o2 d2 c2 l2 at2
      have y := (X _ _ at2).symm.trans at_
      cases y
    · cases hc
  ca := fun X I k => err_class T hf X I k
end
open L2
/-- what the class at D must say, that isinstance asks its instances rightly -/
structure ErrC (K : PySem.W.Frag) (D : Addr) : Prop where
  ex : L2.ExcC K D
def fIsE (K : PySem.W.Frag) (D a : Addr) (cls : Value) (d : Option Addr) : RL := fun xs H Q => ∃ (c : V) (cv : Value) (b : Bool) (dd : Addr) (fs : List (Str × V)), xs = [.ref a, c] ∧ (∀ u, RelV c u → u = cv) ∧ cls = .ref D ∧ d = some dd ∧ H dd = some (.xd fs) ∧
  PySem.W.kitOne K (.ref D) cv = some b ∧ Q (.bl b) H
def fIsET (K : PySem.W.Frag) (D a : Addr) (cls : Value) (d : Option Addr) : RL := fun xs H Q => ∃ (tp : Addr) (cs : List V) (us : List Value) (b : Bool) (dd : Addr) (fs : List (Str × V)), xs = [.ref a, .ref tp] ∧ H tp = some (.tup cs) ∧ Paired ClsV cs us ∧ cls = .ref D ∧ d = some dd ∧ H dd = some (.xd fs) ∧
  PySem.W.kitAny K (.ref D) us = some b ∧ Q (.bl b) H
section
variable {X : Cx} {a D : Addr} {oe : Obj} {cls : Value} {d : Option Addr} {pn : List (Addr × Obj)}
theorem err_at {pins : List (Addr × Obj)} {σ : L2.St} {H : Hp} {s : Shared} {dd : Addr} {fs : List (Str × V)} (I : Inv (X.suite a ((a, oe) :: pn)) pins σ H s) (hz : L2N.Zn (.ref D) (some dd) oe) (hf : ∃ fv, oe.data = .fields fv) (hx : H dd = some (.xd fs)) :
    ∃ od, PySem.W.InstAt s.heap a oe D (some od) := by
  obtain ⟨at_, _⟩ := I.pin (a, oe) (List.mem_append_left _ List.mem_cons_self)
  have ob : ObjOk (X.suite a ((a, oe) :: pn)).prog (X.suite a ((a, oe) :: pn)).w H s.heap dd (.xd fs) := I.hok dd _ hx
  obtain ⟨mA, hns, _⟩ := ob
  obtain ⟨od, ho, _⟩ := lookIn_ns hns
  obtain ⟨fv, hd⟩ := hf
  exact ⟨od, at_, hz.1, by unfold PySem.W.notCls; rw [hd] <;> rfl, by rw [hz.2.1]; exact ho⟩
theorem c_isE (T : L2.ExcC X.K D) (hz : L2N.Zn cls d oe) (hf : ∃ fv, oe.data = .fields fv) : CallR (X.suite a ((a, oe) :: pn)) (.builtin "isinstance") (fIsE X.K D a cls d) := by
  intro pins s σ H xs us Q I r h
  obtain ⟨c, cv, b, dd, fs, rfl, hcv, rfl, rfl, hx, e, q⟩ := h
  obtain ⟨u1, u2, rfl, r1, r2⟩ := vals2 r
  cases (show u1 = Value.ref a from r1)
  have ec := hcv _ r2
  subst ec
  obtain ⟨od, J⟩ := err_at I hz hf hx
  exact PySem.W.kia_one (err_kit T (PySem.W.findObj_data (by obtain ⟨cd, hc, _⟩ := PySem.W.any_some T.hd; rw [hc] <;> rfl) T.ha T.hn T.ht)) I.kIn J e (fun z => nomatch z) fun tk => ⟨.bl b, H, I.kept (t' := tk) fun _ _ z => z, rfl, q⟩
theorem c_isET (T : L2.ExcC X.K D) (hz : L2N.Zn cls d oe) (hf : ∃ fv, oe.data = .fields fv) : CallR (X.suite a ((a, oe) :: pn)) (.builtin "isinstance") (fIsET X.K D a cls d) := by
  intro pins s σ H xs us Q I r h
  obtain ⟨tp, cs, ws, b, dd, fs, rfl, hT, k, rfl, rfl, hx, e, q⟩ := h
  obtain ⟨u1, u2, rfl, r1, r2⟩ := vals2 r
  cases (show u1 = Value.ref a from r1)
  cases (show u2 = Value.ref tp from r2)
  obtain ⟨od, J⟩ := err_at I hz hf hx
  have ot : ObjOk (X.suite a ((a, oe) :: pn)).prog (X.suite a ((a, oe) :: pn)).w H s.heap tp (.tup cs) := I.hok tp _ hT
  obtain ⟨_, its, rv, o, h1, h2, n, h3⟩ := ot
  have e3 := ClsV.all k rv
  subst e3
  obtain ⟨oc, odd, dt, sl⟩ := o
  simp only at h2 h3
  subst h2 h3
  exact PySem.W.kia_tup (err_kit T (PySem.W.findObj_data (by obtain ⟨cd, hc, _⟩ := PySem.W.any_some T.hd; rw [hc] <;> rfl) T.ha T.hn T.ht)) I.kIn J h1 e (fun z => nomatch z) fun tk => ⟨.bl b, H, I.kept (t' := tk) fun _ _ z => z, rfl, q⟩
end
end XB

/-! Texts: not in, slices, str of a number, loops over a text. -/
namespace XB
open PySem L2
def fNin (K : PySem.W.Frag) : R2 := fun x y H Q => match x, y with
  | .str ⟨⟨[c]⟩⟩, .str z => Q (.bl (!decide (c ∈ z.cps.toList))) H
  | x, .ref p => (match asS (H p) with
    | some xs => flatV x = true ∧ xs.all flatV = true ∧ Q (.bl (!inV x xs)) H
    | none => False)
  | _, _ => False
section
variable {X : Cx}
theorem op_ninF : OpR X (compareOp .NotIn) (fNin X.K) := op_imp (op_notIn_seq.or op_notIn_sign) fun x y H Q h => by
  unfold fNin at h
  split at h
  · exact .inr ⟨_, _, rfl, rfl, h⟩
  · split at h
    · rename_i e
      obtain ⟨h1, h2, h3⟩ := h
      exact .inl ⟨_, _, rfl, (asS_or e).elim (fun e => .inl (asL_seq e)) (fun e => .inr (asT_seq e)), h1, h2, h3⟩
    · exact h.elim
  · exact h.elim
/-- a slice of a text too -/
def fSl2 : V → Option Int → Option Int → Hp → VK → Prop := fun x lo hi H Q => match x with
  | .str z => z.length ≤ sizeLine ∧ Q (.str (Txt.slice z lo hi)) H
  | x => fSl x lo hi H Q
theorem sl_F2 : SlR X fSl2 := fun pins s σ H x v vl vu lo hi sl Q I rx hs pl pu h => by
  refine (C8.sl_txt.or sl_F) pins s σ H x v vl vu lo hi sl Q I rx hs pl pu ?_
  unfold fSl2 at h
  split at h
  · exact .inl ⟨_, rfl, h.1, h.2⟩
  · exact .inr h
def fStrI : RL := fun xs H Q => match xs with
  | [.int i] => i.natAbs.log2 < 1920 ∧ Q (.str (toString i)) H
  | _ => False
theorem c_strI : CallR X (.type "str") fStrI := fun pins s σ H xs us Q I r h => by
  refine call_str_int pins s σ H xs us Q I r ?_
  unfold fStrI at h
  split at h
  · exact ⟨_, rfl, h.1, h.2⟩
  · exact h.elim
end
section
variable {K : PySem.W.Frag} {H : Hp} {Q : VK} {σ : L2.St} {v : V} {D : Ends} {g : TG} {n : Nat}
theorem u_strI {te : TE} {R : It → Hp → Prop} : iStr te σ H R = te σ H fun v H1 => ∃ x, v = .str x ∧ R (Its x) H1 := rfl
theorem f_nin1 {c : Nat} {z : Str} : fNin K (.str ⟨⟨[c]⟩⟩) (.str z) H Q = Q (.bl (!decide (c ∈ z.cps.toList))) H := rfl
theorem f_in1 {c : Nat} {z : Str} : fIn K (.str ⟨⟨[c]⟩⟩) (.str z) H Q = Q (.bl (decide (c ∈ z.cps.toList))) H := rfl
theorem f_slS {z : Str} {lo hi : Option Int} : fSl2 (.str z) lo hi H Q = (z.length ≤ sizeLine ∧ Q (.str (Txt.slice z lo hi)) H) := rfl
theorem f_slR {p : Addr} {lo hi : Option Int} : fSl2 (.ref p) lo hi H Q = fSl (.ref p) lo hi H Q := rfl
theorem f_strI {i : Int} : fStrI [.int i] H Q = (i.natAbs.log2 < 1920 ∧ Q (.str (toString i)) H) := rfl
end
section
variable {K : PySem.W.Frag} {H : Hp} {σ : L2.St} {D : Ends} {g : TG} {n : Nat}
/-- a loop over a text's signs -/
theorem loop_str {z : Str} {tb : TS} (Pv : Nat → L2.St → Hp → Prop) (h0 : Pv 0 σ H)
    (hs : ∀ i c σ H, z.cps[i]? = some c → Pv i σ H → g (.str ⟨#[c]⟩) σ H fun σ2 H2 => tb { D with nx := Pv (i + 1), ct := Pv (i + 1), bk := D.nx } σ2 H2) (hd : ∀ σ H, Pv z.cps.size σ H → D.nx σ H) : Loop (Its z) g tb D σ H := by
  refine ⟨fun i m σ H => m = z.cps.size - i ∧ i ≤ z.cps.size ∧ Pv i σ H, ⟨z.cps.size, rfl, Nat.zero_le _, h0⟩, ?_⟩
  rintro i m σ H ⟨rfl, hi, p⟩
  by_cases hlt : i < z.cps.size
  · refine .inr ⟨hlt, Pv (i + 1), fun σ' H' p' => ⟨z.cps.size - (i + 1), by omega, rfl, hlt, p'⟩, fun x H' y => ?_⟩
    obtain ⟨e, c, hc, rfl⟩ := y
    subst e
    exact hs i c σ _ hc p
  · have e : i = z.cps.size := by omega
    subst e
    exact .inl ⟨Nat.le_refl _, hd σ H p⟩
/-- a list made of a text's signs, each by f -/
theorem made_mapStr {z : Str} {Dd : Addr} {te : TE} {vs : List Nat} {Qd : Hp → Prop} (f : Nat → V) (hD : H Dd = none) (hz : z.cps.size < sizeLine) (hw : ∀ x, wipe ((wipe σ vs).set n (some x)) vs = wipe σ vs)
    (he : ∀ (i c : Nat) (H' : Hp) (Q : VK), z.cps[i]? = some c → Sm H H' → (∀ H2, Sm H' H2 → Q (f c) H2) → te ((wipe σ vs).set n (some (.str ⟨#[c]⟩))) H' Q) (hd : ∀ H', Sm H H' → H' Dd = some (.lst (z.cps.toList.map f)) → Qd H') : Made (Its z) (gName n) tYes te vs σ Dd H Qd := by
  refine ⟨fun i m H' => m = z.cps.size - i ∧ i ≤ z.cps.size ∧ Sm H H' ∧ H' Dd = some (.lst ((z.cps.toList.take i).map f)), ⟨z.cps.size, rfl, Nat.zero_le _, sm_new (fun _ _ h => h) hD, upd_same⟩, ?_⟩
  rintro i m H' ⟨rfl, hi, s1, h1⟩
  by_cases hlt : i < z.cps.size
  · refine .inr ⟨hlt, fun H' => Sm H H' ∧ H' Dd = some (.lst ((z.cps.toList.take (i + 1)).map f)), fun H' p' => ⟨z.cps.size - (i + 1), by omega, rfl, hlt, p'⟩, fun x H2 y => ?_⟩
    obtain ⟨e, c, hc, rfl⟩ := y
    subst e
    refine ⟨hw _, ?_⟩
    refine iteT (B := Sm H H2 ∧ H2 Dd = some (.lst ((z.cps.toList.take (i + 1)).map f))) ?_
    refine he i c _ _ hc s1 fun H3 s3 => ⟨(z.cps.toList.take i).map f, s3 _ _ h1, ?_, ?_, ?_⟩
    · rw [List.length_map, List.length_take]
      have : z.cps.toList.length = z.cps.size := Array.length_toList
      omega
    · exact sm_put (fun b o q => s3 b o (s1 b o q)) hD
    · have hc2 : z.cps.toList[i]? = some c := by rw [Array.getElem?_toList]; exact hc
      rw [upd_same, take_map_succ hc2]
  · have e : i = z.cps.size := by omega
    subst e
    refine .inl ⟨Nat.le_refl _, hd _ s1 ?_⟩
    have : z.cps.toList.length = z.cps.size := Array.length_toList
    rw [h1, ← this, List.take_length]
end
end XB

/-! Empty dicts among the data; a thing of the heap == a text. -/
namespace XB
open PySem PySem.Spec PySem.Calls PyProof.Rows PySem.W
section
variable {M : Model} {prog : Program} {w : World} {A : Around} {E : Value → Shared → Prop} {s : Shared}
theorem dict_declines {a : Addr} {z : Str} {u : Tok} (da : s.TypeIs (.ref a) "dict") {Q : Value → Shared → Prop} (h : Q .notImplemented s) : wpAny (model prog w) A (call (.builtin "dict.__eq__") [.ref a, .str z u]) Q E s := by
  refine wpAny_call_entry PySem.F.slot_dict_eq da PySem.F.entry_dict_eq ?_ (PySem.F.args_dict_eq_2 _ _)
  show wpAny _ _ (Builtin.Dict.dictSlotArgs "__eq__" ⟨[.ref a, .str z u], []⟩ >>= _) _ _ s
  refine wpAny_bind ?_
  unfold Builtin.Dict.dictSlotArgs
  refine wpAny_bind (wpAny_notOrdered_dict da ?_)
  show wpAny _ _ (pure (Value.ref a, Value.str z u)) _ _ s
  refine wpAny_pure ?_
  refine wpAny_bind (wpAny_isInstance (T := "str") (typeIs_str s z u) PySem.F.sub_str_dict ?_)
  simp only [Bool.not_false, if_true]
  obtain ⟨hp, g, d, tk, os⟩ := s
  wp_walk
  exact ⟨_, rfl, h⟩
theorem str_declines (z : Str) (u : Tok) (a : Addr) (ob : Obj) (hd : ∃ es ep, ob.data = .dict es ep) : Meets (Builtin.«str.__eq__» ⟨[.str z u, .ref a], []⟩) (fun _ R s => s.heap.get? a = some ob ∧ R (.ok (.ret .notImplemented)) s) := by
  obtain ⟨es, ep, hd⟩ := hd
  obtain ⟨c, dd, dt, sl⟩ := ob
  simp only at hd
  subst hd
  exact .of_wp fun prog w A R s h => by
    obtain ⟨hp, g, d, tk, os⟩ := s
    obtain ⟨hl, h⟩ := h
    wp_walk using wpAny_loadPart' hl, wpAny_load hl
    exact ⟨_, rfl, h⟩
end
section
variable {prog : Program} {w : World} {A : Around} {s : Shared}
theorem rc_dict_str {a : Addr} {ob : Obj} (z : Str) (u : Tok) (da : s.TypeIs (.ref a) "dict") (ha : s.heap.get? a = some ob) (hd : ∃ es ep, ob.data = .dict es ep) (hu : A.units < cLine) {E Q : Value → Shared → Prop} (h : Q (.bool false) s) :
    wpAny (model prog w) A (richCompare .Eq (.ref a) (.str z u)) Q E s :=
  SeqAt.rc_eq_decline_or (k := false) da (typeIs_str s z u) (by decide) PySem.F.sub_str_dict PySem.F.slot_dict_eq PySem.F.slot_str_eq_refl
    (fun _ hq => dict_declines da hq)
    (fun _ hq => call_meets PySem.F.slot_str_eq_refl (typeIs_str s z u) PySem.F.entry_str_eq (PySem.F.args_str_eq_2 _ _) (str_declines z u a ob hd) ⟨ha, hq⟩)
    (fun _ hq => wpAny_of_eq (rfl : isSame (.ref a) (.str z u) = pure false) hq) (.inr hu) h
end
open L2
section
variable {X : Cx}
/-- what stands in the heap == a text: False -/
def rEqRS (K : PySem.W.Frag) : R2 := fun x y H Q => ∃ p z, x = .ref p ∧ y = .str z ∧ ((∃ xs, SqL K H p xs) ∨ (∃ xs, SqT K H p xs) ∨ ∃ kvs, H p = some (.dK kvs)) ∧ Q (.bl false) H
theorem op_eqRS (hu : X.A.units < cLine) : OpR X (compareOp .Eq) (rEqRS X.K) := by
  intro pins s σ H x y v u Q I rx ry h
  obtain ⟨p, z, rfl, rfl, h, q⟩ := h
  cases (show v = Value.ref p from rx)
  obtain ⟨t, rfl⟩ : ∃ t, u = .str z t := ry
  rcases h with ⟨xs, h⟩ | ⟨xs, h⟩ | ⟨kvs, h⟩
  · obtain ⟨its, _, pl, _⟩ := I.list h
    exact SeqAt.RcAt.list_str z t pl.isList hu X.prog X.w _ _ ⟨.bl false, H, I, rfl, q⟩
  · obtain ⟨its, _, pl, _⟩ := I.tuple h
    exact SeqAt.RcAt.tuple_str z t pl hu X.prog X.w _ _ ⟨.bl false, H, I, rfl, q⟩
  · obtain ⟨_, ya, va, ra, da⟩ := (show ObjOk X.prog X.w H s.heap p (.dK kvs) from I.hok p _ h)
    obtain ⟨o, es, ep, ho, _, hd, _⟩ := id da
    exact rc_dict_str z t da.typeIs ho ⟨es, ep, hd⟩ hu ⟨.bl false, H, I, rfl, q⟩
def fEqX (K : PySem.W.Frag) : R2 := fun x y H Q => match x, y with
  | .ref p, .str _ => (match H p with
    | some (.dK _) => Q (.bl false) H
    | _ => (match asS (H p) with
      | some _ => Q (.bl false) H
      | none => False))
  | x, y => fEq K x y H Q
theorem op_eqX (hu : X.A.units + 64 < cLine) : OpR X (compareOp .Eq) (fEqX X.K) := op_imp ((op_eqRS (by omega)).or (op_eqF hu)) fun x y H Q h => by
  unfold fEqX at h
  split at h
  · rename_i p z
    split at h
    · rename_i kvs e
      exact .inl ⟨p, z, rfl, rfl, .inr (.inr ⟨kvs, e⟩), h⟩
    · split at h
      · rename_i xs e
        refine .inl ⟨p, z, rfl, rfl, ?_, h⟩
        rcases asS_or e with e | e
        · exact .inl ⟨xs, asL_seq e⟩
        · exact .inr (.inl ⟨xs, asT_seq e⟩)
      · exact h.elim
  · exact .inr h
/-- two tuples put together -/
def fAddT : R2 := fun x y H Q => match x, y with
  | .ref a, .ref b => (match asT (H a), asT (H b) with
    | some xs, some ys => xs ≠ [] ∧ ys ≠ [] ∧ xs.length + ys.length ≤ sizeLine ∧ ∀ p, H p = none → Q (.ref p) (upd H p (.tup (xs ++ ys)))
    | _, _ => False)
  | _, _ => False
theorem op_addT : OpR X (binaryOp .Add) fAddT := op_imp op_catT fun x y H Q h => by
  unfold fAddT at h
  split at h
  · split at h
    · rename_i e1 e2
      exact ⟨_, _, _, _, rfl, rfl, asT_seq e1, asT_seq e2, h.1, h.2.2.1, fun z => absurd z h.2.1, fun _ => h.2.2.2⟩
    · exact h.elim
  · exact h.elim
/-- len, of a dict too -/
def fLen2 : RL := fun xs H Q => match xs with
  | [.ref p] => (match H p with
    | some (.dK kvs) => Q (.int (kvs.length : Nat)) H
    | _ => (match asS (H p) with
      | some ys => Q (.int (ys.length : Nat)) H
      | none => False))
  | xs => fLen xs H Q
theorem c_len2 : CallR X (.builtin "len") fLen2 := call_imp (c_len.or L2.call_lenD) fun xs H Q h => by
  unfold fLen2 at h
  split at h
  · rename_i p
    split at h
    · rename_i kvs e
      exact .inr ⟨p, kvs, rfl, e, h⟩
    · refine .inl ?_
      show (match asS (H p) with
        | some ys => Q (.int (ys.length : Nat)) H
        | none => False)
      exact h
  · exact .inl h
end
section
variable {K : PySem.W.Frag} {H : Hp} {Q : VK} {σ : L2.St} {D : Ends} {g : TG} {tb : TS} {n : Nat}
theorem f_lenL {p : Addr} {xs : List V} (h : asS (H p) = some xs) : fLen2 [.ref p] H Q = Q (.int (xs.length : Nat)) H := by
  unfold fLen2
  dsimp only
  split
  · rename_i e
    rw [e] at h
    cases h
  · rw [h]
theorem f_lenD {p : Addr} {kvs : List (Key × V)} (h : H p = some (.dK kvs)) : fLen2 [.ref p] H Q = Q (.int (kvs.length : Nat)) H := by
  unfold fLen2
  dsimp only
  rw [h]
theorem f_eqRS {p : Addr} {z : Str} {xs : List V} (h : asS (H p) = some xs) : fEqX K (.ref p) (.str z) H Q = Q (.bl false) H := by
  unfold fEqX
  dsimp only
  split
  · rfl
  · rw [h]
theorem f_eqDS {p : Addr} {z : Str} {kvs : List (Key × V)} (h : H p = some (.dK kvs)) : fEqX K (.ref p) (.str z) H Q = Q (.bl false) H := by
  unfold fEqX
  dsimp only
  rw [h]
theorem f_eqXS {a b : Str} : fEqX K (.str a) (.str b) H Q = Q (.bl (decide (a = b))) H := rfl
theorem f_eqXn {b : Str} : fEqX K .non (.str b) H Q = (scal V.non (.str b) = true ∧ Q (.bl (decide (V.non = .str b))) H) := rfl
theorem f_eqXb {a : Bool} {b : Str} : fEqX K (.bl a) (.str b) H Q = (scal (V.bl a) (.str b) = true ∧ Q (.bl (decide (V.bl a = .str b))) H) := rfl
theorem f_eqXi {a : Int} {b : Str} : fEqX K (.int a) (.str b) H Q = (scal (V.int a) (.str b) = true ∧ Q (.bl (decide (V.int a = .str b))) H) := rfl
theorem f_addT {a b : Addr} {xs ys : List V} (h1 : asT (H a) = some xs) (h2 : asT (H b) = some ys) : fAddT (.ref a) (.ref b) H Q = (xs ≠ [] ∧ ys ≠ [] ∧ xs.length + ys.length ≤ sizeLine ∧ ∀ p, H p = none → Q (.ref p) (upd H p (.tup (xs ++ ys)))) := by
  unfold fAddT
  dsimp only
  rw [h1, h2]
theorem u_tupI {te : TE} {R : It → Hp → Prop} : iTup K te σ H R = te σ H fun x H1 => ∃ a, x = .ref a ∧ (∃ xs, SqT K H1 a xs) ∧ R (Itt K a) H1 := rfl
theorem loop_tup {a : Addr} {xs : List V} {g : TG} {tb : TS} {D : Ends} (Pv : Nat → L2.St → Hp → Prop) (h0 : Pv 0 σ H) (hl : ∀ i σ H, i ≤ xs.length → Pv i σ H → asT (H a) = some xs)
    (hs : ∀ i x σ H, xs[i]? = some x → Pv i σ H → g x σ H fun σ2 H2 => tb { D with nx := Pv (i + 1), ct := Pv (i + 1), bk := D.nx } σ2 H2) (hd : ∀ σ H, Pv xs.length σ H → D.nx σ H) : Loop (Itt K a) g tb D σ H :=
  for_tup (K := K) Pv h0 (fun i σ H h p => asT_seq (hl i σ H h p)) hs hd
/-- a comprehension over a tuple, one value for each item -/
theorem made_mapT {a Dd : Addr} {xs : List V} {te : TE} {vs : List Nat} {Qd : Hp → Prop} (f : V → V) (hl : asT (H a) = some xs) (hD : H Dd = none) (hz : xs.length < sizeLine) (hw : ∀ x, wipe ((wipe σ vs).set n (some x)) vs = wipe σ vs)
    (he : ∀ (i : Nat) (x : V) (H' : Hp) (Q : VK), xs[i]? = some x → Sm H H' → (∀ H2, Sm H' H2 → Q (f x) H2) → te ((wipe σ vs).set n (some x)) H' Q) (hd : ∀ H', Sm H H' → H' Dd = some (.lst (xs.map f)) → Qd H') : Made (Itt K a) (gName n) tYes te vs σ Dd H Qd := by
  refine lc_tup (K := K) (fun i H' => Sm H H' ∧ H' Dd = some (.lst ((xs.take i).map f))) ⟨sm_new (fun _ _ h => h) hD, upd_same⟩ (fun i H' _ p => asT_seq (sm_T p.1 hl)) (fun i x H' hx p => ⟨hw x, ?_⟩) fun H' p => hd H' p.1 (by rw [← List.take_length (l := xs)]; exact p.2)
  refine iteT (B := Sm H H' ∧ H' Dd = some (.lst ((xs.take (i + 1)).map f))) ?_
  refine he i x H' _ hx p.1 fun H2 s2 => ⟨(xs.take i).map f, s2 _ _ p.2, ?_, ?_, ?_⟩
  · rw [List.length_map, List.length_take]; omega
  · exact sm_put (fun b o z => s2 b o (p.1 b o z)) hD
  · rw [upd_same, take_map_succ hx]
/-- .. over a list, by the data that its items stand for -/
theorem made_mapD {a Dd : Addr} {xs : List V} {ds : List PyData} {te : TE} {vs : List Nat} {Qd : Hp → Prop} (f : PyData → V) (hl : asL (H a) = some xs) (hD : H Dd = none) (ll : xs.length = ds.length) (hz : ds.length < sizeLine) (hw : ∀ x, wipe ((wipe σ vs).set n (some x)) vs = wipe σ vs)
    (he : ∀ (i : Nat) (x : V) (d : PyData) (H' : Hp) (Q : VK), xs[i]? = some x → ds[i]? = some d → Sm H H' → (∀ H2, Sm H' H2 → Q (f d) H2) → te ((wipe σ vs).set n (some x)) H' Q) (hd : ∀ H', Sm H H' → H' Dd = some (.lst (ds.map f)) → Qd H') : Made (Itl K a) (gName n) tYes te vs σ Dd H Qd := by
  refine made_list (fun i H' => Sm H H' ∧ H' Dd = some (.lst ((ds.take i).map f))) ⟨sm_new (fun _ _ h => h) hD, upd_same⟩ (fun i H' _ p => sm_L p.1 hl) (fun i x H' hx p => ⟨hw x, ?_⟩) fun H' p => hd H' p.1 (by rw [← List.take_length (l := ds), ← ll]; exact p.2)
  have hi := (List.getElem?_eq_some_iff.mp hx).1
  have hdi : ds[i]? = some (ds[i]'(by omega)) := by simp
  refine iteT (B := Sm H H' ∧ H' Dd = some (.lst ((ds.take (i + 1)).map f))) ?_
  refine he i x _ H' _ hx hdi p.1 fun H2 s2 => ⟨(ds.take i).map f, s2 _ _ p.2, ?_, ?_, ?_⟩
  · rw [List.length_map, List.length_take]; omega
  · exact sm_put (fun b o z => s2 b o (p.1 b o z)) hD
  · rw [upd_same, take_map_succ hdi]
theorem at_last {xs : List V} {v : V} {q : V → Prop} (h : xs[xs.length - 1]? = some v) (hq : q v) : atV xs (-1) q := by
  have hl := (List.getElem?_eq_some_iff.mp h).1
  have e : atI xs (-1) = some v := by
    unfold atI ixN
    rw [if_neg (by omega), if_pos (by omega)]
    have e2 : (-1 + ((xs.length : Nat) : Int)).toNat = xs.length - 1 := by omega
    simp only [e2, Option.bind_some]
    exact h
  unfold atV
  rw [e]
  exact hq
theorem asS_dK {kvs : List (Key × V)} : asS (some (.dK kvs)) = none := rfl
/-- a walk over an empty dict -/
theorem lock_empty {d : Addr} (hσ : σ[n]? = some (some (.ref d))) (hd : H d = some (.dK [])) (q : D.nx σ H) : tLock (tFor (iKeys (tVar n)) g tb) D σ H := by
  refine ⟨d, _, hd, (by trivial), fun od => ⟨_, hσ, d, od, rfl, .inl ⟨[], upd_same, ?_⟩⟩⟩
  refine ⟨fun i m σ' H' => σ' = σ ∧ H' = upd H d (.frz od (.dK [])), ⟨0, rfl, rfl⟩, ?_⟩
  rintro i m σ' H' ⟨rfl, rfl⟩
  refine .inl ⟨⟨upd_same, Nat.zero_le _⟩, upd_same, ?_⟩
  have e : upd (upd H d (.frz od (.dK []))) d (.dK []) = H := by
    rw [upd_upd]
    funext b
    by_cases hb : b = d
    · rw [hb, upd_same, hd]
    · rw [upd_ne hb]
  rw [e]
  exact q
end
end XB

/-! More words: rows of two kinds, tuples in parts, texts in order, sorted. -/
namespace XB
open PySem PySem.Spec PySem.Calls PyProof.Rows PySem.W
section
variable {prog : Program} {w : World} {A : Around} {E : Value → Shared → Prop} {s : Shared}
open PySem.SeqAt
open PySem.AutoSeq1 (wpAny_loadPart')
open PySem.MeetsSeq PySem.MeetsSeq2 PySem.MeetsSeq3
/-- two tuples whose first things are unlike texts -/
theorem tuple_first (l b : Addr) (n n2 : Nat) (dd dd2 : Option Addr) (sl sl2 : Array (Option Value)) (x y : Str) (t u : Tok) (r r2 : List Value) (hne : (x == y) = false) :
    Meets (Builtin.«tuple.__lt__» ⟨[.ref l, .ref b], []⟩)
      (fun _ R s => s.heap.get? l = some { cls := .type "tuple", dict := dd, data := .seq (Value.str x t :: r).toArray n, slots := sl } ∧ s.heap.get? b = some { cls := .type "tuple", dict := dd2, data := .seq (Value.str y u :: r2).toArray n2, slots := sl2 } ∧
        R (.ok (.ret (.bool (decide (x.cps.toList < y.cps.toList))))) s) :=
  .of_wp fun prog w A R s h => by
    obtain ⟨hp, g, d, tk, os⟩ := s; obtain ⟨hl, hb, h⟩ := h
    have f2 := AutoSeq1.sub_tuple_tuple
    wp_walk using wpAny_loadPart' hl, wpAny_loadPart' hb, wpAny_forIn_list _ (fun rest b s' => b.1 = none ∧ s' = ⟨hp, g, d, tk, os⟩ ∧ ∃ z, rest = (Value.str x t, Value.str y u) :: z) _
    case turn =>
      rintro ⟨p, q⟩ rest b s' ⟨hb', rfl, z, hz⟩
      injection hz with h1 h2
      injection h1 with h3 h4
      subst h3 h4 h2
      have he := SeqAt.EqAt.str_str (A := A.in1) (s := ⟨hp, g, d, tk, os⟩) x t y u
      rw [hne] at he
      refine wpAny_bind (he prog w _ _ ?_)
      have hri := DT.rcLt_str A.in1 ⟨hp, g, d, tk, os⟩ x t y u prog w
      wp_walk using hri
      exact ⟨_, rfl, by simpa using h⟩
    case fin =>
      rintro ⟨b1, b2⟩ s' ⟨hb', rfl, z, hz⟩
      cases hz
    case h =>
      exact ⟨rfl, rfl, _, rfl⟩
theorem lt_first {l b : Addr} {x y : Str} {t u : Tok} {r r2 : List Value} {Q : Value → Shared → Prop} (hl : IsTup s.heap l (Value.str x t :: r).toArray) (hb : IsTup s.heap b (Value.str y u :: r2).toArray) (hne : (x == y) = false) (hu : A.units < cLine)
    (h : Q (.bool (decide (x.cps.toList < y.cps.toList))) s) : wpAny (model prog w) A (compareOp .Lt (.ref l) (.ref b)) Q E s := by
  obtain ⟨⟨cls, dd, data, sl⟩, ho, hc, n, hd⟩ := id hl
  obtain ⟨⟨cls2, dd2, data2, sl2⟩, ho2, hc2, n2, hd2⟩ := id hb
  simp only at hc hd hc2 hd2
  subst hc hd hc2 hd2
  exact richCompare_meets_room (op := .Lt) ⟨_, ho, rfl⟩ ⟨_, ho2, rfl⟩ PySem.F.slot_tuple_lt PySem.F.entry_tuple_lt (PySem.F.args_tuple_lt_2 _ _) (tuple_first l b n n2 dd dd2 sl sl2 x y t u r r2 hne)
    ⟨ho, ho2, show Value.bool (decide (x.cps.toList < y.cps.toList)) ≠ Value.notImplemented ∧ Q (.bool (decide (x.cps.toList < y.cps.toList))) s from ⟨(fun z => nomatch z), h⟩⟩ hu
end
open L2
section
variable {X : Cx}
def rLtTS (K : PySem.W.Frag) : R2 := fun x y H Q => ∃ a b z w xs ys, x = .ref a ∧ y = .ref b ∧ SqT K H a (.str z :: xs) ∧ SqT K H b (.str w :: ys) ∧ z ≠ w ∧ Q (.bl (decide (z.cps.toList < w.cps.toList))) H
theorem op_ltTS (hu : X.A.units < cLine) : OpR X (compareOp .Lt) (rLtTS X.K) := by
  intro pins s σ H x y v u Q I rx ry h
  obtain ⟨a, b, z, w, xs, ys, rfl, rfl, ha, hb, hne, q⟩ := h
  cases rx
  cases ry
  obtain ⟨its, r1, p1, _⟩ := I.tuple ha
  obtain ⟨its2, r2, p2, _⟩ := I.tuple hb
  cases r1 with
  | cons e1 r1 =>
    cases r2 with
    | cons e2 r2 =>
      obtain ⟨t, rfl⟩ := e1
      obtain ⟨t2, rfl⟩ := e2
      exact lt_first p1 p2 (by simpa using hne) hu ⟨.bl _, H, I, rfl, q⟩
def ltS (a b : Str) : Bool := decide (a.cps.toList < b.cps.toList)
def fLtX : R2 := fun x y H Q => match x, y with
  | .int i, .int j => Q (.bl (decide (i < j))) H
  | .str i, .str j => Q (.bl (ltS i j)) H
  | .ref a, .ref b => (match asT (H a), asT (H b) with
    | some (.str z :: _), some (.str w :: _) => z ≠ w ∧ Q (.bl (ltS z w)) H
    | _, _ => False)
  | _, _ => False
theorem op_ltX (hu : X.A.units + 64 < cLine) : OpR X (compareOp .Lt) fLtX := op_imp (op_lt.or (op_lt_str.or (op_ltTS (by omega)))) fun x y H Q h => by
  unfold fLtX at h
  split at h
  · exact .inl ⟨_, _, rfl, rfl, h⟩
  · exact .inr (.inl ⟨_, _, rfl, rfl, h⟩)
  · split at h
    · rename_i e1 e2
      exact .inr (.inr ⟨_, _, _, _, _, _, rfl, rfl, asT_seq e1, asT_seq e2, h.1, h.2⟩)
    · exact h.elim
  · exact h.elim
/-- + of any two tuples, lists, numbers, texts -/
def fAddA : R2 := fun x y H Q => match x, y with
  | .ref a, .ref b => (match asT (H a), asT (H b) with
    | some xs, some ys => xs.length + ys.length ≤ sizeLine ∧ (xs = [] → Q (.ref b) H) ∧ (xs ≠ [] → ys = [] → Q (.ref a) H) ∧ (xs ≠ [] → ys ≠ [] → ∀ p, H p = none → Q (.ref p) (upd H p (.tup (xs ++ ys))))
    | _, _ => fAdd (.ref a) (.ref b) H Q)
  | x, y => fAdd x y H Q
theorem op_addA : OpR X (binaryOp .Add) fAddA := op_imp (op_catA.or op_addF) fun x y H Q h => by
  unfold fAddA at h
  split at h
  · split at h
    · rename_i e1 e2
      exact .inl ⟨_, _, _, _, rfl, rfl, asT_seq e1, asT_seq e2, h⟩
    · exact .inr h
  · exact .inr h
def fSlA : V → Option Int → Option Int → Hp → VK → Prop := fun x lo hi H Q => match x with
  | .ref a => (match asT (H a) with
    | some xs => (HT.sIx xs.length 0 lo = 0 ∧ HT.sIx xs.length xs.length hi = xs.length → Q (.ref a) H) ∧ (¬ (HT.sIx xs.length 0 lo = 0 ∧ HT.sIx xs.length xs.length hi = xs.length) → ∀ p, H p = none → Q (.ref p) (upd H p (.tup (cutV xs lo hi))))
    | none => fSl2 (.ref a) lo hi H Q)
  | x => fSl2 x lo hi H Q
theorem sl_FA : SlR X fSlA := fun pins s σ H x v vl vu lo hi sl Q I rx hs pl pu h => by
  refine (sl_tupA.or sl_F2) pins s σ H x v vl vu lo hi sl Q I rx hs pl pu ?_
  unfold fSlA at h
  split at h
  · split at h
    · rename_i e
      exact .inl ⟨_, _, rfl, asT_seq e, h⟩
    · exact .inr h
  · exact .inr h
/-- sorted, of a list of texts -/
def fSortS : RL := fun vs H Q => match vs with
  | [.ref a] => (match asL (H a) with
    | some xs => ∃ zs : List Str, xs = zs.map V.str ∧ zs.length < 64 ∧ ∀ (ys : List Str) (p : Addr), ys.Perm zs → sortedS ys = true → H p = none → Q (.ref p) (upd H p (.lst (ys.map V.str)))
    | none => False)
  | _ => False
theorem c_sortS : CallR X (.builtin "sorted") fSortS := call_imp cr_sortedS fun vs H Q h => by
  unfold fSortS at h
  split at h
  · split at h
    · rename_i e
      obtain ⟨zs, rfl, hl, q⟩ := h
      exact ⟨_, zs, rfl, asL_seq e, hl, q⟩
    · exact h.elim
  · exact h.elim
/-- .. of a dict of texts -/
def fSortD : RL := fun vs H Q => match vs with
  | [.ref a] => (match H a with
    | some (.dK kvs) => ∃ zs : List Str, kvs.map (·.1) = zs.map Sum.inr ∧ zs.length < 64 ∧ ∀ (ys : List Str) (p : Addr), ys.Perm zs → sortedS ys = true → H p = none → Q (.ref p) (upd H p (.lst (ys.map V.str)))
    | _ => False)
  | _ => False
theorem c_sortD (hc : X.calm = true) : CallR X (.builtin "sorted") fSortD := call_imp (call_sortedD hc) fun vs H Q h => by
  unfold fSortD at h
  split at h
  · split at h
    · rename_i e
      obtain ⟨zs, hk, hl, q⟩ := h
      exact ⟨_, _, zs, rfl, .inl e, hk, hl, q⟩
    · exact h.elim
  · exact h.elim
/-- a walk over a list or a tuple -/
def iSeq (K : PySem.W.Frag) (n : Nat) : TI := fun σ H R => iList K (tVar n) σ H R ∨ iTup K (tVar n) σ H R
theorem pi_seq {tg e : Expr} {n : Nat} (h1 : PI X tg e (iList X.K (tVar n))) (h2 : PI X tg e (iTup X.K (tVar n))) : PI X tg e (iSeq X.K n) :=
  ⟨fun pins s σ H R I h => h.elim (fun h => h1.run pins s σ H R I h) fun h => h2.run pins s σ H R I h⟩
end
end XB

/-! Defs that are called where no repr is under way: repr of data. -/
namespace XB
open PySem L2
/-- no repr is under way, and the module table stands at its place -/
def Calm (A : Around) (s : Shared) (H : Hp) : Prop := A.guards = some [] ∧ (∃ o, s.heap.get? sysModules = some o) ∧ H sysModules = none
structure FnG (P : Program) (w : World) (K : PySem.W.Frag) (mg : Str → Option Value) (base : Heap) (CX : CXT) (k : Nat) (f : Addr) (fd : FuncData) (ps : List Str) (sp : Sp) : Prop where
  len : ∀ (vs : List V) (H : Hp) (Q : VK) (E : XK), sp vs H Q E → vs.length = ps.length
  go : ∀ (A : Around) (outer : List Env) (s : Shared) (H : Hp) (args : Args) (us : List Value) (vs : List V) (Q : VK) (E : XK), Room k A → Calm A s H → Env0 P w K mg base A outer s H →
    BindsTo s fd args (ps.zip us) → Vals vs us → sp vs H Q E → codeAny (model P w) A (Code.call (Value.ref f) args) (CR CX outer P w H s Q E) s
theorem FnG.mono {P : Program} {w : World} {K : PySem.W.Frag} {mg : Str → Option Value} {base : Heap} {CX : CXT} {j k : Nat} {f : Addr} {fd : FuncData} {ps : List Str} {sp : Sp} (h : j ≤ k) (F : FnG P w K mg base CX j f fd ps sp) : FnG P w K mg base CX k f fd ps sp :=
  ⟨F.len, fun A outer s H args us vs Q E hr => F.go A outer s H args us vs Q E (hr.mono h)⟩
theorem fn_ofG {CX : CXT} {P : Program} {w : World} {K : PySem.W.Frag} {mg : Str → Option Value} {base : Heap} {k : Nat} {f : Addr} {name qual : Str} {params : Arguments} {body : List Stmt} {scope : PySem.Scope}
    {dV kV doc pm cdv ct oc : Value} {an od : Option Addr} {osl : Array (Option Value)} {N ps : List Str} {sp : Sp}
    (lk : List.lookup f K = some ⟨oc, od, .func (PySem.W.fnOf name qual params body scope dV kV doc pm an cdv ct), osl⟩) (hcd : PySem.W.codeIn K cdv qual = true) (S : FnScope N ps scope)
    (len : ∀ (vs : List V) (H : Hp) (Q : VK) (E : XK), sp vs H Q E → vs.length = ps.length)
    (hb : ∀ (A : Around) (outer : List Env) (s : Shared) (H : Hp) (vs : List V) (Q : VK) (E : XK), Room k (A.deeper (PyProof.Rows.envOfC qual scope s.heap.objs.size f cdv)) → Calm A s H → sp vs H Q E →
      ∃ t, PSs (cxOf CX P w K mg base N qual scope f cdv A outer s H E) body t ∧ t { nx := fun _ H' => Q .non H', rt := Q } (L2.start N vs) H) :
    FnG P w K mg base CX (k + 1) f (PySem.W.fnOf name qual params body scope dV kV doc pm an cdv ct) ps sp := by
  refine ⟨len, fun A outer s H args us vs Q E hr hg e0 bt r hsp => ?_⟩
  have hl := len vs H Q E hsp
  have KX := PySem.W.Frag.In.keeps e0.mod.kin fun b o e => (e0.bs b o e).1
  have lim := Heap.NoLimit.keeps e0.mod.nolimit fun b o e => (e0.bs b o e).1
  refine codeAny_call_function (Room.depth hr) (KX f _ lk) rfl S.co S.gen rfl (PySem.W.codeRec_of KX hcd) ?_
  refine bt (model P w) A.in1 _ _ ?_
  refine wpAny_newFunctionEnv_cells S.kind ?_ fun env he s1 x => ?_
  · rintro ⟨n, v⟩ hy
    rcases S.par n (List.of_mem_zip hy).1 with q | q
    · exact .inl q
    · exact .inr ⟨q, PySem.W.cellsFrom_some scope.names (s.heap.objs.size + 1) [] (.inl q)⟩
  · subst he
    refine ⟨Heap.NoLimit.keeps lim x.toInCall.keep, codeAny_func ?_⟩
    obtain ⟨t, ht, hq⟩ := hb A outer s H vs Q E (Room.deeper hr _) hg hsp
    have I := inv_start (CX := CX) (E := E) (cd := cdv) (f := f) (qual := qual) S hr.hd e0 hl r x
    refine wpAny_mono (ht.run [] s1 (L2.start N vs) H _ I hq) (fun fl s' hs => ?_) fun e s' hs => hs
    cases fl with
    | next => obtain ⟨σ', H', J, q⟩ := hs; exact ⟨.non, H', J.os, J.bare, J.base, J.hok, rfl, q⟩
    | ret u => obtain ⟨v, σ', H', J, rv, q⟩ := hs; exact ⟨v, H', J.os, J.bare, J.base, J.hok, rv, q⟩
    | _ => obtain ⟨_, _, _, q⟩ := hs; exact q.elim
theorem okG {P : Program} {w : World} {K : PySem.W.Frag} {mg : Str → Option Value} {base : Heap} {x qual : Str} {st : Stmt} {f : Addr} {fd : FuncData} {N ps : List Str} {k : Nat} {sp : Sp} (F : Fun K x qual st f fd) (S : FnScope N ps (defScope st))
    (len : ∀ vs H Q E, sp vs H Q E → vs.length = ps.length)
    (hbody : ∀ (cdv : Value) (A : Around) (outer : List Env) (s : Shared) (H : Hp) (vs : List V) (Q : VK) (E : XK), Room k (A.deeper (PyProof.Rows.envOfC qual (defScope st) s.heap.objs.size f cdv)) → Calm A s H → sp vs H Q E →
      ∃ t, PSs (cxOf CX0 P w K mg base N qual (defScope st) f cdv A outer s H E) (defBody st) t ∧ t { nx := fun _ H' => Q .non H', rt := Q } (start N vs) H) : FnG P w K mg base CX0 (k + 1) f fd ps sp := by
  obtain ⟨oc, od, kV, doc, pm, an, cdv, ct, osl, rfl, lk, hcd⟩ := F.ex
  exact fn_ofG lk hcd S len fun A outer s H vs Q E hr hg hsp => hbody cdv A outer s H vs Q E hr hg hsp
section
variable {X : Cx}
def CalmX (X : Cx) : Prop := Calm X.A X.s_0 X.H_0 ∧ X.ex = []
theorem CalmX.now {pins : List (Addr × PySem.Obj)} {σ : L2.St} {H : Hp} {s : Shared} (c : CalmX X) (I : L2.Inv X pins σ H s) : Calm X.A s H := by
  obtain ⟨⟨g, ⟨o, e⟩, n⟩, ex⟩ := c
  have no : ¬ sysModules ∈ X.ex := by rw [ex]; exact List.not_mem_nil
  exact ⟨g, I.base.there _ o e no, I.base.free _ o e n no⟩
theorem run_fnG {CX : CXT} {k : Nat} {f : Addr} {fd : FuncData} {ps : List Str} {sp : Sp} {E : L2.St → XK} {pins : List (Addr × PySem.Obj)} {σ : L2.St} {H : Hp} {s : Shared} {Q : VK} {us : List Value} {vs : List V}
    (F : FnG X.prog X.w X.K X.mg X.base CX k f fd ps sp) (hr : Room k X.A) (hg : CalmX X) (hb : Binds X.K fd ps []) (hx : PassesAt CX X σ (E σ)) (I : L2.Inv X pins σ H s) (r : Vals vs us) (h : sp vs H Q (E σ)) :
    wpAny (model X.prog X.w) X.A (call (.ref f) us) (EP X pins σ Q) X.xe s := by
  have hl : us.length = ps.length := by
    rw [← F.len vs H Q (E σ) h]
    exact (Vals.length r).symm
  have b := hb s us (Inv.kIn I) (by simpa using hl)
  rw [List.append_nil] at b
  refine wpAny_call (codeAny_mono (F.go X.A X.stack s H ⟨us, []⟩ us vs Q (E σ) hr (hg.now I) (Inv.env0 I) b r h) fun r s' hq => ?_)
  cases r with
  | error e => exact hx pins H s e s' I hq
  | ok fl =>
    cases fl with
    | ret u => exact Inv.after I hq
    | _ => exact hq.elim
theorem pe_callG {CX : CXT} {k : Nat} {f : Addr} {fd : FuncData} {ps : List Str} {sp : Sp} {E : L2.St → XK} {x : Str} {p pos : Pos} {e : Expr} {es : List Expr} {t : TA}
    (F : FnG X.prog X.w X.K X.mg X.base CX k f fd ps sp) (hr : Room k X.A) (hG : CalmX X) (hg : Gl X x) (hm : X.mg x = some (.ref f)) (hk : PySem.W.keepIn X.K (.ref f) = true) (hb : Binds X.K fd ps []) (hx : ∀ σ, PassesAt CX X σ (E σ)) (ha : PA X (e :: es) t)
    (hdb : (x == ("__debug__" : Str)) = false := by decide) (he : starEach (e :: es) X.env = (false, eval e X.env) :: starEach es X.env := by rfl) (hpl : (backTo pos (starEach es X.env)).any (·.1) = false := by rfl) :
    PE X (.Call (.Name x p) (e :: es) [] pos) (tCallS sp E t) :=
  ⟨fun pins s σ H Q I h => by
    refine wpAny_Call_Name_kw (ld_glob I hg hm ?_ hdb)
    refine PySem.W.callWith_K I.ok.mod.kin hk (thn (ha.run pos pins s σ H (fun vs H1 => sp vs H1 Q (E σ)) I h) fun us s1 z => ?_) he hpl
    obtain ⟨vs, H1, I1, r, q⟩ := z
    exact ⟨Inv.kIn I1, run_fnG F hr hG hb (hx σ) I1 r q⟩⟩
end
theorem law_callG {P : Program} {w : World} {K : PySem.W.Frag} {mg mb : Str → Option Value} {k : Nat} {fa a : Addr} {fd : FuncData} {x : Str} {sp : Sp} {s₁ : Shared} {vs : List Value} {ns : List Int}
    (KX : K.In s₁.heap) (hns : s₁.heap.Ns mainGlobals mg) (hB : s₁.heap.Ns builtinsNs mb) (hbb : ∀ x : Str, x ≠ Str.ofString "__name__" → mb x = bootBuiltins x) (hlim : s₁.heap.NoLimit) (hg : s₁.gens = #[])
    (ha : s₁.heap.get? a = some { cls := .type "list", data := .seq vs.toArray }) (hi : PyProof.Rows.IntsAre vs ns) (hl : ns.length ≤ sizeLine) (hr : Room k callerA) (hsys : ∃ mm, s₁.heap.Ns sysModules mm)
    (F : ∀ base : Heap, K.In base → base.Ns mainGlobals mg → FnG P w K mg base CX0 k fa fd [x] sp) (hbind : ∀ (s : Shared) (u : Value), BindsTo s fd ⟨[u], []⟩ [(x, u)])
    (hsp : ∀ H : Hp, Only H → SqL K H a (ns.map V.int) → sp [.ref a] H (fun v _ => v = .bl true) fun _ _ _ => False) :
    codeAny (model P w) callerA (Code.call (.ref fa) ⟨[.ref a], []⟩) (fun r s' => r = .ok (.ret (.bool true)) ∧ OldK s₁.heap s'.heap ∧ s'.os = s₁.os ∧ PyProof.Rows.AllBare s'.gens) s₁ := by
  have rv := vals_ints hi
  have lenV := PyProof.Rows.IntsAre.length hi
  have core : ∀ H : Hp, Only H → SqL K H a (ns.map V.int) → HOk P w H s₁.heap → (∀ b, H b ≠ none → b = a) → (H a ≠ none → List.lookup a K = none) →
      codeAny (model P w) callerA (Code.call (.ref fa) ⟨[.ref a], []⟩) (fun r s' => r = .ok (.ret (.bool true)) ∧ OldK s₁.heap s'.heap ∧ s'.os = s₁.os ∧ PyProof.Rows.AllBare s'.gens) s₁ := by
    intro H hO hS hok hA hK
    have noA : ∀ {b : Addr} {o : PySem.Obj} {es : Array DictEntry} {ep : Nat}, s₁.heap.get? b = some o → o.data = .dict es ep → H b = none := by
      intro b o es ep e d
      by_cases z : H b = none
      · exact z
      · have := hA b z
        subst this
        rw [ha] at e
        cases e
        cases d
    have nsK : ∀ {b : Addr} {m : Str → Option Value}, s₁.heap.Ns b m → (hidT s₁.heap H).Ns b m := by
      rintro b m ⟨o, es, ep, e, d, r⟩
      exact ⟨o, es, ep, hidT_get e (noA e d), d, r⟩
    have hKb : K.In (hidT s₁.heap H) := fun b o e => hidT_get (KX b o e) (by
      by_cases z : H b = none
      · exact z
      · have := hA b z
        subst this
        rw [hK z] at e
        cases e)
    have hM : L2.Mod K mg (hidT s₁.heap H) := { kin := hKb, glob := nsK hns, blt := ⟨mb, nsK hB, hbb⟩, nolimit := by obtain ⟨mc, h1, h2⟩ := hlim; exact ⟨mc, nsK h1, h2⟩ }
    have e0 : Env0 P w K mg (hidT s₁.heap H) callerA [] s₁ H := { frames := rfl, mod := hM, bs := fun b o e => of_hidT e, bsz := Nat.le_of_eq (hidT_size s₁.heap H), funs := trivial, frf := fun b hb => absurd hb (by exact List.not_mem_nil), hok := hok, bare := PyProof.Rows.AllBare.of_eq hg }
    have hCm : Calm callerA s₁ H := by
      obtain ⟨mm, o, es, ep, e, d, _⟩ := hsys
      exact ⟨rfl, ⟨o, e⟩, noA e d⟩
    refine codeAny_mono ((F (hidT s₁.heap H) hKb (nsK hns)).go callerA [] s₁ H ⟨[.ref a], []⟩ [.ref a] [.ref a] (fun v _ => v = .bl true) (fun _ _ _ => False) hr hCm e0 (hbind s₁ (.ref a)) (Paired.cons rfl Paired.nil) (hsp H hO hS)) fun r s' h => ?_
    cases r with
    | error e => exact h.elim
    | ok fl =>
      cases fl with
      | ret u =>
        obtain ⟨v, H', os, bare, un, hok', r', q⟩ := h
        have q : v = .bl true := q
        subst q
        have r' : u = .bool true := r'
        subst r'
        refine ⟨rfl, OldK.of_keep fun b o e => ?_, os, bare⟩
        rcases hO b with z | ⟨ob, xs, z⟩
        · exact un.keep b o e z (fun y => by exact absurd y List.not_mem_nil) (fun y => by exact absurd y List.not_mem_nil)
        · have h1 := hok _ _ z
          have h2 := hok' _ _ (un.frzs _ _ _ z)
          have e1 : s₁.heap.get? b = some ob := h1.1
          rw [e1] at e
          cases e
          exact h2.1
      | _ => exact h.elim
  cases hk : List.lookup a K with
  | none =>
    refine core (fun b => if b = a then some (.frz { cls := .type "list", data := .seq vs.toArray } (.lst (ns.map V.int))) else none) (fun b => ?_) (.inl (.inr ⟨_, if_pos rfl⟩)) (fun b u z => ?_) (fun b z => ?_) fun _ => hk
    · by_cases hb : b = a
      · exact .inr ⟨_, _, if_pos hb⟩
      · exact .inl (if_neg hb)
    · by_cases hb : b = a
      · subst hb
        dsimp only at z
        rw [if_pos rfl] at z
        cases z
        exact ⟨ha, by rw [List.length_map]; exact hl, vs, 0, rv, ha⟩
      · dsimp only at z
        rw [if_neg hb] at z
        cases z
    · by_cases hb : b = a
      · exact hb
      · exact absurd (if_neg hb) z
  | some o =>
    have e := KX a o hk
    rw [ha] at e
    cases e
    exact core (fun _ => none) (fun _ => .inl rfl) (.inr ⟨_, _, 0, hk, rfl, rfl, rfl, by rw [List.size_toArray, lenV]; exact hl, rv⟩) (fun b u z => by cases z) (fun b z => absurd rfl z) fun z => absurd rfl z
theorem walk_ofG {l : PySem.W.OpenLaw} {n k : Nat} {q : Program} {loose : List Str} {XP : (Str → Option Value) → Heap → Prop} {YP : World → Heap → Prop} {d : DefRec} {K : Params → PySem.W.Frag} {sp : World → Sp} {x : Str}
    (hn : l.most = some n) (hn2 : n ≤ sizeLine) (hdf : d.params.defaults = []) (hr : Room k callerA) (hq : PyProof.Rows.importsNone q = true) (hY : ∀ (w : World) (h : Heap), YP w h → (K w.params).In h)
    (F : ∀ (w : World) (mg : Str → Option Value) (fa : Addr) (h : Heap), (K w.params).In h → h.Ns mainGlobals mg → mg d.name = some (.ref fa) →
      ∃ fd : FuncData, (∀ (s : Shared) (u : Value), BindsTo s fd ⟨[u], []⟩ [(x, u)]) ∧ ∀ base : Heap, (K w.params).In base → base.Ns mainGlobals mg → FnG l.prog w (K w.params) mg base CX0 k fa fd [x] (sp w))
    (hsp : ∀ (w : World) (H : Hp) (a : Addr) (ns : List Int), ns.length ≤ n → Only H → SqL (K w.params) H a (ns.map V.int) → sp w [.ref a] H (fun v _ => v = .bl true) fun _ _ _ => False) :
    PySem.W.WalkO q loose XP YP l.row.toRowW d [] (fun f vs => PySem.call f vs) :=
  Att.attach_call hn hdf fun w s₀ s₁ mg mb fa o pm cd doc a vs ns G Y ho hd hcd hmg hobj hints hlen hg => by
    have KX := hY w s₁.heap Y
    obtain ⟨fd, hb, hF⟩ := F w mg fa s₁.heap KX G.T.g hmg
    exact law_callG KX G.T.g G.T.b G.T.builtins G.T.nolimit hg hobj hints (Nat.le_trans hlen hn2) hr (by obtain ⟨mm, h, _⟩ := (G.T.seer hq).mods; exact ⟨mm, h⟩) hF hb (fun H hO hS => hsp w H a ns hlen hO hS)
theorem calmX_of {CX : CXT} {P : Program} {w : World} {K : PySem.W.Frag} {mg : Str → Option Value} {base : Heap} {N : List Str} {qual : Str} {scope : PySem.Scope} {f : Addr} {cd : Value} {A : Around} {outer : List Env} {s : Shared} {H : Hp} {E : XK}
    (h : Calm A s H) : CalmX (cxOf CX P w K mg base N qual scope f cd A outer s H E) := ⟨h, rfl⟩
end XB

/-! repr of data that is made of cells. -/
namespace XB
open PySem L2
def asciiZ (z : Str) : Prop := ∀ c ∈ z.cps.toList, c < 128
def okZ (z : Str) : Prop := z.length ≤ 64 ∧ asciiZ z
def Fl (v : V) : Prop := v = .non ∨ (∃ b, v = .bl b) ∨ (∃ i : Int, v = .int i ∧ i.natAbs < 10 ^ 40) ∨ ∃ z : Str, v = .str z ∧ okZ z
def flD : V → PyData
  | .bl b => .bool b
  | .int i => .int i
  | .str z => .str z
  | _ => .none
def keyD : Key → PyData
  | .inl i => .int i
  | .inr z => .str z
def keyOk : Key → Prop
  | .inl i => False
  | .inr z => okZ z
def kvD : List (Key × V) → List PyData → List (PyData × PyData)
  | kv :: r, d :: ds => (keyD kv.1, d) :: kvD r ds
  | _, _ => []
/-- the weight of a value -/
def wv (ω : Addr → Nat) : V → Nat
  | .ref p => ω p
  | _ => 1
def sw (ω : Addr → Nat) : List V → Nat
  | [] => 0
  | x :: r => wv ω x + sw ω r
/-- v stands for d, at most n deep -/
def RdD (ω : Addr → Nat) (H : Hp) : Nat → V → PyData → Prop
  | 0, v, d => Fl v ∧ d = flD v
  | n + 1, v, d => (Fl v ∧ d = flD v) ∨ (∃ p xs ds, v = .ref p ∧ H p = some (.lst xs) ∧ d = .list ds ∧ sw ω xs < ω p ∧ Paired (RdD ω H n) xs ds) ∨
    (∃ p xs ds, v = .ref p ∧ H p = some (.tup xs) ∧ d = .tuple ds ∧ sw ω xs < ω p ∧ Paired (RdD ω H n) xs ds) ∨
    ∃ p kvs ds, v = .ref p ∧ H p = some (.dK kvs) ∧ d = .dict (kvD kvs ds) ∧ sw ω (kvs.map (·.2)) + kvs.length < ω p ∧ (∀ kv ∈ kvs, keyOk kv.1) ∧ Paired (RdD ω H n) (kvs.map (·.2)) ds
theorem pimp {α β : Type} {R S : α → β → Prop} {xs : List α} {ys : List β} (h : Paired R xs ys) (k : ∀ x y, R x y → S x y) : Paired S xs ys := by
  induction h with
  | nil => exact .nil
  | cons a _ ih => exact .cons (k _ _ a) ih
theorem RdD.mono {ω : Addr → Nat} {H H' : Hp} (s : Sm H H') : ∀ {n : Nat} {v : V} {d : PyData}, RdD ω H n v d → RdD ω H' n v d
  | 0, _, _, h => h
  | n + 1, v, d, h => by
    rcases h with h | ⟨p, xs, ds, e1, e2, e3, e4, e5⟩ | ⟨p, xs, ds, e1, e2, e3, e4, e5⟩ | ⟨p, kvs, ds, e1, e2, e3, e4, e5, e6⟩
    · exact .inl h
    · exact .inr (.inl ⟨p, xs, ds, e1, s _ _ e2, e3, e4, pimp e5 fun _ _ => RdD.mono s⟩)
    · exact .inr (.inr (.inl ⟨p, xs, ds, e1, s _ _ e2, e3, e4, pimp e5 fun _ _ => RdD.mono s⟩))
    · exact .inr (.inr (.inr ⟨p, kvs, ds, e1, s _ _ e2, e3, e4, e5, pimp e6 fun _ _ => RdD.mono s⟩))
theorem small_log {i : Int} (h : i.natAbs < 10 ^ 40) : i.natAbs.log2 < 1920 := by
  by_cases h0 : i.natAbs = 0
  · rw [h0]; decide
  · have h1 : i.natAbs < 2 ^ 200 := Nat.lt_trans h (by decide)
    have := (Nat.log2_lt (n := i.natAbs) (k := 200) h0).mpr h1
    omega
theorem fl_showable {v : V} (h : Fl v) : (flD v).showable = true := by
  rcases h with rfl | ⟨b, rfl⟩ | ⟨i, rfl, l⟩ | ⟨z, rfl, l⟩
  · rfl
  · rfl
  · simp only [flD, PyData.showable]
    exact decide_eq_true (small_log l)
  · simp only [flD, PyData.showable]
theorem fl_depth {v : V} : (flD v).depth = 0 := by
  cases v <;> simp only [flD, PyData.depth]
theorem key_show {k : Key} (h : keyOk k) : (keyD k).showable = true ∧ (keyD k).depth = 0 := by
  cases k with
  | inl i => exact h.elim
  | inr z => exact ⟨by simp only [keyD, PyData.showable], by simp only [keyD, PyData.depth]⟩
theorem rd_showable {ω : Addr → Nat} {H : Hp} : ∀ {n : Nat} {v : V} {d : PyData}, RdD ω H n v d → d.showable = true ∧ d.depth ≤ n
  | 0, v, d, h => by rw [h.2]; exact ⟨fl_showable h.1, by rw [fl_depth]; exact Nat.le_refl 0⟩
  | n + 1, v, d, h => by
    have all : ∀ {xs : List V} {ds : List PyData}, Paired (RdD ω H n) xs ds → PyData.showableAll ds = true ∧ PyData.depthAll ds ≤ n := by
      intro xs ds h
      induction h with
      | nil => exact ⟨by simp only [PyData.showableAll], by simp only [PyData.depthAll]; omega⟩
      | cons a _ ih =>
        have b := rd_showable a
        exact ⟨by simp only [PyData.showableAll, b.1, ih.1, Bool.and_self], by simp only [PyData.depthAll]; have := b.2; have := ih.2; omega⟩
    rcases h with h | ⟨p, xs, ds, e1, e2, e3, e4, e5⟩ | ⟨p, xs, ds, e1, e2, e3, e4, e5⟩ | ⟨p, kvs, ds, e1, e2, e3, e4, e5, e6⟩
    · rw [h.2]; exact ⟨fl_showable h.1, by rw [fl_depth]; omega⟩
    · subst e3
      have a := all e5
      exact ⟨by simp only [PyData.showable]; exact a.1, by simp only [PyData.depth]; have := a.2; omega⟩
    · subst e3
      have a := all e5
      exact ⟨by simp only [PyData.showable]; exact a.1, by simp only [PyData.depth]; have := a.2; omega⟩
    · subst e3
      have kv : ∀ {kvs : List (Key × V)} {ds : List PyData}, (∀ kv ∈ kvs, keyOk kv.1) → Paired (RdD ω H n) (kvs.map (·.2)) ds → PyData.showableKv (kvD kvs ds) = true ∧ PyData.depthKv (kvD kvs ds) ≤ n := by
        intro kvs
        induction kvs with
        | nil => intro ds _ h; cases h; exact ⟨by simp only [kvD, PyData.showableKv], by simp only [kvD, PyData.depthKv]; omega⟩
        | cons kv r ih =>
          intro ds k h
          cases h with
          | cons a t =>
            have b := rd_showable a
            have c := ih (fun x hx => k x (List.mem_cons_of_mem _ hx)) t
            have z := key_show (k kv List.mem_cons_self)
            exact ⟨by simp only [kvD, PyData.showableKv, b.1, c.1, z.1, Bool.and_self], by simp only [kvD, PyData.depthKv]; have := b.2; have := c.2; have := z.2; omega⟩
      have a := kv e5 e6
      exact ⟨by simp only [PyData.showable]; exact a.1, by simp only [PyData.depth]; have := a.2; omega⟩
theorem fl_reads {h : Heap} {v : V} {u : Value} (f : Fl v) (r : RelV v u) : Reads h u (flD v) [] := by
  rcases f with rfl | ⟨b, rfl⟩ | ⟨i, rfl, l⟩ | ⟨z, rfl, l⟩
  · cases r; exact .none
  · cases r; exact .bool b
  · obtain ⟨t, rfl⟩ := r; exact .int i t
  · obtain ⟨t, rfl⟩ := r; exact .str z t
theorem rd_reads {P : Program} {w : World} {ω : Addr → Nat} {H : Hp} {h : Heap} (hok : HOk P w H h) (hs : H sysModules = none) : ∀ {n : Nat} {v : V} {d : PyData} {u : Value}, RdD ω H n v d → RelV v u → ∃ as, Reads h u d as ∧ ¬ sysModules ∈ as
  | 0, v, d, u, a, r => by rw [a.2]; exact ⟨[], fl_reads a.1 r, List.not_mem_nil⟩
  | n + 1, v, d, u, a, r => by
    have all : ∀ {xs : List V} {ds : List PyData}, Paired (RdD ω H n) xs ds → ∀ {us : List Value}, Vals xs us → ∃ as, ReadsAll h us ds as ∧ ¬ sysModules ∈ as := by
      intro xs ds a
      induction a with
      | nil => intro us b; cases b; exact ⟨[], .nil, List.not_mem_nil⟩
      | cons a _ ih =>
        intro us b
        cases b with
        | cons b t =>
          obtain ⟨as, r1, n1⟩ := rd_reads hok hs a b
          obtain ⟨bs, r2, n2⟩ := ih t
          exact ⟨as ++ bs, .cons r1 r2, by rw [List.mem_append]; exact fun z => z.elim n1 n2⟩
    have ne : ∀ {p : Addr} {o : HO}, H p = some o → sysModules ≠ p := fun e z => by rw [← z, hs] at e; cases e
    rcases a with a | ⟨p, xs, ds, e1, e2, e3, e4, e5⟩ | ⟨p, xs, ds, e1, e2, e3, e4, e5⟩ | ⟨p, kvs, ds, e1, e2, e3, e4, e5, e6⟩
    · rw [a.2]; exact ⟨[], fl_reads a.1 r, List.not_mem_nil⟩
    · subst e1 e3
      cases r
      have o := hok _ _ e2
      unfold ObjOk at o
      obtain ⟨_, its, m, vs, g⟩ := o
      obtain ⟨as, ra, na⟩ := all e5 vs
      exact ⟨p :: as, .list g rfl rfl ra, by rw [List.mem_cons]; exact fun z => z.elim (ne e2) na⟩
    · subst e1 e3
      cases r
      have o := hok _ _ e2
      unfold ObjOk at o
      obtain ⟨_, its, vs, ob, g, c, m, dd⟩ := o
      obtain ⟨as, ra, na⟩ := all e5 vs
      exact ⟨as, .tuple g c dd ra, na⟩
    · subst e1 e3
      cases r
      have o := hok _ _ e2
      unfold ObjOk at o
      obtain ⟨_, sm, vs, hkv, ob, es, ep, g, ⟨ex, _, _⟩, dd, _, pr, _⟩ := o
      have key : ∀ {kvs : List (Key × V)} {vs : List (Key × Value)} {es : List DictEntry} {ds : List PyData}, KV kvs vs → Pairs (mixKind P w) es vs → Paired (RdD ω H n) (kvs.map (·.2)) ds →
          (∃ as, ReadsAll h (es.map (·.key)) ((kvD kvs ds).map (·.1)) as ∧ ¬ sysModules ∈ as) ∧ ∃ as, ReadsAll h (es.map (·.val)) ((kvD kvs ds).map (·.2)) as ∧ ¬ sysModules ∈ as := by
        intro kvs vs es ds a
        induction a generalizing es ds with
        | nil => intro b c; cases b; cases c; exact ⟨⟨[], .nil, List.not_mem_nil⟩, [], .nil, List.not_mem_nil⟩
        | @cons kv kw _ _ a _ ih =>
          intro b c
          cases b with
          | @cons e _ es' _ b1 b2 b3 =>
            cases c with
            | cons c1 c2 =>
              obtain ⟨⟨as, r1, n1⟩, bs, r2, n2⟩ := ih b3 c2
              have rv : RelV kv.2 e.val := by rw [b2]; exact a.2
              obtain ⟨cs, r3, n3⟩ := rd_reads hok hs c1 rv
              refine ⟨⟨[] ++ as, .cons ?_ r1, n1⟩, cs ++ bs, .cons r3 r2, by rw [List.mem_append]; exact fun z => z.elim n3 n2⟩
              rw [← a.1] at b1
              have b1 : keyIs kv.1 e.key = true := b1
              show Reads h e.key (keyD kv.1) []
              cases hk : kv.1 with
              | inl i =>
                rw [hk] at b1
                cases ek : e.key with
                | int j t =>
                  rw [ek] at b1
                  have : j = i := by simpa [keyIs, Value.isInt] using b1
                  subst this
                  exact .int _ _
                | _ => rw [ek] at b1; cases b1
              | inr z =>
                rw [hk] at b1
                cases ek : e.key with
                | str j t =>
                  rw [ek] at b1
                  have : j = z := by simpa [keyIs, Value.isStrOf] using b1
                  subst this
                  exact .str _ _
                | _ => rw [ek] at b1; cases b1
      obtain ⟨⟨as, r1, n1⟩, bs, r2, n2⟩ := key hkv pr e6
      refine ⟨p :: as ++ bs, .dict g ex dd r1 r2, ?_⟩
      rw [List.mem_append, List.mem_cons]
      exact fun z => z.elim (fun z => z.elim (ne e2) n1) n2
def fRepr : RL := fun xs H Q => ∃ (ω : Addr → Nat) (n : Nat) (v : V) (d : PyData), xs = [v] ∧ n ≤ 100 ∧ RdD ω H n v d ∧ d.shown.length ≤ sizeLine ∧ Q (.str d.shown) H
theorem rd_ref {ω : Addr → Nat} {H : Hp} {n : Nat} {p : Addr} {d : PyData} : ¬ Fl (.ref p) := by
  rintro (h | ⟨b, h⟩ | ⟨i, h, _⟩ | ⟨z, h, _⟩) <;> cases h
theorem c_repr {X : Cx} {k : Nat} (hr : Room k X.A) (hc : CalmX X) : CallR X (.builtin "repr") fRepr := fun pins s σ H xs us Q I r h => by
  obtain ⟨ω, n, v, d, rfl, hn, rd, hl, q⟩ := h
  have un := hr.un
  cases r with
  | cons r rn =>
    cases rn
    rename_i u
    by_cases f : Fl v
    · have fd : d = flD v := by
        cases n with
        | zero => exact rd.2
        | succ n =>
          rcases rd with a | ⟨p, xs, ds, e1, _⟩ | ⟨p, xs, ds, e1, _⟩ | ⟨p, kvs, ds, e1, _⟩
          · exact a.2
          all_goals (subst e1; exact (rd_ref (ω := ω) (H := H) (n := n) (d := d) f).elim)
      subst fd
      have e : ∀ tk, EP X pins σ Q (.str (flD v).shown s.toks) { heap := s.heap, gens := s.gens, drawn := s.drawn, toks := tk, os := s.os } := fun tk => ⟨.str (flD v).shown, H, I.tok tk, ⟨_, rfl⟩, q⟩
      rcases f with rfl | ⟨b, rfl⟩ | ⟨i, rfl, l⟩ | ⟨z, rfl, l⟩
      · cases r
        have e := e (s.toks + 1)
        simp only [flD, PyData.shown] at e
        exact P.repr_of_none e
      · cases r
        have e := e (s.toks + 1)
        simp only [flD, PyData.shown] at e
        exact P.repr_of_bool e
      · obtain ⟨t, rfl⟩ := r
        have e := e (s.toks + 1)
        simp only [flD, PyData.shown] at e
        exact P.repr_of_int (small_log l) e
      · obtain ⟨t, rfl⟩ := r
        have e := e (s.toks + 1)
        simp only [flD, PyData.shown] at e hl
        exact P.repr_of_str e hl
    · have : ∃ p, v = .ref p := by
        cases n with
        | zero => exact (f rd.1).elim
        | succ n =>
          rcases rd with a | ⟨p, xs, ds, e1, _⟩ | ⟨p, xs, ds, e1, _⟩ | ⟨p, kvs, ds, e1, _⟩
          · exact (f a.1).elim
          all_goals exact ⟨p, e1⟩
      obtain ⟨p, rfl⟩ := this
      cases r
      obtain ⟨g, _, hs⟩ := hc.now I
      obtain ⟨as, ra, na⟩ := rd_reads I.hok hs rd (show RelV (.ref p) (.ref p) from rfl)
      have sd := rd_showable rd
      exact repr_of_reads' ra sd.1 (fun _ => na) g (by have := sd.2; omega) (fun _ _ e => e) (fun h' u tk ks => ⟨.str d.shown, H, (I.kept ks (t' := tk)), ⟨_, rfl⟩, q⟩) hl
end XB

/-! How long a shown text may be. -/
namespace XB
open PySem L2
theorem hex_len {c w : Nat} (h : c < 256) (hw : w ≤ 2) : (let d := List.map Char.toNat (Nat.toDigits 16 c); List.replicate (w - d.length) 48 ++ d).length ≤ 2 := by
  have l : (Nat.toDigits 16 c).length ≤ 2 := (Nat.length_toDigits_le_iff (by decide) (by decide)).mpr (by simpa using h)
  simp only [List.length_append, List.length_replicate, List.length_map]
  omega
theorem rc_len {q c : Nat} (h : c < 128) : (Builtin.Str.reprChar q c).length ≤ 4 := by
  have hx := hex_len (c := c) (w := 2) (by omega) (by omega)
  dsimp only at hx
  unfold Builtin.Str.reprChar
  dsimp only
  split
  · simp
  · split
    · simp
    · split
      · simp
      · split
        · simp
        · split
          · simp
          · rw [if_pos (by omega)]
            rw [List.length_append]
            have : ([92, 120] : List Nat).length = 2 := rfl
            omega
theorem repr_len {z : Str} (h : okZ z) : (reprText z).length ≤ 260 := by
  obtain ⟨hl, ha⟩ := h
  unfold reprText Str.length
  rw [Array.size_push, ← Array.foldl_toList]
  have : ∀ (l : List Nat) (acc : Array Nat), (∀ c ∈ l, c < 128) → (l.foldl (fun out c => out ++ (Builtin.Str.reprChar (reprQuote z) c).toArray) acc).size ≤ acc.size + 4 * l.length := by
    intro l
    induction l with
    | nil => intro acc _; simp
    | cons c r ih =>
      intro acc hc
      rw [List.foldl_cons]
      have a := ih (acc ++ (Builtin.Str.reprChar (reprQuote z) c).toArray) fun x hx => hc x (List.mem_cons_of_mem _ hx)
      have b := rc_len (q := reprQuote z) (hc c List.mem_cons_self)
      have b2 : (Builtin.Str.reprChar (reprQuote z) c).toArray.size = (Builtin.Str.reprChar (reprQuote z) c).length := by simp
      rw [Array.size_append] at a
      rw [List.length_cons]
      omega
  have t := this z.cps.toList #[reprQuote z] ha
  have e : z.cps.toList.length ≤ 64 := by rw [Array.length_toList]; exact hl
  have e1 : (#[reprQuote z] : Array Nat).size = 1 := rfl
  omega
def sl : List Str → Nat
  | [] => 0
  | t :: ts => t.length + 2 + sl ts
theorem sapp {a b : Str} : (a ++ b).length = a.length + b.length := by
  show (a.cps ++ b.cps).size = _
  rw [Array.size_append]
  rfl
theorem text_len : ∀ {ts : List Str} {k : Nat} {acc : Str}, (textFrom k acc ts).length ≤ acc.length + sl ts
  | [], k, acc => by simp only [textFrom, sl]; omega
  | t :: ts, k, acc => by
    simp only [textFrom, sl]
    have a := text_len (ts := ts) (k := k + 1) (acc := acc ++ Str.ofString (if k > 0 then ", " else "") ++ t)
    rw [sapp, sapp] at a
    have b : (Str.ofString (if k > 0 then ", " else "")).length ≤ 2 := by split <;> decide
    omega
theorem join_len : ∀ {ts : List Str}, ((Str.ofString ", ").join ts).length ≤ sl ts
  | [] => by decide
  | [t] => by simp only [Str.join, sl]; omega
  | t :: u :: ts => by
    have a := join_len (ts := u :: ts)
    rw [show (Str.ofString ", ").join (t :: u :: ts) = t ++ Str.ofString ", " ++ (Str.ofString ", ").join (u :: ts) by simp only [Str.join]]
    rw [sapp, sapp]
    have b : (Str.ofString ", ").length = 2 := by decide
    simp only [sl] at a ⊢
    omega
theorem str_int_len {i : Int} (h : i.natAbs < 10 ^ 40) : (Str.ofString (toString i)).length ≤ 41 := by
  cases i with
  | ofNat n =>
    have e : ((n : Nat) : Int) < 10 ^ 40 := by
      have : n < 10 ^ 40 := h
      omega
    exact Nat.le_trans (PyProof.Rows.toString_length_le (v := (n : Int)) (by omega) (k := 40) (by decide) e) (by decide)
  | negSucc m =>
    have e : ((m + 1 : Nat) : Int) < 10 ^ 40 := by
      have : m + 1 < 10 ^ 40 := h
      omega
    have l := PyProof.Rows.toString_length_le (v := ((m + 1 : Nat) : Int)) (by omega) (k := 40) (by decide) e
    have e2 : (toString (Int.negSucc m) : String) = "-" ++ toString ((m + 1 : Nat) : Int) := rfl
    rw [PyProof.Rows.ofString_length] at l
    rw [e2, PyProof.Rows.ofString_length, String.toList_append, List.length_append]
    have : ("-" : String).toList.length = 1 := by decide
    omega
theorem str_int_ascii {i : Int} : asciiZ (Str.ofString (toString i)) := by
  have dig : ∀ n : Nat, ∀ c ∈ (toString n).toList, c.toNat < 128 := by
    intro n c hc
    have hc : c ∈ (Nat.toDigits 10 n) := by simpa [toString, Nat.repr] using hc
    have := Nat.isDigit_of_mem_toDigits (by decide) (by decide) hc
    have h2 : c.val ≤ 57 := by
      simp only [Char.isDigit, Bool.and_eq_true, decide_eq_true_eq] at this
      exact this.2
    have : c.val.toNat ≤ 57 := h2
    show c.val.toNat < 128
    omega
  have all : ∀ s : String, (∀ c ∈ s.toList, c.toNat < 128) → asciiZ (Str.ofString s) := by
    intro s hs c hc
    have hc : c ∈ (Str.ofString s).cps.toList := hc
    have e : (Str.ofString s).cps.toList = s.toList.map Char.toNat := PyProof.Rows.signs_ofString s
    rw [e, List.mem_map] at hc
    obtain ⟨x, hx, rfl⟩ := hc
    exact hs x hx
  cases i with
  | ofNat n => exact all _ (dig n)
  | negSucc m =>
    refine all _ fun c hc => ?_
    have e2 : (toString (Int.negSucc m) : String) = "-" ++ toString (m + 1) := rfl
    rw [e2, String.toList_append, List.mem_append] at hc
    rcases hc with hc | hc
    · have : c ∈ ['-'] := hc
      rw [List.mem_singleton] at this
      subst this
      decide
    · exact dig _ c hc
theorem fl_shown {v : V} (h : Fl v) : (flD v).shown.length ≤ 260 := by
  rcases h with rfl | ⟨b, rfl⟩ | ⟨i, rfl, l⟩ | ⟨z, rfl, l⟩
  · simp only [flD, PyData.shown]; decide
  · simp only [flD, PyData.shown]; cases b <;> decide
  · simp only [flD, PyData.shown]
    have := str_int_len l
    omega
  · simp only [flD, PyData.shown]
    exact repr_len l
theorem key_shown {k : Key} (h : keyOk k) : (keyD k).shown.length ≤ 260 := by
  cases k with
  | inl i => exact h.elim
  | inr z => simp only [keyD, PyData.shown]; exact repr_len h
theorem rd_shown {ω : Addr → Nat} {H : Hp} : ∀ {n : Nat} {v : V} {d : PyData}, RdD ω H n v d → d.shown.length + 10 ≤ 300 * wv ω v
  | 0, v, d, a => by
    have := fl_shown a.1
    rw [a.2]
    have : wv ω v = 1 := by rcases a.1 with rfl | ⟨b, rfl⟩ | ⟨i, rfl, l⟩ | ⟨z, rfl, l⟩ <;> rfl
    omega
  | n + 1, v, d, a => by
    have all : ∀ {xs : List V} {ds : List PyData}, Paired (RdD ω H n) xs ds → sl (PyData.shownAll ds) ≤ 300 * sw ω xs := by
      intro xs ds a
      induction a with
      | nil => simp only [PyData.shownAll, sl, sw]; omega
      | cons a _ ih =>
        have := rd_shown a
        simp only [PyData.shownAll, sl, sw]
        omega
    rcases a with a | ⟨p, xs, ds, e1, e2, e3, e4, e5⟩ | ⟨p, xs, ds, e1, e2, e3, e4, e5⟩ | ⟨p, kvs, ds, e1, e2, e3, e4, e5, e6⟩
    · have := fl_shown a.1
      rw [a.2]
      have : wv ω v = 1 := by rcases a.1 with rfl | ⟨b, rfl⟩ | ⟨i, rfl, l⟩ | ⟨z, rfl, l⟩ <;> rfl
      omega
    · subst e1 e3
      have b := all e5
      simp only [PyData.shown, listText]
      rw [sapp]
      have c := text_len (ts := PyData.shownAll ds) (k := 0) (acc := Str.ofString "[")
      have e1 : (Str.ofString "[").length = 1 := by decide
      have e2 : (Str.ofString "]").length = 1 := by decide
      simp only [wv]
      omega
    · subst e1 e3
      have b := all e5
      simp only [PyData.shown, tupleText]
      rw [sapp, sapp]
      have c := join_len (ts := PyData.shownAll ds)
      have e1 : (Str.ofString "(").length = 1 := by decide
      have e2 : ∀ b : Bool, (Str.ofString (if b = true then ",)" else ")")).length ≤ 2 := by decide
      have e3 := e2 ((PyData.shownAll ds).length == 1)
      simp only [wv]
      omega
    · subst e1 e3
      have kv : ∀ {kvs : List (Key × V)} {ds : List PyData}, (∀ kv ∈ kvs, keyOk kv.1) → Paired (RdD ω H n) (kvs.map (·.2)) ds → sl (PyData.shownKv (kvD kvs ds)) ≤ 300 * (sw ω (kvs.map (·.2)) + kvs.length) := by
        intro kvs
        induction kvs with
        | nil => intro ds _ h; cases h; simp only [kvD, PyData.shownKv, sl]; omega
        | cons kv r ih =>
          intro ds k h
          cases h with
          | cons a t =>
            have b : _ + 10 ≤ 300 * wv ω kv.2 := rd_shown a
            have c := ih (fun x hx => k x (List.mem_cons_of_mem _ hx)) t
            have z := key_shown (k kv List.mem_cons_self)
            simp only [kvD, PyData.shownKv, sl, List.map_cons, sw, List.length_cons]
            rw [sapp, sapp]
            have e1 : (Str.ofString ": ").length = 2 := by decide
            omega
      have b := kv e5 e6
      simp only [PyData.shown, dictText]
      rw [sapp, sapp]
      have c := join_len (ts := PyData.shownKv (kvD kvs ds))
      have e1 : (Str.ofString "{").length = 1 := by decide
      have e2 : (Str.ofString "}").length = 1 := by decide
      simp only [wv]
      omega
theorem rd_fits {ω : Addr → Nat} {H : Hp} {n : Nat} {v : V} {d : PyData} (h : RdD ω H n v d) (hw : wv ω v ≤ 50000) : d.shown.length ≤ sizeLine := by
  have := rd_shown h
  show _ ≤ 2 ^ 24
  omega
theorem slice_ascii {z : Str} {lo hi : Option Int} (h : asciiZ z) : asciiZ (Txt.slice z lo hi) := by
  unfold Txt.slice
  split
  · exact h
  · intro c hc
    simp only [List.mem_filterMap] at hc
    obtain ⟨i, _, e⟩ := hc
    have := Array.mem_of_getElem? e
    exact h c (by simpa using this)
theorem app_ascii {a b : Str} (ha : asciiZ a) (hb : asciiZ b) : asciiZ (a ++ b) := by
  intro c hc
  have hc : c ∈ (a.cps ++ b.cps).toList := hc
  rw [Array.toList_append, List.mem_append] at hc
  exact hc.elim (ha c) (hb c)
theorem one_ascii {z : Str} {i : Nat} {c : Nat} (h : asciiZ z) (e : z.cps[i]? = some c) : asciiZ ⟨#[c]⟩ := by
  intro x hx
  have hx : x ∈ [c] := hx
  rw [List.mem_singleton] at hx
  subst hx
  exact h x (by simpa using Array.mem_of_getElem? e)
end XB

/-! Texts, lists and tuples times a number. -/
namespace XB
open PySem L2
def fMulS : R2 := fun x y H Q => ∃ (z : Str) (k : Int), x = .str z ∧ y = .int k ∧ z.length = 1 ∧ 0 ≤ k ∧ k ≤ 1000 ∧ ∀ u : Str, u.length ≤ k.toNat → (asciiZ z → asciiZ u) → Q (.str u) H
theorem cps_mul {l : Array Nat} : ∀ {n : Nat} {acc : Array Nat}, ((List.replicate n l).foldl (fun a b => a ++ b) acc).size = acc.size + n * l.size ∧ ∀ c ∈ ((List.replicate n l).foldl (fun a b => a ++ b) acc).toList, c ∈ acc.toList ∨ c ∈ l.toList
  | 0, acc => ⟨by simp, fun c hc => .inl (by simpa using hc)⟩
  | n + 1, acc => by
    have ih := cps_mul (l := l) (n := n) (acc := acc ++ l)
    rw [List.replicate_succ, List.foldl_cons]
    refine ⟨by rw [ih.1, Array.size_append, Nat.succ_mul]; omega, fun c hc => ?_⟩
    rcases ih.2 c hc with h | h
    · rw [Array.toList_append, List.mem_append] at h
      exact h
    · exact .inr h
theorem op_mulS {X : Cx} : OpR X (binaryOp .Mult) fMulS := fun pins s σ H x y v u Q I rx ry h => by
  obtain ⟨z, k, rfl, rfl, l, k0, k1, q⟩ := h
  obtain ⟨t, rfl⟩ := rx
  obtain ⟨t2, rfl⟩ := ry
  refine SB.mul ⟨?_, ?_, ?_⟩ fun t' m => ⟨.str (Txt.mul z k), H, I.tok m, ⟨_, rfl⟩, q _ ?_ ?_⟩
  · simp only [Bool.or_eq_false_iff, decide_eq_false_iff_not]
    omega
  · intro c1 _ c2
    rw [l] at c2
    have : (1 : Int) ≤ (2 ^ 63 - 1) / k := by
      rw [Int.le_ediv_iff_mul_le (by omega)]
      omega
    have e : ((1 : Nat) : Int) = 1 := rfl
    omega
  · intro _ _
    rw [l]
    unfold Builtin.Str.tooLong
    simp only [decide_eq_false_iff_not]
    have : sizeLine = 2 ^ 24 := rfl
    omega
  · unfold Txt.mul
    split
    · exact Nat.zero_le _
    · split
      · omega
      · show Array.size _ ≤ _
        rw [(cps_mul (l := z.cps) (n := k.toNat) (acc := #[])).1]
        have : z.cps.size = 1 := l
        rw [this]
        simp
  · intro ha
    unfold Txt.mul
    split
    · intro c hc; cases hc
    · split
      · exact ha
      · intro c hc
        rcases (cps_mul (l := z.cps) (n := k.toNat) (acc := #[])).2 c hc with h | h
        · cases h
        · exact ha c h
end XB

/-! The helpers that draw. -/
namespace XB
open PySem L2
theorem upd_ne' {H : Hp} {a b : Addr} {o : HO} (h : a ≠ b) : upd H a o b = H b := upd_ne (Ne.symm h)
local macro_rules | `(tactic| walk_at "s") => `(tactic| try simp only [u_var, u_c, u_op, u_un, u_nil, u_cons, u_cb, u_call, u_callS, u_tup, u_lst, u_test, u_B, u_and, u_or, u_not, u_andV, u_orV, u_notV, u_ifE, u_chain, u_sl, u_noPart, u_part, u_bm, u_bm0, u_rev, u_lc, u_try, u_sui, u_sui0, u_unb_rt, u_unb_nx, u_xf, u_WE, w_nil, w_cons, u_raise, u_rng1, u_rng2, u_next, u_ret, u_gname, u_gnil, u_gcons, u_gsub, u_gtup,
  f_add, f_addS, f_addR, f_sub, f_mul, f_mulR, f_mod, f_div, f_pow, f_neg, f_cmp, f_eq, f_eqB, f_eqS, f_ne, f_neB, f_neS, f_isN, f_notN, f_isB, f_ix, f_ixS, f_int, f_intB, f_len, f_lenS, f_max, f_min, f_abs, f_list, f_tuple, f_all, f_sum, f_isi, f_isiT, f_append, f_insert, f_pop, f_sl, f_set,
  kitS, tys, List.isEmpty_cons, Option.map_some, kt_NoneType_int, kt_NoneType_bool, kt_NoneType_str, kt_NoneType_list, kt_NoneType_tuple, kt_NoneType_dict, kt_int_int, kt_int_bool, kt_int_str, kt_int_list, kt_int_tuple, kt_int_dict, kt_bool_int, kt_bool_bool, kt_bool_str, kt_bool_list, kt_bool_tuple, kt_bool_dict, kt_str_int, kt_str_bool, kt_str_str, kt_str_list, kt_str_tuple, kt_str_dict, kt_list_int, kt_list_bool, kt_list_str, kt_list_list, kt_list_tuple, kt_list_dict, kt_tuple_int, kt_tuple_bool, kt_tuple_str, kt_tuple_list, kt_tuple_tuple, kt_tuple_dict, kt_dict_int, kt_dict_bool, kt_dict_str, kt_dict_list, kt_dict_tuple, kt_dict_dict, asL_lst, asL_frz, asL_tup, asT_tup, asS_lst, asS_frz, asS_tup, tyN_non, tyN_bl, tyN_int, tyN_str, atV_lit, ixN_lit, upd_same, upd_ne, upd_ne',
  List.getElem?_cons_zero, List.getElem?_cons_succ, List.set_cons_zero, List.set_cons_succ, List.append_nil, List.length_cons, List.length_nil, Option.some.injEq, exists_eq_left', exists_eq_left, exists_and_left, V.bl.injEq, V.int.injEq, V.str.injEq, V.ref.injEq, Bool.not_eq_true, Bool.not_true, Bool.not_false, decide_true, decide_false, decide_eq_true_eq, decide_eq_false_iff_not, Bool.false_eq_true, if_true, if_false, ite_true, ite_false, reduceCtorEq, true_and, and_true, Nat.reduceAdd, Nat.reduceLT, Nat.zero_add, ne_eq, not_false_eq_true, not_true_eq_false, List.cons.injEq, and_assoc])
local macro_rules | `(tactic| walk_at "S") => `(tactic| try simp only [u_var, u_c, u_op, u_un, u_nil, u_cons, u_cb, u_call, u_callS, u_tup, u_lst, u_test, u_B, u_and, u_or, u_not, u_andV, u_orV, u_notV, u_ifE, u_chain, u_sl, u_noPart, u_part, u_bm, u_bm0, u_rev, u_lc, u_try, u_sui, u_sui0, u_unb_rt, u_unb_nx, u_xf, u_WE, w_nil, w_cons, u_raise, u_rng1, u_rng2, u_next, u_ret, u_gname, u_gnil, u_gcons, u_gsub, u_gtup,
  f_add, f_addS, f_addR, f_sub, f_mul, f_mulR, f_mod, f_div, f_pow, f_neg, f_cmp, f_eq, f_eqB, f_eqS, f_ne, f_neB, f_neS, f_isN, f_notN, f_isB, f_ix, f_ixS, f_int, f_intB, f_len, f_lenS, f_max, f_min, f_abs, f_list, f_tuple, f_all, f_sum, f_isi, f_isiT, f_append, f_insert, f_pop, f_sl, f_set,
  kitS, tys, List.isEmpty_cons, Option.map_some, kt_NoneType_int, kt_NoneType_bool, kt_NoneType_str, kt_NoneType_list, kt_NoneType_tuple, kt_NoneType_dict, kt_int_int, kt_int_bool, kt_int_str, kt_int_list, kt_int_tuple, kt_int_dict, kt_bool_int, kt_bool_bool, kt_bool_str, kt_bool_list, kt_bool_tuple, kt_bool_dict, kt_str_int, kt_str_bool, kt_str_str, kt_str_list, kt_str_tuple, kt_str_dict, kt_list_int, kt_list_bool, kt_list_str, kt_list_list, kt_list_tuple, kt_list_dict, kt_tuple_int, kt_tuple_bool, kt_tuple_str, kt_tuple_list, kt_tuple_tuple, kt_tuple_dict, kt_dict_int, kt_dict_bool, kt_dict_str, kt_dict_list, kt_dict_tuple, kt_dict_dict, asL_lst, asL_frz, asL_tup, asT_tup, asS_lst, asS_frz, asS_tup, tyN_non, tyN_bl, tyN_int, tyN_str, atV_lit, ixN_lit, upd_same, upd_ne, upd_ne',
  List.getElem?_cons_zero, List.getElem?_cons_succ, List.set_cons_zero, List.set_cons_succ, List.append_nil, List.length_cons, List.length_nil, Option.some.injEq, exists_eq_left', exists_eq_left, exists_and_left, V.bl.injEq, V.int.injEq, V.str.injEq, V.ref.injEq, Bool.not_eq_true, Bool.not_true, Bool.not_false, decide_true, decide_false, decide_eq_true_eq, decide_eq_false_iff_not, Bool.false_eq_true, if_true, if_false, ite_true, ite_false, reduceCtorEq, true_and, and_true, Nat.reduceAdd, Nat.reduceLT, Nat.zero_add, ne_eq, not_false_eq_true, not_true_eq_false, List.cons.injEq, and_assoc, *])
/-- all that stood stands, but for what stood at st; and st goes on with the numbers that it had -/
def Kp (st : Addr) (H H' : Hp) : Prop := (∀ a o, a ≠ st → H a = some o → H' a = some o) ∧ ∀ c r, H st = some (.lst (c :: r)) → ∃ r', H' st = some (.lst (c :: r'))
theorem Kp.refl (st : Addr) (H : Hp) : Kp st H H := ⟨fun _ _ _ h => h, fun _ r h => ⟨r, h⟩⟩
theorem Kp.trans {st : Addr} {H H1 H2 : Hp} (a : Kp st H H1) (b : Kp st H1 H2) : Kp st H H2 := ⟨fun x o n h => b.1 x o n (a.1 x o n h), fun c r h => by
  obtain ⟨r1, h1⟩ := a.2 c r h
  exact b.2 c r1 h1⟩
theorem Kp.put {st : Addr} {H H1 : Hp} {x : V} {r r' : List V} (a : Kp st H H1) (e : H1 st = some (.lst (x :: r))) : Kp st H (upd H1 st (.lst (x :: r'))) := ⟨fun x u n h => by
  rw [upd_ne n]
  exact a.1 x u n h, fun c z h => by
  obtain ⟨r1, h1⟩ := a.2 c z h
  rw [e] at h1
  cases h1
  exact ⟨r', upd_same⟩⟩
theorem Kp.new {st p : Addr} {H H1 : Hp} {o : HO} (a : Kp st H H1) (h : H1 p = none) : Kp st H (upd H1 p o) := ⟨fun x u n e => by
  rw [upd_ne (ne_of_none (a.1 x u n e) h)]
  exact a.1 x u n e, fun c z e => by
  obtain ⟨r1, h1⟩ := a.2 c z e
  exact ⟨r1, by rw [upd_ne (ne_of_none h1 h)]; exact h1⟩⟩
/-- the store of the draws: the script's numbers, the place, what is left of a great one, the count, the seed -/
def StL (H : Hp) (st c : Addr) (ns : List Int) (a b d e : Int) : Prop :=
  H st = some (.lst [.ref c, .int a, .int b, .int d, .int e]) ∧ H c = some (.lst (ns.map V.int)) ∧ c ≠ st ∧ 0 ≤ a ∧ ns.length ≤ 1000
def StAt (H : Hp) (st : Addr) : Prop := ∃ (c : Addr) (ns : List Int) (a b d e : Int), StL H st c ns a b d e
theorem StAt.new {H : Hp} {st p : Addr} {o : HO} (s : StAt H st) (h : H p = none) : StAt (upd H p o) st := by
  obtain ⟨c, ns, a, b, d, e, h1, h2, h3, h4, h5⟩ := s
  exact ⟨c, ns, a, b, d, e, by rw [upd_ne (ne_of_none h1 h)]; exact h1, by rw [upd_ne (ne_of_none h2 h)]; exact h2, h3, h4, h5⟩
theorem Kp.asS {st p : Addr} {H H' : Hp} {xs : List V} (k : Kp st H H') (n : p ≠ st) (h : XB.asS (H p) = some xs) : XB.asS (H' p) = some xs := by
  cases e : H p with
  | none => rw [e] at h; cases h
  | some o => rw [k.1 p o n e, ← e]; exact h
theorem Kp.asL {st p : Addr} {H H' : Hp} {xs : List V} (k : Kp st H H') (n : p ≠ st) (h : XB.asL (H p) = some xs) : XB.asL (H' p) = some xs := by
  cases e : H p with
  | none => rw [e] at h; cases h
  | some o => rw [k.1 p o n e, ← e]; exact h
theorem StAt.sm {H H' : Hp} {st : Addr} (s : StAt H st) (k : Sm H H') : StAt H' st := by
  obtain ⟨c, ns, a, b, d, e, h1, h2, h3, h4, h5⟩ := s
  exact ⟨c, ns, a, b, d, e, k _ _ h1, k _ _ h2, h3, h4, h5⟩
theorem StAt.ne {H : Hp} {st p : Addr} (s : StAt H st) (h : H p = none) : p ≠ st := by
  obtain ⟨c, ns, a, b, d, e, h1, _⟩ := s
  exact (ne_of_none h1 h).symm
theorem kp_sm {H H' : Hp} {st : Addr} (k : Sm H H') : Kp st H H' := ⟨fun a o _ h => k a o h, fun c r h => ⟨r, k _ _ h⟩⟩
structure CA where
  (none : Addr)
theorem below {base many : Int} (h : 0 < base) (hb : base = many ∨ base = 1) (x : Int) : x % base < many ∨ x % base = 0 := by
  have h1 := Int.emod_lt_of_pos x h
  have h2 := Int.emod_nonneg x (show base ≠ 0 by omega)
  rcases hb with e | e
  · rw [← e]; exact .inl h1
  · rw [e] at h1 h2 ⊢; exact .inr (by omega)
theorem log_small {base : Int} (h : 0 < base) (hb : base < 2 ^ 64) : base.natAbs.log2 < 9000 := by
  have h1 : base.natAbs < 2 ^ 64 := by omega
  have h2 := (Nat.log2_lt (n := base.natAbs) (k := 64) (by omega)).mpr h1
  omega
def sp_l_mixed (K : PySem.W.Frag) (C : CA) : Sp := fun vs H Q _ => ∃ a k : Int, vs = [.int a, .int k] ∧ ∀ r : Int, 0 ≤ r → r < 2147483629 → Q (.int r) H
def rd_l_mixed (K : PySem.W.Frag) (C : CA) (E : XK) : TS :=
  (tSeq (tAsg (tOp fMod (tCB fInt (tCons (tOp fAdd (tOp fAdd (tOp fMul (tCB fInt (tCons (tVar 0) tNil)) (tC (.int 48271))) (tOp fMul (tVar 1) (tC (.int 69621)))) (tC (.int 1))) tNil)) (tC (.int 2147483647))) (gName 2)) (tSeq (tAsg (tOp fMod (tCB fInt (tCons (tOp fAdd (tOp fAdd (tOp fMul (tVar 2) (tVar 2)) (tOp fMul (tVar 1) (tC (.int 40692)))) (tC (.int 7))) tNil)) (tC (.int 2147483399))) (gName 3)) (tRet (tOp fMod (tCB fInt (tCons (tOp fAdd (tOp fMul (tVar 3) (tVar 3)) (tVar 2)) tNil)) (tC (.int 2147483629))))))
theorem pure_l_mixed {K : PySem.W.Frag} {C : CA} (vs : List V) (H : Hp) (Q : VK) (E : XK) (h : sp_l_mixed K C vs H Q E) : rd_l_mixed K C E { nx := fun _ H' => Q .non H', rt := Q } (start [("cell" : Str), ("k" : Str), ("first" : Str), ("second" : Str)] vs) H := by
  obtain ⟨a, k, rfl, q⟩ := h
  show rd_l_mixed K C E _ [some (.int a), some (.int k), none, none] H
  unfold rd_l_mixed
  refine q_asg ?_
  walk_at "s"
  refine ⟨.inr ⟨by decide, by decide⟩, .inr ⟨by decide, by decide⟩, by decide, ?_⟩
  refine q_asg ?_
  have h1 := Int.emod_nonneg (a * 48271 + k * 69621 + 1) (show (2147483647 : Int) ≠ 0 by decide)
  have h2 := Int.emod_lt_of_pos (a * 48271 + k * 69621 + 1) (show (0 : Int) < 2147483647 by decide)
  generalize (a * 48271 + k * 69621 + 1) % 2147483647 = f at h1 h2 ⊢
  walk_at "s"
  refine ⟨.inl ⟨by omega, by omega⟩, .inr ⟨by decide, by decide⟩, by decide, ?_⟩
  have h3 := Int.emod_nonneg (f * f + k * 40692 + 7) (show (2147483399 : Int) ≠ 0 by decide)
  have h4 := Int.emod_lt_of_pos (f * f + k * 40692 + 7) (show (0 : Int) < 2147483399 by decide)
  generalize (f * f + k * 40692 + 7) % 2147483399 = s at h3 h4 ⊢
  refine ⟨.inl ⟨by omega, by omega⟩, by decide, ?_⟩
  exact q _ (Int.emod_nonneg _ (by decide)) (Int.emod_lt_of_pos _ (by decide))
def sp_l_take (K : PySem.W.Frag) (C : CA) : Sp := fun vs H Q _ => ∃ (st : Addr) (many : Int), vs = [.ref st, .int many] ∧ StAt H st ∧ many < 2 ^ 64 ∧
  ∀ (r : Int) (H' : Hp), 0 ≤ r → (r < many ∨ r = 0) → Kp st H H' → StAt H' st → Q (.int r) H'
def rd_l_take (K : PySem.W.Frag) (C : CA) (E : XK) : TS :=
  (tSeq (tAsg (tCB fMax (tCons (tC (.int 1)) (tCons (tVar 1) tNil))) (gName 2)) (tSeq (tAsg (tOp fAdd (tOp fIx (tVar 0) (tC (.int 3))) (tC (.int 1))) (gSub (tVar 0) (tC (.int 3)) fSet)) (Evl.tCut (tIfS (tAnd (tTest (tOp (fEq K) (tOp fIx (tVar 0) (tC (.int 2))) (tC (.int 0)))) (tTest (tOp fLt (tOp fIx (tVar 0) (tC (.int 1))) (tCB fLen (tCons (tOp fIx (tVar 0) (tC (.int 0))) tNil))))) (tSeq (tAsg (tCB fInt (tCons (tOp fIx (tOp fIx (tVar 0) (tC (.int 0))) (tOp fIx (tVar 0) (tC (.int 1)))) tNil)) (gName 3)) (tSeq (tAsg (tOp fAdd (tOp fIx (tVar 0) (tC (.int 1))) (tC (.int 1))) (gSub (tVar 0) (tC (.int 1)) fSet)) (tSeq (tIfS (tTest (tOp fLt (tVar 3) (tOp fPow (tC (.int 10)) (tC (.int 18))))) (tRet (tOp fMod (tCB fInt (tCons (tCallS (sp_l_mixed K C) (fun _ => E0) (tCons (tVar 3) (tCons (tOp fIx (tVar 0) (tC (.int 3))) tNil))) tNil)) (tVar 2))) tNext) (tAsg (tVar 3) (gSub (tVar 0) (tC (.int 2)) fSet))))) tNext) (tSeq (tIfS (tTest (tOp (fEq K) (tOp fIx (tVar 0) (tC (.int 2))) (tC (.int 0)))) (tRet (tOp fMod (tCB fInt (tCons (tCallS (sp_l_mixed K C) (fun _ => E0) (tCons (tOp fIx (tVar 0) (tC (.int 4))) (tCons (tOp fIx (tVar 0) (tC (.int 3))) tNil))) tNil)) (tVar 2))) tNext) (tSeq (tAsg (tOp fMod (tCB fInt (tCons (tOp fIx (tVar 0) (tC (.int 2))) tNil)) (tVar 2)) (gName 4)) (tSeq (tAsg (tOp fDiv (tCB fInt (tCons (tOp fIx (tVar 0) (tC (.int 2))) tNil)) (tVar 2)) (gSub (tVar 0) (tC (.int 2)) fSet)) (tRet (tVar 4))))))))
theorem pure_l_take {K : PySem.W.Frag} {C : CA} (vs : List V) (H : Hp) (Q : VK) (E : XK) (h : sp_l_take K C vs H Q E) : rd_l_take K C E { nx := fun _ H' => Q .non H', rt := Q } (start [("store" : Str), ("many" : Str), ("base" : Str), ("cell" : Str), ("digit" : Str)] vs) H := by
  obtain ⟨st, many, rfl, ⟨c, ns, a, b, d, e, h1, h2, h3, h4, h5⟩, hm, q⟩ := h
  show rd_l_take K C E _ [some (.ref st), some (.int many), none, none, none] H
  unfold rd_l_take
  refine q_asg ?_
  walk_at "s"
  have hb1 : 0 < max 1 many := by omega
  have hb2 : max 1 many = many ∨ max 1 many = 1 := by omega
  have hb3 : max 1 many < 2 ^ 64 := by omega
  generalize max 1 many = base at hb1 hb2 hb3 ⊢
  refine q_asg ?_
  walk_at "S"
  have k1 : Kp st H (upd H st (HO.lst [V.ref c, V.int a, V.int b, V.int (d + 1), V.int e])) := (Kp.refl st H).put h1
  refine ⟨fun σ' H' => ∃ a' b' d' v, σ' = [some (.ref st), some (.int many), some (.int base), v, none] ∧ StL H' st c ns a' b' d' e ∧ Kp st H H', q_if1 ?_, ?_⟩
  · walk_at "S"
    by_cases cb : b = 0
    · by_cases ca : a < (List.map V.int ns).length
      · rw [if_pos cb, if_pos ca]
        subst cb
        rw [List.length_map] at ca
        obtain ⟨n, rfl⟩ : ∃ n : Nat, a = n := ⟨a.toNat, by omega⟩
        have hn : n < ns.length := by omega
        have hx : (List.map V.int ns)[n]? = some (V.int ns[n]) := by simp [hn]
        refine q_asg ?_
        walk_at "S"
        refine at_nat hx ?_
        walk_at "S"
        refine q_asg ?_
        walk_at "S"
        refine q_if ?_
        walk_at "S"
        refine ⟨⟨by decide, by decide, by decide⟩, ?_⟩
        split
        · walk_at "S"
          refine ⟨_, _, rfl, fun r r0 r1 => ?_⟩
          walk_at "s"
          refine ⟨hb1, ?_⟩
          refine q _ _ (Int.emod_nonneg r (show base ≠ 0 by omega)) ?_ (k1.put upd_same) ⟨c, ns, _, _, _, _, upd_same, ?_, h3, ?_, h5⟩
          · exact below hb1 hb2 r
          · rw [upd_ne h3, upd_ne h3]; exact h2
          · omega
        · walk_at "S"
          refine q_asg1 ?_
          walk_at "S"
          refine ⟨_, _, _, ⟨upd_same, ?_, h3, ?_, h5⟩, (k1.put upd_same).put upd_same⟩
          · rw [upd_ne h3, upd_ne h3, upd_ne h3]; exact h2
          · omega
      · rw [if_pos cb, if_neg ca]
        walk_at "s"
        exact ⟨_, _, _, upd_same, by rw [upd_ne h3]; exact h2, h3, h4, h5⟩
    · rw [if_neg cb]
      walk_at "s"
      exact ⟨_, _, _, upd_same, by rw [upd_ne h3]; exact h2, h3, h4, h5⟩
  · rintro σ' H' ⟨a', b', d', v, rfl, ⟨g1, g2, g3, g4, g5⟩, k2⟩
    refine q_if ?_
    walk_at "S"
    split
    · walk_at "S"
      refine ⟨_, _, rfl, fun r r0 r1 => ?_⟩
      walk_at "s"
      refine ⟨hb1, ?_⟩
      refine q _ _ (Int.emod_nonneg r (show base ≠ 0 by omega)) ?_ k2 ⟨c, ns, _, _, _, _, g1, g2, g3, g4, g5⟩
      exact below hb1 hb2 r
    · walk_at "S"
      refine q_asg ?_
      walk_at "S"
      refine q_asg ?_
      walk_at "S"
      refine ⟨⟨hb1, log_small hb1 hb3⟩, q _ _ (Int.emod_nonneg b' (show base ≠ 0 by omega)) (below hb1 hb2 b') (k2.put g1) ⟨c, ns, _, _, _, _, upd_same, ?_, h3, g4, h5⟩⟩
      rw [upd_ne h3]; exact g2
theorem take_ok {K : PySem.W.Frag} {C : CA} {H : Hp} {Q : VK} {E : XK} {st : Addr} {many : Int} (hs : StAt H st) (hm : many < 2 ^ 64)
    (q : ∀ (r : Int) (H' : Hp), 0 ≤ r → (r < many ∨ r = 0) → Kp st H H' → StAt H' st → Q (.int r) H') : sp_l_take K C [.ref st, .int many] H Q E := ⟨_, _, rfl, hs, hm, q⟩
def sp_l_great (K : PySem.W.Frag) (C : CA) : Sp := fun vs H Q _ => ∃ (st : Addr) (many : Int), vs = [.ref st, .int many] ∧ StAt H st ∧
  ∀ (r : Int) (H' : Hp), 0 ≤ r → (r < many ∨ r = 0) → Kp st H H' → StAt H' st → Q (.int r) H'
def rd_l_great (K : PySem.W.Frag) (C : CA) (E : XK) : TS :=
  (tSeq (tAsg (tC (.int 0)) (gName 2)) (tSeq (tFor (iRng1 (tCons (tC (.int 12)) tNil)) (gName 3) (tAsg (tOp fAdd (tOp fMul (tVar 2) (tC (.int 1000))) (tCallS (sp_l_take K C) (fun _ => E0) (tCons (tVar 0) (tCons (tC (.int 1000)) tNil)))) (gName 2))) (tRet (tOp fMod (tCB fInt (tCons (tVar 2) tNil)) (tCB fMax (tCons (tC (.int 1)) (tCons (tVar 1) tNil)))))))
theorem pure_l_great {K : PySem.W.Frag} {C : CA} (vs : List V) (H : Hp) (Q : VK) (E : XK) (h : sp_l_great K C vs H Q E) : rd_l_great K C E { nx := fun _ H' => Q .non H', rt := Q } (start [("store" : Str), ("many" : Str), ("number" : Str), ("k" : Str)] vs) H := by
  obtain ⟨st, many, rfl, hs, q⟩ := h
  show rd_l_great K C E _ [some (.ref st), some (.int many), none, none] H
  unfold rd_l_great
  refine q_asg ?_
  walk_at "S"
  refine q_for ?_
  walk_at "S"
  refine ⟨by decide, by decide, ?_⟩
  refine loop_range (fun i σ H1 => ∃ (n : Int) (v : Option V), σ = [some (.ref st), some (.int many), some (.int n), v] ∧ Kp st H H1 ∧ StAt H1 st) ⟨_, _, rfl, Kp.refl _ _, hs⟩ ?_ ?_
  · rintro i σ H1 hi ⟨n, v, rfl, k1, s1⟩
    walk_at "s"
    refine q_asg1 ?_
    walk_at "s"
    refine ⟨.inr ⟨by decide, by decide⟩, take_ok s1 (by decide) fun r H2 _ _ k2 s2 => ?_⟩
    walk_at "s"
    exact ⟨k1.trans k2, s2⟩
  · rintro σ H1 ⟨n, v, rfl, k1, s1⟩
    walk_at "s"
    have hb1 : 0 < max 1 many := by omega
    have hb2 : max 1 many = many ∨ max 1 many = 1 := by omega
    exact ⟨hb1, q _ _ (Int.emod_nonneg _ (by omega)) (below hb1 hb2 n) k1 s1⟩
theorem great_ok {K : PySem.W.Frag} {C : CA} {H : Hp} {Q : VK} {E : XK} {st : Addr} {many : Int} (hs : StAt H st)
    (q : ∀ (r : Int) (H' : Hp), 0 ≤ r → (r < many ∨ r = 0) → Kp st H H' → StAt H' st → Q (.int r) H') : sp_l_great K C [.ref st, .int many] H Q E := ⟨_, _, rfl, hs, q⟩
def sp_l_edge (K : PySem.W.Frag) (C : CA) : Sp := fun vs H Q _ => ∃ (st : Addr) (lo hi : Int), vs = [.ref st, .int lo, .int hi] ∧ StAt H st ∧
  ∀ (r : Int) (H' : Hp), lo ≤ r → (r ≤ hi ∨ r = lo) → Kp st H H' → StAt H' st → Q (.int r) H'
theorem edge_ok {K : PySem.W.Frag} {C : CA} {H : Hp} {Q : VK} {E : XK} {st : Addr} {lo hi : Int} (hs : StAt H st)
    (q : ∀ (r : Int) (H' : Hp), lo ≤ r → (r ≤ hi ∨ r = lo) → Kp st H H' → StAt H' st → Q (.int r) H') : sp_l_edge K C [.ref st, .int lo, .int hi] H Q E := ⟨_, _, _, rfl, hs, q⟩
def rd_l_edge (K : PySem.W.Frag) (C : CA) (E : XK) : TS :=
  (tSeq (tIfS (tTest (tOp fLe (tVar 2) (tVar 1))) (tRet (tVar 1)) tNext) (tSeq (tAsg (tCallS (sp_l_take K C) (fun _ => E0) (tCons (tVar 0) (tCons (tC (.int 6)) tNil))) (gName 3)) (tSeq (tIfS (tTest (tOp (fEq K) (tVar 3) (tC (.int 0)))) (tRet (tVar 1)) tNext) (tSeq (tIfS (tTest (tOp (fEq K) (tVar 3) (tC (.int 1)))) (tRet (tVar 2)) tNext) (tSeq (tIfS (tTest (tOp fLt (tOp fSub (tVar 2) (tVar 1)) (tC (.int 1000000)))) (tRet (tOp fAdd (tVar 1) (tCallS (sp_l_take K C) (fun _ => E0) (tCons (tVar 0) (tCons (tOp fAdd (tOp fSub (tVar 2) (tVar 1)) (tC (.int 1))) tNil))))) tNext) (tRet (tOp fAdd (tVar 1) (tCallS (sp_l_great K C) (fun _ => E0) (tCons (tVar 0) (tCons (tOp fAdd (tOp fSub (tVar 2) (tVar 1)) (tC (.int 1))) tNil))))))))))
theorem pure_l_edge {K : PySem.W.Frag} {C : CA} (vs : List V) (H : Hp) (Q : VK) (E : XK) (h : sp_l_edge K C vs H Q E) : rd_l_edge K C E { nx := fun _ H' => Q .non H', rt := Q } (start [("store" : Str), ("low" : Str), ("high" : Str), ("form" : Str)] vs) H := by
  obtain ⟨st, lo, hi, rfl, hs, q⟩ := h
  show rd_l_edge K C E _ [some (.ref st), some (.int lo), some (.int hi), none] H
  unfold rd_l_edge
  refine q_if ?_
  walk_at "s"
  refine ite2 (fun c1 => q _ _ (Int.le_refl _) (.inr rfl) (Kp.refl _ _) hs) fun c1 => ?_
  refine q_asg ?_
  walk_at "s"
  refine take_ok hs (by decide) fun r H1 r0 r1 k1 s1 => ?_
  refine q_if ?_
  walk_at "s"
  refine ite2 (fun c2 => q _ _ (Int.le_refl _) (.inr rfl) k1 s1) fun c2 => ?_
  refine q_if ?_
  walk_at "s"
  refine ite2 (fun c3 => q _ _ (by omega) (.inl (Int.le_refl _)) k1 s1) fun c3 => ?_
  refine q_if ?_
  walk_at "s"
  refine ite2 (fun c4 => ?_) fun c4 => ?_
  · refine take_ok s1 (by omega) fun r H2 r0 r1 k2 s2 => ?_
    walk_at "s"
    exact q _ _ (by omega) (by omega) (k1.trans k2) s2
  · refine great_ok s1 fun r H2 r0 r1 k2 s2 => ?_
    walk_at "s"
    exact q _ _ (by omega) (by omega) (k1.trans k2) s2
def sp_l_number (K : PySem.W.Frag) (C : CA) : Sp := fun vs H Q _ => ∃ (st : Addr), vs = [.ref st] ∧ StAt H st ∧
  ∀ (r : Int) (H' : Hp), -(10 ^ 30) < r → r < 10 ^ 30 → Kp st H H' → StAt H' st → Q (.int r) H'
theorem number_ok {K : PySem.W.Frag} {C : CA} {H : Hp} {Q : VK} {E : XK} {st : Addr} (hs : StAt H st)
    (q : ∀ (r : Int) (H' : Hp), -(10 ^ 30) < r → r < 10 ^ 30 → Kp st H H' → StAt H' st → Q (.int r) H') : sp_l_number K C [.ref st] H Q E := ⟨_, rfl, hs, q⟩
def rd_l_number (K : PySem.W.Frag) (C : CA) (E : XK) : TS :=
  (tSeq (tAsg (tOp fSub (tOp fPow (tC (.int 10)) (tC (.int 30))) (tC (.int 1))) (gName 1)) (tSeq (tAsg (tCallS (sp_l_take K C) (fun _ => E0) (tCons (tVar 0) (tCons (tC (.int 9)) tNil))) (gName 2)) (tSeq (tIfS (tTest (tOp fLt (tVar 2) (tC (.int 5)))) (tRet (tOp fIx (tLst (tCons (tC (.int 0)) (tCons (tC (.int 1)) (tCons (tUn fNeg (tC (.int 1))) (tCons (tVar 1) (tCons (tOp fSub (tC (.int 0)) (tVar 1)) tNil)))))) (tVar 2))) tNext) (tSeq (tIfS (tTest (tOp fLt (tVar 2) (tC (.int 7)))) (tRet (tOp fSub (tCallS (sp_l_take K C) (fun _ => E0) (tCons (tVar 0) (tCons (tC (.int 101)) tNil))) (tC (.int 20)))) tNext) (tRet (tOp fSub (tCallS (sp_l_great K C) (fun _ => E0) (tCons (tVar 0) (tCons (tOp fAdd (tOp fMul (tC (.int 2)) (tVar 1)) (tC (.int 1))) tNil))) (tVar 1)))))))
theorem pure_l_number {K : PySem.W.Frag} {C : CA} (vs : List V) (H : Hp) (Q : VK) (E : XK) (h : sp_l_number K C vs H Q E) : rd_l_number K C E { nx := fun _ H' => Q .non H', rt := Q } (start [("store" : Str), ("top" : Str), ("form" : Str)] vs) H := by
  obtain ⟨st, rfl, hs, q⟩ := h
  show rd_l_number K C E _ [some (.ref st), none, none] H
  unfold rd_l_number
  refine q_asg ?_
  walk_at "s"
  refine ⟨⟨by decide, by decide, by decide⟩, ?_⟩
  refine q_asg ?_
  walk_at "s"
  refine take_ok hs (by decide) fun r H1 r0 r1 k1 s1 => ?_
  refine q_if ?_
  walk_at "s"
  refine ite2 (fun c2 => ?_) fun c2 => ?_
  · refine ⟨by decide, fun p hp => ?_⟩
    walk_at "s"
    have kp : Kp st H (upd H1 p (.lst [V.int 0, V.int 1, V.int (-1), V.int (10 ^ Int.toNat 30 - 1), V.int (0 - (10 ^ Int.toNat 30 - 1))])) := k1.new hp
    have sp : StAt (upd H1 p (.lst [V.int 0, V.int 1, V.int (-1), V.int (10 ^ Int.toNat 30 - 1), V.int (0 - (10 ^ Int.toNat 30 - 1))])) st := s1.new hp
    obtain rfl | rfl | rfl | rfl | rfl : r = 0 ∨ r = 1 ∨ r = 2 ∨ r = 3 ∨ r = 4 := by omega
    all_goals
      walk_at "s"
      exact q _ _ (by decide) (by decide) kp sp
  · refine q_if ?_
    walk_at "s"
    refine ite2 (fun c3 => ?_) fun c3 => ?_
    · refine take_ok s1 (by decide) fun r H2 r0 r1 k2 s2 => ?_
      walk_at "s"
      exact q _ _ (by omega) (by omega) (k1.trans k2) s2
    · refine ⟨.inl ⟨by decide, by decide⟩, great_ok s1 fun r H2 r0 r1 k2 s2 => ?_⟩
      walk_at "s"
      have e : (10 : Int) ^ Int.toNat 30 = 1000000000000000000000000000000 := by decide
      rw [e] at r1 ⊢
      exact q _ _ (by omega) (by omega) (k1.trans k2) s2
def sp_l_pick (K : PySem.W.Frag) (C : CA) : Sp := fun vs H Q _ => ∃ (st p : Addr) (xs : List V), vs = [.ref st, .ref p] ∧ StAt H st ∧ asS (H p) = some xs ∧ p ≠ st ∧ xs.length < 2 ^ 60 ∧
  (xs = [] → Q .non H) ∧ ∀ (n : Nat) (v : V) (H' : Hp), xs[n]? = some v → Kp st H H' → StAt H' st → Q v H'
def rd_l_pick (K : PySem.W.Frag) (C : CA) (E : XK) : TS :=
  (tSeq (tIfS (tTest (tOp (fEq K) (tCB fLen (tCons (tVar 1) tNil)) (tC (.int 0)))) (tRet (tC .non)) tNext) (tRet (tOp fIx (tVar 1) (tCallS (sp_l_take K C) (fun _ => E0) (tCons (tVar 0) (tCons (tCB fLen (tCons (tVar 1) tNil)) tNil))))))
theorem pure_l_pick {K : PySem.W.Frag} {C : CA} (vs : List V) (H : Hp) (Q : VK) (E : XK) (h : sp_l_pick K C vs H Q E) : rd_l_pick K C E { nx := fun _ H' => Q .non H', rt := Q } (start [("store" : Str), ("row" : Str)] vs) H := by
  obtain ⟨st, p, xs, rfl, hs, hp, hne, hl, q0, q⟩ := h
  show rd_l_pick K C E _ [some (.ref st), some (.ref p)] H
  unfold rd_l_pick
  refine q_if ?_
  walk_at "s"
  rw [hp]
  walk_at "s"
  refine ite2 (fun c => ?_) fun c => ?_
  · walk_at "s"
    exact q0 (by cases xs with | nil => rfl | cons _ _ => simp at c; omega)
  · walk_at "s"
    refine take_ok hs (by omega) fun r H1 r0 r1 k1 s1 => ?_
    walk_at "s"
    obtain ⟨n, rfl⟩ : ∃ n : Nat, r = n := ⟨r.toNat, by omega⟩
    have hn : n < xs.length := by omega
    rw [k1.asS hne hp]
    exact at_nat (v := xs[n]) (by simp [hn]) (q n _ _ (by simp [hn]) k1 s1)
end XB

/-! The program's numbers. -/
namespace XB
open PySem L2
local macro_rules | `(tactic| walk_at "s") => `(tactic| try simp only [u_var, u_c, u_op, u_un, u_nil, u_cons, u_cb, u_call, u_callS, u_tup, u_lst, u_test, u_B, u_and, u_or, u_not, u_andV, u_orV, u_notV, u_ifE, u_chain, u_sl, u_noPart, u_part, u_bm, u_bm0, u_rev, u_lc, u_try, u_sui, u_sui0, u_unb_rt, u_unb_nx, u_xf, u_WE, w_nil, w_cons, u_raise, u_rng1, u_rng2, u_next, u_ret, u_gname, u_gnil, u_gcons, u_gsub, u_gtup,
  f_add, f_addS, f_addR, f_sub, f_mul, f_mulR, f_mod, f_div, f_pow, f_neg, f_cmp, f_eq, f_eqB, f_eqS, f_ne, f_neB, f_neS, f_isN, f_notN, f_isB, f_ix, f_ixS, f_int, f_intB, f_len, f_lenS, f_max, f_min, f_abs, f_list, f_tuple, f_all, f_sum, f_isi, f_isiT, f_append, f_insert, f_pop, f_sl, f_set,
  kitS, tys, List.isEmpty_cons, Option.map_some, kt_NoneType_int, kt_NoneType_bool, kt_NoneType_str, kt_NoneType_list, kt_NoneType_tuple, kt_NoneType_dict, kt_int_int, kt_int_bool, kt_int_str, kt_int_list, kt_int_tuple, kt_int_dict, kt_bool_int, kt_bool_bool, kt_bool_str, kt_bool_list, kt_bool_tuple, kt_bool_dict, kt_str_int, kt_str_bool, kt_str_str, kt_str_list, kt_str_tuple, kt_str_dict, kt_list_int, kt_list_bool, kt_list_str, kt_list_list, kt_list_tuple, kt_list_dict, kt_tuple_int, kt_tuple_bool, kt_tuple_str, kt_tuple_list, kt_tuple_tuple, kt_tuple_dict, kt_dict_int, kt_dict_bool, kt_dict_str, kt_dict_list, kt_dict_tuple, kt_dict_dict, asL_lst, asL_frz, asL_tup, asT_tup, asS_lst, asS_frz, asS_tup, tyN_non, tyN_bl, tyN_int, tyN_str, atV_lit, ixN_lit, upd_same, upd_ne, upd_ne',
  List.getElem?_cons_zero, List.getElem?_cons_succ, List.set_cons_zero, List.set_cons_succ, List.append_nil, List.length_cons, List.length_nil, Option.some.injEq, exists_eq_left', exists_eq_left, exists_and_left, V.bl.injEq, V.int.injEq, V.str.injEq, V.ref.injEq, Bool.not_eq_true, Bool.not_true, Bool.not_false, decide_true, decide_false, decide_eq_true_eq, decide_eq_false_iff_not, Bool.false_eq_true, if_true, if_false, ite_true, ite_false, reduceCtorEq, true_and, and_true, Nat.reduceAdd, Nat.reduceLT, Nat.zero_add, ne_eq, not_false_eq_true, not_true_eq_false, List.cons.injEq, and_assoc])
local macro_rules | `(tactic| walk_at "S") => `(tactic| try simp only [u_var, u_c, u_op, u_un, u_nil, u_cons, u_cb, u_call, u_callS, u_tup, u_lst, u_test, u_B, u_and, u_or, u_not, u_andV, u_orV, u_notV, u_ifE, u_chain, u_sl, u_noPart, u_part, u_bm, u_bm0, u_rev, u_lc, u_try, u_sui, u_sui0, u_unb_rt, u_unb_nx, u_xf, u_WE, w_nil, w_cons, u_raise, u_rng1, u_rng2, u_next, u_ret, u_gname, u_gnil, u_gcons, u_gsub, u_gtup,
  f_add, f_addS, f_addR, f_sub, f_mul, f_mulR, f_mod, f_div, f_pow, f_neg, f_cmp, f_eq, f_eqB, f_eqS, f_ne, f_neB, f_neS, f_isN, f_notN, f_isB, f_ix, f_ixS, f_int, f_intB, f_len, f_lenS, f_max, f_min, f_abs, f_list, f_tuple, f_all, f_sum, f_isi, f_isiT, f_append, f_insert, f_pop, f_sl, f_set,
  kitS, tys, List.isEmpty_cons, Option.map_some, kt_NoneType_int, kt_NoneType_bool, kt_NoneType_str, kt_NoneType_list, kt_NoneType_tuple, kt_NoneType_dict, kt_int_int, kt_int_bool, kt_int_str, kt_int_list, kt_int_tuple, kt_int_dict, kt_bool_int, kt_bool_bool, kt_bool_str, kt_bool_list, kt_bool_tuple, kt_bool_dict, kt_str_int, kt_str_bool, kt_str_str, kt_str_list, kt_str_tuple, kt_str_dict, kt_list_int, kt_list_bool, kt_list_str, kt_list_list, kt_list_tuple, kt_list_dict, kt_tuple_int, kt_tuple_bool, kt_tuple_str, kt_tuple_list, kt_tuple_tuple, kt_tuple_dict, kt_dict_int, kt_dict_bool, kt_dict_str, kt_dict_list, kt_dict_tuple, kt_dict_dict, asL_lst, asL_frz, asL_tup, asT_tup, asS_lst, asS_frz, asS_tup, tyN_non, tyN_bl, tyN_int, tyN_str, atV_lit, ixN_lit, upd_same, upd_ne, upd_ne',
  List.getElem?_cons_zero, List.getElem?_cons_succ, List.set_cons_zero, List.set_cons_succ, List.append_nil, List.length_cons, List.length_nil, Option.some.injEq, exists_eq_left', exists_eq_left, exists_and_left, V.bl.injEq, V.int.injEq, V.str.injEq, V.ref.injEq, Bool.not_eq_true, Bool.not_true, Bool.not_false, decide_true, decide_false, decide_eq_true_eq, decide_eq_false_iff_not, Bool.false_eq_true, if_true, if_false, ite_true, ite_false, reduceCtorEq, true_and, and_true, Nat.reduceAdd, Nat.reduceLT, Nat.zero_add, ne_eq, not_false_eq_true, not_true_eq_false, List.cons.injEq, and_assoc, *])
/-- a value of a built-in class -/
def Ty (v : V) (H : Hp) : Prop := ∃ t, tyN v H = some t
theorem ty_cases {v : V} {H : Hp} (h : Ty v H) : v = .non ∨ (∃ b, v = .bl b) ∨ (∃ i, v = .int i) ∨ (∃ z, v = .str z) ∨ ∃ p, v = .ref p ∧
    ((tyN (.ref p) H = some "list" ∧ ∃ xs, asL (H p) = some xs) ∨ (tyN (.ref p) H = some "tuple" ∧ ∃ xs, asT (H p) = some xs ∧ asL (H p) = none) ∨ (tyN (.ref p) H = some "dict" ∧ asS (H p) = none)) := by
  obtain ⟨t, h⟩ := h
  cases v with
  | non => exact .inl rfl
  | bl b => exact .inr (.inl ⟨b, rfl⟩)
  | int i => exact .inr (.inr (.inl ⟨i, rfl⟩))
  | str z => exact .inr (.inr (.inr (.inl ⟨z, rfl⟩)))
  | ref p =>
    refine .inr (.inr (.inr (.inr ⟨p, rfl, ?_⟩)))
    dsimp only [tyN] at h ⊢
    split at h
    · rename_i xs e; rw [e]; exact .inl ⟨rfl, xs, rfl⟩
    · rename_i o xs e; rw [e]; exact .inl ⟨rfl, xs, rfl⟩
    · rename_i xs e; rw [e]; exact .inr (.inl ⟨rfl, xs, rfl, rfl⟩)
    · rename_i o xs e; rw [e]; exact .inr (.inl ⟨rfl, xs, rfl, rfl⟩)
    · rename_i kvs e; rw [e]; exact .inr (.inr ⟨rfl, rfl⟩)
    · rename_i kvs e; rw [e]; exact .inr (.inr ⟨rfl, rfl⟩)
    · rename_i o kvs e; rw [e]; exact .inr (.inr ⟨rfl, rfl⟩)
    · cases h
  | byt b => cases h
  | flt b => cases h
  | ty n => cases h
def isI : V → Bool
  | .int _ => true
  | _ => false
def isNum : V → Bool
  | .int i => decide (0 ≤ i)
  | _ => false
def baseOk : V → Bool
  | .int i => decide (1 ≤ i) && decide (i ≤ 1000)
  | _ => false
/-- the list that the value is -/
def lstOf (v : V) (H : Hp) : Option (List V) := match v with
  | .ref p => asL (H p)
  | _ => none
def basesOk (v : V) (H : Hp) : Bool := match lstOf v H with
  | some xs => decide (xs.length ≤ 60) && xs.all baseOk
  | none => false
theorem tyN_mono {v : V} {H H' : Hp} {t : String} (s : ∀ b o, H b = some o → H' b = some o) (h : tyN v H = some t) : tyN v H' = some t := by
  cases v with
  | ref p =>
    dsimp only [tyN] at h ⊢
    cases e : H p with
    | none => rw [e] at h; cases h
    | some o => rw [e] at h; rw [s p o e]; exact h
  | _ => exact h
theorem asS_of_L {o : Option HO} {xs : List V} (h : asL o = some xs) : asS o = some xs := by
  unfold asS
  rw [h]
def sp_is_whole (K : PySem.W.Frag) (C : CA) : Sp := fun vs H Q _ => ∃ v, vs = [v] ∧ Ty v H ∧ Q (.bl (isI v)) H
def rd_is_whole (K : PySem.W.Frag) (C : CA) (E : XK) : TS :=
  (tRet (tAndV (tCB fIsi (tCons (tVar 0) (tCons (tC (.ty "int")) tNil))) (tNotV (tCB fIsi (tCons (tVar 0) (tCons (tC (.ty "bool")) tNil))))))
theorem pure_is_whole {K : PySem.W.Frag} {C : CA} (vs : List V) (H : Hp) (Q : VK) (E : XK) (h : sp_is_whole K C vs H Q E) : rd_is_whole K C E { nx := fun _ H' => Q .non H', rt := Q } (start [("value" : Str)] vs) H := by
  obtain ⟨v, rfl, ht, q⟩ := h
  show rd_is_whole K C E _ [some v] H
  unfold rd_is_whole
  refine q_ret ?_
  walk_at "s"
  rcases ty_cases ht with rfl | ⟨b, rfl⟩ | ⟨i, rfl⟩ | ⟨z, rfl⟩ | ⟨p, rfl, ⟨e, _⟩ | ⟨e, _⟩ | ⟨e, _⟩⟩ <;> (try rw [e]) <;> (walk_at "s") <;> exact q
def sp_is_number (K : PySem.W.Frag) (C : CA) : Sp := fun vs H Q _ => ∃ v, vs = [v] ∧ Ty v H ∧ Q (.bl (isNum v)) H
def rd_is_number (K : PySem.W.Frag) (C : CA) (E : XK) : TS :=
  (tRet (tAndV (tCallS (sp_is_whole K C) (fun _ => E0) (tCons (tVar 0) tNil)) (tOp fGe (tVar 0) (tC (.int 0)))))
theorem pure_is_number {K : PySem.W.Frag} {C : CA} (vs : List V) (H : Hp) (Q : VK) (E : XK) (h : sp_is_number K C vs H Q E) : rd_is_number K C E { nx := fun _ H' => Q .non H', rt := Q } (start [("value" : Str)] vs) H := by
  obtain ⟨v, rfl, ht, q⟩ := h
  show rd_is_number K C E _ [some v] H
  unfold rd_is_number
  refine q_ret ?_
  walk_at "s"
  refine ⟨v, rfl, ht, ?_⟩
  walk_at "s"
  cases v with
  | int i => walk_at "s"; exact q
  | _ => exact q
/-- digits for good bases -/
def digitsIn : List V → List Int → Bool
  | [], [] => true
  | .int d :: ds, b :: bs => decide (0 ≤ d) && decide (d < b) && digitsIn ds bs
  | _, _ => false
def digitOk : V → V → Bool
  | .int d, .int b => decide (0 ≤ d) && decide (d < b)
  | _, _ => false
theorem zip_bools : ∀ {xs : List V} {ns : List Int}, xs.length = ns.length → List.zipWith (fun b d => V.bl (digitOk d b)) (ns.map V.int) xs = (List.zipWith (fun d b => digitOk d (.int b)) xs ns).map V.bl
  | [], [], _ => rfl
  | x :: xs, n :: ns, h => by
    have ih := zip_bools (xs := xs) (ns := ns) (by simpa using h)
    simp only [List.map_cons, List.zipWith_cons_cons, ih]
  | [], _ :: _, h => by simp at h
  | _ :: _, [], h => by simp at h
theorem digits_all : ∀ {xs : List V} {ns : List Int}, xs.length = ns.length → digitsIn xs ns = (List.zipWith (fun d b => digitOk d (.int b)) xs ns).all id
  | [], [], _ => rfl
  | x :: xs, n :: ns, h => by
    have ih := digits_all (xs := xs) (ns := ns) (by simpa using h)
    simp only [List.zipWith_cons_cons, List.all_cons, ← ih, id_eq]
    cases x <;> simp [digitsIn, digitOk]
  | [], _ :: _, h => by simp at h
  | _ :: _, [], h => by simp at h
theorem digits_short : ∀ {xs : List V} {ns : List Int}, ¬ xs.length = ns.length → digitsIn xs ns = false
  | [], [], h => absurd rfl h
  | x :: xs, n :: ns, h => by
    have ih := digits_short (xs := xs) (ns := ns) (by simpa using h)
    cases x <;> simp [digitsIn, ih]
  | [], _ :: _, _ => rfl
  | x :: _, [], _ => by cases x <;> rfl
def digitsOk (v : V) (H : Hp) (ns : List Int) : Bool := match lstOf v H with
  | some xs => digitsIn xs ns
  | none => false
/-- .. and so are the parts of a list -/
def TyD (v : V) (H : Hp) : Prop := Ty v H ∧ ∀ xs, lstOf v H = some xs → ∀ x ∈ xs, Ty x H
theorem Ty.mono {v : V} {H H' : Hp} (h : Ty v H) (s : Sm H H') : Ty v H' := by
  obtain ⟨t, e⟩ := h
  exact ⟨t, tyN_mono s e⟩
theorem lst_ty {H : Hp} {p : Addr} {xs : List V} (h : asL (H p) = some xs) : tyN (.ref p) H = some "list" := by
  dsimp only [tyN]
  cases e : H p with
  | none => rw [e] at h; cases h
  | some o =>
    rw [e] at h
    cases o with
    | lst ys => rfl
    | frz ob u => cases u <;> first | rfl | (cases h)
    | _ => cases h
theorem asL_back {H H' : Hp} {p : Addr} {t : String} {ys : List V} (s : Sm H H') (h : tyN (.ref p) H = some t) (e : asL (H' p) = some ys) : asL (H p) = some ys := by
  dsimp only [tyN] at h
  cases eo : H p with
  | none => rw [eo] at h; cases h
  | some o => rw [s p o eo] at e; exact e
theorem lstOf_mono {v : V} {H H' : Hp} (s : Sm H H') (h : Ty v H) : lstOf v H' = lstOf v H := by
  obtain ⟨t, h⟩ := h
  cases v with
  | ref p =>
    dsimp only [lstOf]
    cases e : H p with
    | none => dsimp only [tyN] at h; rw [e] at h; cases h
    | some o => rw [s p o e]
  | _ => rfl
theorem TyD.mono {v : V} {H H' : Hp} (h : TyD v H) (s : Sm H H') : TyD v H' := ⟨h.1.mono s, fun xs e x hx => (h.2 xs (by rw [← lstOf_mono s h.1]; exact e) x hx).mono s⟩
theorem ints_ty {H : Hp} {ns : List Int} : ∀ x ∈ ns.map V.int, Ty x H := fun x hx => by
  obtain ⟨n, _, rfl⟩ := List.mem_map.mp hx
  exact ⟨"int", rfl⟩
theorem TyD.ints {H : Hp} {p : Addr} {ns : List Int} (h : asL (H p) = some (ns.map V.int)) : TyD (.ref p) H := ⟨⟨_, lst_ty h⟩, fun xs e x hx => by
  have e2 : asL (H p) = some xs := e
  rw [h] at e2
  cases e2
  exact ints_ty x hx⟩
theorem bases_ok {H : Hp} {p : Addr} {ns : List Int} (h : asL (H p) = some (ns.map V.int)) (hl : ns.length ≤ 60) (hb : ∀ n ∈ ns, 1 ≤ n ∧ n ≤ 1000) : basesOk (.ref p) H = true := by
  unfold basesOk lstOf
  simp only [h, List.length_map, hl, decide_true, Bool.true_and, List.all_map, List.all_eq_true]
  intro n hn
  simp [baseOk, hb n hn]
/-- the error's own dict -/
def ErrAt (H H' : Hp) (d : Addr) (fs : List (Str × V)) : Prop := Sm H H' ∧ H' d = some (.xd fs)
def mixV : List Int → List Int → Int → Int
  | b :: bs, d :: ds, a => mixV bs ds (a * b + d)
  | _, _, a => a
theorem mixV_take : ∀ {bs ds : List Int} {i : Nat} {b d a : Int}, bs[i]? = some b → ds[i]? = some d → mixV (bs.take (i + 1)) (ds.take (i + 1)) a = mixV (bs.take i) (ds.take i) a * b + d
  | b0 :: bs, d0 :: ds, 0, b, d, a, h1, h2 => by
    cases h1
    cases h2
    simp [mixV]
  | b0 :: bs, d0 :: ds, i + 1, b, d, a, h1, h2 => by
    have ih := mixV_take (bs := bs) (ds := ds) (i := i) (b := b) (d := d) (a := a * b0 + d0) h1 h2
    simp only [List.take_succ_cons, mixV]
    exact ih
  | [], _, _, _, _, _, h1, _ => by simp at h1
  | _ :: _, [], _, _, _, _, _, h2 => by simp at h2
theorem digitsIn_len : ∀ {ds ns : List Int}, digitsIn (ds.map V.int) ns = true → ds.length = ns.length
  | [], [], _ => rfl
  | d :: ds, n :: ns, h => by
    simp only [List.map_cons, digitsIn, Bool.and_eq_true] at h
    have ih := digitsIn_len h.2
    simp [ih]
  | [], _ :: _, h => by simp [digitsIn] at h
  | _ :: _, [], h => by simp [digitsIn] at h
theorem get_int {ns : List Int} {i : Nat} {x : V} (h : (ns.map V.int)[i]? = some x) : ∃ n, ns[i]? = some n ∧ x = V.int n := by
  rw [List.getElem?_map] at h
  cases e : ns[i]? with
  | none => rw [e] at h; cases h
  | some n => rw [e] at h; exact ⟨n, rfl, (Option.some.inj h).symm⟩
def prodL (ns : List Int) : Int := ns.foldl (· * ·) 1
/-- digits, the lowest first -/
def lowD : List Int → Int → List Int
  | b :: bs, x => x % b :: lowD bs (x / b)
  | [], _ => []
def lowQ : List Int → Int → Int
  | b :: bs, x => lowQ bs (x / b)
  | [], x => x
theorem lowD_take : ∀ {bs : List Int} {i : Nat} {b x : Int}, bs[i]? = some b → lowD (bs.take (i + 1)) x = lowD (bs.take i) x ++ [lowQ (bs.take i) x % b]
  | b0 :: bs, 0, b, x, h => by cases h; rfl
  | b0 :: bs, i + 1, b, x, h => by
    have ih := lowD_take (bs := bs) (i := i) (b := b) (x := x / b0) h
    simp only [List.take_succ_cons, lowD, lowQ, ih, List.cons_append]
  | [], _, _, _, h => by simp at h
theorem lowQ_take : ∀ {bs : List Int} {i : Nat} {b x : Int}, bs[i]? = some b → lowQ (bs.take (i + 1)) x = lowQ (bs.take i) x / b
  | b0 :: bs, 0, b, x, h => by cases h; rfl
  | b0 :: bs, i + 1, b, x, h => by
    have ih := lowQ_take (bs := bs) (i := i) (b := b) (x := x / b0) h
    simp only [List.take_succ_cons, lowQ, ih]
  | [], _, _, _, h => by simp at h
theorem prodL_take {bs : List Int} {i : Nat} {b : Int} (h : bs[i]? = some b) : prodL (bs.take (i + 1)) = prodL (bs.take i) * b := by
  unfold prodL
  rw [List.take_add_one, h, List.foldl_append]
  rfl
theorem lowD_len : ∀ {bs : List Int} {x : Int}, (lowD bs x).length = bs.length
  | [], _ => rfl
  | _ :: bs, x => by simp [lowD, lowD_len (bs := bs)]
def digs (ns : List Int) (x : Int) : List Int := (lowD ns.reverse x).reverse
end XB

/-! The law's helpers. -/
namespace XB
open PySem L2
local macro_rules | `(tactic| walk_at "s") => `(tactic| try simp only [u_var, u_c, u_op, u_un, u_nil, u_cons, u_cb, u_call, u_callS, u_tup, u_lst, u_test, u_B, u_and, u_or, u_not, u_andV, u_orV, u_notV, u_ifE, u_chain, u_sl, u_noPart, u_part, u_bm, u_bm0, u_rev, u_lc, u_try, u_sui, u_sui0, u_unb_rt, u_unb_nx, u_xf, u_WE, w_nil, w_cons, u_raise, u_rng1, u_rng2, u_next, u_ret, u_gname, u_gnil, u_gcons, u_gsub, u_gtup,
  f_add, f_addS, f_addR, f_sub, f_mul, f_mulR, f_mod, f_div, f_pow, f_neg, f_cmp, f_eq, f_eqB, f_eqS, f_ne, f_neB, f_neS, f_isN, f_notN, f_isB, f_ix, f_ixS, f_int, f_intB, f_len, f_lenS, f_max, f_min, f_abs, f_list, f_tuple, f_all, f_sum, f_isi, f_isiT, f_append, f_insert, f_pop, f_sl, f_set,
  kitS, tys, List.isEmpty_cons, Option.map_some, kt_NoneType_int, kt_NoneType_bool, kt_NoneType_str, kt_NoneType_list, kt_NoneType_tuple, kt_NoneType_dict, kt_int_int, kt_int_bool, kt_int_str, kt_int_list, kt_int_tuple, kt_int_dict, kt_bool_int, kt_bool_bool, kt_bool_str, kt_bool_list, kt_bool_tuple, kt_bool_dict, kt_str_int, kt_str_bool, kt_str_str, kt_str_list, kt_str_tuple, kt_str_dict, kt_list_int, kt_list_bool, kt_list_str, kt_list_list, kt_list_tuple, kt_list_dict, kt_tuple_int, kt_tuple_bool, kt_tuple_str, kt_tuple_list, kt_tuple_tuple, kt_tuple_dict, kt_dict_int, kt_dict_bool, kt_dict_str, kt_dict_list, kt_dict_tuple, kt_dict_dict, asL_lst, asL_frz, asL_tup, asT_tup, asS_lst, asS_frz, asS_tup, tyN_non, tyN_bl, tyN_int, tyN_str, atV_lit, ixN_lit, upd_same, upd_ne, upd_ne',
  List.getElem?_cons_zero, List.getElem?_cons_succ, List.set_cons_zero, List.set_cons_succ, List.append_nil, List.length_cons, List.length_nil, Option.some.injEq, exists_eq_left', exists_eq_left, exists_and_left, V.bl.injEq, V.int.injEq, V.str.injEq, V.ref.injEq, Bool.not_eq_true, Bool.not_true, Bool.not_false, decide_true, decide_false, decide_eq_true_eq, decide_eq_false_iff_not, Bool.false_eq_true, if_true, if_false, ite_true, ite_false, reduceCtorEq, true_and, and_true, Nat.reduceAdd, Nat.reduceLT, Nat.zero_add, ne_eq, not_false_eq_true, not_true_eq_false, List.cons.injEq, and_assoc])
local macro_rules | `(tactic| walk_at "S") => `(tactic| try simp only [u_var, u_c, u_op, u_un, u_nil, u_cons, u_cb, u_call, u_callS, u_tup, u_lst, u_test, u_B, u_and, u_or, u_not, u_andV, u_orV, u_notV, u_ifE, u_chain, u_sl, u_noPart, u_part, u_bm, u_bm0, u_rev, u_lc, u_try, u_sui, u_sui0, u_unb_rt, u_unb_nx, u_xf, u_WE, w_nil, w_cons, u_raise, u_rng1, u_rng2, u_next, u_ret, u_gname, u_gnil, u_gcons, u_gsub, u_gtup,
  f_add, f_addS, f_addR, f_sub, f_mul, f_mulR, f_mod, f_div, f_pow, f_neg, f_cmp, f_eq, f_eqB, f_eqS, f_ne, f_neB, f_neS, f_isN, f_notN, f_isB, f_ix, f_ixS, f_int, f_intB, f_len, f_lenS, f_max, f_min, f_abs, f_list, f_tuple, f_all, f_sum, f_isi, f_isiT, f_append, f_insert, f_pop, f_sl, f_set,
  kitS, tys, List.isEmpty_cons, Option.map_some, kt_NoneType_int, kt_NoneType_bool, kt_NoneType_str, kt_NoneType_list, kt_NoneType_tuple, kt_NoneType_dict, kt_int_int, kt_int_bool, kt_int_str, kt_int_list, kt_int_tuple, kt_int_dict, kt_bool_int, kt_bool_bool, kt_bool_str, kt_bool_list, kt_bool_tuple, kt_bool_dict, kt_str_int, kt_str_bool, kt_str_str, kt_str_list, kt_str_tuple, kt_str_dict, kt_list_int, kt_list_bool, kt_list_str, kt_list_list, kt_list_tuple, kt_list_dict, kt_tuple_int, kt_tuple_bool, kt_tuple_str, kt_tuple_list, kt_tuple_tuple, kt_tuple_dict, kt_dict_int, kt_dict_bool, kt_dict_str, kt_dict_list, kt_dict_tuple, kt_dict_dict, asL_lst, asL_frz, asL_tup, asT_tup, asS_lst, asS_frz, asS_tup, tyN_non, tyN_bl, tyN_int, tyN_str, atV_lit, ixN_lit, upd_same, upd_ne, upd_ne',
  List.getElem?_cons_zero, List.getElem?_cons_succ, List.set_cons_zero, List.set_cons_succ, List.append_nil, List.length_cons, List.length_nil, Option.some.injEq, exists_eq_left', exists_eq_left, exists_and_left, V.bl.injEq, V.int.injEq, V.str.injEq, V.ref.injEq, Bool.not_eq_true, Bool.not_true, Bool.not_false, decide_true, decide_false, decide_eq_true_eq, decide_eq_false_iff_not, Bool.false_eq_true, if_true, if_false, ite_true, ite_false, reduceCtorEq, true_and, and_true, Nat.reduceAdd, Nat.reduceLT, Nat.zero_add, ne_eq, not_false_eq_true, not_true_eq_false, List.cons.injEq, and_assoc, *])
/-- item by item -/
def All2 (R : V → PyData → Prop) (xs : List V) (ds : List PyData) : Prop := xs.length = ds.length ∧ ∀ (i : Nat) (x : V) (d : PyData), xs[i]? = some x → ds[i]? = some d → R x d
def Flat (m : Nat) (v : V) (d : PyData) : Prop := (v = .non ∧ d = .none) ∨ (∃ b, v = .bl b ∧ d = .bool b) ∨ (∃ i, v = .int i ∧ d = .int i) ∨ ∃ z : Str, (v = .str z ∧ z.length ≤ m) ∧ d = .str z
/-- v stands for the data d, at most n deep, of texts and rows of at most m -/
def RpM (m : Nat) (H : Hp) : Nat → V → PyData → Prop
  | 0, v, d => Flat m v d
  | n + 1, v, d => Flat m v d ∨ (∃ p xs ds, v = .ref p ∧ asL (H p) = some xs ∧ d = .list ds ∧ xs.length ≤ m ∧ All2 (RpM m H n) xs ds) ∨
    (∃ p xs ds, v = .ref p ∧ asT (H p) = some xs ∧ d = .tuple ds ∧ xs.length ≤ m ∧ All2 (RpM m H n) xs ds) ∨ ∃ p kvs, v = .ref p ∧ H p = some (.dK kvs) ∧ d = .dict []
abbrev Rp := RpM 1000
theorem Flat.wide {m k : Nat} {v : V} {d : PyData} (hk : m ≤ k) (h : Flat m v d) : Flat k v d := by
  rcases h with h | h | h | ⟨z, ⟨e1, e2⟩, e3⟩
  · exact .inl h
  · exact .inr (.inl h)
  · exact .inr (.inr (.inl h))
  · exact .inr (.inr (.inr ⟨z, ⟨e1, Nat.le_trans e2 hk⟩, e3⟩))
theorem RpM.mono {m : Nat} {H H' : Hp} (s : Sm H H') : ∀ {n : Nat} {v : V} {d : PyData}, RpM m H n v d → RpM m H' n v d
  | 0, _, _, h => h
  | n + 1, v, d, h => by
    rcases h with h | ⟨p, xs, ds, e1, e2, e3, e4, e5, e6⟩ | ⟨p, xs, ds, e1, e2, e3, e4, e5, e6⟩ | ⟨p, kvs, e1, e2, e3⟩
    · exact .inl h
    · exact .inr (.inl ⟨p, xs, ds, e1, sm_L s e2, e3, e4, e5, fun i x d hx hd => RpM.mono s (e6 i x d hx hd)⟩)
    · exact .inr (.inr (.inl ⟨p, xs, ds, e1, sm_T s e2, e3, e4, e5, fun i x d hx hd => RpM.mono s (e6 i x d hx hd)⟩))
    · exact .inr (.inr (.inr ⟨p, kvs, e1, s _ _ e2, e3⟩))
theorem RpM.wide {m k : Nat} (hk : m ≤ k) {H : Hp} : ∀ {n : Nat} {v : V} {d : PyData}, RpM m H n v d → RpM k H n v d
  | 0, _, _, h => Flat.wide hk h
  | n + 1, v, d, h => by
    rcases h with h | ⟨p, xs, ds, e1, e2, e3, e4, e5, e6⟩ | ⟨p, xs, ds, e1, e2, e3, e4, e5, e6⟩ | ⟨p, kvs, e1, e2, e3⟩
    · exact .inl (h.wide hk)
    · exact .inr (.inl ⟨p, xs, ds, e1, e2, e3, Nat.le_trans e4 hk, e5, fun i x d hx hd => RpM.wide hk (e6 i x d hx hd)⟩)
    · exact .inr (.inr (.inl ⟨p, xs, ds, e1, e2, e3, Nat.le_trans e4 hk, e5, fun i x d hx hd => RpM.wide hk (e6 i x d hx hd)⟩))
    · exact .inr (.inr (.inr ⟨p, kvs, e1, e2, e3⟩))
theorem RpM.up {m : Nat} {H : Hp} : ∀ {n : Nat} {v : V} {d : PyData}, RpM m H n v d → RpM m H (n + 1) v d
  | 0, _, _, h => .inl h
  | n + 1, v, d, h => by
    rcases h with h | ⟨p, xs, ds, e1, e2, e3, e4, e5, e6⟩ | ⟨p, xs, ds, e1, e2, e3, e4, e5, e6⟩ | ⟨p, kvs, e1, e2, e3⟩
    · exact .inl h
    · exact .inr (.inl ⟨p, xs, ds, e1, e2, e3, e4, e5, fun i x d hx hd => RpM.up (e6 i x d hx hd)⟩)
    · exact .inr (.inr (.inl ⟨p, xs, ds, e1, e2, e3, e4, e5, fun i x d hx hd => RpM.up (e6 i x d hx hd)⟩))
    · exact .inr (.inr (.inr ⟨p, kvs, e1, e2, e3⟩))
theorem tup_ty {H : Hp} {p : Addr} {xs : List V} (h : asT (H p) = some xs) : tyN (.ref p) H = some "tuple" := by
  dsimp only [tyN]
  cases e : H p with
  | none => rw [e] at h; cases h
  | some o =>
    rw [e] at h
    cases o with
    | tup ys => rfl
    | frz ob u => cases u <;> first | rfl | (cases h)
    | _ => cases h
theorem asS_of_T {o : Option HO} {xs : List V} (h : asT o = some xs) : asS o = some xs := by
  cases o with
  | none => cases h
  | some u =>
    cases u with
    | tup ys => exact h
    | frz ob w => cases w <;> first | exact h | (cases h)
    | _ => cases h
theorem All2.len {R : V → PyData → Prop} {xs : List V} {ds : List PyData} (h : All2 R xs ds) : xs.length = ds.length := h.1
theorem All2.imp {R S : V → PyData → Prop} {xs : List V} {ds : List PyData} (h : All2 R xs ds) (k : ∀ v d, R v d → S v d) : All2 S xs ds := ⟨h.1, fun i x d hx hd => k _ _ (h.2 i x d hx hd)⟩
theorem All2.nil {R : V → PyData → Prop} : All2 R [] [] := ⟨rfl, fun i x d h => by simp at h⟩
theorem All2.cons {R : V → PyData → Prop} {x : V} {d : PyData} {xs : List V} {ds : List PyData} (h : R x d) (t : All2 R xs ds) : All2 R (x :: xs) (d :: ds) := ⟨by rw [List.length_cons, List.length_cons, t.1], fun i y e hy he => by
  cases i with
  | zero => cases hy; cases he; exact h
  | succ i => exact t.2 i y e hy he⟩
theorem All2.append {R : V → PyData → Prop} {xs ys : List V} {ds es : List PyData} (h : All2 R xs ds) (t : All2 R ys es) : All2 R (xs ++ ys) (ds ++ es) := ⟨by rw [List.length_append, List.length_append, h.1, t.1], fun i y e hy he => by
  by_cases c : i < xs.length
  · rw [List.getElem?_append_left c] at hy
    rw [List.getElem?_append_left (by rw [← h.1]; exact c)] at he
    exact h.2 i y e hy he
  · rw [List.getElem?_append_right (by omega)] at hy
    rw [List.getElem?_append_right (by rw [← h.1]; omega), ← h.1] at he
    exact t.2 _ y e hy he⟩
theorem All2.take {R : V → PyData → Prop} {xs : List V} {ds : List PyData} (h : All2 R xs ds) (k : Nat) : All2 R (xs.take k) (ds.take k) := ⟨by rw [List.length_take, List.length_take, h.1], fun i y e hy he => by
  rw [List.getElem?_take] at hy he
  split at hy
  · rename_i c
    rw [if_pos c] at he
    exact h.2 i y e hy he
  · cases hy⟩
theorem All2.drop {R : V → PyData → Prop} {xs : List V} {ds : List PyData} (h : All2 R xs ds) (k : Nat) : All2 R (xs.drop k) (ds.drop k) := ⟨by rw [List.length_drop, List.length_drop, h.1], fun i y e hy he => by
  rw [List.getElem?_drop] at hy he
  exact h.2 _ y e hy he⟩
theorem All2.get {R : V → PyData → Prop} {xs : List V} {ds : List PyData} (h : All2 R xs ds) {i : Nat} {x : V} (hx : xs[i]? = some x) : ∃ d, ds[i]? = some d ∧ R x d := by
  have hi := (List.getElem?_eq_some_iff.mp hx).1
  have hd : ds[i]? = some (ds[i]'(by rw [← h.1]; exact hi)) := List.getElem?_eq_getElem _
  exact ⟨_, hd, h.2 i x _ hx hd⟩
end XB

/-! Names. -/
namespace XB
open PySem L2
local macro_rules | `(tactic| walk_at "s") => `(tactic| try simp only [u_var, u_c, u_op, u_un, u_nil, u_cons, u_cb, u_call, u_callS, u_tup, u_lst, u_test, u_B, u_and, u_or, u_not, u_andV, u_orV, u_notV, u_ifE, u_chain, u_sl, u_noPart, u_part, u_bm, u_bm0, u_rev, u_lc, u_try, u_sui, u_sui0, u_unb_rt, u_unb_nx, u_xf, u_WE, w_nil, w_cons, u_raise, u_rng1, u_rng2, u_next, u_ret, u_gname, u_gnil, u_gcons, u_gsub, u_gtup,
  f_add, f_addS, f_addR, f_sub, f_mul, f_mulR, f_mod, f_div, f_pow, f_neg, f_cmp, f_eq, f_eqB, f_eqS, f_ne, f_neB, f_neS, f_isN, f_notN, f_isB, f_ix, f_ixS, f_int, f_intB, f_len, f_lenS, f_max, f_min, f_abs, f_list, f_tuple, f_all, f_sum, f_isi, f_isiT, f_append, f_insert, f_pop, f_sl, f_set,
  kitS, tys, List.isEmpty_cons, Option.map_some, kt_NoneType_int, kt_NoneType_bool, kt_NoneType_str, kt_NoneType_list, kt_NoneType_tuple, kt_NoneType_dict, kt_int_int, kt_int_bool, kt_int_str, kt_int_list, kt_int_tuple, kt_int_dict, kt_bool_int, kt_bool_bool, kt_bool_str, kt_bool_list, kt_bool_tuple, kt_bool_dict, kt_str_int, kt_str_bool, kt_str_str, kt_str_list, kt_str_tuple, kt_str_dict, kt_list_int, kt_list_bool, kt_list_str, kt_list_list, kt_list_tuple, kt_list_dict, kt_tuple_int, kt_tuple_bool, kt_tuple_str, kt_tuple_list, kt_tuple_tuple, kt_tuple_dict, kt_dict_int, kt_dict_bool, kt_dict_str, kt_dict_list, kt_dict_tuple, kt_dict_dict, asL_lst, asL_frz, asL_tup, asT_tup, asS_lst, asS_frz, asS_tup, tyN_non, tyN_bl, tyN_int, tyN_str, atV_lit, ixN_lit, upd_same, upd_ne, upd_ne',
  List.getElem?_cons_zero, List.getElem?_cons_succ, List.set_cons_zero, List.set_cons_succ, List.append_nil, List.length_cons, List.length_nil, Option.some.injEq, exists_eq_left', exists_eq_left, exists_and_left, V.bl.injEq, V.int.injEq, V.str.injEq, V.ref.injEq, Bool.not_eq_true, Bool.not_true, Bool.not_false, decide_true, decide_false, decide_eq_true_eq, decide_eq_false_iff_not, Bool.false_eq_true, if_true, if_false, ite_true, ite_false, reduceCtorEq, true_and, and_true, Nat.reduceAdd, Nat.reduceLT, Nat.zero_add, ne_eq, not_false_eq_true, not_true_eq_false, List.cons.injEq, and_assoc])
local macro_rules | `(tactic| walk_at "S") => `(tactic| try simp only [u_var, u_c, u_op, u_un, u_nil, u_cons, u_cb, u_call, u_callS, u_tup, u_lst, u_test, u_B, u_and, u_or, u_not, u_andV, u_orV, u_notV, u_ifE, u_chain, u_sl, u_noPart, u_part, u_bm, u_bm0, u_rev, u_lc, u_try, u_sui, u_sui0, u_unb_rt, u_unb_nx, u_xf, u_WE, w_nil, w_cons, u_raise, u_rng1, u_rng2, u_next, u_ret, u_gname, u_gnil, u_gcons, u_gsub, u_gtup,
  f_add, f_addS, f_addR, f_sub, f_mul, f_mulR, f_mod, f_div, f_pow, f_neg, f_cmp, f_eq, f_eqB, f_eqS, f_ne, f_neB, f_neS, f_isN, f_notN, f_isB, f_ix, f_ixS, f_int, f_intB, f_len, f_lenS, f_max, f_min, f_abs, f_list, f_tuple, f_all, f_sum, f_isi, f_isiT, f_append, f_insert, f_pop, f_sl, f_set,
  kitS, tys, List.isEmpty_cons, Option.map_some, kt_NoneType_int, kt_NoneType_bool, kt_NoneType_str, kt_NoneType_list, kt_NoneType_tuple, kt_NoneType_dict, kt_int_int, kt_int_bool, kt_int_str, kt_int_list, kt_int_tuple, kt_int_dict, kt_bool_int, kt_bool_bool, kt_bool_str, kt_bool_list, kt_bool_tuple, kt_bool_dict, kt_str_int, kt_str_bool, kt_str_str, kt_str_list, kt_str_tuple, kt_str_dict, kt_list_int, kt_list_bool, kt_list_str, kt_list_list, kt_list_tuple, kt_list_dict, kt_tuple_int, kt_tuple_bool, kt_tuple_str, kt_tuple_list, kt_tuple_tuple, kt_tuple_dict, kt_dict_int, kt_dict_bool, kt_dict_str, kt_dict_list, kt_dict_tuple, kt_dict_dict, asL_lst, asL_frz, asL_tup, asT_tup, asS_lst, asS_frz, asS_tup, tyN_non, tyN_bl, tyN_int, tyN_str, atV_lit, ixN_lit, upd_same, upd_ne, upd_ne',
  List.getElem?_cons_zero, List.getElem?_cons_succ, List.set_cons_zero, List.set_cons_succ, List.append_nil, List.length_cons, List.length_nil, Option.some.injEq, exists_eq_left', exists_eq_left, exists_and_left, V.bl.injEq, V.int.injEq, V.str.injEq, V.ref.injEq, Bool.not_eq_true, Bool.not_true, Bool.not_false, decide_true, decide_false, decide_eq_true_eq, decide_eq_false_iff_not, Bool.false_eq_true, if_true, if_false, ite_true, ite_false, reduceCtorEq, true_and, and_true, Nat.reduceAdd, Nat.reduceLT, Nat.zero_add, ne_eq, not_false_eq_true, not_true_eq_false, List.cons.injEq, and_assoc, *])
def lettersS : Str := ("abcdefghijklmnopqrstuvwxyz" : Str)
def signsS : Str := ("abcdefghijklmnopqrstuvwxyz0123456789" : Str)
def nameS (z : Str) : Bool := decide (1 ≤ z.length) && decide (z.length ≤ 8) && (match z.cps.toList with
  | c :: _ => decide (c ∈ lettersS.cps.toList)
  | [] => false) && z.cps.toList.all fun c => decide (c ∈ signsS.cps.toList)
def nameV : V → Bool
  | .str z => nameS z
  | _ => false
/-- a value whose kind is known, no text too long -/
def Tz (v : V) (H : Hp) : Prop := Ty v H ∧ ∀ z, v = .str z → z.length ≤ 1000
theorem f_in1' {K : PySem.W.Frag} {H : Hp} {Q : VK} {c : Nat} {z : Str} : fIn K (.str ⟨#[c]⟩) (.str z) H Q = Q (.bl (decide (c ∈ z.cps.toList))) H := rfl
def sp_is_name (K : PySem.W.Frag) (C : CA) : Sp := fun vs H Q _ => ∃ v, vs = [v] ∧ Tz v H ∧ ∀ H', Sm H H' → Q (.bl (nameV v)) H'
def rd_is_name (K : PySem.W.Frag) (C : CA) (E : XK) : TS :=
  (tSeq (tIfS (tOr (tNot (tB (tCB fIsi (tCons (tVar 0) (tCons (tC (.ty "str")) tNil))))) (tNot (tTest (tChain fLe fLe (tC (.int 1)) (tCB fLen (tCons (tVar 0) tNil)) (tC (.int 8)))))) (tRet (tC (.bl false))) tNext) (tRet (tAndV (tOp (fIn K) (tOp fIx (tVar 0) (tC (.int 0))) (tC (.str ("abcdefghijklmnopqrstuvwxyz" : Str)))) (tCB fAll (tCons (tLc (iStr (tVar 0)) (gName 1) tYes (tOp (fIn K) (tVar 1) (tC (.str ("abcdefghijklmnopqrstuvwxyz0123456789" : Str)))) [1]) tNil)))))
theorem pure_is_name {K : PySem.W.Frag} {C : CA} (vs : List V) (H : Hp) (Q : VK) (E : XK) (h : sp_is_name K C vs H Q E) : rd_is_name K C E { nx := fun _ H' => Q .non H', rt := Q } (start [("value" : Str), ("sign" : Str)] vs) H := by
  obtain ⟨v, rfl, ⟨tv, lz⟩, q⟩ := h
  show rd_is_name K C E _ [some v, none] H
  unfold rd_is_name
  refine q_if ?_
  have no : nameV v = false → Q (.bl false) H := fun e => by
    have := q H fun _ _ z => z
    rw [e] at this
    exact this
  rcases ty_cases tv with rfl | ⟨b, rfl⟩ | ⟨i, rfl⟩ | ⟨z, rfl⟩ | ⟨p, rfl, h⟩
  · walk_at "s"
    exact no rfl
  · walk_at "s"
    exact no rfl
  · walk_at "s"
    exact no rfl
  · have l1 := lz z rfl
    walk_at "s"
    have noS : nameS z = false → Q (.bl false) H := no
    have hlen : z.cps.toList.length = z.length := Array.length_toList
    refine ⟨by show _ ≤ 2 ^ 24; omega, ite2 (fun c1 => ?_) fun c1 => noS ?_⟩
    · by_cases c2 : (z.length : Int) ≤ 8
      · simp only [c2, decide_true, Bool.not_true, Bool.false_eq_true, if_false]
        refine ⟨by show _ ≤ 2 ^ 24; omega, ?_⟩
        have a1 : decide (1 ≤ z.length) = true := decide_eq_true (by omega)
        have a2 : decide (z.length ≤ 8) = true := decide_eq_true (by omega)
        cases ez : z.cps.toList with
        | nil => rw [ez] at hlen; simp at hlen; omega
        | cons c0 t =>
          have q2 : ∀ H', Sm H H' → Q (.bl (decide (c0 ∈ lettersS.cps.toList) && (c0 :: t).all fun c => decide (c ∈ signsS.cps.toList))) H' := fun H' s => by
            have e := q H' s
            have e2 : nameV (.str z) = (decide (c0 ∈ lettersS.cps.toList) && (c0 :: t).all fun c => decide (c ∈ signsS.cps.toList)) := by
              show nameS z = _
              unfold nameS
              rw [a1, a2, ez]
              simp only [Bool.true_and]
            rw [← e2]
            exact e
          refine ⟨c0, (by exact atI_nat (xs := c0 :: t) (j := 0) rfl), ?_⟩
          rw [f_in1']
          refine ⟨_, rfl, ?_⟩
          by_cases c3 : c0 ∈ lettersS.cps.toList
          · rw [decide_eq_true c3] at q2
            have c3' : decide (c0 ∈ (Str.ofString "abcdefghijklmnopqrstuvwxyz").cps.toList) = true := decide_eq_true c3
            rw [if_pos c3', u_strI]
            walk_at "s"
            intro Dd hD
            refine made_mapStr (fun c => .bl (decide (c ∈ signsS.cps.toList))) hD (by show z.length < 2 ^ 24; omega) (fun _ => rfl) (fun i c H2 Q1 hc s1 q1 => ?_) fun H2 s2 g2 => ?_
            · walk_at "s"
              rw [f_in1']
              exact q1 H2 fun _ _ z => z
            · rw [g2]
              refine ⟨z.cps.toList.map fun c => decide (c ∈ signsS.cps.toList), by rw [List.map_map]; rfl, ?_⟩
              have e := q2 H2 s2
              rw [Bool.true_and] at e
              rw [ez, List.all_map]
              exact e
          · rw [decide_eq_false c3] at q2
            have c3' : ¬ decide (c0 ∈ (Str.ofString "abcdefghijklmnopqrstuvwxyz").cps.toList) = true := by
              rw [decide_eq_true_eq]
              exact c3
            rw [if_neg c3']
            exact q2 H fun _ _ z => z
      · simp only [c2, decide_false, Bool.not_false, if_true]
        refine noS ?_
        have a2 : decide (z.length ≤ 8) = false := decide_eq_false (by omega)
        unfold nameS
        rw [a2]
        simp
    · have a1 : decide (1 ≤ z.length) = false := decide_eq_false (by omega)
      unfold nameS
      rw [a1]
      simp
  · have e : ∃ t, tyN (.ref p) H = some t ∧ (t = "list" ∨ t = "tuple" ∨ t = "dict") := by
      rcases h with ⟨h, _⟩ | ⟨h, _⟩ | ⟨h, _⟩
      · exact ⟨_, h, .inl rfl⟩
      · exact ⟨_, h, .inr (.inl rfl)⟩
      · exact ⟨_, h, .inr (.inr rfl)⟩
    obtain ⟨t, e, rfl | rfl | rfl⟩ := e
    all_goals
      walk_at "s"
      simp only [e]
      walk_at "s"
      exact no rfl
end XB

/-! Names, as the law asks. -/
namespace XB
open PySem L2
local macro_rules | `(tactic| walk_at "s") => `(tactic| try simp only [u_var, u_c, u_op, u_un, u_nil, u_cons, u_cb, u_call, u_callS, u_tup, u_lst, u_test, u_B, u_and, u_or, u_not, u_andV, u_orV, u_notV, u_ifE, u_chain, u_sl, u_noPart, u_part, u_bm, u_bm0, u_rev, u_lc, u_try, u_sui, u_sui0, u_unb_rt, u_unb_nx, u_xf, u_WE, w_nil, w_cons, u_raise, u_rng1, u_rng2, u_next, u_ret, u_gname, u_gnil, u_gcons, u_gsub, u_gtup,
  f_add, f_addS, f_addR, f_sub, f_mul, f_mulR, f_mod, f_div, f_pow, f_neg, f_cmp, f_eq, f_eqB, f_eqS, f_ne, f_neB, f_neS, f_isN, f_notN, f_isB, f_ix, f_ixS, f_int, f_intB, f_len, f_lenS, f_max, f_min, f_abs, f_list, f_tuple, f_all, f_sum, f_isi, f_isiT, f_append, f_insert, f_pop, f_sl, f_set,
  kitS, tys, List.isEmpty_cons, Option.map_some, kt_NoneType_int, kt_NoneType_bool, kt_NoneType_str, kt_NoneType_list, kt_NoneType_tuple, kt_NoneType_dict, kt_int_int, kt_int_bool, kt_int_str, kt_int_list, kt_int_tuple, kt_int_dict, kt_bool_int, kt_bool_bool, kt_bool_str, kt_bool_list, kt_bool_tuple, kt_bool_dict, kt_str_int, kt_str_bool, kt_str_str, kt_str_list, kt_str_tuple, kt_str_dict, kt_list_int, kt_list_bool, kt_list_str, kt_list_list, kt_list_tuple, kt_list_dict, kt_tuple_int, kt_tuple_bool, kt_tuple_str, kt_tuple_list, kt_tuple_tuple, kt_tuple_dict, kt_dict_int, kt_dict_bool, kt_dict_str, kt_dict_list, kt_dict_tuple, kt_dict_dict, asL_lst, asL_frz, asL_tup, asT_tup, asS_lst, asS_frz, asS_tup, tyN_non, tyN_bl, tyN_int, tyN_str, atV_lit, ixN_lit, upd_same, upd_ne, upd_ne',
  List.getElem?_cons_zero, List.getElem?_cons_succ, List.set_cons_zero, List.set_cons_succ, List.append_nil, List.length_cons, List.length_nil, Option.some.injEq, exists_eq_left', exists_eq_left, exists_and_left, V.bl.injEq, V.int.injEq, V.str.injEq, V.ref.injEq, Bool.not_eq_true, Bool.not_true, Bool.not_false, decide_true, decide_false, decide_eq_true_eq, decide_eq_false_iff_not, Bool.false_eq_true, if_true, if_false, ite_true, ite_false, reduceCtorEq, true_and, and_true, Nat.reduceAdd, Nat.reduceLT, Nat.zero_add, ne_eq, not_false_eq_true, not_true_eq_false, List.cons.injEq, and_assoc])
local macro_rules | `(tactic| walk_at "S") => `(tactic| try simp only [u_var, u_c, u_op, u_un, u_nil, u_cons, u_cb, u_call, u_callS, u_tup, u_lst, u_test, u_B, u_and, u_or, u_not, u_andV, u_orV, u_notV, u_ifE, u_chain, u_sl, u_noPart, u_part, u_bm, u_bm0, u_rev, u_lc, u_try, u_sui, u_sui0, u_unb_rt, u_unb_nx, u_xf, u_WE, w_nil, w_cons, u_raise, u_rng1, u_rng2, u_next, u_ret, u_gname, u_gnil, u_gcons, u_gsub, u_gtup,
  f_add, f_addS, f_addR, f_sub, f_mul, f_mulR, f_mod, f_div, f_pow, f_neg, f_cmp, f_eq, f_eqB, f_eqS, f_ne, f_neB, f_neS, f_isN, f_notN, f_isB, f_ix, f_ixS, f_int, f_intB, f_len, f_lenS, f_max, f_min, f_abs, f_list, f_tuple, f_all, f_sum, f_isi, f_isiT, f_append, f_insert, f_pop, f_sl, f_set,
  kitS, tys, List.isEmpty_cons, Option.map_some, kt_NoneType_int, kt_NoneType_bool, kt_NoneType_str, kt_NoneType_list, kt_NoneType_tuple, kt_NoneType_dict, kt_int_int, kt_int_bool, kt_int_str, kt_int_list, kt_int_tuple, kt_int_dict, kt_bool_int, kt_bool_bool, kt_bool_str, kt_bool_list, kt_bool_tuple, kt_bool_dict, kt_str_int, kt_str_bool, kt_str_str, kt_str_list, kt_str_tuple, kt_str_dict, kt_list_int, kt_list_bool, kt_list_str, kt_list_list, kt_list_tuple, kt_list_dict, kt_tuple_int, kt_tuple_bool, kt_tuple_str, kt_tuple_list, kt_tuple_tuple, kt_tuple_dict, kt_dict_int, kt_dict_bool, kt_dict_str, kt_dict_list, kt_dict_tuple, kt_dict_dict, asL_lst, asL_frz, asL_tup, asT_tup, asS_lst, asS_frz, asS_tup, tyN_non, tyN_bl, tyN_int, tyN_str, atV_lit, ixN_lit, upd_same, upd_ne, upd_ne',
  List.getElem?_cons_zero, List.getElem?_cons_succ, List.set_cons_zero, List.set_cons_succ, List.append_nil, List.length_cons, List.length_nil, Option.some.injEq, exists_eq_left', exists_eq_left, exists_and_left, V.bl.injEq, V.int.injEq, V.str.injEq, V.ref.injEq, Bool.not_eq_true, Bool.not_true, Bool.not_false, decide_true, decide_false, decide_eq_true_eq, decide_eq_false_iff_not, Bool.false_eq_true, if_true, if_false, ite_true, ite_false, reduceCtorEq, true_and, and_true, Nat.reduceAdd, Nat.reduceLT, Nat.zero_add, ne_eq, not_false_eq_true, not_true_eq_false, List.cons.injEq, and_assoc, *])
def digitsS : Str := ("0123456789" : Str)
theorem sign_letter {c : Nat} (h : c ∈ signsS.cps.toList) : (!decide (c ∈ digitsS.cps.toList)) = decide (c ∈ lettersS.cps.toList) := by
  have e : ∀ c ∈ signsS.cps.toList, (!decide (c ∈ digitsS.cps.toList)) = decide (c ∈ lettersS.cps.toList) := by decide +kernel
  exact e c h
theorem nameS_no {z : Str} {i c : Nat} (hc : z.cps[i]? = some c) (h : c ∉ signsS.cps.toList) : nameS z = false := by
  have hm : c ∈ z.cps.toList := by
    rw [← Array.getElem?_toList] at hc
    exact List.mem_of_getElem? hc
  have e : (z.cps.toList.all fun c => decide (c ∈ signsS.cps.toList)) = false := by
    rw [List.all_eq_false]
    exact ⟨c, hm, by simpa using h⟩
  unfold nameS
  rw [e, Bool.and_false]
theorem f_nin1' {K : PySem.W.Frag} {H : Hp} {Q : VK} {c : Nat} {z : Str} : fNin K (.str ⟨#[c]⟩) (.str z) H Q = Q (.bl (!decide (c ∈ z.cps.toList))) H := rfl
def sp_l_is_name (K : PySem.W.Frag) (C : CA) : Sp := fun vs H Q _ => ∃ v, vs = [v] ∧ Tz v H ∧ ∀ H', Sm H H' → Q (.bl (nameV v)) H'
def rd_l_is_name (K : PySem.W.Frag) (C : CA) (E : XK) : TS :=
  (tSeq (tIfS (tOr (tNot (tB (tCB fIsi (tCons (tVar 0) (tCons (tC (.ty "str")) tNil))))) (tOr (tTest (tOp fLt (tCB fLen (tCons (tVar 0) tNil)) (tC (.int 1)))) (tTest (tOp fGt (tCB fLen (tCons (tVar 0) tNil)) (tC (.int 8)))))) (tRet (tC (.bl false))) tNext) (tSeq (tFor (iStr (tVar 0)) (gName 1) (tIfS (tTest (tOp (fNin K) (tVar 1) (tC (.str ("abcdefghijklmnopqrstuvwxyz0123456789" : Str))))) (tRet (tC (.bl false))) tNext)) (tRet (tOp (fNin K) (tOp fIx (tVar 0) (tC (.int 0))) (tC (.str ("0123456789" : Str)))))))
theorem pure_l_is_name {K : PySem.W.Frag} {C : CA} (vs : List V) (H : Hp) (Q : VK) (E : XK) (h : sp_l_is_name K C vs H Q E) : rd_l_is_name K C E { nx := fun _ H' => Q .non H', rt := Q } (start [("value" : Str), ("sign" : Str)] vs) H := by
  obtain ⟨v, rfl, ⟨tv, lz⟩, q⟩ := h
  show rd_l_is_name K C E _ [some v, none] H
  unfold rd_l_is_name
  refine q_if ?_
  have no : nameV v = false → Q (.bl false) H := fun e => by
    have := q H fun _ _ z => z
    rw [e] at this
    exact this
  rcases ty_cases tv with rfl | ⟨b, rfl⟩ | ⟨i, rfl⟩ | ⟨z, rfl⟩ | ⟨p, rfl, h⟩
  · walk_at "s"
    exact no rfl
  · walk_at "s"
    exact no rfl
  · walk_at "s"
    exact no rfl
  · have l1 := lz z rfl
    walk_at "s"
    have noS : nameS z = false → Q (.bl false) H := no
    have hlen : z.cps.toList.length = z.length := Array.length_toList
    refine ⟨by show _ ≤ 2 ^ 24; omega, ite2 (fun c1 => noS ?_) fun c1 => ⟨by show _ ≤ 2 ^ 24; omega, ite2 (fun c2 => noS ?_) fun c2 => ?_⟩⟩
    · have a1 : decide (1 ≤ z.length) = false := decide_eq_false (by omega)
      unfold nameS
      rw [a1]
      simp
    · have a2 : decide (z.length ≤ 8) = false := decide_eq_false (by omega)
      unfold nameS
      rw [a2]
      simp
    · refine q_for ?_
      rw [u_strI]
      walk_at "s"
      refine loop_str (fun i σ H2 => ∃ v : Option V, σ = [some (.str z), v] ∧ H2 = H ∧ ∀ c ∈ z.cps.toList.take i, c ∈ signsS.cps.toList) ⟨_, rfl, rfl, by simp⟩ ?_ ?_
      · rintro i c σ H2 hc ⟨v, rfl, rfl, hm⟩
        walk_at "s"
        refine q_if1 ?_
        walk_at "s"
        rw [f_nin1']
        refine ⟨_, rfl, ?_⟩
        by_cases c3 : c ∈ signsS.cps.toList
        · have c3' : ¬ (!decide (c ∈ (Str.ofString "abcdefghijklmnopqrstuvwxyz0123456789").cps.toList)) = true := by
            rw [decide_eq_true (show c ∈ (Str.ofString "abcdefghijklmnopqrstuvwxyz0123456789").cps.toList from c3)]
            decide
          rw [if_neg c3']
          refine ⟨rfl, fun d hd => ?_⟩
          rw [List.take_succ, List.mem_append] at hd
          rcases hd with hd | hd
          · exact hm d hd
          · rw [Array.getElem?_toList, hc] at hd
            have : d = c := by simpa using hd
            rw [this]
            exact c3
        · have c3' : (!decide (c ∈ (Str.ofString "abcdefghijklmnopqrstuvwxyz0123456789").cps.toList)) = true := by
            rw [decide_eq_false (show ¬ c ∈ (Str.ofString "abcdefghijklmnopqrstuvwxyz0123456789").cps.toList from c3)]
            rfl
          rw [if_pos c3']
          exact noS (nameS_no hc c3)
      · rintro σ H2 ⟨v, rfl, rfl, hm⟩
        walk_at "s"
        refine ⟨by show _ ≤ 2 ^ 24; omega, ?_⟩
        cases ez : z.cps.toList with
        | nil => rw [ez] at hlen; simp at hlen; omega
        | cons c0 t =>
          refine ⟨c0, (by exact atI_nat (xs := c0 :: t) (j := 0) rfl), ?_⟩
          rw [f_nin1']
          have hs : z.cps.size = z.cps.toList.length := Array.length_toList.symm
          rw [hs, List.take_length, ez] at hm
          have m0 := hm c0 List.mem_cons_self
          have e := q _ fun _ _ z => z
          have e2 : nameV (.str z) = (!decide (c0 ∈ digitsS.cps.toList)) := by
            show nameS z = _
            have a1 : decide (1 ≤ z.length) = true := decide_eq_true (by omega)
            have a2 : decide (z.length ≤ 8) = true := decide_eq_true (by omega)
            have a3 : ((c0 :: t).all fun c => decide (c ∈ signsS.cps.toList)) = true := by
              rw [List.all_eq_true]
              exact fun c hc => decide_eq_true (hm c hc)
            unfold nameS
            rw [a1, a2, ez, a3, sign_letter m0]
            simp only [Bool.true_and, Bool.and_true]
          rw [e2] at e
          exact e
  · have e : ∃ t, tyN (.ref p) H = some t ∧ (t = "list" ∨ t = "tuple" ∨ t = "dict") := by
      rcases h with ⟨h, _⟩ | ⟨h, _⟩ | ⟨h, _⟩
      · exact ⟨_, h, .inl rfl⟩
      · exact ⟨_, h, .inr (.inl rfl)⟩
      · exact ⟨_, h, .inr (.inr rfl)⟩
    obtain ⟨t, e, rfl | rfl | rfl⟩ := e
    all_goals
      walk_at "s"
      simp only [e]
      walk_at "s"
      exact no rfl
end XB

/-! Shapes: days, places, plans, legs. -/
namespace XB
open PySem L2
local macro_rules | `(tactic| walk_at "s") => `(tactic| try simp only [u_var, u_c, u_op, u_un, u_nil, u_cons, u_cb, u_call, u_callS, u_tup, u_lst, u_test, u_B, u_and, u_or, u_not, u_andV, u_orV, u_notV, u_ifE, u_chain, u_sl, u_noPart, u_part, u_bm, u_bm0, u_rev, u_lc, u_try, u_sui, u_sui0, u_unb_rt, u_unb_nx, u_xf, u_WE, w_nil, w_cons, u_raise, u_rng1, u_rng2, u_next, u_ret, u_gname, u_gnil, u_gcons, u_gsub, u_gtup,
  f_add, f_addS, f_addR, f_sub, f_mul, f_mulR, f_mod, f_div, f_pow, f_neg, f_cmp, f_eq, f_eqB, f_eqS, f_ne, f_neB, f_neS, f_isN, f_notN, f_isB, f_ix, f_ixS, f_int, f_intB, f_len, f_lenS, f_max, f_min, f_abs, f_list, f_tuple, f_all, f_sum, f_isi, f_isiT, f_append, f_insert, f_pop, f_sl, f_set,
  kitS, tys, List.isEmpty_cons, Option.map_some, kt_NoneType_int, kt_NoneType_bool, kt_NoneType_str, kt_NoneType_list, kt_NoneType_tuple, kt_NoneType_dict, kt_int_int, kt_int_bool, kt_int_str, kt_int_list, kt_int_tuple, kt_int_dict, kt_bool_int, kt_bool_bool, kt_bool_str, kt_bool_list, kt_bool_tuple, kt_bool_dict, kt_str_int, kt_str_bool, kt_str_str, kt_str_list, kt_str_tuple, kt_str_dict, kt_list_int, kt_list_bool, kt_list_str, kt_list_list, kt_list_tuple, kt_list_dict, kt_tuple_int, kt_tuple_bool, kt_tuple_str, kt_tuple_list, kt_tuple_tuple, kt_tuple_dict, kt_dict_int, kt_dict_bool, kt_dict_str, kt_dict_list, kt_dict_tuple, kt_dict_dict, asL_lst, asL_frz, asL_tup, asT_tup, asS_lst, asS_frz, asS_tup, tyN_non, tyN_bl, tyN_int, tyN_str, atV_lit, ixN_lit, upd_same, upd_ne, upd_ne',
  List.getElem?_cons_zero, List.getElem?_cons_succ, List.set_cons_zero, List.set_cons_succ, List.append_nil, List.length_cons, List.length_nil, Option.some.injEq, exists_eq_left', exists_eq_left, exists_and_left, V.bl.injEq, V.int.injEq, V.str.injEq, V.ref.injEq, Bool.not_eq_true, Bool.not_true, Bool.not_false, decide_true, decide_false, decide_eq_true_eq, decide_eq_false_iff_not, Bool.false_eq_true, if_true, if_false, ite_true, ite_false, reduceCtorEq, true_and, and_true, Nat.reduceAdd, Nat.reduceLT, Nat.zero_add, ne_eq, not_false_eq_true, not_true_eq_false, List.cons.injEq, and_assoc])
local macro_rules | `(tactic| walk_at "S") => `(tactic| try simp only [u_var, u_c, u_op, u_un, u_nil, u_cons, u_cb, u_call, u_callS, u_tup, u_lst, u_test, u_B, u_and, u_or, u_not, u_andV, u_orV, u_notV, u_ifE, u_chain, u_sl, u_noPart, u_part, u_bm, u_bm0, u_rev, u_lc, u_try, u_sui, u_sui0, u_unb_rt, u_unb_nx, u_xf, u_WE, w_nil, w_cons, u_raise, u_rng1, u_rng2, u_next, u_ret, u_gname, u_gnil, u_gcons, u_gsub, u_gtup,
  f_add, f_addS, f_addR, f_sub, f_mul, f_mulR, f_mod, f_div, f_pow, f_neg, f_cmp, f_eq, f_eqB, f_eqS, f_ne, f_neB, f_neS, f_isN, f_notN, f_isB, f_ix, f_ixS, f_int, f_intB, f_len, f_lenS, f_max, f_min, f_abs, f_list, f_tuple, f_all, f_sum, f_isi, f_isiT, f_append, f_insert, f_pop, f_sl, f_set,
  kitS, tys, List.isEmpty_cons, Option.map_some, kt_NoneType_int, kt_NoneType_bool, kt_NoneType_str, kt_NoneType_list, kt_NoneType_tuple, kt_NoneType_dict, kt_int_int, kt_int_bool, kt_int_str, kt_int_list, kt_int_tuple, kt_int_dict, kt_bool_int, kt_bool_bool, kt_bool_str, kt_bool_list, kt_bool_tuple, kt_bool_dict, kt_str_int, kt_str_bool, kt_str_str, kt_str_list, kt_str_tuple, kt_str_dict, kt_list_int, kt_list_bool, kt_list_str, kt_list_list, kt_list_tuple, kt_list_dict, kt_tuple_int, kt_tuple_bool, kt_tuple_str, kt_tuple_list, kt_tuple_tuple, kt_tuple_dict, kt_dict_int, kt_dict_bool, kt_dict_str, kt_dict_list, kt_dict_tuple, kt_dict_dict, asL_lst, asL_frz, asL_tup, asT_tup, asS_lst, asS_frz, asS_tup, tyN_non, tyN_bl, tyN_int, tyN_str, atV_lit, ixN_lit, upd_same, upd_ne, upd_ne',
  List.getElem?_cons_zero, List.getElem?_cons_succ, List.set_cons_zero, List.set_cons_succ, List.append_nil, List.length_cons, List.length_nil, Option.some.injEq, exists_eq_left', exists_eq_left, exists_and_left, V.bl.injEq, V.int.injEq, V.str.injEq, V.ref.injEq, Bool.not_eq_true, Bool.not_true, Bool.not_false, decide_true, decide_false, decide_eq_true_eq, decide_eq_false_iff_not, Bool.false_eq_true, if_true, if_false, ite_true, ite_false, reduceCtorEq, true_and, and_true, Nat.reduceAdd, Nat.reduceLT, Nat.zero_add, ne_eq, not_false_eq_true, not_true_eq_false, List.cons.injEq, and_assoc, *])
def dashS : Str := ("-" : Str)
def nameD : PyData → Bool
  | .str z => nameS z
  | _ => false
def isDash : PyData → Bool
  | .str z => decide (z = dashS)
  | _ => false
def intIn (lo hi : Int) : PyData → Bool
  | .int i => decide (lo ≤ i) && decide (i ≤ hi)
  | _ => false
def tupOf (k : Int) : PyData → Bool
  | .tuple ds => decide ((ds.length : Int) = k)
  | _ => false
def planD : PyData → Bool
  | .tuple ds => decide (1 ≤ ds.length) && decide (ds.length ≤ 7) && ds.all nameD
  | _ => false
def crossD : PyData → Bool
  | .tuple [a, b] => intIn 0 6 a && nameD b
  | _ => false
def legD : PyData → Bool
  | .tuple [a, b, c] => nameD b && (if nameD c = true then intIn 0 5 a else isDash c && intIn 0 6 a)
  | _ => false
theorem dash_no_name : nameS dashS = false := by decide +kernel
theorem rp_flat_or {m n : Nat} {H : Hp} {v : V} {d : PyData} (h : RpM m H n v d) : Flat m v d ∨ (∃ k p xs ds, n = k + 1 ∧ v = .ref p ∧ asL (H p) = some xs ∧ d = .list ds ∧ xs.length ≤ m ∧ All2 (RpM m H k) xs ds) ∨
    (∃ k p xs ds, n = k + 1 ∧ v = .ref p ∧ asT (H p) = some xs ∧ d = .tuple ds ∧ xs.length ≤ m ∧ All2 (RpM m H k) xs ds) ∨ ∃ k p kvs, n = k + 1 ∧ v = .ref p ∧ H p = some (.dK kvs) ∧ d = .dict [] := by
  cases n with
  | zero => exact .inl h
  | succ n =>
    rcases h with h | ⟨p, xs, ds, h⟩ | ⟨p, xs, ds, h⟩ | ⟨p, kvs, h⟩
    · exact .inl h
    · exact .inr (.inl ⟨n, p, xs, ds, rfl, h⟩)
    · exact .inr (.inr (.inl ⟨n, p, xs, ds, rfl, h⟩))
    · exact .inr (.inr (.inr ⟨n, p, kvs, rfl, h⟩))
theorem RpM.tz {n : Nat} {H : Hp} {v : V} {d : PyData} (h : Rp H n v d) : Tz v H := by
  rcases rp_flat_or h with (⟨rfl, _⟩ | ⟨b, rfl, _⟩ | ⟨i, rfl, _⟩ | ⟨z, ⟨rfl, lz⟩, _⟩) | ⟨k, p, xs, ds, _, rfl, e, _⟩ | ⟨k, p, xs, ds, _, rfl, e, _⟩ | ⟨k, p, kvs, _, rfl, e, _⟩
  · exact ⟨⟨_, rfl⟩, fun z e => by cases e⟩
  · exact ⟨⟨_, rfl⟩, fun z e => by cases e⟩
  · exact ⟨⟨_, rfl⟩, fun z e => by cases e⟩
  · exact ⟨⟨_, rfl⟩, fun z2 e => by cases e; exact lz⟩
  · exact ⟨⟨_, lst_ty e⟩, fun z e => by cases e⟩
  · exact ⟨⟨_, tup_ty e⟩, fun z e => by cases e⟩
  · exact ⟨⟨_, tyN_dK e⟩, fun z e => by cases e⟩
theorem RpM.name {m n : Nat} {H : Hp} {v : V} {d : PyData} (h : RpM m H n v d) : nameV v = nameD d := by
  rcases rp_flat_or h with (⟨rfl, rfl⟩ | ⟨b, rfl, rfl⟩ | ⟨i, rfl, rfl⟩ | ⟨z, ⟨rfl, lz⟩, rfl⟩) | ⟨k, p, xs, ds, _, rfl, e, rfl, _⟩ | ⟨k, p, xs, ds, _, rfl, e, rfl, _⟩ | ⟨k, p, kvs, _, rfl, e, rfl⟩ <;> rfl
theorem sp_name_ok {K : PySem.W.Frag} {C : CA} {H : Hp} {Q : VK} {E : XK} {n : Nat} {v : V} {d : PyData} (h : Rp H n v d) (q : ∀ H', Sm H H' → Q (.bl (nameD d)) H') : sp_is_name K C [v] H Q E := ⟨v, rfl, h.tz, fun H' s => by rw [h.name]; exact q H' s⟩
theorem sp_lname_ok {K : PySem.W.Frag} {C : CA} {H : Hp} {Q : VK} {E : XK} {n : Nat} {v : V} {d : PyData} (h : Rp H n v d) (q : ∀ H', Sm H H' → Q (.bl (nameD d)) H') : sp_l_is_name K C [v] H Q E := ⟨v, rfl, h.tz, fun H' s => by rw [h.name]; exact q H' s⟩
def sp_is_day (K : PySem.W.Frag) (C : CA) : Sp := fun vs H Q _ => ∃ n v d, vs = [v] ∧ Rp H n v d ∧ Q (.bl (intIn 0 6 d)) H
def rd_is_day (K : PySem.W.Frag) (C : CA) (E : XK) : TS :=
  (tRet (tAndV (tCallS (sp_is_whole K C) (fun _ => E0) (tCons (tVar 0) tNil)) (tChain fLe fLe (tC (.int 0)) (tVar 0) (tC (.int 6)))))
theorem pure_is_day {K : PySem.W.Frag} {C : CA} (vs : List V) (H : Hp) (Q : VK) (E : XK) (h : sp_is_day K C vs H Q E) : rd_is_day K C E { nx := fun _ H' => Q .non H', rt := Q } (start [("value" : Str)] vs) H := by
  obtain ⟨n, v, d, rfl, r, q⟩ := h
  show rd_is_day K C E _ [some v] H
  unfold rd_is_day
  refine q_ret ?_
  walk_at "s"
  refine ⟨v, rfl, r.tz.1, ?_⟩
  walk_at "s"
  rcases rp_flat_or r with (⟨rfl, rfl⟩ | ⟨b, rfl, rfl⟩ | ⟨i, rfl, rfl⟩ | ⟨z, ⟨rfl, lz⟩, rfl⟩) | ⟨k, p, xs, ds, _, rfl, e, rfl, _⟩ | ⟨k, p, xs, ds, _, rfl, e, rfl, _⟩ | ⟨k, p, kvs, _, rfl, e, rfl⟩
  case inl.inr.inr.inl =>
    simp only [isI, if_true]
    walk_at "s"
    simp only [intIn] at q
    by_cases c : (0 : Int) ≤ i
    · simp only [c, decide_true, if_true, Bool.true_and] at q ⊢
      exact q
    · simp only [c, decide_false, if_false, Bool.false_and] at q ⊢
      exact q
  all_goals exact q
def sp_l_is_within (K : PySem.W.Frag) (C : CA) : Sp := fun vs H Q _ => ∃ n v d lo hi, vs = [v, .int lo, .int hi] ∧ Rp H n v d ∧ Q (.bl (intIn lo hi d)) H
def rd_l_is_within (K : PySem.W.Frag) (C : CA) (E : XK) : TS :=
  (tRet (tAndV (tCB fIsi (tCons (tVar 0) (tCons (tC (.ty "int")) tNil))) (tAndV (tNotV (tCB fIsi (tCons (tVar 0) (tCons (tC (.ty "bool")) tNil)))) (tChain fLe fLe (tVar 1) (tVar 0) (tVar 2)))))
theorem pure_l_is_within {K : PySem.W.Frag} {C : CA} (vs : List V) (H : Hp) (Q : VK) (E : XK) (h : sp_l_is_within K C vs H Q E) : rd_l_is_within K C E { nx := fun _ H' => Q .non H', rt := Q } (start [("value" : Str), ("low" : Str), ("high" : Str)] vs) H := by
  obtain ⟨n, v, d, lo, hi, rfl, r, q⟩ := h
  show rd_l_is_within K C E _ [some v, some (.int lo), some (.int hi)] H
  unfold rd_l_is_within
  refine q_ret ?_
  rcases rp_flat_or r with (⟨rfl, rfl⟩ | ⟨b, rfl, rfl⟩ | ⟨i, rfl, rfl⟩ | ⟨z, ⟨rfl, lz⟩, rfl⟩) | ⟨k, p, xs, ds, _, rfl, e, rfl, _⟩ | ⟨k, p, xs, ds, _, rfl, e, rfl, _⟩ | ⟨k, p, kvs, _, rfl, e, rfl⟩
  · walk_at "s"; exact q
  · walk_at "s"; exact q
  · walk_at "s"
    simp only [intIn] at q
    by_cases c : lo ≤ i
    · simp only [c, decide_true, if_true, Bool.true_and] at q ⊢
      exact q
    · simp only [c, decide_false, if_false, Bool.false_and] at q ⊢
      exact q
  · walk_at "s"; exact q
  · walk_at "s"; rw [lst_ty e]; walk_at "s"; exact q
  · walk_at "s"; rw [tup_ty e]; walk_at "s"; exact q
  · walk_at "s"; rw [tyN_dK e]; walk_at "s"; exact q
def sp_is_tuple_of (K : PySem.W.Frag) (C : CA) : Sp := fun vs H Q _ => ∃ n v d k, vs = [v, .int k] ∧ Rp H n v d ∧ Q (.bl (tupOf k d)) H
def rd_is_tuple_of (K : PySem.W.Frag) (C : CA) (E : XK) : TS :=
  (tRet (tAndV (tCB fIsi (tCons (tVar 0) (tCons (tC (.ty "tuple")) tNil))) (tOp (fEq K) (tCB fLen (tCons (tVar 0) tNil)) (tVar 1))))
theorem pure_is_tuple_of {K : PySem.W.Frag} {C : CA} (vs : List V) (H : Hp) (Q : VK) (E : XK) (h : sp_is_tuple_of K C vs H Q E) : rd_is_tuple_of K C E { nx := fun _ H' => Q .non H', rt := Q } (start [("value" : Str), ("parts" : Str)] vs) H := by
  obtain ⟨n, v, d, k, rfl, r, q⟩ := h
  show rd_is_tuple_of K C E _ [some v, some (.int k)] H
  unfold rd_is_tuple_of
  refine q_ret ?_
  rcases rp_flat_or r with (⟨rfl, rfl⟩ | ⟨b, rfl, rfl⟩ | ⟨i, rfl, rfl⟩ | ⟨z, ⟨rfl, lz⟩, rfl⟩) | ⟨k, p, xs, ds, _, rfl, e, rfl, _⟩ | ⟨k, p, xs, ds, _, rfl, e, rfl, _, a⟩ | ⟨k, p, kvs, _, rfl, e, rfl⟩
  · walk_at "s"; exact q
  · walk_at "s"; exact q
  · walk_at "s"; exact q
  · walk_at "s"; exact q
  · walk_at "s"; rw [lst_ty e]; walk_at "s"; exact q
  · walk_at "s"; rw [tup_ty e]; walk_at "s"; rw [asS_of_T e]; walk_at "s"
    rw [a.1]
    exact q
  · walk_at "s"; rw [tyN_dK e]; walk_at "s"; exact q
def sp_is_place (K : PySem.W.Frag) (C : CA) : Sp := fun vs H Q _ => ∃ n v d, vs = [v] ∧ Rp H n v d ∧ ∀ H', Sm H H' → Q (.bl (nameD d || isDash d)) H'
def rd_is_place (K : PySem.W.Frag) (C : CA) (E : XK) : TS :=
  (tRet (tOrV (tCallS (sp_is_name K C) (fun _ => E0) (tCons (tVar 0) tNil)) (tOp (fEqX K) (tVar 0) (tC (.str ("-" : Str))))))
theorem pure_is_place {K : PySem.W.Frag} {C : CA} (vs : List V) (H : Hp) (Q : VK) (E : XK) (h : sp_is_place K C vs H Q E) : rd_is_place K C E { nx := fun _ H' => Q .non H', rt := Q } (start [("value" : Str)] vs) H := by
  obtain ⟨n, v, d, rfl, r, q⟩ := h
  show rd_is_place K C E _ [some v] H
  unfold rd_is_place
  refine q_ret ?_
  walk_at "s"
  refine sp_name_ok r fun H1 s1 => ?_
  walk_at "s"
  have q1 := q H1 s1
  by_cases c : nameD d = true
  · rw [c] at q1 ⊢
    exact q1
  · have c : nameD d = false := by simpa using c
    rw [c] at q1 ⊢
    rw [Bool.false_or] at q1
    simp only [Bool.false_eq_true, if_false]
    rcases rp_flat_or (r.mono s1) with (⟨rfl, rfl⟩ | ⟨b, rfl, rfl⟩ | ⟨i, rfl, rfl⟩ | ⟨z, ⟨rfl, lz⟩, rfl⟩) | ⟨k, p, xs, ds, _, rfl, e, rfl, _⟩ | ⟨k, p, xs, ds, _, rfl, e, rfl, _⟩ | ⟨k, p, kvs, _, rfl, e, rfl⟩
    · exact ⟨rfl, q1⟩
    · exact ⟨rfl, q1⟩
    · exact ⟨rfl, q1⟩
    · rw [f_eqXS]
      exact q1
    · rw [f_eqRS (asS_of_L e)]
      exact q1
    · rw [f_eqRS (asS_of_T e)]
      exact q1
    · rw [f_eqDS e]
      exact q1
theorem tup_of {k : Int} {n : Nat} {H : Hp} {v : V} {d : PyData} (c : tupOf k d = true) (r : Rp H n v d) : ∃ m p xs ds, v = .ref p ∧ asT (H p) = some xs ∧ d = .tuple ds ∧ (ds.length : Int) = k ∧ All2 (Rp H m) xs ds := by
  rcases rp_flat_or r with (⟨rfl, rfl⟩ | ⟨b, rfl, rfl⟩ | ⟨i, rfl, rfl⟩ | ⟨z, ⟨rfl, lz⟩, rfl⟩) | ⟨k, p, xs, ds, _, rfl, e, rfl, _⟩ | ⟨j, p, xs, ds, _, e1, e2, e3, _, a⟩ | ⟨k, p, kvs, _, rfl, e, rfl⟩
  · cases c
  · cases c
  · cases c
  · cases c
  · cases c
  · subst e3
    exact ⟨j, p, xs, ds, e1, e2, rfl, of_decide_eq_true c, a⟩
  · cases c
def sp_is_crossing (K : PySem.W.Frag) (C : CA) : Sp := fun vs H Q _ => ∃ n v d, vs = [v] ∧ Rp H n v d ∧ ∀ H', Sm H H' → Q (.bl (crossD d)) H'
def rd_is_crossing (K : PySem.W.Frag) (C : CA) (E : XK) : TS :=
  (tRet (tAndV (tCallS (sp_is_tuple_of K C) (fun _ => E0) (tCons (tVar 0) (tCons (tC (.int 2)) tNil))) (tAndV (tCallS (sp_is_day K C) (fun _ => E0) (tCons (tOp fIx (tVar 0) (tC (.int 0))) tNil)) (tCallS (sp_is_name K C) (fun _ => E0) (tCons (tOp fIx (tVar 0) (tC (.int 1))) tNil)))))
theorem pure_is_crossing {K : PySem.W.Frag} {C : CA} (vs : List V) (H : Hp) (Q : VK) (E : XK) (h : sp_is_crossing K C vs H Q E) : rd_is_crossing K C E { nx := fun _ H' => Q .non H', rt := Q } (start [("value" : Str)] vs) H := by
  obtain ⟨n, v, d, rfl, r, q⟩ := h
  show rd_is_crossing K C E _ [some v] H
  unfold rd_is_crossing
  refine q_ret ?_
  walk_at "s"
  refine ⟨n, v, d, 2, rfl, r, ?_⟩
  have q0 := q H fun _ _ z => z
  have no : tupOf 2 d = false → Q (.bl false) H := fun e => by
    have e2 : crossD d = false := by
      unfold crossD
      split
      · cases e
      · rfl
    rw [e2] at q0
    exact q0
  by_cases c : tupOf 2 d = true
  · obtain ⟨k, p, xs, ds, rfl, e, rfl, c2, a⟩ := tup_of c r
    have c2 : ds.length = 2 := by omega
    match ds, xs, c2, a with
    | [d0, d1], [x0, x1], _, a =>
      have r0 : Rp H k x0 d0 := a.2 0 _ _ rfl rfl
      have r1 : Rp H k x1 d1 := a.2 1 _ _ rfl rfl
      rw [c]
      walk_at "s"
      rw [asS_of_T e]
      walk_at "s"
      refine ⟨k, x0, d0, rfl, r0, ?_⟩
      walk_at "s"
      simp only [crossD] at q
      by_cases c0 : intIn 0 6 d0 = true
      · rw [c0] at q ⊢
        simp only [if_true]
        rw [asS_of_T e]
        walk_at "s"
        refine sp_name_ok r1 fun H1 s1 => ?_
        have := q H1 s1
        rw [Bool.true_and] at this
        exact this
      · have c0 : intIn 0 6 d0 = false := by simpa using c0
        rw [c0] at q ⊢
        exact q H fun _ _ z => z
  · have c : tupOf 2 d = false := by simpa using c
    rw [c]
    exact ⟨false, rfl, no c⟩
theorem leg_eq {a b c : PyData} : legD (.tuple [a, b, c]) = ((intIn 0 6 a && nameD b) && ((nameD c || isDash c) && (isDash c || intIn 0 5 a))) := by
  simp only [legD]
  by_cases h : nameD c = true
  · have hd : isDash c = false := by
      cases c with
      | str z =>
        simp only [isDash, decide_eq_false_iff_not]
        intro e
        rw [e] at h
        exact absurd h (by rw [show nameD (.str dashS) = nameS dashS from rfl, dash_no_name]; decide)
      | _ => rfl
    rw [if_pos h, h, hd]
    cases a with
    | int i =>
      simp only [intIn]
      by_cases c1 : (0 : Int) ≤ i <;> by_cases c2 : i ≤ 5 <;> by_cases c3 : i ≤ 6 <;> simp [c1, c2, c3] <;> omega
    | _ => simp [intIn]
  · have h : nameD c = false := by simpa using h
    rw [h]
    simp only [Bool.false_eq_true, if_false, Bool.false_or]
    cases isDash c <;> cases nameD b <;> cases intIn 0 6 a <;> rfl
def sp_is_leg (K : PySem.W.Frag) (C : CA) : Sp := fun vs H Q _ => ∃ n v d, vs = [v] ∧ Rp H n v d ∧ ∀ H', Sm H H' → Q (.bl (legD d)) H'
def rd_is_leg (K : PySem.W.Frag) (C : CA) (E : XK) : TS :=
  (tSeq (tIfS (tOr (tNot (tB (tCallS (sp_is_tuple_of K C) (fun _ => E0) (tCons (tVar 0) (tCons (tC (.int 3)) tNil))))) (tOr (tNot (tB (tCallS (sp_is_crossing K C) (fun _ => E0) (tCons (tSl fSl2 (tVar 0) tNoPart (tPart (tC (.int 2)))) tNil)))) (tNot (tB (tCallS (sp_is_place K C) (fun _ => E0) (tCons (tOp fIx (tVar 0) (tC (.int 2))) tNil)))))) (tRet (tC (.bl false))) tNext) (tRet (tOrV (tOp (fEqX K) (tOp fIx (tVar 0) (tC (.int 2))) (tC (.str ("-" : Str)))) (tOp fLt (tOp fIx (tVar 0) (tC (.int 0))) (tC (.int 6))))))
theorem pure_is_leg {K : PySem.W.Frag} {C : CA} (vs : List V) (H : Hp) (Q : VK) (E : XK) (h : sp_is_leg K C vs H Q E) : rd_is_leg K C E { nx := fun _ H' => Q .non H', rt := Q } (start [("value" : Str)] vs) H := by
  obtain ⟨n, v, d, rfl, r, q⟩ := h
  show rd_is_leg K C E _ [some v] H
  unfold rd_is_leg
  refine q_if ?_
  walk_at "s"
  refine ⟨n, v, d, 3, rfl, r, ?_⟩
  have q0 := q H fun _ _ z => z
  have no : tupOf 3 d = false → Q (.bl false) H := fun e => by
    have e2 : legD d = false := by
      unfold legD
      split
      · cases e
      · rfl
    rw [e2] at q0
    exact q0
  by_cases c : tupOf 3 d = true
  · obtain ⟨k, p, xs, ds, rfl, e, rfl, c2, a⟩ := tup_of c r
    have c2 : ds.length = 3 := by omega
    match ds, xs, c2, a with
    | [d0, d1, d2], [x0, x1, x2], _, a =>
      have r0 : Rp H k x0 d0 := a.2 0 _ _ rfl rfl
      have r1 : Rp H k x1 d1 := a.2 1 _ _ rfl rfl
      have r2 : Rp H k x2 d2 := a.2 2 _ _ rfl rfl
      rw [leg_eq] at q
      rw [c]
      walk_at "s"
      have eL : asL (H p) = none := by
        cases eo : H p with
        | none => rw [eo] at e; cases e
        | some o =>
          rw [eo] at e
          cases o with
          | lst ys => cases e
          | frz ob u => cases u <;> first | rfl | (cases e)
          | _ => rfl
      simp only [f_slR, f_sl, eL, e]
      refine ⟨by show ¬ (HT.sIx 3 0 none = 0 ∧ HT.sIx 3 3 (some 2) = 3); decide, fun pc nc => al nc fun H1 s1 h1 => ?_⟩
      have h1' : H1 pc = some (.tup [x0, x1]) := h1
      refine ⟨k + 1, .ref pc, .tuple [d0, d1], rfl, .inr (.inr (.inl ⟨pc, [x0, x1], [d0, d1], rfl, by rw [h1']; rfl, rfl, (by show 2 ≤ 1000; decide), All2.cons (r0.mono s1) (All2.cons (r1.mono s1) All2.nil)⟩)), fun H2 s2 => ?_⟩
      have s12 := sm_trans s1 s2
      simp only [crossD]
      walk_at "s"
      by_cases c0 : (intIn 0 6 d0 && nameD d1) = true
      · rw [c0] at q ⊢
        simp only [Bool.true_and] at q
        simp only [Bool.not_true, Bool.false_eq_true, if_false]
        rw [asS_of_T (sm_T s12 e)]
        walk_at "s"
        refine ⟨k, x2, d2, rfl, r2.mono s12, fun H3 s3 => ?_⟩
        have s13 := sm_trans s12 s3
        walk_at "s"
        by_cases c1 : (nameD d2 || isDash d2) = true
        · rw [c1] at q ⊢
          simp only [Bool.true_and] at q
          simp only [Bool.not_true, Bool.false_eq_true, if_false]
          walk_at "s"
          rw [asS_of_T (sm_T s13 e)]
          walk_at "s"
          have q3 := q H3 s13
          obtain ⟨z, rfl, rfl⟩ : ∃ z, x2 = .str z ∧ d2 = .str z := by
            rcases rp_flat_or r2 with (⟨rfl, rfl⟩ | ⟨b, rfl, rfl⟩ | ⟨i, rfl, rfl⟩ | ⟨z, ⟨rfl, lz⟩, rfl⟩) | ⟨k, p, xs, ds, _, rfl, e, rfl, _⟩ | ⟨k, p, xs, ds, _, rfl, e, rfl, _⟩ | ⟨k, p, kvs, _, rfl, e, rfl⟩
            case inl.inr.inr.inr => exact ⟨z, rfl, rfl⟩
            all_goals cases c1
          obtain ⟨i, rfl, rfl⟩ : ∃ i, x0 = .int i ∧ d0 = .int i := by
            rcases rp_flat_or r0 with (⟨rfl, rfl⟩ | ⟨b, rfl, rfl⟩ | ⟨i, rfl, rfl⟩ | ⟨z, ⟨rfl, lz⟩, rfl⟩) | ⟨k, p, xs, ds, _, rfl, e, rfl, _⟩ | ⟨k, p, xs, ds, _, rfl, e, rfl, _⟩ | ⟨k, p, kvs, _, rfl, e, rfl⟩
            case inl.inr.inr.inl => exact ⟨i, rfl, rfl⟩
            all_goals cases c0
          rw [f_eqXS]
          have i0 : 0 ≤ i := by
            simp only [intIn, Bool.and_eq_true, decide_eq_true_eq] at c0
            exact c0.1.1
          have e5 : intIn 0 5 (.int i) = decide (i < 6) := by
            simp only [intIn, i0, decide_true, Bool.true_and]
            by_cases c6 : i < 6
            · rw [decide_eq_true c6, decide_eq_true (by omega)]
            · rw [decide_eq_false c6, decide_eq_false (by omega)]
          rw [e5] at q3
          refine ⟨_, rfl, ?_⟩
          by_cases c7 : isDash (.str z) = true
          · rw [c7] at q3
            have c8 : decide (z = Str.ofString "-") = true := c7
            rw [if_pos c8]
            exact q3
          · have c7 : isDash (.str z) = false := by simpa using c7
            rw [c7] at q3
            have c8 : ¬ decide (z = Str.ofString "-") = true := by
              have c9 : decide (z = Str.ofString "-") = false := c7
              rw [c9]
              decide
            rw [if_neg c8]
            rw [asS_of_T (sm_T s13 e)]
            walk_at "s"
            exact q3
        · have c1 : (nameD d2 || isDash d2) = false := by simpa using c1
          rw [c1] at q ⊢
          simp only [Bool.false_and] at q
          simp only [Bool.not_false, if_true]
          walk_at "s"
          exact q H3 s13
      · have c0 : (intIn 0 6 d0 && nameD d1) = false := by simpa using c0
        rw [c0] at q ⊢
        simp only [Bool.false_and] at q
        simp only [Bool.not_false, if_true]
        walk_at "s"
        exact q H2 s12
  · have c : tupOf 3 d = false := by simpa using c
    rw [c]
    walk_at "s"
    exact no c
end XB

/-! Plans and their legs. -/
namespace XB
open PySem L2
local macro_rules | `(tactic| walk_at "s") => `(tactic| try simp only [u_var, u_c, u_op, u_un, u_nil, u_cons, u_cb, u_call, u_callS, u_tup, u_lst, u_test, u_B, u_and, u_or, u_not, u_andV, u_orV, u_notV, u_ifE, u_chain, u_sl, u_noPart, u_part, u_bm, u_bm0, u_rev, u_lc, u_try, u_sui, u_sui0, u_unb_rt, u_unb_nx, u_xf, u_WE, w_nil, w_cons, u_raise, u_rng1, u_rng2, u_next, u_ret, u_gname, u_gnil, u_gcons, u_gsub, u_gtup,
  f_add, f_addS, f_addR, f_sub, f_mul, f_mulR, f_mod, f_div, f_pow, f_neg, f_cmp, f_eq, f_eqB, f_eqS, f_ne, f_neB, f_neS, f_isN, f_notN, f_isB, f_ix, f_ixS, f_int, f_intB, f_len, f_lenS, f_max, f_min, f_abs, f_list, f_tuple, f_all, f_sum, f_isi, f_isiT, f_append, f_insert, f_pop, f_sl, f_set,
  kitS, tys, List.isEmpty_cons, Option.map_some, kt_NoneType_int, kt_NoneType_bool, kt_NoneType_str, kt_NoneType_list, kt_NoneType_tuple, kt_NoneType_dict, kt_int_int, kt_int_bool, kt_int_str, kt_int_list, kt_int_tuple, kt_int_dict, kt_bool_int, kt_bool_bool, kt_bool_str, kt_bool_list, kt_bool_tuple, kt_bool_dict, kt_str_int, kt_str_bool, kt_str_str, kt_str_list, kt_str_tuple, kt_str_dict, kt_list_int, kt_list_bool, kt_list_str, kt_list_list, kt_list_tuple, kt_list_dict, kt_tuple_int, kt_tuple_bool, kt_tuple_str, kt_tuple_list, kt_tuple_tuple, kt_tuple_dict, kt_dict_int, kt_dict_bool, kt_dict_str, kt_dict_list, kt_dict_tuple, kt_dict_dict, asL_lst, asL_frz, asL_tup, asT_tup, asS_lst, asS_frz, asS_tup, tyN_non, tyN_bl, tyN_int, tyN_str, atV_lit, ixN_lit, upd_same, upd_ne, upd_ne',
  List.getElem?_cons_zero, List.getElem?_cons_succ, List.set_cons_zero, List.set_cons_succ, List.append_nil, List.length_cons, List.length_nil, Option.some.injEq, exists_eq_left', exists_eq_left, exists_and_left, V.bl.injEq, V.int.injEq, V.str.injEq, V.ref.injEq, Bool.not_eq_true, Bool.not_true, Bool.not_false, decide_true, decide_false, decide_eq_true_eq, decide_eq_false_iff_not, Bool.false_eq_true, if_true, if_false, ite_true, ite_false, reduceCtorEq, true_and, and_true, Nat.reduceAdd, Nat.reduceLT, Nat.zero_add, ne_eq, not_false_eq_true, not_true_eq_false, List.cons.injEq, and_assoc])
local macro_rules | `(tactic| walk_at "S") => `(tactic| try simp only [u_var, u_c, u_op, u_un, u_nil, u_cons, u_cb, u_call, u_callS, u_tup, u_lst, u_test, u_B, u_and, u_or, u_not, u_andV, u_orV, u_notV, u_ifE, u_chain, u_sl, u_noPart, u_part, u_bm, u_bm0, u_rev, u_lc, u_try, u_sui, u_sui0, u_unb_rt, u_unb_nx, u_xf, u_WE, w_nil, w_cons, u_raise, u_rng1, u_rng2, u_next, u_ret, u_gname, u_gnil, u_gcons, u_gsub, u_gtup,
  f_add, f_addS, f_addR, f_sub, f_mul, f_mulR, f_mod, f_div, f_pow, f_neg, f_cmp, f_eq, f_eqB, f_eqS, f_ne, f_neB, f_neS, f_isN, f_notN, f_isB, f_ix, f_ixS, f_int, f_intB, f_len, f_lenS, f_max, f_min, f_abs, f_list, f_tuple, f_all, f_sum, f_isi, f_isiT, f_append, f_insert, f_pop, f_sl, f_set,
  kitS, tys, List.isEmpty_cons, Option.map_some, kt_NoneType_int, kt_NoneType_bool, kt_NoneType_str, kt_NoneType_list, kt_NoneType_tuple, kt_NoneType_dict, kt_int_int, kt_int_bool, kt_int_str, kt_int_list, kt_int_tuple, kt_int_dict, kt_bool_int, kt_bool_bool, kt_bool_str, kt_bool_list, kt_bool_tuple, kt_bool_dict, kt_str_int, kt_str_bool, kt_str_str, kt_str_list, kt_str_tuple, kt_str_dict, kt_list_int, kt_list_bool, kt_list_str, kt_list_list, kt_list_tuple, kt_list_dict, kt_tuple_int, kt_tuple_bool, kt_tuple_str, kt_tuple_list, kt_tuple_tuple, kt_tuple_dict, kt_dict_int, kt_dict_bool, kt_dict_str, kt_dict_list, kt_dict_tuple, kt_dict_dict, asL_lst, asL_frz, asL_tup, asT_tup, asS_lst, asS_frz, asS_tup, tyN_non, tyN_bl, tyN_int, tyN_str, atV_lit, ixN_lit, upd_same, upd_ne, upd_ne',
  List.getElem?_cons_zero, List.getElem?_cons_succ, List.set_cons_zero, List.set_cons_succ, List.append_nil, List.length_cons, List.length_nil, Option.some.injEq, exists_eq_left', exists_eq_left, exists_and_left, V.bl.injEq, V.int.injEq, V.str.injEq, V.ref.injEq, Bool.not_eq_true, Bool.not_true, Bool.not_false, decide_true, decide_false, decide_eq_true_eq, decide_eq_false_iff_not, Bool.false_eq_true, if_true, if_false, ite_true, ite_false, reduceCtorEq, true_and, and_true, Nat.reduceAdd, Nat.reduceLT, Nat.zero_add, ne_eq, not_false_eq_true, not_true_eq_false, List.cons.injEq, and_assoc, *])
theorem names_all {k : Nat} {H : Hp} : ∀ {xs : List V} {ds : List PyData}, All2 (Rp H k) xs ds → (xs.map nameV).all id = ds.all nameD
  | [], [], _ => rfl
  | x :: xs, d :: ds, h => by
    have h0 : Rp H k x d := h.2 0 _ _ rfl rfl
    have ih := names_all (xs := xs) (ds := ds) ⟨by simpa using h.1, fun i y e hy he => h.2 (i + 1) y e (by simpa using hy) (by simpa using he)⟩
    simp only [List.map_cons, List.all_cons, id]
    rw [h0.name, ih]
  | [], _ :: _, h => by have := h.1; simp at this
  | _ :: _, [], h => by have := h.1; simp at this
def sp_is_plan (K : PySem.W.Frag) (C : CA) : Sp := fun vs H Q _ => ∃ n v d, vs = [v] ∧ Rp H n v d ∧ ∀ H', Sm H H' → Q (.bl (planD d)) H'
def rd_is_plan (K : PySem.W.Frag) (C : CA) (E : XK) : TS :=
  (tSeq (tIfS (tOr (tNot (tB (tCB fIsi (tCons (tVar 0) (tCons (tC (.ty "tuple")) tNil))))) (tNot (tTest (tChain fLe fLe (tC (.int 1)) (tCB fLen (tCons (tVar 0) tNil)) (tOp fAdd (tC (.int 6)) (tC (.int 1))))))) (tRet (tC (.bl false))) tNext) (tRet (tCB fAll (tCons (tLc (iTup K (tVar 0)) (gName 1) tYes (tCallS (sp_is_name K C) (fun _ => E0) (tCons (tVar 1) tNil)) [1]) tNil))))
theorem pure_is_plan {K : PySem.W.Frag} {C : CA} (vs : List V) (H : Hp) (Q : VK) (E : XK) (h : sp_is_plan K C vs H Q E) : rd_is_plan K C E { nx := fun _ H' => Q .non H', rt := Q } (start [("value" : Str), ("town" : Str)] vs) H := by
  obtain ⟨n, v, d, rfl, r, q⟩ := h
  show rd_is_plan K C E _ [some v, none] H
  unfold rd_is_plan
  refine q_if ?_
  have q0 := q H fun _ _ z => z
  rcases rp_flat_or r with (⟨rfl, rfl⟩ | ⟨b, rfl, rfl⟩ | ⟨i, rfl, rfl⟩ | ⟨z, ⟨rfl, lz⟩, rfl⟩) | ⟨k, p, xs, ds, _, rfl, e, rfl, _⟩ | ⟨j, p, xs, ds, _, e1, e2, e3, lx, a⟩ | ⟨k, p, kvs, _, rfl, e, rfl⟩
  · walk_at "s"; exact q0
  · walk_at "s"; exact q0
  · walk_at "s"; exact q0
  · walk_at "s"; exact q0
  · walk_at "s"; rw [lst_ty e]; walk_at "s"; exact q0
  · subst e1 e3
    walk_at "s"
    rw [tup_ty e2]
    walk_at "s"
    rw [asS_of_T e2]
    walk_at "s"
    have l1 := a.1
    by_cases c1 : (1 : Int) ≤ (xs.length : Nat)
    · simp only [c1, decide_true, if_true]
      by_cases c2 : ((xs.length : Nat) : Int) ≤ 7
      · have c2' : ((xs.length : Nat) : Int) ≤ 6 + 1 := by omega
        simp only [c2', decide_true, Bool.not_true, Bool.false_eq_true, if_false]
        walk_at "s"
        rw [u_tupI]
        walk_at "s"
        refine ⟨⟨_, asT_seq e2⟩, fun Dd hD => ?_⟩
        refine made_mapT (fun x => .bl (nameV x)) e2 hD (by show _ < 2 ^ 24; omega) (fun _ => rfl) (fun i x H1 Q1 hx s1 q1 => ?_) fun H1 s1 h1 => ?_
        · walk_at "s"
          have hi := (List.getElem?_eq_some_iff.mp hx).1
          exact ⟨x, rfl, ((a.2 i x (ds[i]'(by omega)) hx (by simp)).mono s1).tz, q1⟩
        · rw [h1]
          walk_at "s"
          refine ⟨xs.map nameV, by rw [List.map_map]; rfl, ?_⟩
          have e := q H1 s1
          have e4 : planD (.tuple ds) = (xs.map nameV).all id := by
            rw [names_all a]
            simp only [planD]
            rw [decide_eq_true (by omega : 1 ≤ ds.length), decide_eq_true (by omega : ds.length ≤ 7)]
            rfl
          rw [e4] at e
          exact e
      · have c2' : ¬ ((xs.length : Nat) : Int) ≤ 6 + 1 := by omega
        simp only [c2', decide_false, Bool.not_false, if_true]
        walk_at "s"
        have e4 : planD (.tuple ds) = false := by
          simp only [planD]
          rw [decide_eq_false (by omega : ¬ ds.length ≤ 7), Bool.and_false, Bool.false_and]
        rw [e4] at q0
        exact q0
    · simp only [c1, decide_false, Bool.false_eq_true, if_false]
      walk_at "s"
      have e4 : planD (.tuple ds) = false := by
        simp only [planD]
        rw [decide_eq_false (by omega : ¬ 1 ≤ ds.length), Bool.false_and, Bool.false_and]
      rw [e4] at q0
      exact q0
  · walk_at "s"; rw [tyN_dK e]; walk_at "s"; exact q0
def deedD : PyData → Bool
  | .tuple [a, b, c] => nameD a && nameD b && intIn 0 6 c
  | _ => false
def sightD : PyData → Bool
  | .tuple [a, b, c] => nameD a && intIn 0 6 b && (nameD c || isDash c)
  | _ => false
def histD : PyData → Bool
  | .list ds => decide (ds.length ≤ 60) && ds.all deedD
  | _ => false
theorem bool_t {P : Prop} {b : Bool} (h1 : b = true → P) (h2 : b = false → P) : P := by cases b <;> simp_all
theorem rp_at {k : Nat} {H : Hp} {xs : List V} {ds : List PyData} (a : All2 (Rp H k) xs ds) {i : Nat} {x : V} {d : PyData} (hx : xs[i]? = some x) (hd : ds[i]? = some d) : Rp H k x d := a.2 i x d hx hd
def sp_is_deed (K : PySem.W.Frag) (C : CA) : Sp := fun vs H Q _ => ∃ n v d, vs = [v] ∧ Rp H n v d ∧ ∀ H', Sm H H' → Q (.bl (deedD d)) H'
def rd_is_deed (K : PySem.W.Frag) (C : CA) (E : XK) : TS :=
  (tRet (tAndV (tCallS (sp_is_tuple_of K C) (fun _ => E0) (tCons (tVar 0) (tCons (tC (.int 3)) tNil))) (tAndV (tCallS (sp_is_name K C) (fun _ => E0) (tCons (tOp fIx (tVar 0) (tC (.int 0))) tNil)) (tAndV (tCallS (sp_is_name K C) (fun _ => E0) (tCons (tOp fIx (tVar 0) (tC (.int 1))) tNil)) (tCallS (sp_is_day K C) (fun _ => E0) (tCons (tOp fIx (tVar 0) (tC (.int 2))) tNil))))))
theorem pure_is_deed {K : PySem.W.Frag} {C : CA} (vs : List V) (H : Hp) (Q : VK) (E : XK) (h : sp_is_deed K C vs H Q E) : rd_is_deed K C E { nx := fun _ H' => Q .non H', rt := Q } (start [("value" : Str)] vs) H := by
  obtain ⟨n, v, d, rfl, r, q⟩ := h
  show rd_is_deed K C E _ [some v] H
  unfold rd_is_deed
  refine q_ret ?_
  walk_at "s"
  refine ⟨n, v, d, 3, rfl, r, ?_⟩
  have q0 := q H fun _ _ z => z
  by_cases c : tupOf 3 d = true
  · obtain ⟨k, p, xs, ds, rfl, e, rfl, c2, a⟩ := tup_of c r
    have c2 : ds.length = 3 := by omega
    match ds, xs, c2, a with
    | [d0, d1, d2], [x0, x1, x2], _, a =>
      have r0 : Rp H k x0 d0 := a.2 0 _ _ rfl rfl
      have r1 : Rp H k x1 d1 := a.2 1 _ _ rfl rfl
      have r2 : Rp H k x2 d2 := a.2 2 _ _ rfl rfl
      rw [c]
      walk_at "s"
      rw [asS_of_T e]
      walk_at "s"
      refine sp_name_ok r0 fun H1 s1 => ?_
      simp only [deedD] at q
      walk_at "s"
      refine bool_t (b := nameD d0) (fun c0 => ?_) fun c0 => ?_ <;> rw [c0] at q ⊢
      · simp only [if_true, Bool.true_and] at q ⊢
        rw [asS_of_T (sm_T s1 e)]
        walk_at "s"
        refine sp_name_ok (r1.mono s1) fun H2 s2 => ?_
        walk_at "s"
        refine bool_t (b := nameD d1) (fun c1 => ?_) fun c1 => ?_ <;> rw [c1] at q ⊢
        · simp only [if_true, Bool.true_and] at q ⊢
          rw [asS_of_T (sm_T (sm_trans s1 s2) e)]
          walk_at "s"
          exact ⟨k, x2, d2, rfl, r2.mono (sm_trans s1 s2), q H2 (sm_trans s1 s2)⟩
        · exact q H2 (sm_trans s1 s2)
      · exact q H1 s1
  · have c : tupOf 3 d = false := by simpa using c
    rw [c]
    have e2 : deedD d = false := by
      unfold deedD
      split
      · cases c
      · rfl
    rw [e2] at q0
    exact ⟨false, rfl, q0⟩
def sp_is_sighting (K : PySem.W.Frag) (C : CA) : Sp := fun vs H Q _ => ∃ n v d, vs = [v] ∧ Rp H n v d ∧ ∀ H', Sm H H' → Q (.bl (sightD d)) H'
def rd_is_sighting (K : PySem.W.Frag) (C : CA) (E : XK) : TS :=
  (tRet (tAndV (tCallS (sp_is_tuple_of K C) (fun _ => E0) (tCons (tVar 0) (tCons (tC (.int 3)) tNil))) (tAndV (tCallS (sp_is_name K C) (fun _ => E0) (tCons (tOp fIx (tVar 0) (tC (.int 0))) tNil)) (tAndV (tCallS (sp_is_day K C) (fun _ => E0) (tCons (tOp fIx (tVar 0) (tC (.int 1))) tNil)) (tCallS (sp_is_place K C) (fun _ => E0) (tCons (tOp fIx (tVar 0) (tC (.int 2))) tNil))))))
theorem pure_is_sighting {K : PySem.W.Frag} {C : CA} (vs : List V) (H : Hp) (Q : VK) (E : XK) (h : sp_is_sighting K C vs H Q E) : rd_is_sighting K C E { nx := fun _ H' => Q .non H', rt := Q } (start [("value" : Str)] vs) H := by
  obtain ⟨n, v, d, rfl, r, q⟩ := h
  show rd_is_sighting K C E _ [some v] H
  unfold rd_is_sighting
  refine q_ret ?_
  walk_at "s"
  refine ⟨n, v, d, 3, rfl, r, ?_⟩
  have q0 := q H fun _ _ z => z
  by_cases c : tupOf 3 d = true
  · obtain ⟨k, p, xs, ds, rfl, e, rfl, c2, a⟩ := tup_of c r
    have c2 : ds.length = 3 := by omega
    match ds, xs, c2, a with
    | [d0, d1, d2], [x0, x1, x2], _, a =>
      have r0 : Rp H k x0 d0 := a.2 0 _ _ rfl rfl
      have r1 : Rp H k x1 d1 := a.2 1 _ _ rfl rfl
      have r2 : Rp H k x2 d2 := a.2 2 _ _ rfl rfl
      rw [c]
      walk_at "s"
      rw [asS_of_T e]
      walk_at "s"
      refine sp_name_ok r0 fun H1 s1 => ?_
      simp only [sightD] at q
      walk_at "s"
      refine bool_t (b := nameD d0) (fun c0 => ?_) fun c0 => ?_ <;> rw [c0] at q ⊢
      · simp only [if_true, Bool.true_and] at q ⊢
        rw [asS_of_T (sm_T s1 e)]
        walk_at "s"
        refine ⟨k, x1, d1, rfl, r1.mono s1, ?_⟩
        walk_at "s"
        refine bool_t (b := intIn 0 6 d1) (fun c1 => ?_) fun c1 => ?_ <;> rw [c1] at q ⊢
        · simp only [if_true, Bool.true_and] at q ⊢
          rw [asS_of_T (sm_T s1 e)]
          walk_at "s"
          exact ⟨k, x2, d2, rfl, r2.mono s1, fun H3 s3 => q H3 (sm_trans s1 s3)⟩
        · exact q H1 s1
      · exact q H1 s1
  · have c : tupOf 3 d = false := by simpa using c
    rw [c]
    have e2 : sightD d = false := by
      unfold sightD
      split
      · cases c
      · rfl
    rw [e2] at q0
    exact ⟨false, rfl, q0⟩
section
variable {K : PySem.W.Frag} {σ : L2.St} {H : Hp} {n : Nat} {a Dd : Addr} {xs : List V} {ds : List PyData} {te : TE} {vs : List Nat} {Qd : Hp → Prop}
theorem snoc_map {gv : PyData → V} {i : Nat} {d : PyData} (h : ds[i]? = some d) : (ds.take (i + 1)).map gv = (ds.take i).map gv ++ [gv d] := by
  rw [List.take_add_one, h, List.map_append]
  rfl
theorem gv_step {gv : PyData → V} {i : Nat} {d : PyData} {H' : Hp} {te : (V → Hp → Prop) → Prop} (hD : H Dd = none) (hd : ds[i]? = some d) (hz : ds.length < 2 ^ 20) (s1 : Sm H H') (h1 : H' Dd = some (.lst ((ds.take i).map gv)))
    (he : ∀ Q : VK, (∀ H2, Sm H' H2 → Q (gv d) H2) → te Q) :
    te fun y H4 => ∃ acc, H4 Dd = some (.lst acc) ∧ acc.length < sizeLine ∧ (Sm H (upd H4 Dd (.lst (acc ++ [y]))) ∧ (upd H4 Dd (.lst (acc ++ [y]))) Dd = some (.lst ((ds.take (i + 1)).map gv))) := by
  refine he _ fun H2 s2 => ⟨_, s2 _ _ h1, ?_, sm_put (sm_trans s1 s2) hD, ?_⟩
  · rw [List.length_map, List.length_take]
    show _ < 2 ^ 24
    omega
  · rw [upd_same, snoc_map hd]
theorem made_gvL {gv : PyData → V} (hl : asL (H a) = some xs) (hD : H Dd = none) (ll : xs.length = ds.length) (hz : ds.length < 2 ^ 20) (hw : ∀ x, wipe ((wipe σ vs).set n (some x)) vs = wipe σ vs)
    (he : ∀ (i : Nat) (x : V) (d : PyData) (H' : Hp) (Q : VK), xs[i]? = some x → ds[i]? = some d → Sm H H' → (∀ H2, Sm H' H2 → Q (gv d) H2) → te ((wipe σ vs).set n (some x)) H' Q)
    (hd : ∀ H', Sm H H' → H' Dd = some (.lst (ds.map gv)) → Qd H') : Made (Itl K a) (gName n) tYes te vs σ Dd H Qd := by
  refine made_list (fun i H' => Sm H H' ∧ H' Dd = some (.lst ((ds.take i).map gv))) ⟨sm_new (fun _ _ h => h) hD, upd_same⟩ (fun i H' _ p => sm_L p.1 hl) (fun i x H' hx p => ⟨hw x, ?_⟩) fun H' p => hd H' p.1 (by
    have := p.2
    rw [ll, List.take_length] at this
    exact this)
  have hi := (List.getElem?_eq_some_iff.mp hx).1
  have hdi : ds[i]? = some (ds[i]'(by omega)) := by simp
  refine iteT (B := Sm H H' ∧ H' Dd = some (.lst ((ds.take (i + 1)).map gv))) ?_
  exact gv_step (te := fun Q => te _ H' Q) hD hdi hz p.1 p.2 fun Q k => he i x _ H' Q hx hdi p.1 k
end
def sp_is_history (K : PySem.W.Frag) (C : CA) : Sp := fun vs H Q _ => ∃ n v d, vs = [v] ∧ Rp H n v d ∧ ∀ H', Sm H H' → Q (.bl (histD d)) H'
def rd_is_history (K : PySem.W.Frag) (C : CA) (E : XK) : TS :=
  (tRet (tAndV (tCB fIsi (tCons (tVar 0) (tCons (tC (.ty "list")) tNil))) (tAndV (tOp fLe (tCB fLen (tCons (tVar 0) tNil)) (tC (.int 60))) (tCB fAll (tCons (tLc (iList K (tVar 0)) (gName 1) tYes (tCallS (sp_is_deed K C) (fun _ => E0) (tCons (tVar 1) tNil)) [1]) tNil)))))
theorem pure_is_history {K : PySem.W.Frag} {C : CA} (vs : List V) (H : Hp) (Q : VK) (E : XK) (h : sp_is_history K C vs H Q E) : rd_is_history K C E { nx := fun _ H' => Q .non H', rt := Q } (start [("value" : Str), ("deed" : Str)] vs) H := by
  obtain ⟨n, v, d, rfl, r, q⟩ := h
  show rd_is_history K C E _ [some v, none] H
  unfold rd_is_history
  refine q_ret ?_
  have q0 := q H fun _ _ z => z
  rcases rp_flat_or r with (⟨rfl, rfl⟩ | ⟨b, rfl, rfl⟩ | ⟨i, rfl, rfl⟩ | ⟨z, ⟨rfl, lz⟩, rfl⟩) | ⟨k, p, xs, ds, _, rfl, e, rfl, lx, a⟩ | ⟨j, p, xs, ds, _, rfl, e, rfl, _⟩ | ⟨k, p, kvs, _, rfl, e, rfl⟩
  · walk_at "s"; exact q0
  · walk_at "s"; exact q0
  · walk_at "s"; exact q0
  · walk_at "s"; exact q0
  · walk_at "s"
    rw [lst_ty e]
    walk_at "s"
    rw [asS_of_L e]
    walk_at "s"
    have l1 := a.1
    by_cases c1 : ((xs.length : Nat) : Int) ≤ 60
    · simp only [c1, decide_true, if_true]
      walk_at "s"
      rw [u_list]
      walk_at "s"
      refine ⟨⟨_, asL_seq e⟩, fun Dd hD => ?_⟩
      refine made_gvL (gv := fun d => .bl (deedD d)) e hD l1 (by omega) (fun _ => rfl) (fun i x d H1 Q1 hx hd s1 q1 => ?_) fun H1 s1 h1 => ?_
      · walk_at "s"
        exact ⟨k, x, d, rfl, (a.2 i x d hx hd).mono s1, q1⟩
      · rw [h1]
        walk_at "s"
        refine ⟨ds.map deedD, by rw [List.map_map]; rfl, ?_⟩
        have e4 : histD (.list ds) = (ds.map deedD).all id := by
          simp only [histD]
          rw [decide_eq_true (by omega : ds.length ≤ 60), Bool.true_and, List.all_map]
          rfl
        rw [← e4]
        exact q H1 s1
    · simp only [c1, decide_false, Bool.false_eq_true, if_false]
      have e4 : histD (.list ds) = false := by
        simp only [histD]
        rw [decide_eq_false (by omega : ¬ ds.length ≤ 60), Bool.false_and]
      rw [e4] at q0
      exact q0
  · walk_at "s"; rw [tup_ty e]; walk_at "s"; exact q0
  · walk_at "s"; rw [tyN_dK e]; walk_at "s"; exact q0
def sp_l_is_deed (K : PySem.W.Frag) (C : CA) : Sp := fun vs H Q _ => ∃ n v d, vs = [v] ∧ Rp H n v d ∧ ∀ H', Sm H H' → Q (.bl (deedD d)) H'
def rd_l_is_deed (K : PySem.W.Frag) (C : CA) (E : XK) : TS :=
  (tSeq (tIfS (tOr (tNot (tB (tCB fIsi (tCons (tVar 0) (tCons (tC (.ty "tuple")) tNil))))) (tTest (tOp (fNe K) (tCB fLen (tCons (tVar 0) tNil)) (tC (.int 3))))) (tRet (tC (.bl false))) tNext) (tRet (tAndV (tCallS (sp_l_is_name K C) (fun _ => E0) (tCons (tOp fIx (tVar 0) (tC (.int 0))) tNil)) (tAndV (tCallS (sp_l_is_name K C) (fun _ => E0) (tCons (tOp fIx (tVar 0) (tC (.int 1))) tNil)) (tCallS (sp_l_is_within K C) (fun _ => E0) (tCons (tOp fIx (tVar 0) (tC (.int 2))) (tCons (tC (.int 0)) (tCons (tC (.int 6)) tNil))))))))
theorem pure_l_is_deed {K : PySem.W.Frag} {C : CA} (vs : List V) (H : Hp) (Q : VK) (E : XK) (h : sp_l_is_deed K C vs H Q E) : rd_l_is_deed K C E { nx := fun _ H' => Q .non H', rt := Q } (start [("value" : Str)] vs) H := by
  obtain ⟨n, v, d, rfl, r, q⟩ := h
  show rd_l_is_deed K C E _ [some v] H
  unfold rd_l_is_deed
  refine q_if ?_
  have q0 := q H fun _ _ z => z
  rcases rp_flat_or r with (⟨rfl, rfl⟩ | ⟨b, rfl, rfl⟩ | ⟨i, rfl, rfl⟩ | ⟨z, ⟨rfl, lz⟩, rfl⟩) | ⟨k, p, xs, ds, _, rfl, e, rfl, _⟩ | ⟨k, p, xs, ds, _, e1, e, e3, _, a⟩ | ⟨k, p, kvs, _, rfl, e, rfl⟩
  · walk_at "s"; exact q0
  · walk_at "s"; exact q0
  · walk_at "s"; exact q0
  · walk_at "s"; exact q0
  · walk_at "s"; rw [lst_ty e]; walk_at "s"; exact q0
  · subst e1 e3
    walk_at "s"
    rw [tup_ty e]
    walk_at "s"
    rw [asS_of_T e]
    walk_at "s"
    by_cases c2 : ds.length = 3
    · match ds, xs, c2, a with
      | [d0, d1, d2], [x0, x1, x2], _, a =>
        have r0 : Rp H k x0 d0 := a.2 0 _ _ rfl rfl
        have r1 : Rp H k x1 d1 := a.2 1 _ _ rfl rfl
        have r2 : Rp H k x2 d2 := a.2 2 _ _ rfl rfl
        simp only [deedD] at q
        have c9 : (([x0, x1, x2] : List V).length : Int) = 3 := rfl
        simp only [c9, decide_true, Bool.not_true, Bool.false_eq_true, if_false]
        refine sp_lname_ok r0 fun H1 s1 => ?_
        walk_at "s"
        refine bool_t (b := nameD d0) (fun c0 => ?_) fun c0 => ?_ <;> rw [c0] at q ⊢
        · simp only [if_true, Bool.true_and] at q ⊢
          rw [asS_of_T (sm_T s1 e)]
          walk_at "s"
          refine sp_lname_ok (r1.mono s1) fun H2 s2 => ?_
          walk_at "s"
          refine bool_t (b := nameD d1) (fun c1 => ?_) fun c1 => ?_ <;> rw [c1] at q ⊢
          · simp only [if_true, Bool.true_and] at q ⊢
            rw [asS_of_T (sm_T (sm_trans s1 s2) e)]
            walk_at "s"
            exact ⟨k, x2, d2, 0, 6, rfl, r2.mono (sm_trans s1 s2), q H2 (sm_trans s1 s2)⟩
          · exact q H2 (sm_trans s1 s2)
        · exact q H1 s1
    · have l1 := a.1
      have c3 : ¬ ((xs.length : Nat) : Int) = 3 := by omega
      have e4 : deedD (.tuple ds) = false := by
        unfold deedD
        split
        · rename_i h
          cases h
          exact absurd rfl c2
        · rfl
      rw [e4] at q0
      simp only [c3, decide_false, Bool.not_false, if_true]
      walk_at "s"
      exact q0
  · walk_at "s"; rw [tyN_dK e]; walk_at "s"; exact q0
def sp_l_is_end (K : PySem.W.Frag) (C : CA) : Sp := fun vs H Q _ => ∃ n v d, vs = [v] ∧ Rp H n v d ∧ Q (.bl (isDash d)) H
def rd_l_is_end (K : PySem.W.Frag) (C : CA) (E : XK) : TS :=
  (tRet (tAndV (tCB fIsi (tCons (tVar 0) (tCons (tC (.ty "str")) tNil))) (tOp (fEq K) (tVar 0) (tC (.str ("-" : Str))))))
theorem pure_l_is_end {K : PySem.W.Frag} {C : CA} (vs : List V) (H : Hp) (Q : VK) (E : XK) (h : sp_l_is_end K C vs H Q E) : rd_l_is_end K C E { nx := fun _ H' => Q .non H', rt := Q } (start [("value" : Str)] vs) H := by
  obtain ⟨n, v, d, rfl, r, q⟩ := h
  show rd_l_is_end K C E _ [some v] H
  unfold rd_l_is_end
  refine q_ret ?_
  rcases rp_flat_or r with (⟨rfl, rfl⟩ | ⟨b, rfl, rfl⟩ | ⟨i, rfl, rfl⟩ | ⟨z, ⟨rfl, lz⟩, rfl⟩) | ⟨k, p, xs, ds, _, rfl, e, rfl, _⟩ | ⟨k, p, xs, ds, _, rfl, e, rfl, _⟩ | ⟨k, p, kvs, _, rfl, e, rfl⟩
  · walk_at "s"; exact q
  · walk_at "s"; exact q
  · walk_at "s"; exact q
  · walk_at "s"; exact q
  · walk_at "s"; rw [lst_ty e]; walk_at "s"; exact q
  · walk_at "s"; rw [tup_ty e]; walk_at "s"; exact q
  · walk_at "s"; rw [tyN_dK e]; walk_at "s"; exact q
end XB

/-! What is due of a value. -/
namespace XB
open PySem L2
local macro_rules | `(tactic| walk_at "s") => `(tactic| try simp only [u_var, u_c, u_op, u_un, u_nil, u_cons, u_cb, u_call, u_callS, u_tup, u_lst, u_test, u_B, u_and, u_or, u_not, u_andV, u_orV, u_notV, u_ifE, u_chain, u_sl, u_noPart, u_part, u_bm, u_bm0, u_rev, u_lc, u_try, u_sui, u_sui0, u_unb_rt, u_unb_nx, u_xf, u_WE, w_nil, w_cons, u_raise, u_rng1, u_rng2, u_next, u_ret, u_gname, u_gnil, u_gcons, u_gsub, u_gtup,
  f_add, f_addS, f_addR, f_sub, f_mul, f_mulR, f_mod, f_div, f_pow, f_neg, f_cmp, f_eq, f_eqB, f_eqS, f_ne, f_neB, f_neS, f_isN, f_notN, f_isB, f_ix, f_ixS, f_int, f_intB, f_len, f_lenS, f_max, f_min, f_abs, f_list, f_tuple, f_all, f_sum, f_isi, f_isiT, f_append, f_insert, f_pop, f_sl, f_set,
  kitS, tys, List.isEmpty_cons, Option.map_some, kt_NoneType_int, kt_NoneType_bool, kt_NoneType_str, kt_NoneType_list, kt_NoneType_tuple, kt_NoneType_dict, kt_int_int, kt_int_bool, kt_int_str, kt_int_list, kt_int_tuple, kt_int_dict, kt_bool_int, kt_bool_bool, kt_bool_str, kt_bool_list, kt_bool_tuple, kt_bool_dict, kt_str_int, kt_str_bool, kt_str_str, kt_str_list, kt_str_tuple, kt_str_dict, kt_list_int, kt_list_bool, kt_list_str, kt_list_list, kt_list_tuple, kt_list_dict, kt_tuple_int, kt_tuple_bool, kt_tuple_str, kt_tuple_list, kt_tuple_tuple, kt_tuple_dict, kt_dict_int, kt_dict_bool, kt_dict_str, kt_dict_list, kt_dict_tuple, kt_dict_dict, asL_lst, asL_frz, asL_tup, asT_tup, asS_lst, asS_frz, asS_tup, tyN_non, tyN_bl, tyN_int, tyN_str, atV_lit, ixN_lit, upd_same, upd_ne, upd_ne',
  List.getElem?_cons_zero, List.getElem?_cons_succ, List.set_cons_zero, List.set_cons_succ, List.append_nil, List.length_cons, List.length_nil, Option.some.injEq, exists_eq_left', exists_eq_left, exists_and_left, V.bl.injEq, V.int.injEq, V.str.injEq, V.ref.injEq, Bool.not_eq_true, Bool.not_true, Bool.not_false, decide_true, decide_false, decide_eq_true_eq, decide_eq_false_iff_not, Bool.false_eq_true, if_true, if_false, ite_true, ite_false, reduceCtorEq, true_and, and_true, Nat.reduceAdd, Nat.reduceLT, Nat.zero_add, ne_eq, not_false_eq_true, not_true_eq_false, List.cons.injEq, and_assoc])
local macro_rules | `(tactic| walk_at "S") => `(tactic| try simp only [u_var, u_c, u_op, u_un, u_nil, u_cons, u_cb, u_call, u_callS, u_tup, u_lst, u_test, u_B, u_and, u_or, u_not, u_andV, u_orV, u_notV, u_ifE, u_chain, u_sl, u_noPart, u_part, u_bm, u_bm0, u_rev, u_lc, u_try, u_sui, u_sui0, u_unb_rt, u_unb_nx, u_xf, u_WE, w_nil, w_cons, u_raise, u_rng1, u_rng2, u_next, u_ret, u_gname, u_gnil, u_gcons, u_gsub, u_gtup,
  f_add, f_addS, f_addR, f_sub, f_mul, f_mulR, f_mod, f_div, f_pow, f_neg, f_cmp, f_eq, f_eqB, f_eqS, f_ne, f_neB, f_neS, f_isN, f_notN, f_isB, f_ix, f_ixS, f_int, f_intB, f_len, f_lenS, f_max, f_min, f_abs, f_list, f_tuple, f_all, f_sum, f_isi, f_isiT, f_append, f_insert, f_pop, f_sl, f_set,
  kitS, tys, List.isEmpty_cons, Option.map_some, kt_NoneType_int, kt_NoneType_bool, kt_NoneType_str, kt_NoneType_list, kt_NoneType_tuple, kt_NoneType_dict, kt_int_int, kt_int_bool, kt_int_str, kt_int_list, kt_int_tuple, kt_int_dict, kt_bool_int, kt_bool_bool, kt_bool_str, kt_bool_list, kt_bool_tuple, kt_bool_dict, kt_str_int, kt_str_bool, kt_str_str, kt_str_list, kt_str_tuple, kt_str_dict, kt_list_int, kt_list_bool, kt_list_str, kt_list_list, kt_list_tuple, kt_list_dict, kt_tuple_int, kt_tuple_bool, kt_tuple_str, kt_tuple_list, kt_tuple_tuple, kt_tuple_dict, kt_dict_int, kt_dict_bool, kt_dict_str, kt_dict_list, kt_dict_tuple, kt_dict_dict, asL_lst, asL_frz, asL_tup, asT_tup, asS_lst, asS_frz, asS_tup, tyN_non, tyN_bl, tyN_int, tyN_str, atV_lit, ixN_lit, upd_same, upd_ne, upd_ne',
  List.getElem?_cons_zero, List.getElem?_cons_succ, List.set_cons_zero, List.set_cons_succ, List.append_nil, List.length_cons, List.length_nil, Option.some.injEq, exists_eq_left', exists_eq_left, exists_and_left, V.bl.injEq, V.int.injEq, V.str.injEq, V.ref.injEq, Bool.not_eq_true, Bool.not_true, Bool.not_false, decide_true, decide_false, decide_eq_true_eq, decide_eq_false_iff_not, Bool.false_eq_true, if_true, if_false, ite_true, ite_false, reduceCtorEq, true_and, and_true, Nat.reduceAdd, Nat.reduceLT, Nat.zero_add, ne_eq, not_false_eq_true, not_true_eq_false, List.cons.injEq, and_assoc, *])
def rowD : PyData → List PyData
  | .tuple ds => if ds.length < 8 then ds else []
  | _ => []
def numD : PyData → Bool
  | .int i => decide (0 ≤ i)
  | _ => false
def dueB (d : PyData) : List Bool := [nameD d, nameD d || isDash d, intIn 0 6 d, numD d, planD d, crossD d, legD d, deedD d, histD d, sightD d]
theorem asL_at {H : Hp} {p : Addr} {xs : List V} (h : H p = some (.lst xs)) : asL (H p) = some xs := by rw [h]; rfl
theorem asS_at {H : Hp} {p : Addr} {xs : List V} (h : H p = some (.lst xs)) : asS (H p) = some xs := by rw [h]; rfl
/-- the expression gives the truth value b; cells are made at most -/
def EvB (t : TE) (σ : L2.St) (H : Hp) (b : Bool) : Prop := ∀ Q : VK, (∀ H', Sm H H' → Q (.bl b) H') → t σ H Q
section
variable {K : PySem.W.Frag} {C : CA} {t ta tb : TE} {σ : L2.St} {H : Hp} {b b1 b2 : Bool}
theorem EvB.or (h1 : EvB ta σ H b1) (h2 : b1 = false → ∀ H', Sm H H' → EvB tb σ H' b2) : EvB (tOrV ta tb) σ H (b1 || b2) := fun Q q => by
  walk_at "s"
  refine h1 _ fun H1 s1 => ?_
  cases b1 with
  | true => exact ⟨true, rfl, q H1 s1⟩
  | false => exact ⟨false, rfl, h2 rfl H1 s1 _ fun H2 s2 => q H2 (sm_trans s1 s2)⟩
theorem EvB.and (h1 : EvB ta σ H b1) (h2 : b1 = true → ∀ H', Sm H H' → EvB tb σ H' b2) : EvB (tAndV ta tb) σ H (b1 && b2) := fun Q q => by
  walk_at "s"
  refine h1 _ fun H1 s1 => ?_
  cases b1 with
  | false => exact ⟨false, rfl, q H1 s1⟩
  | true => exact ⟨true, rfl, h2 rfl H1 s1 _ fun H2 s2 => q H2 (sm_trans s1 s2)⟩
theorem EvB.cast (h : EvB t σ H b1) (e : b1 = b2) : EvB t σ H b2 := e ▸ h
theorem drop_app {s0 s2 s3 s4 s5 s6 s7 s8 : Option V} {p : Addr} {ys : List V} {rest : TS} {D : Ends} (hp : H p = some (.lst ys)) (hl : ys.length ≤ 1000)
    (e : EvB t [s0, some (.ref p), s2, s3, s4, s5, s6, s7, s8] H b) (k : ∀ H', Sm H H' → rest D [s0, some (.ref p), s2, s3, s4, s5, s6, s7, s8] (upd H' p (.lst (ys ++ [.bl b])))) :
    tSeq (tDrop (tBMF "list" fAppend (tVar 1) (tCons t tNil))) rest D [s0, some (.ref p), s2, s3, s4, s5, s6, s7, s8] H := by
  refine q_drop ?_
  walk_at "s"
  refine ⟨tyN_lst hp, e _ fun H1 s1 => ?_⟩
  walk_at "s"
  rw [s1 _ _ hp]
  walk_at "s"
  exact ⟨by show _ < 2 ^ 24; omega, k H1 s1⟩
theorem row_two {d : PyData} (h : (rowD d).length = 2) : ∃ a b, d = .tuple [a, b] := by
  unfold rowD at h
  split at h
  · rename_i ds
    split at h
    · match ds, h with
      | [a, b], _ => exact ⟨a, b, rfl⟩
    · cases h
  · cases h
theorem row_three {d : PyData} (h : (rowD d).length = 3) : ∃ a b c, d = .tuple [a, b, c] := by
  unfold rowD at h
  split at h
  · rename_i ds
    split at h
    · match ds, h with
      | [a, b, c], _ => exact ⟨a, b, c, rfl⟩
    · cases h
  · cases h
theorem no_cross {d : PyData} (h : ¬ (rowD d).length = 2) : crossD d = false := by
  unfold crossD
  split
  · exact absurd rfl h
  · rfl
theorem no_leg {d : PyData} (h : ¬ (rowD d).length = 3) : legD d = false := by
  unfold legD
  split
  · exact absurd rfl h
  · rfl
theorem no_deed {d : PyData} (h : ¬ (rowD d).length = 3) : deedD d = false := by
  unfold deedD
  split
  · exact absurd rfl h
  · rfl
theorem no_sight {d : PyData} (h : ¬ (rowD d).length = 3) : sightD d = false := by
  unfold sightD
  split
  · exact absurd rfl h
  · rfl
theorem plan_row {d : PyData} : planD d = (decide ((0 : Int) < ((rowD d).length : Nat)) && (rowD d).all nameD) := by
  cases d with
  | tuple ds =>
    simp only [planD, rowD]
    by_cases c : ds.length < 8
    · simp only [c, if_true]
      by_cases c2 : 1 ≤ ds.length
      · rw [decide_eq_true c2, decide_eq_true (by omega : ds.length ≤ 7), decide_eq_true (by omega : (0 : Int) < (ds.length : Nat))]
        rfl
      · rw [decide_eq_false c2, decide_eq_false (by omega : ¬ (0 : Int) < (ds.length : Nat))]
        rfl
    · simp only [c, if_false]
      rw [decide_eq_false (by omega : ¬ ds.length ≤ 7), Bool.and_false]
      rfl
  | _ => rfl
theorem not_in {bs : List Bool} : (!inV (.bl false) (bs.map V.bl)) = bs.all id := by
  induction bs with
  | nil => rfl
  | cons b r ih =>
    rw [List.map_cons, List.all_cons, ← ih]
    cases b <;> rfl
theorem row_len {d : PyData} : (rowD d).length < 8 := by
  unfold rowD
  split
  · split
    · assumption
    · decide
  · decide
def DueW (H : Hp) (v : V) (p : Addr) (told : List Bool) (rows : List PyData) (σ' : L2.St) (H' : Hp) : Prop := ∃ (rr : Addr) (xs : List V) (k : Nat), σ' = [some v, some (.ref p), some (.ref rr), none, none, none, none, none, none] ∧ Sm H H' ∧ H' p = some (.lst (told.map V.bl)) ∧ p ≠ rr ∧ H' rr = some (.lst xs) ∧ All2 (Rp H k) xs rows
structure DueSt (H Hc : Hp) (p r a b c : Addr) (told : List Bool) (xs : List V) (rows : List PyData) : Prop where
  sm : Sm H Hc
  tl : Hc p = some (.lst (told.map V.bl))
  rw : Hc r = some (.lst xs)
  nm : Hc a = some (.lst (rows.map fun d => V.bl (nameD d)))
  dy : Hc b = some (.lst (rows.map fun d => V.bl (intIn 0 6 d)))
  en : Hc c = some (.lst (rows.map fun d => V.bl (isDash d)))
  np : H p = none
  ne : p ≠ r ∧ p ≠ a ∧ p ≠ b ∧ p ≠ c
theorem DueSt.mono {H Hc H' : Hp} {p r a b c : Addr} {told : List Bool} {xs : List V} {rows : List PyData} (D : DueSt H Hc p r a b c told xs rows) (s : Sm Hc H') : DueSt H H' p r a b c told xs rows :=
  ⟨sm_trans D.sm s, s _ _ D.tl, s _ _ D.rw, s _ _ D.nm, s _ _ D.dy, s _ _ D.en, D.np, D.ne⟩
theorem DueSt.step {H Hc H' : Hp} {p r a b c : Addr} {told : List Bool} {xs : List V} {rows : List PyData} {x : Bool} (D : DueSt H Hc p r a b c told xs rows) (s : Sm Hc H') : DueSt H (upd H' p (.lst (told.map V.bl ++ [.bl x]))) p r a b c (told ++ [x]) xs rows := by
  have D := D.mono s
  obtain ⟨n1, n2, n3, n4⟩ := D.ne
  refine ⟨sm_put D.sm D.np, by rw [upd_same, List.map_append]; rfl, ?_, ?_, ?_, ?_, D.np, D.ne⟩
  · rw [upd_ne (Ne.symm n1)]; exact D.rw
  · rw [upd_ne (Ne.symm n2)]; exact D.nm
  · rw [upd_ne (Ne.symm n3)]; exact D.dy
  · rw [upd_ne (Ne.symm n4)]; exact D.en
section
variable {H Hc : Hp} {p r a b c : Addr} {told : List Bool} {xs : List V} {d v0 : PyData} {v : V} {s6 s7 s8 : Option V} {k n : Nat}
theorem ev5 (D : DueSt H Hc p r a b c told xs (rowD d)) (A : All2 (Rp H k) xs (rowD d)) {s4 s5 : Option V} :
    EvB (tAndV (tOp fGt (tCB fLen (tCons (tVar 2) tNil)) (tC (.int 0))) (tOp (fNin K) (tC (.bl false)) (tVar 3))) [some v, some (.ref p), some (.ref r), some (.ref a), s4, s5, s6, s7, s8] Hc (planD d) := by
  rw [plan_row]
  have l := A.1
  refine EvB.and (b1 := decide ((0 : Int) < ((rowD d).length : Nat))) (fun Q q => ?_) fun _ H' s Q q => ?_
  · walk_at "s"
    rw [D.rw]
    walk_at "s"
    rw [l]
    exact q Hc fun _ _ z => z
  · walk_at "s"
    have e := (D.mono s).nm
    have e2 : (rowD d).map (fun d => V.bl (nameD d)) = ((rowD d).map nameD).map V.bl := by rw [List.map_map]; rfl
    have e3 := not_in (bs := (rowD d).map nameD)
    rw [e2] at e
    unfold fNin
    dsimp only
    rw [e]
    refine ⟨rfl, ?_, ?_⟩
    · rw [List.all_eq_true]
      intro x hx
      obtain ⟨b, _, rfl⟩ := List.mem_map.mp hx
      rfl
    · rw [e3, List.all_map]
      exact q _ fun _ _ z => z
theorem evLen (D : DueSt H Hc p r a b c told xs (rowD d)) (A : All2 (Rp H k) xs (rowD d)) {s3 s4 s5 : Option V} {m : Int} :
    EvB (tOp (fEq K) (tCB fLen (tCons (tVar 2) tNil)) (tC (.int m))) [some v, some (.ref p), some (.ref r), s3, s4, s5, s6, s7, s8] Hc (decide (((rowD d).length : Int) = m)) := fun Q q => by
  walk_at "s"
  rw [D.rw]
  walk_at "s"
  rw [A.1]
  exact q Hc fun _ _ z => z
theorem evIx {H : Hp} {σ : L2.St} {i j : Nat} {q : Addr} {bs : List V} {b : Bool} (hi : σ[i]? = some (some (.ref q))) (hq : H q = some (.lst bs)) (hj : bs[j]? = some (.bl b)) : EvB (tOp fIx (tVar i) (tC (.int (j : Nat)))) σ H b := fun Q k => by
  refine ⟨_, hi, ?_⟩
  show fIx (.ref q) (.int (j : Nat)) H Q
  simp only [f_ix]
  rw [hq]
  walk_at "s"
  exact at_nat hj (k _ fun _ _ z => z)
end
end
theorem hist_no {k : Nat} {H : Hp} {p : Addr} {xs : List V} {ds : List PyData} : True := trivial
section
variable {H Hc : Hp} {p r a b c : Addr} {told : List Bool} {xs : List V} {d v0 : PyData} {v : V} {s6 s7 s8 : Option V} {k n : Nat}
abbrev Sl (v : V) (p r a b c : Addr) (s6 s7 s8 : Option V) : L2.St := [some v, some (.ref p), some (.ref r), some (.ref a), some (.ref b), some (.ref c), s6, s7, s8]
theorem ev6 (D : DueSt H Hc p r a b c told xs (rowD d)) (A : All2 (Rp H k) xs (rowD d)) :
    EvB (tAndV (tOp (fEq K) (tCB fLen (tCons (tVar 2) tNil)) (tC (.int 2))) (tAndV (tOp fIx (tVar 4) (tC (.int 0))) (tOp fIx (tVar 3) (tC (.int 1))))) (Sl v p r a b c s6 s7 s8) Hc (crossD d) := by
  by_cases h : (rowD d).length = 2
  · obtain ⟨d0, d1, rfl⟩ := row_two h
    refine EvB.cast (EvB.and (evLen D A) fun _ H' s => EvB.and (evIx (i := 4) (j := 0) rfl (D.mono s).dy rfl) fun _ H2 s2 => evIx (i := 3) (j := 1) rfl ((D.mono s).mono s2).nm rfl) ?_
    rw [h]
    rfl
  · refine EvB.cast (EvB.and (b2 := false) (evLen D A) fun h2 => absurd (of_decide_eq_true h2) (by omega)) ?_
    rw [no_cross h, Bool.and_false]
theorem evV {b : Bool} : EvB (tVar 6) (Sl v p r a b' c (some (.bl b)) s7 s8) Hc b := fun Q q => by
  walk_at "s"
  exact q _ fun _ _ z => z
theorem ev7 (D : DueSt H Hc p r a b c told xs (rowD d)) (A : All2 (Rp H k) xs (rowD d)) :
    EvB (tAndV (tVar 6) (tAndV (tOp fIx (tVar 4) (tC (.int 0))) (tAndV (tOp fIx (tVar 3) (tC (.int 1))) (tOrV (tOp fIx (tVar 5) (tC (.int 2))) (tAndV (tOp fIx (tVar 3) (tC (.int 2))) (tOp fLt (tOp fIx (tVar 2) (tC (.int 0))) (tC (.int 6))))))))
      (Sl v p r a b c (some (.bl (decide (((rowD d).length : Int) = 3)))) s7 s8) Hc (legD d) := by
  by_cases h : (rowD d).length = 3
  · obtain ⟨d0, d1, d2, rfl⟩ := row_three h
    have A : All2 (Rp H k) xs [d0, d1, d2] := A
    match xs, A.1, A with
    | [x0, x1, x2], _, A =>
      have r0 : Rp H k x0 d0 := A.2 0 _ _ rfl rfl
      refine EvB.cast (EvB.and evV fun _ H1 s1 => EvB.and (evIx (i := 4) (j := 0) rfl (D.mono s1).dy rfl) fun i0 H2 s2 => EvB.and (evIx (i := 3) (j := 1) rfl ((D.mono s1).mono s2).nm rfl) fun _ H3 s3 =>
        EvB.or (evIx (i := 5) (j := 2) rfl (((D.mono s1).mono s2).mono s3).en rfl) fun _ H4 s4 => EvB.and (evIx (i := 3) (j := 2) rfl ((((D.mono s1).mono s2).mono s3).mono s4).nm rfl) fun _ H5 s5 => (?_ : EvB _ _ _ (intIn 0 5 d0))) ?_
      · have D5 := ((((D.mono s1).mono s2).mono s3).mono s4).mono s5
        rcases rp_flat_or r0 with (⟨rfl, rfl⟩ | ⟨b, rfl, rfl⟩ | ⟨i, rfl, rfl⟩ | ⟨z, ⟨rfl, lz⟩, rfl⟩) | ⟨k, p, xs, ds, _, rfl, e, rfl, _⟩ | ⟨k, p, xs, ds, _, rfl, e, rfl, _⟩ | ⟨k, p, kvs, _, rfl, e, rfl⟩
        case inl.inr.inr.inl =>
          intro Q q
          walk_at "s"
          rw [D5.rw]
          walk_at "s"
          have h0 : 0 ≤ i := by
            simp only [intIn, Bool.and_eq_true, decide_eq_true_eq] at i0
            exact i0.1
          have e5 : intIn 0 5 (.int i) = decide (i < 6) := by
            simp only [intIn, h0, decide_true, Bool.true_and]
            by_cases c6 : i < 6
            · rw [decide_eq_true c6, decide_eq_true (by omega)]
            · rw [decide_eq_false c6, decide_eq_false (by omega)]
          rw [← e5]
          exact q _ fun _ _ z => z
        all_goals cases i0
      · rw [leg_eq, h]
        generalize intIn 0 6 d0 = b1, nameD d1 = b2, isDash d2 = b3, nameD d2 = b4, intIn 0 5 d0 = b5
        cases b1 <;> cases b2 <;> cases b3 <;> cases b4 <;> cases b5 <;> rfl
  · refine EvB.cast (EvB.and (b2 := false) evV fun h2 => absurd (of_decide_eq_true h2) (by omega)) ?_
    rw [no_leg h, Bool.and_false]
theorem ev8 (D : DueSt H Hc p r a b c told xs (rowD d)) :
    EvB (tAndV (tVar 6) (tAndV (tOp fIx (tVar 3) (tC (.int 0))) (tAndV (tOp fIx (tVar 3) (tC (.int 1))) (tOp fIx (tVar 4) (tC (.int 2)))))) (Sl v p r a b c (some (.bl (decide (((rowD d).length : Int) = 3)))) s7 s8) Hc (deedD d) := by
  by_cases h : (rowD d).length = 3
  · obtain ⟨d0, d1, d2, rfl⟩ := row_three h
    refine EvB.cast (EvB.and evV fun _ H1 s1 => EvB.and (evIx (i := 3) (j := 0) rfl (D.mono s1).nm rfl) fun _ H2 s2 => EvB.and (evIx (i := 3) (j := 1) rfl ((D.mono s1).mono s2).nm rfl) fun _ H3 s3 => evIx (i := 4) (j := 2) rfl (((D.mono s1).mono s2).mono s3).dy rfl) ?_
    rw [h]
    simp only [deedD]
    generalize nameD d0 = b1, nameD d1 = b2, intIn 0 6 d2 = b3
    cases b1 <;> cases b2 <;> cases b3 <;> rfl
  · refine EvB.cast (EvB.and (b2 := false) evV fun h2 => absurd (of_decide_eq_true h2) (by omega)) ?_
    rw [no_deed h, Bool.and_false]
theorem ev10 (D : DueSt H Hc p r a b c told xs (rowD d)) :
    EvB (tAndV (tVar 6) (tAndV (tOp fIx (tVar 3) (tC (.int 0))) (tAndV (tOp fIx (tVar 4) (tC (.int 1))) (tOrV (tOp fIx (tVar 3) (tC (.int 2))) (tOp fIx (tVar 5) (tC (.int 2))))))) (Sl v p r a b c (some (.bl (decide (((rowD d).length : Int) = 3)))) s7 s8) Hc (sightD d) := by
  by_cases h : (rowD d).length = 3
  · obtain ⟨d0, d1, d2, rfl⟩ := row_three h
    refine EvB.cast (EvB.and evV fun _ H1 s1 => EvB.and (evIx (i := 3) (j := 0) rfl (D.mono s1).nm rfl) fun _ H2 s2 => EvB.and (evIx (i := 4) (j := 1) rfl ((D.mono s1).mono s2).dy rfl) fun _ H3 s3 =>
      EvB.or (evIx (i := 3) (j := 2) rfl (((D.mono s1).mono s2).mono s3).nm rfl) fun _ H4 s4 => evIx (i := 5) (j := 2) rfl ((((D.mono s1).mono s2).mono s3).mono s4).en rfl) ?_
    rw [h]
    simp only [sightD]
    generalize nameD d0 = b1, intIn 0 6 d1 = b2, nameD d2 = b3, isDash d2 = b4
    cases b1 <;> cases b2 <;> cases b3 <;> cases b4 <;> rfl
  · refine EvB.cast (EvB.and (b2 := false) evV fun h2 => absurd (of_decide_eq_true h2) (by omega)) ?_
    rw [no_sight h, Bool.and_false]
theorem ev9 (s : Sm H Hc) (r0 : Rp H n v d) : EvB (tAndV (tCB fIsi (tCons (tVar 0) (tCons (tC (.ty "list")) tNil))) (tAndV (tOp fLt (tCB fLen (tCons (tVar 0) tNil)) (tC (.int 61)))
      (tOp (fEq K) (tCB fLen (tCons (tLc (iList K (tVar 0)) (gName 8) (tNot (tB (tCallS (sp_l_is_deed K C) (fun _ => E0) (tCons (tVar 8) tNil)))) (tVar 8) [8]) tNil)) (tC (.int 0))))) (Sl v p r a b c s6 none none) Hc (histD d) := fun Q q => by
  have q0 := q Hc fun _ _ z => z
  rcases rp_flat_or r0 with (⟨rfl, rfl⟩ | ⟨b, rfl, rfl⟩ | ⟨i, rfl, rfl⟩ | ⟨z, ⟨rfl, lz⟩, rfl⟩) | ⟨k, q1, xs, ds, _, rfl, e, rfl, lx, A⟩ | ⟨k, q1, xs, ds, _, rfl, e, rfl, _⟩ | ⟨k, q1, kvs, _, rfl, e, rfl⟩
  · walk_at "s"; exact q0
  · walk_at "s"; exact q0
  · walk_at "s"; exact q0
  · walk_at "s"; exact q0
  · have e1 := sm_L s e
    walk_at "s"
    rw [lst_ty e1]
    walk_at "s"
    rw [asS_of_L e1]
    walk_at "s"
    have l1 := A.1
    by_cases c1 : ((xs.length : Nat) : Int) < 61
    · simp only [c1, decide_true, if_true]
      rw [u_list]
      walk_at "s"
      refine ⟨⟨_, asL_seq e1⟩, fun Dd hD => ?_⟩
      refine made_list (fun i H' => Sm Hc H' ∧ ∃ acc, H' Dd = some (.lst acc) ∧ acc.length ≤ i ∧ (decide (acc.length = 0) = (ds.take i).all deedD)) ⟨sm_new (fun _ _ h => h) hD, [], upd_same, by simp, by simp⟩ (fun i H' _ p => sm_L p.1 e1) (fun i x H' hx p => ⟨rfl, ?_⟩) fun H' p => ?_
      · obtain ⟨s1, acc, ha, la, ea⟩ := p
        have hi := (List.getElem?_eq_some_iff.mp hx).1
        have hdi : ds[i]? = some (ds[i]'(by omega)) := by simp
        walk_at "s"
        refine ⟨k, x, _, rfl, (A.2 i x _ hx hdi).mono (sm_trans s s1), fun H2 s2 => ?_⟩
        have et : (ds.take (i + 1)).all deedD = ((ds.take i).all deedD && deedD (ds[i]'(by omega))) := by
          rw [List.take_add_one, hdi, List.all_append]
          simp
        refine ⟨_, rfl, ?_⟩
        cases hd : deedD (ds[i]'(by omega)) with
        | false =>
          simp only [Bool.not_false, if_true]
          exact ⟨acc, s2 _ _ ha, by show _ < 2 ^ 24; omega, sm_put (sm_trans s1 s2) hD, _, rfl, by simp; omega, by rw [et, hd]; simp⟩
        | true =>
          simp only [Bool.not_true, Bool.false_eq_true, if_false]
          exact ⟨sm_trans s1 s2, acc, s2 _ _ ha, by omega, by rw [et, hd, Bool.and_true]; exact ea⟩
      · obtain ⟨s1, acc, ha, la, ea⟩ := p
        rw [l1, List.take_length] at ea
        rw [ha]
        walk_at "s"
        have e4 : histD (.list ds) = decide ((acc.length : Int) = 0) := by
          simp only [histD]
          rw [decide_eq_true (by omega : ds.length ≤ 60), Bool.true_and, ← ea]
          by_cases c : acc.length = 0
          · rw [decide_eq_true c, decide_eq_true (by omega)]
          · rw [decide_eq_false c, decide_eq_false (by omega)]
        rw [← e4]
        exact q H' s1
    · simp only [c1, decide_false, Bool.false_eq_true, if_false]
      have e4 : histD (.list ds) = false := by
        simp only [histD]
        rw [decide_eq_false (by omega : ¬ ds.length ≤ 60), Bool.false_and]
      rw [e4] at q0
      exact q0
  · walk_at "s"; rw [tup_ty (sm_T s e)]; walk_at "s"; exact q0
  · walk_at "s"; rw [tyN_dK (s _ _ e)]; walk_at "s"; exact q0
end
def sp_l_due (K : PySem.W.Frag) (C : CA) : Sp := fun vs H Q _ => ∃ n v d, vs = [v] ∧ Rp H n v d ∧ ∀ p H', Sm H H' → H p = none → H' p = some (.lst ((dueB d).map V.bl)) → Q (.ref p) H'
def rd_l_due (K : PySem.W.Frag) (C : CA) (E : XK) : TS :=
  (tSeq (tAsg (tLst (tCons (tCallS (sp_l_is_name K C) (fun _ => E0) (tCons (tVar 0) tNil)) (tCons (tOrV (tCallS (sp_l_is_name K C) (fun _ => E0) (tCons (tVar 0) tNil)) (tCallS (sp_l_is_end K C) (fun _ => E0) (tCons (tVar 0) tNil))) (tCons (tCallS (sp_l_is_within K C) (fun _ => E0) (tCons (tVar 0) (tCons (tC (.int 0)) (tCons (tC (.int 6)) tNil)))) tNil)))) (gName 1)) (tSeq (tDrop (tBMF "list" fAppend (tVar 1) (tCons (tAndV (tCB fIsi (tCons (tVar 0) (tCons (tC (.ty "int")) tNil))) (tAndV (tNotV (tCB fIsi (tCons (tVar 0) (tCons (tC (.ty "bool")) tNil)))) (tOp fGe (tVar 0) (tC (.int 0))))) tNil))) (tSeq (tAsg (tLst tNil) (gName 2)) (Evl.tCut (tIfS (tAnd (tB (tCB fIsi (tCons (tVar 0) (tCons (tC (.ty "tuple")) tNil)))) (tTest (tOp fLt (tCB fLen (tCons (tVar 0) tNil)) (tC (.int 8))))) (tAsg (tCB fList (tCons (tVar 0) tNil)) (gName 2)) tNext) (tSeq (tAsg (tLc (iList K (tVar 2)) (gName 7) tYes (tCallS (sp_l_is_name K C) (fun _ => E0) (tCons (tVar 7) tNil)) [7]) (gName 3)) (tSeq (tAsg (tLc (iList K (tVar 2)) (gName 7) tYes (tCallS (sp_l_is_within K C) (fun _ => E0) (tCons (tVar 7) (tCons (tC (.int 0)) (tCons (tC (.int 6)) tNil)))) [7]) (gName 4)) (tSeq (tAsg (tLc (iList K (tVar 2)) (gName 7) tYes (tCallS (sp_l_is_end K C) (fun _ => E0) (tCons (tVar 7) tNil)) [7]) (gName 5)) (tSeq (tDrop (tBMF "list" fAppend (tVar 1) (tCons (tAndV (tOp fGt (tCB fLen (tCons (tVar 2) tNil)) (tC (.int 0))) (tOp (fNin K) (tC (.bl false)) (tVar 3))) tNil))) (tSeq (tDrop (tBMF "list" fAppend (tVar 1) (tCons (tAndV (tOp (fEq K) (tCB fLen (tCons (tVar 2) tNil)) (tC (.int 2))) (tAndV (tOp fIx (tVar 4) (tC (.int 0))) (tOp fIx (tVar 3) (tC (.int 1))))) tNil))) (tSeq (tAsg (tOp (fEq K) (tCB fLen (tCons (tVar 2) tNil)) (tC (.int 3))) (gName 6)) (tSeq (tDrop (tBMF "list" fAppend (tVar 1) (tCons (tAndV (tVar 6) (tAndV (tOp fIx (tVar 4) (tC (.int 0))) (tAndV (tOp fIx (tVar 3) (tC (.int 1))) (tOrV (tOp fIx (tVar 5) (tC (.int 2))) (tAndV (tOp fIx (tVar 3) (tC (.int 2))) (tOp fLt (tOp fIx (tVar 2) (tC (.int 0))) (tC (.int 6)))))))) tNil))) (tSeq (tDrop (tBMF "list" fAppend (tVar 1) (tCons (tAndV (tVar 6) (tAndV (tOp fIx (tVar 3) (tC (.int 0))) (tAndV (tOp fIx (tVar 3) (tC (.int 1))) (tOp fIx (tVar 4) (tC (.int 2)))))) tNil))) (tSeq (tDrop (tBMF "list" fAppend (tVar 1) (tCons (tAndV (tCB fIsi (tCons (tVar 0) (tCons (tC (.ty "list")) tNil))) (tAndV (tOp fLt (tCB fLen (tCons (tVar 0) tNil)) (tC (.int 61))) (tOp (fEq K) (tCB fLen (tCons (tLc (iList K (tVar 0)) (gName 8) (tNot (tB (tCallS (sp_l_is_deed K C) (fun _ => E0) (tCons (tVar 8) tNil)))) (tVar 8) [8]) tNil)) (tC (.int 0))))) tNil))) (tSeq (tDrop (tBMF "list" fAppend (tVar 1) (tCons (tAndV (tVar 6) (tAndV (tOp fIx (tVar 3) (tC (.int 0))) (tAndV (tOp fIx (tVar 4) (tC (.int 1))) (tOrV (tOp fIx (tVar 3) (tC (.int 2))) (tOp fIx (tVar 5) (tC (.int 2))))))) tNil))) (tRet (tVar 1))))))))))))))))
theorem pure_l_due {K : PySem.W.Frag} {C : CA} (vs : List V) (H : Hp) (Q : VK) (E : XK) (h : sp_l_due K C vs H Q E) : rd_l_due K C E { nx := fun _ H' => Q .non H', rt := Q } (start [("value" : Str), ("told" : Str), ("row" : Str), ("names" : Str), ("days" : Str), ("ends" : Str), ("three" : Str), ("part" : Str), ("p" : Str)] vs) H := by
  obtain ⟨n, v, d, rfl, r, q⟩ := h
  show rd_l_due K C E _ [some v, none, none, none, none, none, none, none, none] H
  unfold rd_l_due
  have s0 : Sm H H := fun _ _ z => z
  have evN : ∀ (s1 s2 s3 s4 s5 s6 s7 s8 : Option V) (H' : Hp), Sm H H' → EvB (tCallS (sp_l_is_name K C) (fun _ => E0) (tCons (tVar 0) tNil)) [some v, s1, s2, s3, s4, s5, s6, s7, s8] H' (nameD d) := fun _ _ _ _ _ _ _ _ H' s Q q => by
    walk_at "s"
    exact sp_lname_ok (r.mono s) q
  have evE : ∀ (s1 s2 s3 s4 s5 s6 s7 s8 : Option V) (H' : Hp), Sm H H' → EvB (tCallS (sp_l_is_end K C) (fun _ => E0) (tCons (tVar 0) tNil)) [some v, s1, s2, s3, s4, s5, s6, s7, s8] H' (isDash d) := fun _ _ _ _ _ _ _ _ H' s Q q => by
    walk_at "s"
    exact ⟨n, v, d, rfl, r.mono s, q H' fun _ _ z => z⟩
  have evW : ∀ (s1 s2 s3 s4 s5 s6 s7 s8 : Option V) (H' : Hp), Sm H H' → EvB (tCallS (sp_l_is_within K C) (fun _ => E0) (tCons (tVar 0) (tCons (tC (.int 0)) (tCons (tC (.int 6)) tNil)))) [some v, s1, s2, s3, s4, s5, s6, s7, s8] H' (intIn 0 6 d) := fun _ _ _ _ _ _ _ _ H' s Q q => by
    walk_at "s"
    exact ⟨n, v, d, 0, 6, rfl, r.mono s, q H' fun _ _ z => z⟩
  have evI : ∀ (s1 s2 s3 s4 s5 s6 s7 s8 : Option V) (H' : Hp), Sm H H' → EvB (tAndV (tCB fIsi (tCons (tVar 0) (tCons (tC (.ty "int")) tNil))) (tAndV (tNotV (tCB fIsi (tCons (tVar 0) (tCons (tC (.ty "bool")) tNil)))) (tOp fGe (tVar 0) (tC (.int 0))))) [some v, s1, s2, s3, s4, s5, s6, s7, s8] H' (numD d) := fun _ _ _ _ _ _ _ _ H' s Q q => by
    have q0 := q H' fun _ _ z => z
    rcases rp_flat_or (r.mono s) with (⟨rfl, rfl⟩ | ⟨b, rfl, rfl⟩ | ⟨i, rfl, rfl⟩ | ⟨z, ⟨rfl, lz⟩, rfl⟩) | ⟨k, p, xs, ds, _, rfl, e, rfl, _⟩ | ⟨k, p, xs, ds, _, rfl, e, rfl, _⟩ | ⟨k, p, kvs, _, rfl, e, rfl⟩
    · walk_at "s"; exact q0
    · walk_at "s"; exact q0
    · walk_at "s"; exact q0
    · walk_at "s"; exact q0
    · walk_at "s"; rw [lst_ty e]; walk_at "s"; exact q0
    · walk_at "s"; rw [tup_ty e]; walk_at "s"; exact q0
    · walk_at "s"; rw [tyN_dK e]; walk_at "s"; exact q0
  refine q_asg ?_
  simp only [u_lst, u_cons, u_nil]
  refine evN _ _ _ _ _ _ _ _ H s0 _ fun H1 s1 => ?_
  refine EvB.or (evN _ _ _ _ _ _ _ _ H1 s1) (fun _ H' s => evE _ _ _ _ _ _ _ _ H' (sm_trans s1 s)) _ fun H2 s2' => ?_
  have s2 := sm_trans s1 s2'
  refine evW _ _ _ _ _ _ _ _ H2 s2 _ fun H3 s3' => ?_
  have s3 := sm_trans s2 s3'
  refine ⟨by show 3 ≤ 2 ^ 24; decide, fun p np => al np fun H4 s4' h4 => ?_⟩
  have s4 := sm_trans s3 s4'
  walk_at "s"
  refine drop_app (ys := [.bl (nameD d), .bl (nameD d || isDash d), .bl (intIn 0 6 d)]) h4 (by show 3 ≤ 1000; decide) (evI _ _ _ _ _ _ _ _ H4 s4) fun H5 s5' => ?_
  have s5 : Sm H (upd H5 p (HO.lst ([V.bl (nameD d), V.bl (nameD d || isDash d), V.bl (intIn 0 6 d)] ++ [V.bl (numD d)]))) := sm_put (sm_trans s4 s5') (sm_none s3 np)
  have h5 : (upd H5 p (HO.lst ([V.bl (nameD d), V.bl (nameD d || isDash d), V.bl (intIn 0 6 d)] ++ [V.bl (numD d)]))) p = some (.lst ([nameD d, nameD d || isDash d, intIn 0 6 d, numD d].map V.bl)) := upd_same
  generalize (upd H5 p (HO.lst ([V.bl (nameD d), V.bl (nameD d || isDash d), V.bl (intIn 0 6 d)] ++ [V.bl (numD d)]))) = H6 at s5 h5 ⊢
  refine q_asg ?_
  walk_at "s"
  refine ⟨by decide, fun r0 nr0 => al nr0 fun H7 s7' h7 => ?_⟩
  have s7 := sm_trans s5 s7'
  have r7 := r.mono s7
  refine ⟨DueW H v p [nameD d, nameD d || isDash d, intIn 0 6 d, numD d] (rowD d), ?_, ?_⟩
  · have p0 : p ≠ r0 := ne_of_none h5 nr0
    have no : rowD d = [] → DueW H v p [nameD d, nameD d || isDash d, intIn 0 6 d, numD d] (rowD d) [some v, some (V.ref p), some (V.ref r0), none, none, none, none, none, none] H7 := fun e => ⟨r0, [], 0, rfl, s7, s7' _ _ h5, p0, h7, by rw [e]; exact All2.nil⟩
    refine q_if1 ?_
    rcases rp_flat_or r with (⟨rfl, rfl⟩ | ⟨b, rfl, rfl⟩ | ⟨i, rfl, rfl⟩ | ⟨z, ⟨rfl, lz⟩, rfl⟩) | ⟨k, q1, xs, ds, _, rfl, e, rfl, _⟩ | ⟨k, q1, xs, ds, _, e1, e, e3, _, A⟩ | ⟨k, q1, kvs, _, rfl, e, rfl⟩
    · walk_at "s"; exact no rfl
    · walk_at "s"; exact no rfl
    · walk_at "s"; exact no rfl
    · walk_at "s"; exact no rfl
    · walk_at "s"; rw [lst_ty (sm_L s7 e)]; walk_at "s"; exact no rfl
    · subst e1 e3
      have e7 := sm_T s7 e
      walk_at "s"
      rw [tup_ty e7]
      walk_at "s"
      rw [asS_of_T e7]
      walk_at "s"
      have l1 := A.1
      refine ite2 (fun c => ?_) fun c => ?_
      · refine q_asg1 ?_
        walk_at "s"
        rw [asS_of_T e7]
        refine fun r1 nr1 => al nr1 fun H8 s8 h8 => ?_
        walk_at "s"
        refine ⟨r1, xs, k, rfl, sm_trans s7 s8, s8 _ _ (s7' _ _ h5), ne_of_none (s7' _ _ h5) nr1, h8, ?_⟩
        have : rowD (.tuple ds) = ds := by
          simp only [rowD]
          rw [if_pos (by omega)]
        rw [this]
        exact A
      · walk_at "s"
        refine no ?_
        simp only [rowD]
        rw [if_neg (by omega)]
    · walk_at "s"; rw [tyN_dK (s7 _ _ e)]; walk_at "s"; exact no rfl
  · rintro σ' H8 ⟨rr, xs, k, rfl, s8, h8, nrr, hrr, A⟩
    have lr := row_len (d := d)
    refine q_asg ?_
    walk_at "s"
    rw [u_list]
    walk_at "s"
    refine ⟨⟨_, asL_seq (asL_at hrr)⟩, fun ca hca => ?_⟩
    refine made_gvL (gv := fun d => .bl (nameD d)) (asL_at hrr) hca A.1 (by omega) (fun _ => rfl) (fun i x d H1 Q1 hx hd s1 q1 => ?_) fun H9 s9 h9 => ?_
    · walk_at "s"
      exact sp_lname_ok ((A.2 i x d hx hd).mono (sm_trans s8 s1)) q1
    walk_at "s"
    refine q_asg ?_
    walk_at "s"
    rw [u_list]
    walk_at "s"
    refine ⟨⟨_, asL_seq (asL_at (s9 _ _ hrr))⟩, fun cb hcb => ?_⟩
    refine made_gvL (gv := fun d => .bl (intIn 0 6 d)) (asL_at (s9 _ _ hrr)) hcb A.1 (by omega) (fun _ => rfl) (fun i x d H1 Q1 hx hd s1 q1 => ?_) fun H10 s10 h10 => ?_
    · walk_at "s"
      exact ⟨k, x, d, 0, 6, rfl, (A.2 i x d hx hd).mono (sm_trans s8 (sm_trans s9 s1)), q1 _ fun _ _ z => z⟩
    walk_at "s"
    refine q_asg ?_
    walk_at "s"
    rw [u_list]
    walk_at "s"
    have s910 := sm_trans s9 s10
    refine ⟨⟨_, asL_seq (asL_at (s910 _ _ hrr))⟩, fun cc hcc => ?_⟩
    refine made_gvL (gv := fun d => .bl (isDash d)) (asL_at (s910 _ _ hrr)) hcc A.1 (by omega) (fun _ => rfl) (fun i x d H1 Q1 hx hd s1 q1 => ?_) fun H11 s11 h11 => ?_
    · walk_at "s"
      exact ⟨k, x, d, rfl, (A.2 i x d hx hd).mono (sm_trans s8 (sm_trans s910 s1)), q1 _ fun _ _ z => z⟩
    walk_at "s"
    have s811 := sm_trans s910 s11
    have D : DueSt H H11 p rr ca cb cc [nameD d, nameD d || isDash d, intIn 0 6 d, numD d] xs (rowD d) :=
      ⟨sm_trans s8 s811, s811 _ _ h8, s811 _ _ hrr, s11 _ _ (s10 _ _ h9), s11 _ _ h10, h11, sm_none s3 np, nrr, ne_of_none h8 hca, ne_of_none (s9 _ _ h8) hcb, ne_of_none (s910 _ _ h8) hcc⟩
    refine drop_app D.tl (by show 4 ≤ 1000; decide) (ev5 D A) fun H12 s12 => ?_
    have D := D.step (x := planD d) s12
    refine drop_app D.tl (by show 5 ≤ 1000; decide) (ev6 D A) fun H13 s13 => ?_
    have D := D.step (x := crossD d) s13
    refine q_asg ?_
    refine evLen D A _ fun H14 s14 => ?_
    have D := D.mono s14
    walk_at "s"
    refine drop_app D.tl (by show 6 ≤ 1000; decide) (ev7 D A) fun H15 s15 => ?_
    have D := D.step (x := legD d) s15
    refine drop_app D.tl (by show 7 ≤ 1000; decide) (ev8 D) fun H16 s16 => ?_
    have D := D.step (x := deedD d) s16
    refine drop_app D.tl (by show 8 ≤ 1000; decide) (ev9 D.sm r) fun H17 s17 => ?_
    have D := D.step (x := histD d) s17
    refine drop_app D.tl (by show 9 ≤ 1000; decide) (ev10 D) fun H18 s18 => ?_
    have D := D.step (x := sightD d) s18
    walk_at "s"
    exact q _ _ D.sm D.np D.tl
end XB

/-! The program's word and what is due. -/
namespace XB
open PySem L2
local macro_rules | `(tactic| walk_at "s") => `(tactic| try simp only [u_var, u_c, u_op, u_un, u_nil, u_cons, u_cb, u_call, u_callS, u_tup, u_lst, u_test, u_B, u_and, u_or, u_not, u_andV, u_orV, u_notV, u_ifE, u_chain, u_sl, u_noPart, u_part, u_bm, u_bm0, u_rev, u_lc, u_try, u_sui, u_sui0, u_unb_rt, u_unb_nx, u_xf, u_WE, w_nil, w_cons, u_raise, u_rng1, u_rng2, u_next, u_ret, u_gname, u_gnil, u_gcons, u_gsub, u_gtup,
  f_add, f_addS, f_addR, f_sub, f_mul, f_mulR, f_mod, f_div, f_pow, f_neg, f_cmp, f_eq, f_eqB, f_eqS, f_ne, f_neB, f_neS, f_isN, f_notN, f_isB, f_ix, f_ixS, f_int, f_intB, f_len, f_lenS, f_max, f_min, f_abs, f_list, f_tuple, f_all, f_sum, f_isi, f_isiT, f_append, f_insert, f_pop, f_sl, f_set,
  kitS, tys, List.isEmpty_cons, Option.map_some, kt_NoneType_int, kt_NoneType_bool, kt_NoneType_str, kt_NoneType_list, kt_NoneType_tuple, kt_NoneType_dict, kt_int_int, kt_int_bool, kt_int_str, kt_int_list, kt_int_tuple, kt_int_dict, kt_bool_int, kt_bool_bool, kt_bool_str, kt_bool_list, kt_bool_tuple, kt_bool_dict, kt_str_int, kt_str_bool, kt_str_str, kt_str_list, kt_str_tuple, kt_str_dict, kt_list_int, kt_list_bool, kt_list_str, kt_list_list, kt_list_tuple, kt_list_dict, kt_tuple_int, kt_tuple_bool, kt_tuple_str, kt_tuple_list, kt_tuple_tuple, kt_tuple_dict, kt_dict_int, kt_dict_bool, kt_dict_str, kt_dict_list, kt_dict_tuple, kt_dict_dict, asL_lst, asL_frz, asL_tup, asT_tup, asS_lst, asS_frz, asS_tup, tyN_non, tyN_bl, tyN_int, tyN_str, atV_lit, ixN_lit, upd_same, upd_ne, upd_ne',
  List.getElem?_cons_zero, List.getElem?_cons_succ, List.set_cons_zero, List.set_cons_succ, List.append_nil, List.length_cons, List.length_nil, Option.some.injEq, exists_eq_left', exists_eq_left, exists_and_left, V.bl.injEq, V.int.injEq, V.str.injEq, V.ref.injEq, Bool.not_eq_true, Bool.not_true, Bool.not_false, decide_true, decide_false, decide_eq_true_eq, decide_eq_false_iff_not, Bool.false_eq_true, if_true, if_false, ite_true, ite_false, reduceCtorEq, true_and, and_true, Nat.reduceAdd, Nat.reduceLT, Nat.zero_add, ne_eq, not_false_eq_true, not_true_eq_false, List.cons.injEq, and_assoc])
local macro_rules | `(tactic| walk_at "S") => `(tactic| try simp only [u_var, u_c, u_op, u_un, u_nil, u_cons, u_cb, u_call, u_callS, u_tup, u_lst, u_test, u_B, u_and, u_or, u_not, u_andV, u_orV, u_notV, u_ifE, u_chain, u_sl, u_noPart, u_part, u_bm, u_bm0, u_rev, u_lc, u_try, u_sui, u_sui0, u_unb_rt, u_unb_nx, u_xf, u_WE, w_nil, w_cons, u_raise, u_rng1, u_rng2, u_next, u_ret, u_gname, u_gnil, u_gcons, u_gsub, u_gtup,
  f_add, f_addS, f_addR, f_sub, f_mul, f_mulR, f_mod, f_div, f_pow, f_neg, f_cmp, f_eq, f_eqB, f_eqS, f_ne, f_neB, f_neS, f_isN, f_notN, f_isB, f_ix, f_ixS, f_int, f_intB, f_len, f_lenS, f_max, f_min, f_abs, f_list, f_tuple, f_all, f_sum, f_isi, f_isiT, f_append, f_insert, f_pop, f_sl, f_set,
  kitS, tys, List.isEmpty_cons, Option.map_some, kt_NoneType_int, kt_NoneType_bool, kt_NoneType_str, kt_NoneType_list, kt_NoneType_tuple, kt_NoneType_dict, kt_int_int, kt_int_bool, kt_int_str, kt_int_list, kt_int_tuple, kt_int_dict, kt_bool_int, kt_bool_bool, kt_bool_str, kt_bool_list, kt_bool_tuple, kt_bool_dict, kt_str_int, kt_str_bool, kt_str_str, kt_str_list, kt_str_tuple, kt_str_dict, kt_list_int, kt_list_bool, kt_list_str, kt_list_list, kt_list_tuple, kt_list_dict, kt_tuple_int, kt_tuple_bool, kt_tuple_str, kt_tuple_list, kt_tuple_tuple, kt_tuple_dict, kt_dict_int, kt_dict_bool, kt_dict_str, kt_dict_list, kt_dict_tuple, kt_dict_dict, asL_lst, asL_frz, asL_tup, asT_tup, asS_lst, asS_frz, asS_tup, tyN_non, tyN_bl, tyN_int, tyN_str, atV_lit, ixN_lit, upd_same, upd_ne, upd_ne',
  List.getElem?_cons_zero, List.getElem?_cons_succ, List.set_cons_zero, List.set_cons_succ, List.append_nil, List.length_cons, List.length_nil, Option.some.injEq, exists_eq_left', exists_eq_left, exists_and_left, V.bl.injEq, V.int.injEq, V.str.injEq, V.ref.injEq, Bool.not_eq_true, Bool.not_true, Bool.not_false, decide_true, decide_false, decide_eq_true_eq, decide_eq_false_iff_not, Bool.false_eq_true, if_true, if_false, ite_true, ite_false, reduceCtorEq, true_and, and_true, Nat.reduceAdd, Nat.reduceLT, Nat.zero_add, ne_eq, not_false_eq_true, not_true_eq_false, List.cons.injEq, and_assoc, *])
theorem rp_ty {n : Nat} {H : Hp} {v : V} {d : PyData} (h : Rp H n v d) : Ty v H := h.tz.1
theorem rp_num {n : Nat} {H : Hp} {v : V} {d : PyData} (h : Rp H n v d) : isNum v = numD d := by
  rcases rp_flat_or h with (⟨rfl, rfl⟩ | ⟨b, rfl, rfl⟩ | ⟨i, rfl, rfl⟩ | ⟨z, ⟨rfl, lz⟩, rfl⟩) | ⟨k, p, xs, ds, _, rfl, e, rfl, _⟩ | ⟨k, p, xs, ds, _, rfl, e, rfl, _⟩ | ⟨k, p, kvs, _, rfl, e, rfl⟩ <;> rfl
theorem dp_bools {K : PySem.W.Frag} {H : Hp} : ∀ (bs : List Bool), L2.DpAll K H (bs.map V.bl) (bs.map PyData.bool)
  | [] => .nil
  | b :: bs => .cons (.bl b) (dp_bools bs)
theorem eqv_bools : ∀ {a : List Bool}, PyData.eqvAll (a.map PyData.bool) (a.map PyData.bool) = true
  | [] => by simp [PyData.eqvAll]
  | x :: a => by simp [PyData.eqvAll, PyData.eqv, eqv_bools (a := a)]
theorem lay_bools : ∀ {a : List Bool}, PyData.canLayAll0 (a.map PyData.bool) = true ∧ PyData.depthAll (a.map PyData.bool) = 0
  | [] => by simp [PyData.canLayAll0, PyData.depthAll]
  | x :: a => by simp [PyData.canLayAll0, PyData.canLay0, PyData.depthAll, PyData.depth, lay_bools (a := a)]
theorem shaped_bools {a : List Bool} : SeqAt.shaped (.list (a.map PyData.bool)) = true := by
  have h1 := lay_bools (a := a)
  unfold SeqAt.shaped
  rw [Bool.and_eq_true]
  refine ⟨by simp only [PyData.canLay0]; exact h1.1, decide_eq_true ?_⟩
  simp only [PyData.depth]
  omega
def sp_l_agrees (K : PySem.W.Frag) (C : CA) : Sp := fun vs H Q _ => ∃ (ω : Addr → Nat) (n : Nat) (v : V) (d : PyData) (m : Nat) (e : PyData), vs = [v] ∧ Rp H n v d ∧ m ≤ 100 ∧ RdD ω H m v e ∧ e.shown.length ≤ sizeLine ∧ ∀ H', Sm H H' → Q (.bl true) H'
def rd_l_agrees (K : PySem.W.Frag) (C : CA) (E : XK) : TS :=
  (tSeq (tAsg (tCB fRepr (tCons (tVar 0) tNil)) (gName 1)) (tSeq (tAsg (tCallS (sp_l_due K C) (fun _ => E0) (tCons (tVar 0) tNil)) (gName 2)) (tSeq (tAsg (tLst (tCons (tCallS (sp_is_name K C) (fun _ => E0) (tCons (tVar 0) tNil)) (tCons (tCallS (sp_is_place K C) (fun _ => E0) (tCons (tVar 0) tNil)) (tCons (tCallS (sp_is_day K C) (fun _ => E0) (tCons (tVar 0) tNil)) (tCons (tCallS (sp_is_number K C) (fun _ => E0) (tCons (tVar 0) tNil)) (tCons (tCallS (sp_is_plan K C) (fun _ => E0) (tCons (tVar 0) tNil)) tNil)))))) (gName 3)) (tSeq (tAsg (tOp fAdd (tVar 3) (tLst (tCons (tCallS (sp_is_crossing K C) (fun _ => E0) (tCons (tVar 0) tNil)) (tCons (tCallS (sp_is_leg K C) (fun _ => E0) (tCons (tVar 0) tNil)) (tCons (tCallS (sp_is_deed K C) (fun _ => E0) (tCons (tVar 0) tNil)) (tCons (tCallS (sp_is_history K C) (fun _ => E0) (tCons (tVar 0) tNil)) (tCons (tCallS (sp_is_sighting K C) (fun _ => E0) (tCons (tVar 0) tNil)) tNil))))))) (gName 3)) (tSeq (tIfS (tOr (tTest (tOp (fNe K) (tLc (iList K (tVar 3)) (gName 4) tYes (tOp fIsB (tVar 4) (tC (.bl true))) [4]) (tVar 2))) (tTest (tOp (fNe K) (tLc (iList K (tVar 3)) (gName 4) tYes (tOp rNotB (tVar 4) (tC (.bl false))) [4]) (tVar 2)))) (tRet (tC (.bl false))) tNext) (tRet (tOp (fEq K) (tCB fRepr (tCons (tVar 0) tNil)) (tVar 1))))))))
theorem pure_l_agrees {K : PySem.W.Frag} {C : CA} (vs : List V) (H : Hp) (Q : VK) (E : XK) (h : sp_l_agrees K C vs H Q E) : rd_l_agrees K C E { nx := fun _ H' => Q .non H', rt := Q } (start [("value" : Str), ("kept" : Str), ("due" : Str), ("told" : Str), ("answer" : Str)] vs) H := by
  obtain ⟨ω, n, v, d, m, e, rfl, r, hm, rd, hs, q⟩ := h
  show rd_l_agrees K C E _ [some v, none, none, none, none] H
  unfold rd_l_agrees
  refine q_asg ?_
  walk_at "s"
  refine ⟨ω, m, v, e, rfl, hm, rd, hs, ?_⟩
  walk_at "s"
  refine q_asg ?_
  walk_at "s"
  refine ⟨n, v, d, rfl, r, fun pd H1 s1 nd h1 => ?_⟩
  walk_at "s"
  refine q_asg ?_
  walk_at "s"
  refine sp_name_ok (r.mono s1) fun H2 s2' => ?_
  have s2 := sm_trans s1 s2'
  refine ⟨n, v, d, rfl, r.mono s2, fun H3 s3' => ?_⟩
  have s3 := sm_trans s2 s3'
  refine ⟨n, v, d, rfl, r.mono s3, ?_⟩
  refine ⟨v, rfl, rp_ty (r.mono s3), ?_⟩
  rw [rp_num r]
  refine ⟨n, v, d, rfl, r.mono s3, fun H4 s4' => ?_⟩
  have s4 := sm_trans s3 s4'
  refine ⟨by show 5 ≤ 2 ^ 24; decide, fun pt nt => al nt fun H5 s5' h5 => ?_⟩
  have s5 := sm_trans s4 s5'
  walk_at "s"
  refine q_asg ?_
  walk_at "s"
  refine ⟨n, v, d, rfl, r.mono s5, fun H6 s6' => ?_⟩
  have s6 := sm_trans s5 s6'
  refine ⟨n, v, d, rfl, r.mono s6, fun H7 s7' => ?_⟩
  have s7 := sm_trans s6 s7'
  refine ⟨n, v, d, rfl, r.mono s7, fun H8 s8' => ?_⟩
  have s8 := sm_trans s7 s8'
  refine ⟨n, v, d, rfl, r.mono s8, fun H9 s9' => ?_⟩
  have s9 := sm_trans s8 s9'
  refine ⟨n, v, d, rfl, r.mono s9, fun H10 s10' => ?_⟩
  have s10 := sm_trans s9 s10'
  refine ⟨by show 5 ≤ 2 ^ 24; decide, fun pu nu => al nu fun H11 s11' h11 => ?_⟩
  have s11 := sm_trans s10 s11'
  have t5 : H11 pt = some (.lst _) := s11' _ _ (s10' _ _ (s9' _ _ (s8' _ _ (s7' _ _ (s6' _ _ h5)))))
  rw [t5]
  dsimp only
  refine ⟨by show 10 ≤ 2 ^ 24; decide, fun pw nw => al nw fun H12 s12' h12 => ?_⟩
  have s12 := sm_trans s11 s12'
  have h12 : H12 pw = some (.lst ((dueB d).map V.bl)) := h12
  have d12 : H12 pd = some (.lst ((dueB d).map V.bl)) := s12' _ _ (s11' _ _ (s10' _ _ (s9' _ _ (s8' _ _ (s7' _ _ (s6' _ _ (s5' _ _ (s4' _ _ (s3' _ _ (s2' _ _ h1))))))))))
  have lb : ((dueB d).map V.bl).length = 10 := rfl
  have isb : ∀ (i : Nat) (x : V), ((dueB d).map V.bl)[i]? = some x → ∃ b, x = .bl b := fun i x hx => by
    rw [List.getElem?_map, Option.map_eq_some_iff] at hx
    obtain ⟨b, _, rfl⟩ := hx
    exact ⟨b, rfl⟩
  refine q_if ?_
  walk_at "s"
  rw [u_list]
  walk_at "s"
  refine ⟨⟨_, asL_seq (asL_at h12)⟩, fun Da hDa => ?_⟩
  refine made_map id (asL_at h12) hDa (by rw [lb]; show 10 < 2 ^ 24; decide) (fun _ => rfl) (fun i x H1 Q1 hx s1 q1 => ?_) fun H13 s13' h13 => ?_
  · obtain ⟨b, rfl⟩ := isb i x hx
    walk_at "s"
    have := q1 H1 fun _ _ z => z
    cases b <;> exact this
  rw [List.map_id] at h13
  have s13 := sm_trans s12 s13'
  have eb : PyData.eqv (.list ((dueB d).map PyData.bool)) (.list ((dueB d).map PyData.bool)) = true := by
    show PyData.eqvAll _ _ = true
    exact eqv_bools
  unfold fNe
  dsimp only
  refine ⟨_, _, .lst (asL_seq (asL_at h13)) (dp_bools (dueB d)), .lst (asL_seq (asL_at (s13' _ _ d12))) (dp_bools (dueB d)), shaped_bools, shaped_bools, ?_⟩
  rw [eb]
  refine ⟨false, rfl, ?_⟩
  simp only [Bool.false_eq_true, if_false]
  rw [u_list]
  walk_at "s"
  have w13 := s13' _ _ h12
  refine ⟨⟨_, asL_seq (asL_at w13)⟩, fun Db hDb => ?_⟩
  refine made_map id (asL_at w13) hDb (by rw [lb]; show 10 < 2 ^ 24; decide) (fun _ => rfl) (fun i x H1 Q1 hx s1 q1 => ?_) fun H14 s14' h14 => ?_
  · obtain ⟨b, rfl⟩ := isb i x hx
    walk_at "s"
    have := q1 H1 fun _ _ z => z
    refine ⟨b, false, rfl, rfl, ?_⟩
    cases b <;> exact this
  rw [List.map_id] at h14
  have s14 := sm_trans s13 s14'
  refine ⟨_, _, .lst (asL_seq (asL_at h14)) (dp_bools (dueB d)), .lst (asL_seq (asL_at (s14' _ _ (s13' _ _ d12)))) (dp_bools (dueB d)), shaped_bools, shaped_bools, ?_⟩
  rw [eb]
  refine ⟨false, rfl, ?_⟩
  simp only [Bool.false_eq_true, if_false]
  refine ⟨ω, m, v, e, rfl, hm, rd.mono s14, hs, ?_⟩
  walk_at "s"
  exact q _ s14
end XB

/-! Cells with ranks and weights: what may be spoilt. -/
namespace XB
open PySem L2
def Gd (ρ ω : Addr → Nat) (n : Nat) (v : V) : Prop := Fl v ∨ ∃ q, v = .ref q ∧ 0 < ω q ∧ ρ q < n
def spoiltK : Key := .inr ("0spoilt" : Str)
def slk (kvs : List (Key × V)) : Nat := if kvs.any (fun kv => decide (kv.1 = spoiltK)) then 0 else 2
def CellOk (ρ ω : Addr → Nat) (H : Hp) (p : Addr) : Prop :=
  (∃ xs, H p = some (.lst xs) ∧ (∀ x ∈ xs, Gd ρ ω (ρ p) x) ∧ sw ω xs + (2 - xs.length) < ω p) ∨
  (∃ xs, H p = some (.tup xs) ∧ (∀ x ∈ xs, Gd ρ ω (ρ p) x) ∧ sw ω xs < ω p) ∨
  ∃ kvs, H p = some (.dK kvs) ∧ (∀ kv ∈ kvs, keyOk kv.1 ∧ Gd ρ ω (ρ p) kv.2) ∧ sw ω (kvs.map (·.2)) + kvs.length + slk kvs < ω p
def Wt (ρ ω : Addr → Nat) (H : Hp) : Prop := ∀ p, 0 < ω p → CellOk ρ ω H p
/-- the new ranks and weights are those of H, and of cells that are new since H -/
def Ext (H : Hp) (ρ ω ρ' ω' : Addr → Nat) : Prop := (∀ q, 0 < ω q → ρ' q = ρ q ∧ ω' q = ω q) ∧ ∀ q, 0 < ω' q → 0 < ω q ∨ H q = none
section
variable {ρ ω ρ' ω' ρ2 ω2 : Addr → Nat} {H H' H2 : Hp} {n m : Nat} {v : V} {p st : Addr}
theorem fl_noref : ¬ Fl (.ref p) := by
  rintro (h | ⟨b, h⟩ | ⟨i, h, _⟩ | ⟨z, h, _⟩) <;> cases h
theorem fl_wv (h : Fl v) : wv ω v = 1 := by
  rcases h with rfl | ⟨b, rfl⟩ | ⟨i, rfl, _⟩ | ⟨z, rfl, _⟩ <;> rfl
theorem Gd.pos (h : Gd ρ ω n v) : 1 ≤ wv ω v := by
  rcases h with h | ⟨q, rfl, h, _⟩
  · rw [fl_wv h]; exact Nat.le_refl 1
  · exact h
theorem Gd.mono (h : Gd ρ ω n v) (hn : n ≤ m) : Gd ρ ω m v := by
  rcases h with h | ⟨q, rfl, h, l⟩
  · exact .inl h
  · exact .inr ⟨q, rfl, h, by omega⟩
theorem Wt.ex (W : Wt ρ ω H) (h : 0 < ω p) : ∃ o, H p = some o := by
  rcases W p h with ⟨xs, e, _⟩ | ⟨xs, e, _⟩ | ⟨xs, e, _⟩ <;> exact ⟨_, e⟩
theorem Wt.zero (W : Wt ρ ω H) (h : H p = none) : ω p = 0 := by
  cases e : ω p with
  | zero => rfl
  | succ k =>
    obtain ⟨o, z⟩ := W.ex (p := p) (by omega)
    rw [h] at z
    cases z
theorem Ext.refl : Ext H ρ ω ρ ω := ⟨fun _ _ => ⟨rfl, rfl⟩, fun _ h => .inl h⟩
theorem Ext.trans (a : Ext H ρ ω ρ' ω') (b : Ext H' ρ' ω' ρ2 ω2) (k : ∀ q, H' q = none → H q = none) : Ext H ρ ω ρ2 ω2 := ⟨fun q h => by
  obtain ⟨e1, e2⟩ := a.1 q h
  obtain ⟨f1, f2⟩ := b.1 q (by omega)
  exact ⟨by rw [f1, e1], by rw [f2, e2]⟩, fun q h => by
  rcases b.2 q h with h | h
  · exact a.2 q h
  · exact .inr (k q h)⟩
theorem Ext.gd (e : Ext H ρ ω ρ' ω') (h : Gd ρ ω n v) : Gd ρ' ω' n v := by
  rcases h with h | ⟨q, rfl, h, l⟩
  · exact .inl h
  · obtain ⟨e1, e2⟩ := e.1 q h
    exact .inr ⟨q, rfl, by omega, by omega⟩
theorem Ext.wv (e : Ext H ρ ω ρ' ω') (h : Gd ρ ω n v) : wv ω' v = wv ω v := by
  rcases h with h | ⟨q, rfl, h, l⟩
  · rw [fl_wv h, fl_wv h]
  · exact (e.1 q h).2
theorem Ext.sw (e : Ext H ρ ω ρ' ω') : ∀ {xs : List V}, (∀ x ∈ xs, Gd ρ ω n x) → sw ω' xs = sw ω xs
  | [], _ => rfl
  | x :: r, h => by
    simp only [XB.sw]
    rw [e.wv (h x List.mem_cons_self), Ext.sw e fun y hy => h y (List.mem_cons_of_mem _ hy)]
theorem Ext.cell (e : Ext H ρ ω ρ' ω') (hp : 0 < ω p) (h : CellOk ρ ω H p) (s : ∀ o, H p = some o → H' p = some o) : CellOk ρ' ω' H' p := by
  obtain ⟨e1, e2⟩ := e.1 p hp
  rcases h with ⟨xs, a, b, c⟩ | ⟨xs, a, b, c⟩ | ⟨kvs, a, b, c⟩
  · exact .inl ⟨xs, s _ a, fun x hx => by rw [e1]; exact e.gd (b x hx), by rw [e.sw b, e2]; exact c⟩
  · exact .inr (.inl ⟨xs, s _ a, fun x hx => by rw [e1]; exact e.gd (b x hx), by rw [e.sw b, e2]; exact c⟩)
  · exact .inr (.inr ⟨kvs, s _ a, fun x hx => ⟨(b x hx).1, by rw [e1]; exact e.gd (b x hx).2⟩, by
      rw [e.sw (xs := kvs.map (·.2)) (n := ρ p) (fun x hx => by
        obtain ⟨kv, hk, rfl⟩ := List.mem_map.mp hx
        exact (b kv hk).2), e2]
      exact c⟩)
def fu (f : Addr → Nat) (p : Addr) (k : Nat) : Addr → Nat := fun a => if a = p then k else f a
theorem fu_same {f : Addr → Nat} {k : Nat} : fu f p k p = k := if_pos rfl
theorem fu_ne {f : Addr → Nat} {k : Nat} {q : Addr} (h : q ≠ p) : fu f p k q = f q := if_neg h
theorem Ext.new {a b : Nat} (W : Wt ρ ω H) (hp : H p = none) : Ext H ρ ω (fu ρ p a) (fu ω p b) := ⟨fun q h => by
  have : q ≠ p := fun e => by rw [e, W.zero hp] at h; omega
  exact ⟨fu_ne this, fu_ne this⟩, fun q h => by
  by_cases e : q = p
  · exact .inr (by rw [e]; exact hp)
  · rw [fu_ne e] at h
    exact .inl h⟩
theorem Wt.keep (W : Wt ρ ω H) (k : ∀ q o, 0 < ω q → H q = some o → H' q = some o) : Wt ρ ω H' := fun p h => (Ext.refl (H := H)).cell h (W p h) fun o e => k p o h e
/-- a new list -/
theorem Wt.newL {a b : Nat} {xs : List V} (W : Wt ρ ω H) (hp : H p = none) (s : Sm H H') (h : H' p = some (.lst xs)) (g : ∀ x ∈ xs, Gd ρ ω a x) (hw : XB.sw ω xs + (2 - xs.length) < b) : Wt (fu ρ p a) (fu ω p b) H' := fun q hq => by
  have e : Ext H ρ ω (fu ρ p a) (fu ω p b) := Ext.new W hp
  by_cases c : q = p
  · subst c
    exact .inl ⟨xs, h, fun x hx => by rw [fu_same]; exact e.gd (g x hx), by rw [fu_same, e.sw g]; exact hw⟩
  · rw [fu_ne c] at hq
    exact e.cell hq (W q hq) fun o z => s _ _ z
theorem Wt.newT {a b : Nat} {xs : List V} (W : Wt ρ ω H) (hp : H p = none) (s : Sm H H') (h : H' p = some (.tup xs)) (g : ∀ x ∈ xs, Gd ρ ω a x) (hw : XB.sw ω xs < b) : Wt (fu ρ p a) (fu ω p b) H' := fun q hq => by
  have e : Ext H ρ ω (fu ρ p a) (fu ω p b) := Ext.new W hp
  by_cases c : q = p
  · subst c
    exact .inr (.inl ⟨xs, h, fun x hx => by rw [fu_same]; exact e.gd (g x hx), by rw [fu_same, e.sw g]; exact hw⟩)
  · rw [fu_ne c] at hq
    exact e.cell hq (W q hq) fun o z => s _ _ z
theorem sw_len : ∀ {xs : List V}, (∀ x ∈ xs, Gd ρ ω n x) → xs.length ≤ XB.sw ω xs
  | [], _ => Nat.le_refl 0
  | x :: r, h => by
    have := sw_len (xs := r) fun y hy => h y (List.mem_cons_of_mem _ hy)
    have := (h x List.mem_cons_self).pos
    simp only [XB.sw, List.length_cons]
    omega
/-- data for repr -/
theorem paired_of {R : V → PyData → Prop} : ∀ {xs : List V}, (∀ x ∈ xs, ∃ d, R x d) → ∃ ds, Paired R xs ds
  | [], _ => ⟨[], .nil⟩
  | x :: r, h => by
    obtain ⟨d, hd⟩ := h x List.mem_cons_self
    obtain ⟨ds, hs⟩ := paired_of (xs := r) fun y hy => h y (List.mem_cons_of_mem _ hy)
    exact ⟨d :: ds, .cons hd hs⟩
theorem Wt.rd (W : Wt ρ ω H) : ∀ {n : Nat} {v : V}, Gd ρ ω n v → ∃ d, RdD ω H n v d
  | 0, v, h => by
    rcases h with h | ⟨q, rfl, h, l⟩
    · exact ⟨_, h, rfl⟩
    · omega
  | n + 1, v, h => by
    rcases h with h | ⟨q, rfl, h, l⟩
    · exact ⟨_, .inl ⟨h, rfl⟩⟩
    · rcases W q h with ⟨xs, a, b, c⟩ | ⟨xs, a, b, c⟩ | ⟨kvs, a, b, c⟩
      · obtain ⟨ds, hd⟩ := paired_of (R := RdD ω H n) fun x hx => W.rd ((b x hx).mono (by omega))
        exact ⟨_, .inr (.inl ⟨q, xs, ds, rfl, a, rfl, by omega, hd⟩)⟩
      · obtain ⟨ds, hd⟩ := paired_of (R := RdD ω H n) fun x hx => W.rd ((b x hx).mono (by omega))
        exact ⟨_, .inr (.inr (.inl ⟨q, xs, ds, rfl, a, rfl, by omega, hd⟩))⟩
      · obtain ⟨ds, hd⟩ := paired_of (R := RdD ω H n) (xs := kvs.map (·.2)) fun x hx => by
          obtain ⟨kv, hk, rfl⟩ := List.mem_map.mp hx
          exact W.rd ((b kv hk).2.mono (by omega))
        exact ⟨_, .inr (.inr (.inr ⟨q, kvs, ds, rfl, a, rfl, by omega, fun kv hk => (b kv hk).1, hd⟩))⟩
theorem all2_of {R : V → PyData → Prop} : ∀ {xs : List V}, (∀ x ∈ xs, ∃ d, R x d) → ∃ ds, All2 R xs ds
  | [], _ => ⟨[], .nil⟩
  | x :: r, h => by
    obtain ⟨d, hd⟩ := h x List.mem_cons_self
    obtain ⟨ds, hs⟩ := all2_of (xs := r) fun y hy => h y (List.mem_cons_of_mem _ hy)
    exact ⟨d :: ds, .cons hd hs⟩
theorem fl_flat (h : Fl v) : ∃ d, Flat 1000 v d := by
  rcases h with rfl | ⟨b, rfl⟩ | ⟨i, rfl, l⟩ | ⟨z, rfl, l⟩
  · exact ⟨_, .inl ⟨rfl, rfl⟩⟩
  · exact ⟨_, .inr (.inl ⟨b, rfl, rfl⟩)⟩
  · exact ⟨_, .inr (.inr (.inl ⟨i, rfl, rfl⟩))⟩
  · exact ⟨_, .inr (.inr (.inr ⟨z, ⟨rfl, by have := l.1; omega⟩, rfl⟩))⟩
theorem sw_mem : ∀ {xs : List V} {x : V}, x ∈ xs → XB.wv ω x ≤ XB.sw ω xs
  | y :: r, x, h => by
    simp only [XB.sw]
    rcases List.mem_cons.mp h with rfl | h
    · omega
    · have := sw_mem h
      omega
/-- data for the shapes -/
theorem Wt.rp (W : Wt ρ ω H) : ∀ {n : Nat} {v : V}, Gd ρ ω n v → XB.wv ω v ≤ 1000 → ∃ d, Rp H n v d
  | 0, v, h, _ => by
    rcases h with h | ⟨q, rfl, h, l⟩
    · exact fl_flat h
    · omega
  | n + 1, v, h, hw => by
    rcases h with h | ⟨q, rfl, h, l⟩
    · obtain ⟨d, hd⟩ := fl_flat h
      exact ⟨d, .inl hd⟩
    · have hw : ω q ≤ 1000 := hw
      rcases W q h with ⟨xs, a, b, c⟩ | ⟨xs, a, b, c⟩ | ⟨kvs, a, b, c⟩
      · obtain ⟨ds, hd⟩ := all2_of (R := Rp H n) fun x hx => W.rp ((b x hx).mono (by omega)) (by have := sw_mem (ω := ω) hx; omega)
        exact ⟨_, .inr (.inl ⟨q, xs, ds, rfl, asL_at a, rfl, by have := sw_len b; omega, hd⟩)⟩
      · obtain ⟨ds, hd⟩ := all2_of (R := Rp H n) fun x hx => W.rp ((b x hx).mono (by omega)) (by have := sw_mem (ω := ω) hx; omega)
        exact ⟨_, .inr (.inr (.inl ⟨q, xs, ds, rfl, by rw [a]; rfl, rfl, by have := sw_len b; omega, hd⟩))⟩
      · exact ⟨_, .inr (.inr (.inr ⟨q, kvs, rfl, a, rfl⟩))⟩
theorem agrees_ok {K : PySem.W.Frag} {C : CA} {Q : VK} {E : XK} (W : Wt ρ ω H) (g : Gd ρ ω n v) (hn : n ≤ 100) (hw : XB.wv ω v ≤ 1000) (q : ∀ H', Sm H H' → Q (.bl true) H') : sp_l_agrees K C [v] H Q E := by
  obtain ⟨d, hd⟩ := W.rp g hw
  obtain ⟨e, he⟩ := W.rd g
  exact ⟨ω, n, v, d, n, e, rfl, hd, hn, he, rd_fits he (by omega), q⟩
end
end XB

/-! Texts drawn. -/
namespace XB
open PySem L2
local macro_rules | `(tactic| walk_at "s") => `(tactic| try simp only [u_var, u_c, u_op, u_un, u_nil, u_cons, u_cb, u_call, u_callS, u_tup, u_lst, u_test, u_B, u_and, u_or, u_not, u_andV, u_orV, u_notV, u_ifE, u_chain, u_sl, u_noPart, u_part, u_bm, u_bm0, u_rev, u_lc, u_try, u_sui, u_sui0, u_unb_rt, u_unb_nx, u_xf, u_WE, w_nil, w_cons, u_raise, u_rng1, u_rng2, u_next, u_ret, u_gname, u_gnil, u_gcons, u_gsub, u_gtup,
  f_add, f_addS, f_addR, f_sub, f_mul, f_mulR, f_mod, f_div, f_pow, f_neg, f_cmp, f_eq, f_eqB, f_eqS, f_ne, f_neB, f_neS, f_isN, f_notN, f_isB, f_ix, f_ixS, f_int, f_intB, f_len, f_lenS, f_max, f_min, f_abs, f_list, f_tuple, f_all, f_sum, f_isi, f_isiT, f_append, f_insert, f_pop, f_sl, f_set,
  kitS, tys, List.isEmpty_cons, Option.map_some, kt_NoneType_int, kt_NoneType_bool, kt_NoneType_str, kt_NoneType_list, kt_NoneType_tuple, kt_NoneType_dict, kt_int_int, kt_int_bool, kt_int_str, kt_int_list, kt_int_tuple, kt_int_dict, kt_bool_int, kt_bool_bool, kt_bool_str, kt_bool_list, kt_bool_tuple, kt_bool_dict, kt_str_int, kt_str_bool, kt_str_str, kt_str_list, kt_str_tuple, kt_str_dict, kt_list_int, kt_list_bool, kt_list_str, kt_list_list, kt_list_tuple, kt_list_dict, kt_tuple_int, kt_tuple_bool, kt_tuple_str, kt_tuple_list, kt_tuple_tuple, kt_tuple_dict, kt_dict_int, kt_dict_bool, kt_dict_str, kt_dict_list, kt_dict_tuple, kt_dict_dict, asL_lst, asL_frz, asL_tup, asT_tup, asS_lst, asS_frz, asS_tup, tyN_non, tyN_bl, tyN_int, tyN_str, atV_lit, ixN_lit, upd_same, upd_ne, upd_ne',
  List.getElem?_cons_zero, List.getElem?_cons_succ, List.set_cons_zero, List.set_cons_succ, List.append_nil, List.length_cons, List.length_nil, Option.some.injEq, exists_eq_left', exists_eq_left, exists_and_left, V.bl.injEq, V.int.injEq, V.str.injEq, V.ref.injEq, Bool.not_eq_true, Bool.not_true, Bool.not_false, decide_true, decide_false, decide_eq_true_eq, decide_eq_false_iff_not, Bool.false_eq_true, if_true, if_false, ite_true, ite_false, reduceCtorEq, true_and, and_true, Nat.reduceAdd, Nat.reduceLT, Nat.zero_add, ne_eq, not_false_eq_true, not_true_eq_false, List.cons.injEq, and_assoc])
local macro_rules | `(tactic| walk_at "S") => `(tactic| try simp only [u_var, u_c, u_op, u_un, u_nil, u_cons, u_cb, u_call, u_callS, u_tup, u_lst, u_test, u_B, u_and, u_or, u_not, u_andV, u_orV, u_notV, u_ifE, u_chain, u_sl, u_noPart, u_part, u_bm, u_bm0, u_rev, u_lc, u_try, u_sui, u_sui0, u_unb_rt, u_unb_nx, u_xf, u_WE, w_nil, w_cons, u_raise, u_rng1, u_rng2, u_next, u_ret, u_gname, u_gnil, u_gcons, u_gsub, u_gtup,
  f_add, f_addS, f_addR, f_sub, f_mul, f_mulR, f_mod, f_div, f_pow, f_neg, f_cmp, f_eq, f_eqB, f_eqS, f_ne, f_neB, f_neS, f_isN, f_notN, f_isB, f_ix, f_ixS, f_int, f_intB, f_len, f_lenS, f_max, f_min, f_abs, f_list, f_tuple, f_all, f_sum, f_isi, f_isiT, f_append, f_insert, f_pop, f_sl, f_set,
  kitS, tys, List.isEmpty_cons, Option.map_some, kt_NoneType_int, kt_NoneType_bool, kt_NoneType_str, kt_NoneType_list, kt_NoneType_tuple, kt_NoneType_dict, kt_int_int, kt_int_bool, kt_int_str, kt_int_list, kt_int_tuple, kt_int_dict, kt_bool_int, kt_bool_bool, kt_bool_str, kt_bool_list, kt_bool_tuple, kt_bool_dict, kt_str_int, kt_str_bool, kt_str_str, kt_str_list, kt_str_tuple, kt_str_dict, kt_list_int, kt_list_bool, kt_list_str, kt_list_list, kt_list_tuple, kt_list_dict, kt_tuple_int, kt_tuple_bool, kt_tuple_str, kt_tuple_list, kt_tuple_tuple, kt_tuple_dict, kt_dict_int, kt_dict_bool, kt_dict_str, kt_dict_list, kt_dict_tuple, kt_dict_dict, asL_lst, asL_frz, asL_tup, asT_tup, asS_lst, asS_frz, asS_tup, tyN_non, tyN_bl, tyN_int, tyN_str, atV_lit, ixN_lit, upd_same, upd_ne, upd_ne',
  List.getElem?_cons_zero, List.getElem?_cons_succ, List.set_cons_zero, List.set_cons_succ, List.append_nil, List.length_cons, List.length_nil, Option.some.injEq, exists_eq_left', exists_eq_left, exists_and_left, V.bl.injEq, V.int.injEq, V.str.injEq, V.ref.injEq, Bool.not_eq_true, Bool.not_true, Bool.not_false, decide_true, decide_false, decide_eq_true_eq, decide_eq_false_iff_not, Bool.false_eq_true, if_true, if_false, ite_true, ite_false, reduceCtorEq, true_and, and_true, Nat.reduceAdd, Nat.reduceLT, Nat.zero_add, ne_eq, not_false_eq_true, not_true_eq_false, List.cons.injEq, and_assoc, *])
theorem kp_none' {st p : Addr} {H H1 : Hp} (k : Kp st H H1) (h : H1 p = none) (s1 : StAt H1 st) : H p = none := by
  cases e : H p with
  | none => rfl
  | some o =>
    rw [k.1 p o (s1.ne h) e] at h
    cases h
theorem txt_atM {z : Str} {r : Int} {q : Nat → Prop} (h0 : 0 ≤ r) (h1 : r < (z.cps.size : Nat)) (k : ∀ c, asciiZ z → c < 128 → q c) (a : asciiZ z) : ∃ c, atI z.cps.toList r = some c ∧ q c := by
  obtain ⟨n, rfl⟩ : ∃ n : Nat, r = n := ⟨r.toNat, by omega⟩
  have hn : n < z.cps.toList.length := by rw [Array.length_toList]; omega
  refine ⟨z.cps.toList[n], ?_, k _ a (a _ (List.getElem_mem hn))⟩
  rw [atI_nat (List.getElem?_eq_getElem hn)]
theorem str_len1 {c : Nat} : (⟨#[c]⟩ : Str).length = 1 := rfl
theorem str_len_add {a b : Str} : (a ++ b).length = a.length + b.length := sapp
theorem ascii1 {c : Nat} (h : c < 128) : asciiZ ⟨#[c]⟩ := fun x hx => by
  have hx : x ∈ [c] := hx
  rw [List.mem_singleton] at hx
  rw [hx]
  exact h
theorem pick_ok {K : PySem.W.Frag} {C : CA} {H : Hp} {Q : VK} {E : XK} {st p : Addr} {xs : List V} (hs : StAt H st) (hp : asS (H p) = some xs) (n : p ≠ st) (hl : xs.length < 2 ^ 60) (h0 : xs ≠ [])
    (q : ∀ (n : Nat) (v : V) (H' : Hp), xs[n]? = some v → Kp st H H' → StAt H' st → Q v H') : sp_l_pick K C [.ref st, .ref p] H Q E := ⟨_, _, _, rfl, hs, hp, n, hl, fun e => absurd e h0, q⟩
theorem Kp.put' {st p : Addr} {H H1 : Hp} {o : HO} (a : Kp st H H1) (h : H p = none) (n : p ≠ st) : Kp st H (upd H1 p o) := ⟨fun x u m e => by
  rw [upd_ne (ne_of_none e h)]
  exact a.1 x u m e, fun c r e => by
  obtain ⟨r1, h1⟩ := a.2 c r e
  exact ⟨r1, by rw [upd_ne n.symm]; exact h1⟩⟩
theorem StAt.put' {H H1 : Hp} {st p : Addr} {o : HO} (s : StAt H st) (h : H p = none) (k : Kp st H H1) (s1 : StAt H1 st) : StAt (upd H1 p o) st := by
  have n := s.ne h
  obtain ⟨c, ns, a, b, d, e, h1, h2, _⟩ := s
  obtain ⟨c', ns', a', b', d', e', g1, g2, g3, g4, g5⟩ := s1
  obtain ⟨r1, e1⟩ := k.2 _ _ h1
  rw [g1] at e1
  cases e1
  exact ⟨c, ns', a', b', d', e', by rw [upd_ne n.symm]; exact g1, by rw [upd_ne (ne_of_none h2 h)]; exact g2, g3, g4, g5⟩
theorem cut_to {xs : List V} {i : Int} (h : 0 ≤ i) : cutV xs none (some i) = xs.take i.toNat := by
  obtain ⟨n, rfl⟩ : ∃ n : Nat, i = n := ⟨i.toNat, by omega⟩
  unfold cutV
  rw [HT.sIx_none, List.drop_zero, HT.sIx_nat, Nat.sub_zero, Int.toNat_natCast, ← List.take_eq_take_min]
theorem cut_from {xs : List V} {i : Int} (h : 0 ≤ i) : cutV xs (some i) none = xs.drop i.toNat := by
  obtain ⟨n, rfl⟩ : ∃ n : Nat, i = n := ⟨i.toNat, by omega⟩
  unfold cutV
  rw [HT.sIx_none, HT.sIx_nat, Int.toNat_natCast]
  by_cases c : n ≤ xs.length
  · rw [Nat.min_eq_left c, List.take_of_length_le (by rw [List.length_drop]; omega)]
  · rw [List.drop_eq_nil_of_le (by omega), List.drop_eq_nil_of_le (by omega), List.take_nil]
def sp_l_word (K : PySem.W.Frag) (C : CA) : Sp := fun vs H Q _ => ∃ (st : Addr) (n : Int), vs = [.ref st, .int n] ∧ StAt H st ∧ -(2 ^ 60) ≤ n ∧ n < 2 ^ 60 ∧ ∀ (z : Str) (H' : Hp), 1 ≤ z.length → z.length ≤ 8 → asciiZ z → Kp st H H' → StAt H' st → Q (.str z) H'
def rd_l_word (K : PySem.W.Frag) (C : CA) (E : XK) : TS :=
  (tSeq (tAsg (tC (.str ("abcdefghijklmnopqrstuvwxyz" : Str))) (gName 2)) (tSeq (tAsg (tOp fAdd (tVar 2) (tC (.str ("0123456789" : Str)))) (gName 3)) (tSeq (tAsg (tOp fIx (tVar 2) (tCallS (sp_l_take K C) (fun _ => E0) (tCons (tVar 0) (tCons (tC (.int 26)) tNil)))) (gName 4)) (tSeq (tFor (iRng1 (tCons (tCB fMin (tCons (tC (.int 7)) (tCons (tOp fSub (tVar 1) (tC (.int 1))) tNil))) tNil)) (gName 5) (tAsg (tOp fAdd (tVar 4) (tOp fIx (tVar 3) (tCallS (sp_l_take K C) (fun _ => E0) (tCons (tVar 0) (tCons (tC (.int 36)) tNil))))) (gName 4))) (tRet (tVar 4))))))
theorem pure_l_word {K : PySem.W.Frag} {C : CA} (vs : List V) (H : Hp) (Q : VK) (E : XK) (h : sp_l_word K C vs H Q E) : rd_l_word K C E { nx := fun _ H' => Q .non H', rt := Q } (start [("store" : Str), ("size" : Str), ("letters" : Str), ("signs" : Str), ("word" : Str), ("k" : Str)] vs) H := by
  obtain ⟨st, n, rfl, hs, hm, hn, q⟩ := h
  show rd_l_word K C E _ [some (.ref st), some (.int n), none, none, none, none] H
  unfold rd_l_word
  refine q_asg ?_
  walk_at "s"
  refine q_asg ?_
  walk_at "s"
  refine ⟨by decide +kernel, ?_⟩
  refine q_asg ?_
  walk_at "s"
  refine take_ok hs (by decide) fun r H1 r0 r1 k1 s1 => ?_
  walk_at "s"
  have e1 : (Str.ofString "abcdefghijklmnopqrstuvwxyz").cps.size = 26 := by decide +kernel
  have e2 : (Str.ofString "abcdefghijklmnopqrstuvwxyz" ++ Str.ofString "0123456789").cps.size = 36 := by decide +kernel
  have a1 : asciiZ (Str.ofString "abcdefghijklmnopqrstuvwxyz") := by unfold asciiZ; decide +kernel
  have a2 : asciiZ (Str.ofString "abcdefghijklmnopqrstuvwxyz" ++ Str.ofString "0123456789") := by unfold asciiZ; decide +kernel
  refine ⟨by decide +kernel, txt_atM r0 (by omega) (fun c _ hc => ?_) a1⟩
  generalize (Str.ofString "abcdefghijklmnopqrstuvwxyz" ++ Str.ofString "0123456789") = sg at e2 a2 ⊢
  generalize (Str.ofString "abcdefghijklmnopqrstuvwxyz") = lt at e1 a1 ⊢
  refine q_for ?_
  walk_at "s"
  refine ⟨by omega, by omega, ?_⟩
  refine loop_range (fun i σ H2 => ∃ (z : Str) (v : Option V), σ = [some (.ref st), some (.int n), some (.str lt), some (.str sg), some (.str z), v] ∧ 1 ≤ z.length ∧ z.length ≤ i + 1 ∧ asciiZ z ∧ Kp st H H2 ∧ StAt H2 st) ⟨_, _, rfl, by rw [str_len1]; omega, by rw [str_len1]; omega, ascii1 hc, k1, s1⟩ ?_ ?_
  · rintro i σ H2 hi ⟨z, v, rfl, lz0, lz, az, k2, s2⟩
    walk_at "s"
    refine q_asg1 ?_
    walk_at "s"
    refine take_ok s2 (by decide) fun r H3 r0 r1 k3 s3 => ?_
    walk_at "s"
    refine ⟨by show sg.cps.size ≤ 2 ^ 24; omega, txt_atM r0 (by omega) (fun c _ hc => ?_) a2⟩
    refine ⟨by rw [str_len1]; show _ ≤ 2 ^ 24; omega, ?_⟩
    exact ⟨by rw [str_len_add, str_len1]; omega, by rw [str_len_add, str_len1]; omega, app_ascii az (ascii1 hc), k2.trans k3, s3⟩
  · rintro σ H2 ⟨z, v, rfl, lz0, lz, az, k2, s2⟩
    walk_at "s"
    exact q z H2 lz0 (by omega) az k2 s2
def sp_l_text (K : PySem.W.Frag) (C : CA) : Sp := fun vs H Q _ => ∃ (st : Addr) (n : Nat), vs = [.ref st, .int n] ∧ StAt H st ∧ n ≤ 60 ∧ ∀ (z : Str) (H' : Hp), okZ z → Kp st H H' → StAt H' st → Q (.str z) H'
def rd_l_text (K : PySem.W.Frag) (C : CA) (E : XK) : TS :=
  (tSeq (tAsg (tC (.str ("\n !\"#$&'()*+,-./0123456789:;<=>?@ABCDEFGHIJKLMNOPQRSTUVWXYZ[\\]^_`" : Str))) (gName 2)) (tSeq (tAsg (tOp fAdd (tVar 2) (tC (.str ("abcdefghijklmnopqrstuvwxyz{|}~" : Str)))) (gName 2)) (tSeq (tAsg (tCallS (sp_l_edge K C) (fun _ => E0) (tCons (tVar 0) (tCons (tC (.int 0)) (tCons (tVar 1) tNil)))) (gName 3)) (tSeq (tIfS (tTest (tOp (fEq K) (tCallS (sp_l_take K C) (fun _ => E0) (tCons (tVar 0) (tCons (tC (.int 3)) tNil))) (tC (.int 0)))) (tRet (tOp fMulS (tOp fIx (tVar 2) (tCallS (sp_l_take K C) (fun _ => E0) (tCons (tVar 0) (tCons (tCB fLen (tCons (tVar 2) tNil)) tNil)))) (tVar 3))) tNext) (tSeq (tAsg (tC (.str ("" : Str))) (gName 4)) (tSeq (tFor (iRng1 (tCons (tVar 3) tNil)) (gName 5) (tAsg (tOp fAdd (tVar 4) (tOp fIx (tVar 2) (tCallS (sp_l_take K C) (fun _ => E0) (tCons (tVar 0) (tCons (tCB fLen (tCons (tVar 2) tNil)) tNil))))) (gName 4))) (tRet (tVar 4))))))))
theorem pure_l_text {K : PySem.W.Frag} {C : CA} (vs : List V) (H : Hp) (Q : VK) (E : XK) (h : sp_l_text K C vs H Q E) : rd_l_text K C E { nx := fun _ H' => Q .non H', rt := Q } (start [("store" : Str), ("limit" : Str), ("signs" : Str), ("size" : Str), ("text" : Str), ("k" : Str)] vs) H := by
  obtain ⟨st, n, rfl, hs, hn, q⟩ := h
  show rd_l_text K C E _ [some (.ref st), some (.int n), none, none, none, none] H
  unfold rd_l_text
  refine q_asg ?_
  walk_at "s"
  refine q_asg ?_
  walk_at "s"
  refine ⟨by decide +kernel, ?_⟩
  refine q_asg ?_
  walk_at "s"
  refine edge_ok hs fun m H1 m0 m1 k1 s1 => ?_
  walk_at "s"
  have a2 : asciiZ (Str.ofString "\n !\"#$&'()*+,-./0123456789:;<=>?@ABCDEFGHIJKLMNOPQRSTUVWXYZ[\\]^_`" ++ Str.ofString "abcdefghijklmnopqrstuvwxyz{|}~") := by unfold asciiZ; decide +kernel
  have e2 : 1 ≤ (Str.ofString "\n !\"#$&'()*+,-./0123456789:;<=>?@ABCDEFGHIJKLMNOPQRSTUVWXYZ[\\]^_`" ++ Str.ofString "abcdefghijklmnopqrstuvwxyz{|}~").cps.size ∧ (Str.ofString "\n !\"#$&'()*+,-./0123456789:;<=>?@ABCDEFGHIJKLMNOPQRSTUVWXYZ[\\]^_`" ++ Str.ofString "abcdefghijklmnopqrstuvwxyz{|}~").cps.size ≤ 100 := by decide +kernel
  generalize (Str.ofString "\n !\"#$&'()*+,-./0123456789:;<=>?@ABCDEFGHIJKLMNOPQRSTUVWXYZ[\\]^_`" ++ Str.ofString "abcdefghijklmnopqrstuvwxyz{|}~") = sg at e2 a2 ⊢
  have le : sg.length = sg.cps.size := rfl
  refine q_if ?_
  walk_at "s"
  refine take_ok s1 (by decide) fun f H2 f0 f1 k2 s2 => ?_
  have k12 := k1.trans k2
  walk_at "s"
  refine ite2 (fun c => ?_) fun c => ?_
  · refine ⟨by show _ ≤ 2 ^ 24; omega, take_ok (many := ((sg.length : Nat) : Int)) s2 (by omega) fun r H3 r0 r1 k3 s3 => ?_⟩
    walk_at "s"
    refine ⟨by show _ ≤ 2 ^ 24; omega, txt_atM r0 (by omega) (fun c _ hc => ?_) a2⟩
    refine ⟨⟨#[c]⟩, m, rfl, rfl, rfl, m0, by omega, fun u lu au => ?_⟩
    exact q u H3 ⟨by omega, au (ascii1 hc)⟩ (k12.trans k3) s3
  · walk_at "s"
    refine q_asg ?_
    walk_at "s"
    refine q_for ?_
    walk_at "s"
    refine ⟨by omega, by omega, ?_⟩
    refine loop_range (fun i σ H2 => ∃ (z : Str) (v : Option V), σ = [some (.ref st), some (.int n), some (.str sg), some (.int m), some (.str z), v] ∧ z.length ≤ i ∧ asciiZ z ∧ Kp st H H2 ∧ StAt H2 st) ⟨_, _, rfl, by decide, (fun c hc => by cases hc), k12, s2⟩ ?_ ?_
    · rintro i σ H2 hi ⟨z, v, rfl, lz, az, k2, s2⟩
      walk_at "s"
      refine q_asg1 ?_
      walk_at "s"
      refine ⟨by show _ ≤ 2 ^ 24; omega, take_ok (many := ((sg.length : Nat) : Int)) s2 (by omega) fun r H3 r0 r1 k3 s3 => ?_⟩
      walk_at "s"
      refine ⟨by show _ ≤ 2 ^ 24; omega, txt_atM r0 (by omega) (fun c _ hc => ?_) a2⟩
      refine ⟨by rw [str_len1]; show _ ≤ 2 ^ 24; omega, ?_⟩
      exact ⟨by rw [str_len_add, str_len1]; omega, app_ascii az (ascii1 hc), k2.trans k3, s3⟩
    · rintro σ H2 ⟨z, v, rfl, lz, az, k2, s2⟩
      walk_at "s"
      exact q z H2 ⟨by omega, az⟩ k2 s2
end XB

/-! Values drawn. -/
namespace XB
open PySem L2
local macro_rules | `(tactic| walk_at "s") => `(tactic| try simp only [u_var, u_c, u_op, u_un, u_nil, u_cons, u_cb, u_call, u_callS, u_tup, u_lst, u_test, u_B, u_and, u_or, u_not, u_andV, u_orV, u_notV, u_ifE, u_chain, u_sl, u_noPart, u_part, u_bm, u_bm0, u_rev, u_lc, u_try, u_sui, u_sui0, u_unb_rt, u_unb_nx, u_xf, u_WE, w_nil, w_cons, u_raise, u_rng1, u_rng2, u_next, u_ret, u_gname, u_gnil, u_gcons, u_gsub, u_gtup,
  f_add, f_addS, f_addR, f_sub, f_mul, f_mulR, f_mod, f_div, f_pow, f_neg, f_cmp, f_eq, f_eqB, f_eqS, f_ne, f_neB, f_neS, f_isN, f_notN, f_isB, f_ix, f_ixS, f_int, f_intB, f_len, f_lenS, f_max, f_min, f_abs, f_list, f_tuple, f_all, f_sum, f_isi, f_isiT, f_append, f_insert, f_pop, f_sl, f_set,
  kitS, tys, List.isEmpty_cons, Option.map_some, kt_NoneType_int, kt_NoneType_bool, kt_NoneType_str, kt_NoneType_list, kt_NoneType_tuple, kt_NoneType_dict, kt_int_int, kt_int_bool, kt_int_str, kt_int_list, kt_int_tuple, kt_int_dict, kt_bool_int, kt_bool_bool, kt_bool_str, kt_bool_list, kt_bool_tuple, kt_bool_dict, kt_str_int, kt_str_bool, kt_str_str, kt_str_list, kt_str_tuple, kt_str_dict, kt_list_int, kt_list_bool, kt_list_str, kt_list_list, kt_list_tuple, kt_list_dict, kt_tuple_int, kt_tuple_bool, kt_tuple_str, kt_tuple_list, kt_tuple_tuple, kt_tuple_dict, kt_dict_int, kt_dict_bool, kt_dict_str, kt_dict_list, kt_dict_tuple, kt_dict_dict, asL_lst, asL_frz, asL_tup, asT_tup, asS_lst, asS_frz, asS_tup, tyN_non, tyN_bl, tyN_int, tyN_str, atV_lit, ixN_lit, upd_same, upd_ne, upd_ne',
  List.getElem?_cons_zero, List.getElem?_cons_succ, List.set_cons_zero, List.set_cons_succ, List.append_nil, List.length_cons, List.length_nil, Option.some.injEq, exists_eq_left', exists_eq_left, exists_and_left, V.bl.injEq, V.int.injEq, V.str.injEq, V.ref.injEq, Bool.not_eq_true, Bool.not_true, Bool.not_false, decide_true, decide_false, decide_eq_true_eq, decide_eq_false_iff_not, Bool.false_eq_true, if_true, if_false, ite_true, ite_false, reduceCtorEq, true_and, and_true, Nat.reduceAdd, Nat.reduceLT, Nat.zero_add, ne_eq, not_false_eq_true, not_true_eq_false, List.cons.injEq, and_assoc])
local macro_rules | `(tactic| walk_at "S") => `(tactic| try simp only [u_var, u_c, u_op, u_un, u_nil, u_cons, u_cb, u_call, u_callS, u_tup, u_lst, u_test, u_B, u_and, u_or, u_not, u_andV, u_orV, u_notV, u_ifE, u_chain, u_sl, u_noPart, u_part, u_bm, u_bm0, u_rev, u_lc, u_try, u_sui, u_sui0, u_unb_rt, u_unb_nx, u_xf, u_WE, w_nil, w_cons, u_raise, u_rng1, u_rng2, u_next, u_ret, u_gname, u_gnil, u_gcons, u_gsub, u_gtup,
  f_add, f_addS, f_addR, f_sub, f_mul, f_mulR, f_mod, f_div, f_pow, f_neg, f_cmp, f_eq, f_eqB, f_eqS, f_ne, f_neB, f_neS, f_isN, f_notN, f_isB, f_ix, f_ixS, f_int, f_intB, f_len, f_lenS, f_max, f_min, f_abs, f_list, f_tuple, f_all, f_sum, f_isi, f_isiT, f_append, f_insert, f_pop, f_sl, f_set,
  kitS, tys, List.isEmpty_cons, Option.map_some, kt_NoneType_int, kt_NoneType_bool, kt_NoneType_str, kt_NoneType_list, kt_NoneType_tuple, kt_NoneType_dict, kt_int_int, kt_int_bool, kt_int_str, kt_int_list, kt_int_tuple, kt_int_dict, kt_bool_int, kt_bool_bool, kt_bool_str, kt_bool_list, kt_bool_tuple, kt_bool_dict, kt_str_int, kt_str_bool, kt_str_str, kt_str_list, kt_str_tuple, kt_str_dict, kt_list_int, kt_list_bool, kt_list_str, kt_list_list, kt_list_tuple, kt_list_dict, kt_tuple_int, kt_tuple_bool, kt_tuple_str, kt_tuple_list, kt_tuple_tuple, kt_tuple_dict, kt_dict_int, kt_dict_bool, kt_dict_str, kt_dict_list, kt_dict_tuple, kt_dict_dict, asL_lst, asL_frz, asL_tup, asT_tup, asS_lst, asS_frz, asS_tup, tyN_non, tyN_bl, tyN_int, tyN_str, atV_lit, ixN_lit, upd_same, upd_ne, upd_ne',
  List.getElem?_cons_zero, List.getElem?_cons_succ, List.set_cons_zero, List.set_cons_succ, List.append_nil, List.length_cons, List.length_nil, Option.some.injEq, exists_eq_left', exists_eq_left, exists_and_left, V.bl.injEq, V.int.injEq, V.str.injEq, V.ref.injEq, Bool.not_eq_true, Bool.not_true, Bool.not_false, decide_true, decide_false, decide_eq_true_eq, decide_eq_false_iff_not, Bool.false_eq_true, if_true, if_false, ite_true, ite_false, reduceCtorEq, true_and, and_true, Nat.reduceAdd, Nat.reduceLT, Nat.zero_add, ne_eq, not_false_eq_true, not_true_eq_false, List.cons.injEq, and_assoc, *])
structure Bs (st : Addr) (ρ ω : Addr → Nat) (H : Hp) : Prop where
  sa : StAt H st
  wt : Wt ρ ω H
  z : ω st = 0
structure Mk (st : Addr) (H : Hp) (ρ ω : Addr → Nat) (H' : Hp) (ρ' ω' : Addr → Nat) : Prop where
  kp : Kp st H H'
  bs : Bs st ρ' ω' H'
  ex : Ext H ρ ω ρ' ω'
section
variable {ρ ω ρ' ω' ρ1 ω1 ρ2 ω2 : Addr → Nat} {H H' H1 H2 : Hp} {n m : Nat} {v : V} {p st : Addr}
theorem Bs.mk' (b : Bs st ρ ω H) : Mk st H ρ ω H ρ ω := ⟨Kp.refl _ _, b, Ext.refl⟩
theorem Wt.kp (W : Wt ρ ω H) (z : ω st = 0) (k : Kp st H H') : Wt ρ ω H' := W.keep fun q o h e => k.1 q o (fun c => by rw [c, z] at h; omega) e
theorem Bs.kp (b : Bs st ρ ω H) (k : Kp st H H') (s : StAt H' st) : Bs st ρ ω H' := ⟨s, b.wt.kp b.z k, b.z⟩
theorem Mk.kpp (m : Mk st H ρ ω H1 ρ1 ω1) (k : Kp st H1 H2) (s : StAt H2 st) : Mk st H ρ ω H2 ρ1 ω1 := ⟨m.kp.trans k, m.bs.kp k s, m.ex⟩
theorem Mk.sm (m : Mk st H ρ ω H1 ρ1 ω1) (k : Sm H1 H2) : Mk st H ρ ω H2 ρ1 ω1 := m.kpp (kp_sm k) (m.bs.sa.sm k)
theorem Mk.trans (a : Mk st H ρ ω H1 ρ1 ω1) (b : Mk st H1 ρ1 ω1 H2 ρ2 ω2) : Mk st H ρ ω H2 ρ2 ω2 := ⟨a.kp.trans b.kp, b.bs, a.ex.trans b.ex fun q h => kp_none' a.kp h a.bs.sa⟩
theorem Mk.nn (m : Mk st H ρ ω H1 ρ1 ω1) (h : H1 p = .none) : H p = .none := kp_none' m.kp h m.bs.sa
theorem Mk.gd (m : Mk st H ρ ω H1 ρ1 ω1) (h : Gd ρ ω n v) : Gd ρ1 ω1 n v := m.ex.gd h
theorem Mk.wv (m : Mk st H ρ ω H1 ρ1 ω1) (h : Gd ρ ω n v) : wv ω1 v = wv ω v := m.ex.wv h
theorem Mk.off (m : Mk st H ρ ω H1 ρ1 ω1) (h : ω p = 0) (e : H p ≠ .none) : ω1 p = 0 := by
  cases z : ω1 p with
  | zero => rfl
  | succ k =>
    rcases m.ex.2 p (by omega) with h2 | h2
    · omega
    · exact absurd h2 e
theorem Ext.add {a b : Nat} (h0 : ω p = 0) (hp : H p = .none) : Ext H ρ ω (fu ρ p a) (fu ω p b) := ⟨fun q h => by
  have : q ≠ p := fun e => by rw [e, h0] at h; omega
  exact ⟨fu_ne this, fu_ne this⟩, fun q h => by
  by_cases e : q = p
  · exact .inr (by rw [e]; exact hp)
  · rw [fu_ne e] at h
    exact .inl h⟩
theorem fu_gd {a b : Nat} (h0 : ω p = 0) (h : Gd ρ ω n v) : Gd (fu ρ p a) (fu ω p b) n v := by
  rcases h with h | ⟨q, rfl, h, l⟩
  · exact .inl h
  · have : q ≠ p := fun e => by rw [e, h0] at h; omega
    exact .inr ⟨q, rfl, by rw [fu_ne this]; exact h, by rw [fu_ne this]; exact l⟩
theorem fu_wv {b : Nat} (h0 : ω p = 0) (h : Gd ρ ω n v) : XB.wv (fu ω p b) v = XB.wv ω v := by
  rcases h with h | ⟨q, rfl, h, l⟩
  · rw [fl_wv h, fl_wv h]
  · have : q ≠ p := fun e => by rw [e, h0] at h; omega
    exact fu_ne this
theorem fu_sw {b : Nat} (h0 : ω p = 0) : ∀ {xs : List V}, (∀ x ∈ xs, Gd ρ ω n x) → sw (fu ω p b) xs = sw ω xs
  | [], _ => rfl
  | x :: r, h => by
    simp only [XB.sw]
    rw [fu_wv h0 (h x List.mem_cons_self), fu_sw h0 fun y hy => h y (List.mem_cons_of_mem _ hy)]
theorem fu_cell {a b : Nat} {q : Addr} (h0 : ω p = 0) (hq : q ≠ p) (h : CellOk ρ ω H q) : CellOk (fu ρ p a) (fu ω p b) H q := by
  rcases h with ⟨xs, e, g, c⟩ | ⟨xs, e, g, c⟩ | ⟨kvs, e, g, c⟩
  · exact .inl ⟨xs, e, fun x hx => by rw [fu_ne hq]; exact fu_gd h0 (g x hx), by rw [fu_sw h0 g, fu_ne hq]; exact c⟩
  · exact .inr (.inl ⟨xs, e, fun x hx => by rw [fu_ne hq]; exact fu_gd h0 (g x hx), by rw [fu_sw h0 g, fu_ne hq]; exact c⟩)
  · exact .inr (.inr ⟨kvs, e, fun x hx => ⟨(g x hx).1, by rw [fu_ne hq]; exact fu_gd h0 (g x hx).2⟩, by
      rw [fu_sw (n := ρ q) (ρ := ρ) h0 (xs := kvs.map (·.2)) (fun x hx => by
        obtain ⟨kv, hk, rfl⟩ := List.mem_map.mp hx
        exact (g kv hk).2), fu_ne hq]
      exact c⟩)
theorem Wt.addL {a b : Nat} {xs : List V} (W : Wt ρ ω H) (h0 : ω p = 0) (h : H p = some (.lst xs)) (g : ∀ x ∈ xs, Gd ρ ω a x) (hw : XB.sw ω xs + (2 - xs.length) < b) : Wt (fu ρ p a) (fu ω p b) H := fun q hq => by
  by_cases c : q = p
  · subst c
    exact .inl ⟨xs, h, fun x hx => by rw [fu_same]; exact fu_gd h0 (g x hx), by rw [fu_same, fu_sw h0 g]; exact hw⟩
  · rw [fu_ne c] at hq
    exact fu_cell h0 c (W q hq)
theorem Wt.addT {a b : Nat} {xs : List V} (W : Wt ρ ω H) (h0 : ω p = 0) (h : H p = some (.tup xs)) (g : ∀ x ∈ xs, Gd ρ ω a x) (hw : XB.sw ω xs < b) : Wt (fu ρ p a) (fu ω p b) H := fun q hq => by
  by_cases c : q = p
  · subst c
    exact .inr (.inl ⟨xs, h, fun x hx => by rw [fu_same]; exact fu_gd h0 (g x hx), by rw [fu_same, fu_sw h0 g]; exact hw⟩)
  · rw [fu_ne c] at hq
    exact fu_cell h0 c (W q hq)
theorem Wt.addD {a b : Nat} {kvs : List (Key × V)} (W : Wt ρ ω H) (h0 : ω p = 0) (h : H p = some (.dK kvs)) (g : ∀ kv ∈ kvs, keyOk kv.1 ∧ Gd ρ ω a kv.2) (hw : XB.sw ω (kvs.map (·.2)) + kvs.length + slk kvs < b) : Wt (fu ρ p a) (fu ω p b) H := fun q hq => by
  by_cases c : q = p
  · subst c
    exact .inr (.inr ⟨kvs, h, fun x hx => ⟨(g x hx).1, by rw [fu_same]; exact fu_gd h0 (g x hx).2⟩, by
      rw [fu_same, fu_sw (n := a) (ρ := ρ) h0 (xs := kvs.map (·.2)) (fun x hx => by
        obtain ⟨kv, hk, rfl⟩ := List.mem_map.mp hx
        exact (g kv hk).2)]
      exact hw⟩)
  · rw [fu_ne c] at hq
    exact fu_cell h0 c (W q hq)
theorem Mk.add {a b : Nat} (m : Mk st H ρ ω H1 ρ1 ω1) (hp : H p = .none) (h0 : ω1 p = 0) (np : p ≠ st) (W : Wt (fu ρ1 p a) (fu ω1 p b) H1) : Mk st H ρ ω H1 (fu ρ1 p a) (fu ω1 p b) := ⟨m.kp, ⟨m.bs.sa, W, by rw [fu_ne (Ne.symm np)]; exact m.bs.z⟩, ⟨fun q h => by
  obtain ⟨e1, e2⟩ := m.ex.1 q h
  have : q ≠ p := fun e => by rw [← e] at h0; omega
  rw [fu_ne this, fu_ne this]
  exact ⟨e1, e2⟩, fun q h => by
  by_cases e : q = p
  · exact .inr (by rw [e]; exact hp)
  · rw [fu_ne e] at h
    exact m.ex.2 q h⟩⟩
/-- a cell that is there, new since H, becomes a list among the values -/
theorem Mk.addL {a b : Nat} {xs : List V} (m : Mk st H ρ ω H1 ρ1 ω1) (hp : H p = .none) (h0 : ω1 p = 0) (np : p ≠ st) (h : H1 p = some (.lst xs)) (g : ∀ x ∈ xs, Gd ρ1 ω1 a x) (hw : XB.sw ω1 xs + (2 - xs.length) < b) : Mk st H ρ ω H1 (fu ρ1 p a) (fu ω1 p b) := m.add hp h0 np (m.bs.wt.addL h0 h g hw)
theorem Mk.addT {a b : Nat} {xs : List V} (m : Mk st H ρ ω H1 ρ1 ω1) (hp : H p = .none) (h0 : ω1 p = 0) (np : p ≠ st) (h : H1 p = some (.tup xs)) (g : ∀ x ∈ xs, Gd ρ1 ω1 a x) (hw : XB.sw ω1 xs < b) : Mk st H ρ ω H1 (fu ρ1 p a) (fu ω1 p b) := m.add hp h0 np (m.bs.wt.addT h0 h g hw)
theorem Mk.addD {a b : Nat} {kvs : List (Key × V)} (m : Mk st H ρ ω H1 ρ1 ω1) (hp : H p = .none) (h0 : ω1 p = 0) (np : p ≠ st) (h : H1 p = some (.dK kvs)) (g : ∀ kv ∈ kvs, keyOk kv.1 ∧ Gd ρ1 ω1 a kv.2) (hw : XB.sw ω1 (kvs.map (·.2)) + kvs.length + slk kvs < b) : Mk st H ρ ω H1 (fu ρ1 p a) (fu ω1 p b) := m.add hp h0 np (m.bs.wt.addD h0 h g hw)
/-- a new tuple -/
theorem Mk.newT {a b : Nat} {xs : List V} (m : Mk st H ρ ω H1 ρ1 ω1) (hp : H1 p = .none) (s : Sm H1 H2) (h : H2 p = some (.tup xs)) (g : ∀ x ∈ xs, Gd ρ1 ω1 a x) (hw : XB.sw ω1 xs < b) : Mk st H ρ ω H2 (fu ρ1 p a) (fu ω1 p b) :=
  (m.sm s).addT (m.nn hp) (m.bs.wt.zero hp) (m.bs.sa.ne hp) h g hw
theorem Mk.newL {a b : Nat} {xs : List V} (m : Mk st H ρ ω H1 ρ1 ω1) (hp : H1 p = .none) (s : Sm H1 H2) (h : H2 p = some (.lst xs)) (g : ∀ x ∈ xs, Gd ρ1 ω1 a x) (hw : XB.sw ω1 xs + (2 - xs.length) < b) : Mk st H ρ ω H2 (fu ρ1 p a) (fu ω1 p b) :=
  (m.sm s).addL (m.nn hp) (m.bs.wt.zero hp) (m.bs.sa.ne hp) h g hw
theorem gd_new {a b : Nat} (h : 0 < b) (l : a < n) : Gd (fu ρ p a) (fu ω p b) n (.ref p) := .inr ⟨p, rfl, by rw [fu_same]; exact h, by rw [fu_same]; exact l⟩
theorem wv_new {b : Nat} : XB.wv (fu ω p b) (.ref p) = b := fu_same
theorem gd_int {i : Int} (h : i.natAbs < 10 ^ 40) : Gd ρ ω n (.int i) := .inl (.inr (.inr (.inl ⟨i, rfl, h⟩)))
theorem gd_str {z : Str} (h : okZ z) : Gd ρ ω n (.str z) := .inl (.inr (.inr (.inr ⟨z, rfl, h⟩)))
theorem gd_bl {b : Bool} : Gd ρ ω n (.bl b) := .inl (.inr (.inl ⟨b, rfl⟩))
theorem gd_non : Gd ρ ω n .non := .inl (.inl rfl)
end
theorem Mk.put {ρ ω ρ1 ω1 : Addr → Nat} {H H1 : Hp} {p st : Addr} {o : HO} (m : Mk st H ρ ω H1 ρ1 ω1) (b : Bs st ρ ω H) (hp : H p = none) (h0 : ω1 p = 0) : Mk st H ρ ω (upd H1 p o) ρ1 ω1 :=
  ⟨m.kp.put' hp (b.sa.ne hp), ⟨b.sa.put' hp m.kp m.bs.sa, m.bs.wt.keep fun q u h e => by
    rw [upd_ne (fun c => by rw [c, h0] at h; omega)]
    exact e, m.bs.z⟩, m.ex⟩
theorem sw_app {ω : Addr → Nat} : ∀ {xs ys : List V}, sw ω (xs ++ ys) = sw ω xs + sw ω ys
  | [], ys => by simp [sw]
  | x :: r, ys => by
    rw [List.cons_append]
    simp only [sw]
    rw [sw_app]
    omega
theorem putK_all {P : Key → V → Prop} {kvs : List (Key × V)} {k : Key} {v : V} (h : ∀ kv ∈ kvs, P kv.1 kv.2) (hv : P k v) : (∀ kv ∈ putK kvs k v, P kv.1 kv.2) ∧ (putK kvs k v).length ≤ kvs.length + 1 := by
  unfold putK
  split
  · refine ⟨fun kv hk => ?_, by rw [List.length_map]; omega⟩
    obtain ⟨x, hx, rfl⟩ := List.mem_map.mp hk
    split
    · rename_i e
      rw [e]
      exact hv
    · exact h x hx
  · refine ⟨fun kv hk => ?_, by rw [List.length_append]; exact Nat.le_refl _⟩
    rcases List.mem_append.mp hk with hk | hk
    · exact h kv hk
    · rw [List.mem_singleton] at hk
      rw [hk]
      exact hv
theorem sw_le {ω : Addr → Nat} {w : Nat} : ∀ {xs : List V}, (∀ x ∈ xs, wv ω x ≤ w) → sw ω xs ≤ xs.length * w
  | [], _ => by simp [sw]
  | x :: r, h => by
    have a := sw_le (xs := r) fun y hy => h y (List.mem_cons_of_mem _ hy)
    have b := h x List.mem_cons_self
    simp only [sw, List.length_cons, Nat.succ_mul]
    omega
theorem slk_le {kvs : List (Key × V)} : slk kvs ≤ 2 := by
  unfold slk
  split <;> omega
def wb : Nat → Nat
  | 0 => 3
  | n + 1 => 3 * wb n + 6
/-- what a def tells that makes a value -/
def Makes (st : Addr) (ρ ω : Addr → Nat) (H : Hp) (n b : Nat) (Q : VK) : Prop := ∀ ρ' ω' H' v, Mk st H ρ ω H' ρ' ω' → Gd ρ' ω' n v → wv ω' v ≤ b → Q v H'
theorem wb_pos {n : Nat} : 3 ≤ wb n := by cases n <;> simp only [wb] <;> omega
def sp_valueN (n : Nat) : Sp := fun vs H Q _ => ∃ st ρ ω, vs = [.ref st, .int n] ∧ n ≤ 10 ∧ Bs st ρ ω H ∧ Makes st ρ ω H (n + 1) (wb n) Q
def sp_value_in : Nat → Sp
  | 0 => fun _ _ _ _ => False
  | n + 1 => sp_valueN n
def sp_l_value (K : PySem.W.Frag) (C : CA) : Sp := sp_valueN 4
def rd_l_value (K : PySem.W.Frag) (C : CA) (spR : Sp) (E : XK) : TS :=
  (tSeq (tAsg (tCallS (sp_l_take K C) (fun _ => E0) (tCons (tVar 0) (tCons (tC (.int 10)) tNil))) (gName 2)) (tSeq (tIfS (tTest (tOp fLt (tVar 2) (tC (.int 3)))) (tRet (tOp fIx (tLst (tCons (tC .non) (tCons (tC (.bl true)) (tCons (tC (.bl false)) tNil)))) (tVar 2))) tNext) (tSeq (tIfS (tTest (tOp (fEq K) (tVar 2) (tC (.int 3)))) (tRet (tCallS (sp_l_number K C) (fun _ => E0) (tCons (tVar 0) tNil))) tNext) (tSeq (tIfS (tTest (tOp (fEq K) (tVar 2) (tC (.int 4)))) (tRet (tCallS (sp_l_text K C) (fun _ => E0) (tCons (tVar 0) (tCons (tC (.int 9)) tNil)))) tNext) (tSeq (tIfS (tTest (tOp (fEq K) (tVar 2) (tC (.int 5)))) (tRet (tCallS (sp_l_pick K C) (fun _ => E0) (tCons (tVar 0) (tCons (tLst (tCons (tC (.str ("-" : Str))) (tCons (tCallS (sp_l_word K C) (fun _ => E0) (tCons (tVar 0) (tCons (tOp fAdd (tC (.int 1)) (tCallS (sp_l_take K C) (fun _ => E0) (tCons (tVar 0) (tCons (tC (.int 8)) tNil)))) tNil))) tNil))) tNil)))) tNext) (tSeq (tIfS (tTest (tOp (fEq K) (tVar 2) (tC (.int 6)))) (tRet (tCallS (sp_l_take K C) (fun _ => E0) (tCons (tVar 0) (tCons (tC (.int 9)) tNil)))) tNext) (tSeq (tIfS (tTest (tOp fLt (tVar 1) (tC (.int 1)))) (tRet (tOp fIx (tLst (tCons (tLst tNil) (tCons (tTup tNil) (tCons (tC (.str ("" : Str))) tNil)))) (tCallS (sp_l_take K C) (fun _ => E0) (tCons (tVar 0) (tCons (tC (.int 3)) tNil))))) tNext) (tSeq (tAsg (tLst tNil) (gName 3)) (tSeq (tFor (iRng1 (tCons (tCallS (sp_l_take K C) (fun _ => E0) (tCons (tVar 0) (tCons (tC (.int 4)) tNil))) tNil)) (gName 4) (tDrop (tBMF "list" fAppend (tVar 3) (tCons (tCallS spR (fun _ => E0) (tCons (tVar 0) (tCons (tOp fSub (tVar 1) (tC (.int 1))) tNil))) tNil)))) (tSeq (tIfS (tTest (tOp (fEq K) (tVar 2) (tC (.int 7)))) (tRet (tVar 3)) tNext) (tSeq (tIfS (tTest (tOp (fEq K) (tVar 2) (tC (.int 8)))) (tRet (tCB fTuple (tCons (tVar 3) tNil))) tNext) (tSeq (tAsg tDNewK (gName 5)) (tSeq (tFor (iList K (tVar 3)) (gName 6) (sDPut (tVar 5) (tCallS (sp_l_text K C) (fun _ => E0) (tCons (tVar 0) (tCons (tC (.int 2)) tNil))) (tVar 6))) (tRet (tVar 5)))))))))))))))
theorem pure_l_valueN {K : PySem.W.Frag} {C : CA} (n : Nat) (vs : List V) (H : Hp) (Q : VK) (E : XK) (h : sp_valueN n vs H Q E) : rd_l_value K C (sp_value_in n) E { nx := fun _ H' => Q .non H', rt := Q } (start [("store" : Str), ("depth" : Str), ("form" : Str), ("row" : Str), ("k" : Str), ("table" : Str), ("part" : Str)] vs) H := by
  obtain ⟨st, ρ, ω, rfl, hn, b, q⟩ := h
  show rd_l_value K C _ E _ [some (.ref st), some (.int n), none, none, none, none, none] H
  unfold rd_l_value
  have b3 := wb_pos (n := n)
  have fl : ∀ v H', Kp st H H' → StAt H' st → (∀ ρ ω m, Gd ρ ω m v) → wv ω v = 1 → Q v H' := fun v H' k s g w => q ρ ω H' v (b.mk'.kpp k s) (g _ _ _) (by omega)
  refine q_asg ?_
  walk_at "s"
  refine take_ok b.sa (by decide) fun f H1 f0 f1 k1 s1 => ?_
  walk_at "s"
  refine q_if ?_
  walk_at "s"
  refine ite2 (fun c => ?_) fun c => ?_
  · walk_at "s"
    refine ⟨by decide, fun pa na => al na fun H2 t2 h2 => ?_⟩
    have k2 := k1.trans (kp_sm t2)
    have s2 := s1.sm t2
    try rw [h2]
    walk_at "s"
    obtain rfl | rfl | rfl : f = 0 ∨ f = 1 ∨ f = 2 := by omega
    · walk_at "s"; exact fl _ _ k2 s2 (fun _ _ _ => gd_non) rfl
    · walk_at "s"; exact fl _ _ k2 s2 (fun _ _ _ => gd_bl) rfl
    · walk_at "s"; exact fl _ _ k2 s2 (fun _ _ _ => gd_bl) rfl
  · refine q_if ?_
    walk_at "s"
    refine ite2 (fun c => ?_) fun c => ?_
    · walk_at "s"
      refine number_ok s1 fun r H2 r0 r1 k2 s2 => ?_
      exact fl _ _ (k1.trans k2) s2 (fun _ _ _ => gd_int (by omega)) rfl
    · refine q_if ?_
      walk_at "s"
      refine ite2 (fun c => ?_) fun c => ?_
      · walk_at "s"
        exact ⟨st, 9, rfl, s1, by decide, fun z H2 oz k2 s2 => fl _ _ (k1.trans k2) s2 (fun _ _ _ => gd_str oz) rfl⟩
      · refine q_if ?_
        walk_at "s"
        refine ite2 (fun c => ?_) fun c => ?_
        · walk_at "s"
          refine take_ok s1 (by decide) fun r H2 r0 r1 k2 s2 => ?_
          walk_at "s"
          refine ⟨st, _, rfl, s2, by omega, by omega, fun z H3 z1 z8 az k3 s3 => ?_⟩
          walk_at "s"
          refine ⟨by decide, fun pa na => al na fun H4 t4 h4 => ?_⟩
          have s4 := s3.sm t4
          refine pick_ok s4 (by rw [h4]; rfl) (s3.ne na) (by show 2 < 2 ^ 60; decide) (by simp) fun i v H5 hv k5 s5 => ?_
          have k := k1.trans (k2.trans (k3.trans ((kp_sm t4).trans k5)))
          match i, hv with
          | 0, hv => cases hv; exact fl _ _ k s5 (fun _ _ _ => gd_str ⟨by decide, by unfold asciiZ; decide +kernel⟩) rfl
          | 1, hv => cases hv; exact fl _ _ k s5 (fun _ _ _ => gd_str ⟨by omega, az⟩) rfl
          | i + 2, hv => simp at hv
        · refine q_if ?_
          walk_at "s"
          refine ite2 (fun c => ?_) fun c => ?_
          · walk_at "s"
            refine take_ok s1 (by decide) fun r H2 r0 r1 k2 s2 => ?_
            exact fl _ _ (k1.trans k2) s2 (fun _ _ _ => gd_int (by omega)) rfl
          · refine q_if ?_
            walk_at "s"
            refine ite2 (fun c => ?_) fun c => ?_
            · walk_at "s"
              refine ⟨by decide, fun pa na => al na fun H2 t2 h2 => ⟨by decide, fun pb nb => al nb fun H3 t3 h3 => ⟨by show 3 ≤ 2 ^ 24; decide, fun pc nc => al nc fun H4 t4 h4 => ?_⟩⟩⟩
              have s2 := s1.sm t2
              have s3 := s2.sm t3
              have s4 := s3.sm t4
              refine take_ok s4 (by decide) fun r H5 r0 r1 k5 s5 => ?_
              have k := k1.trans ((kp_sm t2).trans ((kp_sm t3).trans ((kp_sm t4).trans k5)))
              walk_at "s"
              rw [k5.1 _ _ (s3.ne nc) h4]
              walk_at "s"
              have m5 := b.mk'.kpp k s5
              have na0 : H pa = none := kp_none' k1 na s1
              have nb0 : H pb = none := kp_none' (k1.trans (kp_sm t2)) nb s2
              obtain rfl | rfl | rfl : r = 0 ∨ r = 1 ∨ r = 2 := by omega
              · walk_at "s"
                refine q _ _ H5 _ (m5.addL (xs := []) (a := 0) (b := 3) na0 (b.wt.zero na0) (s1.ne na) (k5.1 _ _ (s1.ne na) (t4 _ _ (t3 _ _ h2))) (fun x hx => by cases hx) (by show 0 + (2 - 0) < 3; decide)) (gd_new (by decide) (by omega)) (by rw [wv_new]; omega)
              · walk_at "s"
                refine q _ _ H5 _ (m5.addT (xs := []) (a := 0) (b := 1) nb0 (b.wt.zero nb0) (s2.ne nb) (k5.1 _ _ (s2.ne nb) (t4 _ _ h3)) (fun x hx => by cases hx) (by show 0 < 1; decide)) (gd_new (by decide) (by omega)) (by rw [wv_new]; omega)
              · walk_at "s"; exact fl _ _ k s5 (fun _ _ _ => gd_str ⟨by decide, fun c hc => by cases hc⟩) rfl
            · obtain ⟨j, rfl⟩ : ∃ j, n = j + 1 := ⟨n - 1, by omega⟩
              refine q_asg ?_
              walk_at "s"
              refine ⟨by decide, fun pr nr => al nr fun H2 t2 h2 => ?_⟩
              have s2 := s1.sm t2
              have nr0 : H pr = none := kp_none' k1 nr s1
              refine q_for ?_
              walk_at "s"
              refine take_ok s2 (by decide) fun m H3 m0 m1 k3 s3 => ?_
              walk_at "s"
              refine ⟨by omega, by omega, ?_⟩
              refine loop_range (fun i σ H' => ∃ ρ1 ω1 xs vk, σ = [some (.ref st), some (.int ((j + 1 : Nat) : Int)), some (.int f), some (.ref pr), vk, none, none] ∧ Mk st H ρ ω H' ρ1 ω1 ∧ H' pr = some (.lst xs) ∧ ω1 pr = 0 ∧ xs.length ≤ i ∧ (∀ x ∈ xs, Gd ρ1 ω1 (j + 1) x ∧ wv ω1 x ≤ wb j))
                ⟨ρ, ω, [], none, rfl, b.mk'.kpp (k1.trans ((kp_sm t2).trans k3)) s3, k3.1 _ _ (s1.ne nr) h2, b.wt.zero nr0, Nat.le_refl 0, fun x hx => by cases hx⟩ ?_ ?_
              · rintro i σ H4 hi ⟨ρ1, ω1, xs, vk, rfl, m4, h4, z4, l4, g4⟩
                walk_at "s"
                refine q_drop1 ?_
                walk_at "s"
                refine ⟨tyN_lst h4, st, ρ1, ω1, ?_, by omega, m4.bs, fun ρ2 ω2 H5 v m5 g w => ?_⟩
                · have : (((j + 1 : Nat) : Int) - 1) = (j : Nat) := by omega
                  rw [this]
                dsimp only
                rw [m5.kp.1 pr _ (b.sa.ne nr0) h4]
                dsimp only
                have z5 := m5.off z4 (by rw [h4]; exact fun z => by cases z)
                refine ⟨by show _ < 2 ^ 24; omega, ρ2, ω2, (m4.trans m5).put b nr0 z5, _, rfl, z5, by rw [List.length_append]; show _ + 1 ≤ _; omega, fun x hx => ?_⟩
                rcases List.mem_append.mp hx with hx | hx
                · obtain ⟨g1, w1⟩ := g4 x hx
                  exact ⟨m5.gd g1, by rw [m5.wv g1]; exact w1⟩
                · rw [List.mem_singleton] at hx
                  rw [hx]
                  exact ⟨g, w⟩
              · rintro σ H4 ⟨ρ1, ω1, xs, vk, rfl, m4, h4, z4, l4, g4⟩
                have lx : xs.length ≤ 3 := by omega
                have sx : sw ω1 xs ≤ 3 * wb j := Nat.le_trans (sw_le fun x hx => (g4 x hx).2) (Nat.mul_le_mul_right _ lx)
                have npr := b.sa.ne nr0
                dsimp only
                refine q_if ?_
                walk_at "s"
                refine ite2 (fun c => ?_) fun c => ?_
                · exact q _ _ H4 _ (m4.addL (a := j + 1) (b := 3 * wb j + 3) nr0 z4 npr h4 (fun x hx => (g4 x hx).1) (by omega)) (gd_new (by omega) (by omega)) (by rw [wv_new]; simp only [wb]; omega)
                · refine q_if ?_
                  walk_at "s"
                  refine ite2 (fun c => ?_) fun c => ?_
                  · rw [asL_at h4]
                    refine fun pt nt => al nt fun H5 t5 h5 => ?_
                    exact q _ _ H5 _ (m4.newT (a := j + 1) (b := 3 * wb j + 3) nt t5 h5 (fun x hx => (g4 x hx).1) (by omega)) (gd_new (by omega) (by omega)) (by rw [wv_new]; simp only [wb]; omega)
                  · refine q_asg ?_
                    walk_at "s"
                    refine fun pd nd => al nd fun H5 t5 h5 => ?_
                    walk_at "s"
                    have nd0 := m4.nn nd
                    have m5 := m4.sm t5
                    have npd := b.sa.ne nd0
                    have zd := m4.bs.wt.zero nd
                    refine q_for ?_
                    rw [u_list]
                    walk_at "s"
                    refine ⟨⟨_, asL_seq (asL_at (t5 _ _ h4))⟩, ?_⟩
                    refine loop_list (xs := xs) (fun i σ H' => ∃ kvs vk vp, σ = [some (.ref st), some (.int ((j + 1 : Nat) : Int)), some (.int f), some (.ref pr), vk, some (.ref pd), vp] ∧ Mk st H ρ ω H' ρ1 ω1 ∧ H' pr = some (.lst xs) ∧ H' pd = some (.dK kvs) ∧ kvs.length ≤ i ∧ (∀ kv ∈ kvs, keyOk kv.1 ∧ Gd ρ1 ω1 (j + 1) kv.2 ∧ wv ω1 kv.2 ≤ wb j))
                      ⟨[], _, _, rfl, m5, t5 _ _ h4, h5, Nat.le_refl 0, fun x hx => by cases hx⟩ ?_ ?_ ?_
                    · rintro i σ H6 hi ⟨kvs, vk, vp, rfl, m6, h6, _⟩
                      exact asL_at h6
                    · rintro i x σ H6 hx ⟨kvs, vk, vp, rfl, m6, h6, d6, l6, g6⟩
                      walk_at "s"
                      unfold sDPut
                      walk_at "s"
                      refine ⟨st, 2, rfl, m6.bs.sa, by decide, fun z H7 oz k7 s7 => ?_⟩
                      have d7 := k7.1 _ _ npd d6
                      have p := putK_all (P := fun k w => keyOk k ∧ Gd ρ1 ω1 (j + 1) w ∧ wv ω1 w ≤ wb j) (k := .inr z) (v := x) g6 ⟨oz, g4 x (List.mem_of_getElem? hx)⟩
                      have hi := (List.getElem?_eq_some_iff.mp hx).1
                      refine ⟨_, .inl ⟨kvs, .inr z, d7, rfl, by show _ < 2 ^ 24; omega, rfl⟩, (m6.kpp k7 s7).put b nd0 zd, ?_, putK kvs (.inr z) x, by simp only [upd_same], by have := p.2; omega, p.1⟩
                      rw [upd_ne (ne_of_none h4 nd)]
                      exact k7.1 _ _ npr h6
                    · rintro σ H6 ⟨kvs, vk, vp, rfl, m6, h6, d6, l6, g6⟩
                      walk_at "s"
                      have skv : sw ω1 (kvs.map (·.2)) ≤ 3 * wb j := Nat.le_trans (sw_le (w := wb j) fun x hx => by
                        obtain ⟨kv, hk, rfl⟩ := List.mem_map.mp hx
                        exact (g6 kv hk).2.2) (by rw [List.length_map]; exact Nat.mul_le_mul_right _ (by omega))
                      have := slk_le (kvs := kvs)
                      exact q _ _ H6 _ (m6.addD (a := j + 1) (b := 3 * wb j + 6) nd0 zd npd d6 (fun kv hk => ⟨(g6 kv hk).1, (g6 kv hk).2.1⟩) (by omega)) (gd_new (by omega) (by omega)) (by rw [wv_new]; simp only [wb]; omega)
end XB

/-! Any values, and rights. -/
namespace XB
open PySem L2
local macro_rules | `(tactic| walk_at "s") => `(tactic| try simp only [u_var, u_c, u_op, u_un, u_nil, u_cons, u_cb, u_call, u_callS, u_tup, u_lst, u_test, u_B, u_and, u_or, u_not, u_andV, u_orV, u_notV, u_ifE, u_chain, u_sl, u_noPart, u_part, u_bm, u_bm0, u_rev, u_lc, u_try, u_sui, u_sui0, u_unb_rt, u_unb_nx, u_xf, u_WE, w_nil, w_cons, u_raise, u_rng1, u_rng2, u_next, u_ret, u_gname, u_gnil, u_gcons, u_gsub, u_gtup,
  f_add, f_addS, f_addR, f_sub, f_mul, f_mulR, f_mod, f_div, f_pow, f_neg, f_cmp, f_eq, f_eqB, f_eqS, f_ne, f_neB, f_neS, f_isN, f_notN, f_isB, f_ix, f_ixS, f_int, f_intB, f_len, f_lenS, f_max, f_min, f_abs, f_list, f_tuple, f_all, f_sum, f_isi, f_isiT, f_append, f_insert, f_pop, f_sl, f_set,
  kitS, tys, List.isEmpty_cons, Option.map_some, kt_NoneType_int, kt_NoneType_bool, kt_NoneType_str, kt_NoneType_list, kt_NoneType_tuple, kt_NoneType_dict, kt_int_int, kt_int_bool, kt_int_str, kt_int_list, kt_int_tuple, kt_int_dict, kt_bool_int, kt_bool_bool, kt_bool_str, kt_bool_list, kt_bool_tuple, kt_bool_dict, kt_str_int, kt_str_bool, kt_str_str, kt_str_list, kt_str_tuple, kt_str_dict, kt_list_int, kt_list_bool, kt_list_str, kt_list_list, kt_list_tuple, kt_list_dict, kt_tuple_int, kt_tuple_bool, kt_tuple_str, kt_tuple_list, kt_tuple_tuple, kt_tuple_dict, kt_dict_int, kt_dict_bool, kt_dict_str, kt_dict_list, kt_dict_tuple, kt_dict_dict, asL_lst, asL_frz, asL_tup, asT_tup, asS_lst, asS_frz, asS_tup, tyN_non, tyN_bl, tyN_int, tyN_str, atV_lit, ixN_lit, upd_same, upd_ne, upd_ne',
  List.getElem?_cons_zero, List.getElem?_cons_succ, List.set_cons_zero, List.set_cons_succ, List.append_nil, List.length_cons, List.length_nil, Option.some.injEq, exists_eq_left', exists_eq_left, exists_and_left, V.bl.injEq, V.int.injEq, V.str.injEq, V.ref.injEq, Bool.not_eq_true, Bool.not_true, Bool.not_false, decide_true, decide_false, decide_eq_true_eq, decide_eq_false_iff_not, Bool.false_eq_true, if_true, if_false, ite_true, ite_false, reduceCtorEq, true_and, and_true, Nat.reduceAdd, Nat.reduceLT, Nat.zero_add, ne_eq, not_false_eq_true, not_true_eq_false, List.cons.injEq, and_assoc])
local macro_rules | `(tactic| walk_at "S") => `(tactic| try simp only [u_var, u_c, u_op, u_un, u_nil, u_cons, u_cb, u_call, u_callS, u_tup, u_lst, u_test, u_B, u_and, u_or, u_not, u_andV, u_orV, u_notV, u_ifE, u_chain, u_sl, u_noPart, u_part, u_bm, u_bm0, u_rev, u_lc, u_try, u_sui, u_sui0, u_unb_rt, u_unb_nx, u_xf, u_WE, w_nil, w_cons, u_raise, u_rng1, u_rng2, u_next, u_ret, u_gname, u_gnil, u_gcons, u_gsub, u_gtup,
  f_add, f_addS, f_addR, f_sub, f_mul, f_mulR, f_mod, f_div, f_pow, f_neg, f_cmp, f_eq, f_eqB, f_eqS, f_ne, f_neB, f_neS, f_isN, f_notN, f_isB, f_ix, f_ixS, f_int, f_intB, f_len, f_lenS, f_max, f_min, f_abs, f_list, f_tuple, f_all, f_sum, f_isi, f_isiT, f_append, f_insert, f_pop, f_sl, f_set,
  kitS, tys, List.isEmpty_cons, Option.map_some, kt_NoneType_int, kt_NoneType_bool, kt_NoneType_str, kt_NoneType_list, kt_NoneType_tuple, kt_NoneType_dict, kt_int_int, kt_int_bool, kt_int_str, kt_int_list, kt_int_tuple, kt_int_dict, kt_bool_int, kt_bool_bool, kt_bool_str, kt_bool_list, kt_bool_tuple, kt_bool_dict, kt_str_int, kt_str_bool, kt_str_str, kt_str_list, kt_str_tuple, kt_str_dict, kt_list_int, kt_list_bool, kt_list_str, kt_list_list, kt_list_tuple, kt_list_dict, kt_tuple_int, kt_tuple_bool, kt_tuple_str, kt_tuple_list, kt_tuple_tuple, kt_tuple_dict, kt_dict_int, kt_dict_bool, kt_dict_str, kt_dict_list, kt_dict_tuple, kt_dict_dict, asL_lst, asL_frz, asL_tup, asT_tup, asS_lst, asS_frz, asS_tup, tyN_non, tyN_bl, tyN_int, tyN_str, atV_lit, ixN_lit, upd_same, upd_ne, upd_ne',
  List.getElem?_cons_zero, List.getElem?_cons_succ, List.set_cons_zero, List.set_cons_succ, List.append_nil, List.length_cons, List.length_nil, Option.some.injEq, exists_eq_left', exists_eq_left, exists_and_left, V.bl.injEq, V.int.injEq, V.str.injEq, V.ref.injEq, Bool.not_eq_true, Bool.not_true, Bool.not_false, decide_true, decide_false, decide_eq_true_eq, decide_eq_false_iff_not, Bool.false_eq_true, if_true, if_false, ite_true, ite_false, reduceCtorEq, true_and, and_true, Nat.reduceAdd, Nat.reduceLT, Nat.zero_add, ne_eq, not_false_eq_true, not_true_eq_false, List.cons.injEq, and_assoc, *])
theorem sw_one {ω : Addr → Nat} {v : V} : sw ω [v] = wv ω v := by simp [sw]
theorem gd_one {ρ ω : Addr → Nat} {n : Nat} {v : V} (h : Gd ρ ω n v) : ∀ x ∈ [v], Gd ρ ω n x := fun x hx => by
  rw [List.mem_singleton] at hx
  rw [hx]
  exact h
def sp_l_any (K : PySem.W.Frag) (C : CA) : Sp := fun vs H Q _ => ∃ st ρ ω, vs = [.ref st] ∧ Bs st ρ ω H ∧ Makes st ρ ω H 12 520 Q
def rd_l_any (K : PySem.W.Frag) (C : CA) (E : XK) : TS :=
  (tSeq (tAsg (tCallS (sp_l_value K C) (fun _ => E0) (tCons (tVar 0) (tCons (tC (.int 4)) tNil))) (gName 1)) (tSeq (tFor (iRng1 (tCons (tCallS (sp_l_take K C) (fun _ => E0) (tCons (tVar 0) (tCons (tC (.int 6)) tNil))) tNil)) (gName 2) (tIfS (tTest (tOp (fEq K) (tCallS (sp_l_take K C) (fun _ => E0) (tCons (tVar 0) (tCons (tC (.int 2)) tNil))) (tC (.int 0)))) (tAsg (tLst (tCons (tVar 1) tNil)) (gName 1)) (tAsg (tTup (tCons (tVar 1) tNil)) (gName 1)))) (tRet (tVar 1))))
theorem pure_l_any {K : PySem.W.Frag} {C : CA} (vs : List V) (H : Hp) (Q : VK) (E : XK) (h : sp_l_any K C vs H Q E) : rd_l_any K C E { nx := fun _ H' => Q .non H', rt := Q } (start [("store" : Str), ("value" : Str), ("k" : Str)] vs) H := by
  obtain ⟨st, ρ, ω, rfl, b, q⟩ := h
  show rd_l_any K C E _ [some (.ref st), none, none] H
  unfold rd_l_any
  refine q_asg ?_
  walk_at "s"
  refine ⟨st, ρ, ω, rfl, by decide, b, fun ρ1 ω1 H1 v m1 g1 w1 => ?_⟩
  have w1 : wv ω1 v ≤ 483 := w1
  walk_at "s"
  refine q_for ?_
  walk_at "s"
  refine take_ok m1.bs.sa (by decide) fun m H2 m0 m1' k2 s2 => ?_
  walk_at "s"
  refine ⟨by omega, by omega, ?_⟩
  refine loop_range (fun i σ H' => ∃ ρ1 ω1 v vk, σ = [some (.ref st), some v, vk] ∧ Mk st H ρ ω H' ρ1 ω1 ∧ Gd ρ1 ω1 (5 + i) v ∧ wv ω1 v ≤ 483 + 3 * i) ⟨ρ1, ω1, v, none, rfl, m1.kpp k2 s2, g1, by omega⟩ ?_ ?_
  · rintro i σ H3 hi ⟨ρ2, ω2, v2, vk, rfl, m2, g2, w2⟩
    walk_at "s"
    refine q_if1 ?_
    walk_at "s"
    refine take_ok m2.bs.sa (by decide) fun r H4 r0 r1 k4 s4 => ?_
    have m4 := m2.kpp k4 s4
    walk_at "s"
    refine ite2 (fun c => ?_) fun c => ?_
    · refine q_asg1 ?_
      walk_at "s"
      refine ⟨by decide, fun pa na => al na fun H5 t5 h5 => ?_⟩
      have m5 := m4.newL (a := 5 + i) (b := wv ω2 v2 + 2) na t5 h5 (gd_one g2) (by rw [sw_one]; show _ + (2 - 1) < _; omega)
      exact ⟨_, _, m5, gd_new (by omega) (by omega), by rw [wv_new]; omega⟩
    · refine q_asg1 ?_
      walk_at "s"
      refine ⟨by decide, fun pa na => al na fun H5 t5 h5 => ?_⟩
      have m5 := m4.newT (a := 5 + i) (b := wv ω2 v2 + 2) na t5 h5 (gd_one g2) (by rw [sw_one]; omega)
      exact ⟨_, _, m5, gd_new (by omega) (by omega), by rw [wv_new]; omega⟩
  · rintro σ H3 ⟨ρ2, ω2, v2, vk, rfl, m2, g2, w2⟩
    walk_at "s"
    exact q _ _ _ _ m2 (g2.mono (by omega)) (by omega)
end XB

/-! A plain value bent. -/
namespace XB
open PySem L2
local macro_rules | `(tactic| walk_at "s") => `(tactic| try simp only [u_var, u_c, u_op, u_un, u_nil, u_cons, u_cb, u_call, u_callS, u_tup, u_lst, u_test, u_B, u_and, u_or, u_not, u_andV, u_orV, u_notV, u_ifE, u_chain, u_sl, u_noPart, u_part, u_bm, u_bm0, u_rev, u_lc, u_try, u_sui, u_sui0, u_unb_rt, u_unb_nx, u_xf, u_WE, w_nil, w_cons, u_raise, u_rng1, u_rng2, u_next, u_ret, u_gname, u_gnil, u_gcons, u_gsub, u_gtup,
  f_add, f_addS, f_addR, f_sub, f_mul, f_mulR, f_mod, f_div, f_pow, f_neg, f_cmp, f_eq, f_eqB, f_eqS, f_ne, f_neB, f_neS, f_isN, f_notN, f_isB, f_ix, f_ixS, f_int, f_intB, f_len, f_lenS, f_max, f_min, f_abs, f_list, f_tuple, f_all, f_sum, f_isi, f_isiT, f_append, f_insert, f_pop, f_sl, f_set,
  kitS, tys, List.isEmpty_cons, Option.map_some, kt_NoneType_int, kt_NoneType_bool, kt_NoneType_str, kt_NoneType_list, kt_NoneType_tuple, kt_NoneType_dict, kt_int_int, kt_int_bool, kt_int_str, kt_int_list, kt_int_tuple, kt_int_dict, kt_bool_int, kt_bool_bool, kt_bool_str, kt_bool_list, kt_bool_tuple, kt_bool_dict, kt_str_int, kt_str_bool, kt_str_str, kt_str_list, kt_str_tuple, kt_str_dict, kt_list_int, kt_list_bool, kt_list_str, kt_list_list, kt_list_tuple, kt_list_dict, kt_tuple_int, kt_tuple_bool, kt_tuple_str, kt_tuple_list, kt_tuple_tuple, kt_tuple_dict, kt_dict_int, kt_dict_bool, kt_dict_str, kt_dict_list, kt_dict_tuple, kt_dict_dict, asL_lst, asL_frz, asL_tup, asT_tup, asS_lst, asS_frz, asS_tup, tyN_non, tyN_bl, tyN_int, tyN_str, atV_lit, ixN_lit, upd_same, upd_ne, upd_ne',
  List.getElem?_cons_zero, List.getElem?_cons_succ, List.set_cons_zero, List.set_cons_succ, List.append_nil, List.length_cons, List.length_nil, Option.some.injEq, exists_eq_left', exists_eq_left, exists_and_left, V.bl.injEq, V.int.injEq, V.str.injEq, V.ref.injEq, Bool.not_eq_true, Bool.not_true, Bool.not_false, decide_true, decide_false, decide_eq_true_eq, decide_eq_false_iff_not, Bool.false_eq_true, if_true, if_false, ite_true, ite_false, reduceCtorEq, true_and, and_true, Nat.reduceAdd, Nat.reduceLT, Nat.zero_add, ne_eq, not_false_eq_true, not_true_eq_false, List.cons.injEq, and_assoc])
local macro_rules | `(tactic| walk_at "S") => `(tactic| try simp only [u_var, u_c, u_op, u_un, u_nil, u_cons, u_cb, u_call, u_callS, u_tup, u_lst, u_test, u_B, u_and, u_or, u_not, u_andV, u_orV, u_notV, u_ifE, u_chain, u_sl, u_noPart, u_part, u_bm, u_bm0, u_rev, u_lc, u_try, u_sui, u_sui0, u_unb_rt, u_unb_nx, u_xf, u_WE, w_nil, w_cons, u_raise, u_rng1, u_rng2, u_next, u_ret, u_gname, u_gnil, u_gcons, u_gsub, u_gtup,
  f_add, f_addS, f_addR, f_sub, f_mul, f_mulR, f_mod, f_div, f_pow, f_neg, f_cmp, f_eq, f_eqB, f_eqS, f_ne, f_neB, f_neS, f_isN, f_notN, f_isB, f_ix, f_ixS, f_int, f_intB, f_len, f_lenS, f_max, f_min, f_abs, f_list, f_tuple, f_all, f_sum, f_isi, f_isiT, f_append, f_insert, f_pop, f_sl, f_set,
  kitS, tys, List.isEmpty_cons, Option.map_some, kt_NoneType_int, kt_NoneType_bool, kt_NoneType_str, kt_NoneType_list, kt_NoneType_tuple, kt_NoneType_dict, kt_int_int, kt_int_bool, kt_int_str, kt_int_list, kt_int_tuple, kt_int_dict, kt_bool_int, kt_bool_bool, kt_bool_str, kt_bool_list, kt_bool_tuple, kt_bool_dict, kt_str_int, kt_str_bool, kt_str_str, kt_str_list, kt_str_tuple, kt_str_dict, kt_list_int, kt_list_bool, kt_list_str, kt_list_list, kt_list_tuple, kt_list_dict, kt_tuple_int, kt_tuple_bool, kt_tuple_str, kt_tuple_list, kt_tuple_tuple, kt_tuple_dict, kt_dict_int, kt_dict_bool, kt_dict_str, kt_dict_list, kt_dict_tuple, kt_dict_dict, asL_lst, asL_frz, asL_tup, asT_tup, asS_lst, asS_frz, asS_tup, tyN_non, tyN_bl, tyN_int, tyN_str, atV_lit, ixN_lit, upd_same, upd_ne, upd_ne',
  List.getElem?_cons_zero, List.getElem?_cons_succ, List.set_cons_zero, List.set_cons_succ, List.append_nil, List.length_cons, List.length_nil, Option.some.injEq, exists_eq_left', exists_eq_left, exists_and_left, V.bl.injEq, V.int.injEq, V.str.injEq, V.ref.injEq, Bool.not_eq_true, Bool.not_true, Bool.not_false, decide_true, decide_false, decide_eq_true_eq, decide_eq_false_iff_not, Bool.false_eq_true, if_true, if_false, ite_true, ite_false, reduceCtorEq, true_and, and_true, Nat.reduceAdd, Nat.reduceLT, Nat.zero_add, ne_eq, not_false_eq_true, not_true_eq_false, List.cons.injEq, and_assoc, *])
/-- a plain value that may still grow -/
def FlS (v : V) : Prop := v = .non ∨ (∃ b, v = .bl b) ∨ (∃ i : Int, v = .int i ∧ i.natAbs < 10 ^ 31) ∨ ∃ z : Str, v = .str z ∧ z.length ≤ 40 ∧ asciiZ z
theorem FlS.fl {v : V} (h : FlS v) : Fl v := by
  rcases h with h | h | ⟨i, e, l⟩ | ⟨z, e, l, a⟩
  · exact .inl h
  · exact .inr (.inl h)
  · exact .inr (.inr (.inl ⟨i, e, by omega⟩))
  · exact .inr (.inr (.inr ⟨z, e, by omega, a⟩))
section
variable {st : Addr} {ρ ω ρ1 ω1 : Addr → Nat} {H H' H1 H2 : Hp} {n b : Nat} {Q : VK}
theorem Makes.fl (q : Makes st ρ ω H n b Q) (hb : 1 ≤ b) (B : Bs st ρ ω H) (k : Kp st H H') (s : StAt H' st) {v : V} (g : Fl v) : Q v H' := q ρ ω H' v (B.mk'.kpp k s) (.inl g) (by rw [fl_wv g]; exact hb)
theorem Makes.from (q : Makes st ρ ω H n b Q) (m : Mk st H ρ ω H1 ρ1 ω1) : Makes st ρ1 ω1 H1 n b Q := fun ρ2 ω2 H2 v m2 g w => q ρ2 ω2 H2 v (m.trans m2) g w
theorem Makes.i (q : Makes st ρ ω H n b Q) (hb : 1 ≤ b) (B : Bs st ρ ω H) (k : Kp st H H') (s : StAt H' st) {i : Int} (g : i.natAbs < 10 ^ 40) : Q (.int i) H' := q.fl hb B k s (.inr (.inr (.inl ⟨i, rfl, g⟩)))
theorem Makes.s (q : Makes st ρ ω H n b Q) (hb : 1 ≤ b) (B : Bs st ρ ω H) (k : Kp st H H') (s : StAt H' st) {z : Str} (g : okZ z) : Q (.str z) H' := q.fl hb B k s (.inr (.inr (.inr ⟨z, rfl, g⟩)))
theorem Makes.bo (q : Makes st ρ ω H n b Q) (hb : 1 ≤ b) (B : Bs st ρ ω H) (k : Kp st H H') (s : StAt H' st) {x : Bool} : Q (.bl x) H' := q.fl hb B k s (.inr (.inl ⟨x, rfl⟩))
theorem Makes.no (q : Makes st ρ ω H n b Q) (hb : 1 ≤ b) (B : Bs st ρ ω H) (k : Kp st H H') (s : StAt H' st) : Q .non H' := q.fl hb B k s (.inl rfl)
end
def sp_l_bent_leaf (K : PySem.W.Frag) (C : CA) : Sp := fun vs H Q _ => ∃ st ρ ω v, vs = [.ref st, v] ∧ Bs st ρ ω H ∧ FlS v ∧ Makes st ρ ω H 1 5 Q
def rd_l_bent_leaf (K : PySem.W.Frag) (C : CA) (E : XK) : TS :=
  (tSeq (tAsg (tCallS (sp_l_take K C) (fun _ => E0) (tCons (tVar 0) (tCons (tC (.int 9)) tNil))) (gName 2)) (tSeq (tIfS (tTest (tOp fLt (tVar 2) (tC (.int 2)))) (tRet (tOp fIx (tLst (tCons (tLst (tCons (tVar 1) tNil)) (tCons (tTup (tCons (tVar 1) tNil)) tNil))) (tVar 2))) tNext) (tSeq (tIfS (tTest (tOp fIsN (tVar 1) (tC .non))) (tRet (tOp fIx (tLst (tCons (tC (.int 0)) (tCons (tC (.str ("" : Str))) (tCons (tC (.str ("-" : Str))) (tCons (tC (.bl false)) tNil))))) (tCallS (sp_l_take K C) (fun _ => E0) (tCons (tVar 0) (tCons (tC (.int 4)) tNil))))) tNext) (tSeq (tIfS (tOr (tTest (tOp (fEq K) (tVar 2) (tC (.int 2)))) (tNot (tB (tCB fIsiT (tCons (tVar 1) (tCons (tTup (tCons (tC (.ty "int")) (tCons (tC (.ty "str")) tNil))) tNil)))))) (tRet (tC .non)) tNext) (tSeq (tIfS (tB (tCB fIsi (tCons (tVar 1) (tCons (tC (.ty "bool")) tNil)))) (tRet (tCB fInt (tCons (tVar 1) tNil))) tNext) (tSeq (tIfS (tAnd (tB (tCB fIsi (tCons (tVar 1) (tCons (tC (.ty "int")) tNil)))) (tTest (tOp fGt (tCB fAbs (tCons (tVar 1) tNil)) (tOp fPow (tC (.int 10)) (tC (.int 29)))))) (tRet (tOp fIx (tLst (tCons (tC (.int 0)) (tCons (tC (.int 7)) (tCons (tUn fNeg (tC (.int 1))) (tCons (tC (.bl false)) (tCons (tC (.str ("7" : Str))) (tCons (tC (.int 1)) tNil))))))) (tOp fSub (tVar 2) (tC (.int 3))))) tNext) (tSeq (tIfS (tB (tCB fIsi (tCons (tVar 1) (tCons (tC (.ty "int")) tNil)))) (tRet (tOp fIx (tLst (tCons (tOp fAdd (tVar 1) (tC (.int 1))) (tCons (tOp fSub (tVar 1) (tC (.int 1))) (tCons (tOp fSub (tOp fSub (tC (.int 0)) (tCB fAbs (tCons (tVar 1) tNil))) (tC (.int 1))) (tCons (tOp (fEq K) (tVar 1) (tC (.int 1))) (tCons (tCB fStrI (tCons (tVar 1) tNil)) (tCons (tOp fAdd (tVar 1) (tC (.int 7))) tNil))))))) (tOp fSub (tVar 2) (tC (.int 3))))) tNext) (tSeq (tIfS (tAnd (tTest (tOp (fEq K) (tVar 2) (tC (.int 3)))) (tTest (tOp fGt (tCB fLen (tCons (tVar 1) tNil)) (tC (.int 0))))) (tRet (tSl fSl2 (tVar 1) tNoPart (tPart (tUn fNeg (tC (.int 1)))))) tNext) (tRet (tOp fAdd (tVar 1) (tOp fIx (tC (.str ("a0A -\n" : Str))) (tOp fSub (tVar 2) (tC (.int 3))))))))))))))
theorem pure_l_bent_leaf {K : PySem.W.Frag} {C : CA} (vs : List V) (H : Hp) (Q : VK) (E : XK) (h : sp_l_bent_leaf K C vs H Q E) : rd_l_bent_leaf K C E { nx := fun _ H' => Q .non H', rt := Q } (start [("store" : Str), ("value" : Str), ("form" : Str)] vs) H := by
  obtain ⟨st, ρ, ω, v, rfl, B, r, q⟩ := h
  have hs := B.sa
  have b1 : 1 ≤ 5 := by decide
  show rd_l_bent_leaf K C E _ [some (.ref st), some v, none] H
  unfold rd_l_bent_leaf
  refine q_asg ?_
  walk_at "s"
  refine take_ok hs (by decide) fun f H1 f0 f1 k1 s1 => ?_
  refine q_if ?_
  walk_at "s"
  refine ite2 (fun c => ?_) fun c => ?_
  · refine ⟨by decide, fun pa na => al na fun H2 t2 h2 => ⟨by decide, fun pb nb => al nb fun H3 t3 h3 => ⟨by decide, fun pc nc => al nc fun H4 t4 h4 => ?_⟩⟩⟩
    have t24 := sm_trans t3 t4
    have t14 := sm_trans t2 t24
    have k4 := k1.trans (kp_sm t14)
    have s4 := s1.sm t14
    have m4 : Mk st H ρ ω H4 ρ ω := B.mk'.kpp k4 s4
    have gv : ∀ x ∈ [v], Gd ρ ω 0 x := gd_one (.inl r.fl)
    have wv1 : wv ω v = 1 := fl_wv r.fl
    have na0 : H pa = none := kp_none' k1 na s1
    have nb0 : H pb = none := kp_none' (k1.trans (kp_sm t2)) nb (s1.sm t2)
    obtain rfl | rfl : f = 0 ∨ f = 1 := by omega
    · walk_at "s"
      exact q _ _ H4 _ (m4.addL (a := 0) (b := 3) na0 (B.wt.zero na0) (s1.ne na) (t24 _ _ h2) gv (by rw [sw_one, wv1]; show 1 + (2 - 1) < 3; decide)) (gd_new (by decide) (by decide)) (by rw [wv_new]; decide)
    · walk_at "s"
      exact q _ _ H4 _ (m4.addT (a := 0) (b := 3) nb0 (B.wt.zero nb0) ((s1.sm t2).ne nb) (t4 _ _ h3) gv (by rw [sw_one, wv1]; decide)) (gd_new (by decide) (by decide)) (by rw [wv_new]; decide)
  · refine q_if ?_
    rcases r with rfl | ⟨b, rfl⟩ | ⟨i, rfl, li⟩ | ⟨z, rfl, lz, az⟩
    · walk_at "s"
      refine ⟨by decide, fun pa na => al na fun H2 t2 h2 => ?_⟩
      refine take_ok (s1.sm t2) (by decide) fun g H3 g0 g1 k3 s3 => ?_
      have k := k1.trans ((kp_sm t2).trans k3)
      walk_at "s"
      rw [k3.1 _ _ (s1.ne na) h2]
      walk_at "s"
      obtain rfl | rfl | rfl | rfl : g = 0 ∨ g = 1 ∨ g = 2 ∨ g = 3 := by omega
      · walk_at "s"; exact q.i b1 B k s3 (by decide)
      · walk_at "s"; exact q.s b1 B k s3 ⟨by decide, by unfold asciiZ; decide +kernel⟩
      · walk_at "s"; exact q.s b1 B k s3 ⟨by decide, by unfold asciiZ; decide +kernel⟩
      · walk_at "s"; exact q.bo b1 B k s3
    · walk_at "s"
      refine q_if ?_
      walk_at "s"
      refine ite2 (fun c2 => q.no b1 B k1 s1) fun c2 => ?_
      refine ⟨by decide, fun pa na => al na fun H2 t2 h2 => ?_⟩
      try simp only [h2]
      walk_at "s"
      refine q_if ?_
      walk_at "s"
      exact q.i b1 B (k1.trans (kp_sm t2)) (s1.sm t2) (by cases b <;> decide)
    · walk_at "s"
      refine q_if ?_
      walk_at "s"
      refine ite2 (fun c2 => q.no b1 B k1 s1) fun c2 => ?_
      refine ⟨by decide, fun pa na => al na fun H2 t2 h2 => ?_⟩
      try simp only [h2]
      walk_at "s"
      have k2 := k1.trans (kp_sm t2)
      have s2 := s1.sm t2
      refine q_if ?_
      walk_at "s"
      refine q_if ?_
      walk_at "s"
      refine ⟨⟨by decide, by decide, by decide⟩, ?_⟩
      refine ite2 (fun c3 => ?_) fun c3 => ?_
      · refine ⟨by decide, fun pb nb => al nb fun H3 t3 h3 => ?_⟩
        have k3 := k2.trans (kp_sm t3)
        have s3 := s2.sm t3
        walk_at "s"
        try rw [h3]
        walk_at "s"
        obtain rfl | rfl | rfl | rfl | rfl | rfl : f = 3 ∨ f = 4 ∨ f = 5 ∨ f = 6 ∨ f = 7 ∨ f = 8 := by omega
        · walk_at "s"; exact q.i b1 B k3 s3 (by omega)
        · walk_at "s"; exact q.i b1 B k3 s3 (by omega)
        · walk_at "s"; exact q.i b1 B k3 s3 (by omega)
        · walk_at "s"; exact q.bo b1 B k3 s3
        · walk_at "s"; exact q.s b1 B k3 s3 ⟨by decide, by unfold asciiZ; decide +kernel⟩
        · walk_at "s"; exact q.i b1 B k3 s3 (by omega)
      · refine q_if ?_
        walk_at "s"
        have e29 : (10 : Int) ^ (29 : Int).toNat = 100000000000000000000000000000 := by decide
        rw [e29] at c3
        have la : i.natAbs ≤ 100000000000000000000000000000 := by
          by_cases c5 : i < 0
          · rw [if_pos c5] at c3; omega
          · rw [if_neg c5] at c3; omega
        have lg : i.natAbs.log2 < 1920 := by
          have h1 : i.natAbs < 2 ^ 100 := Nat.lt_of_le_of_lt la (by decide)
          by_cases h0 : i.natAbs = 0
          · rw [h0]; decide
          · have := (Nat.log2_lt (n := i.natAbs) (k := 100) h0).mpr h1
            omega
        have ls := str_int_len (i := i) (by omega)
        refine ⟨lg, by decide, fun pb nb => al nb fun H3 t3 h3 => ?_⟩
        have k3 := k2.trans (kp_sm t3)
        have s3 := s2.sm t3
        walk_at "s"
        try rw [h3]
        walk_at "s"
        obtain rfl | rfl | rfl | rfl | rfl | rfl : f = 3 ∨ f = 4 ∨ f = 5 ∨ f = 6 ∨ f = 7 ∨ f = 8 := by omega
        · walk_at "s"; exact q.i b1 B k3 s3 (by omega)
        · walk_at "s"; exact q.i b1 B k3 s3 (by omega)
        · walk_at "s"; exact q.i b1 B k3 s3 (by omega)
        · walk_at "s"; exact q.bo b1 B k3 s3
        · walk_at "s"; exact q.s b1 B k3 s3 ⟨by omega, str_int_ascii⟩
        · walk_at "s"; exact q.i b1 B k3 s3 (by omega)
    · walk_at "s"
      refine q_if ?_
      walk_at "s"
      refine ite2 (fun c2 => q.no b1 B k1 s1) fun c2 => ?_
      refine ⟨by decide, fun pa na => al na fun H2 t2 h2 => ?_⟩
      try simp only [h2]
      walk_at "s"
      have k2 := k1.trans (kp_sm t2)
      have s2 := s1.sm t2
      refine q_if ?_
      walk_at "s"
      refine q_if ?_
      walk_at "s"
      refine q_if ?_
      walk_at "s"
      refine q_if ?_
      walk_at "s"
      have e6 : (Str.ofString "a0A -\n").cps.size = 6 := by decide +kernel
      have plus : ∃ c, atI (Str.ofString "a0A -\n").cps.toList (f - 3) = some c ∧ (z.length + (⟨#[c]⟩ : Str).length ≤ 2 ^ 24 ∧ Q (.str (z ++ ⟨#[c]⟩)) H2) :=
        txt_atM (by omega) (by omega) (fun ch _ hc => ⟨by rw [str_len1]; omega, q.s b1 B k2 s2 ⟨by rw [str_len_add, str_len1]; omega, app_ascii az (ascii1 hc)⟩⟩) (by unfold asciiZ; decide +kernel)
      refine ite2 (fun c3 => ⟨by show _ ≤ 2 ^ 24; omega, ite2 (fun c4 => ?_) fun c4 => ?_⟩) fun c3 => ?_
      · simp only [f_slS]
        refine ⟨by show _ ≤ 2 ^ 24; omega, q.s b1 B k2 s2 ⟨?_, slice_ascii az⟩⟩
        have := PyProof.Txt.length_slice_le z none (some (-1))
        omega
      · walk_at "s"
        exact ⟨by decide +kernel, plus⟩
      · walk_at "s"
        exact ⟨by decide +kernel, plus⟩
end XB

/-! Rows bent. -/
namespace XB
open PySem L2
local macro_rules | `(tactic| walk_at "s") => `(tactic| try simp only [u_var, u_c, u_op, u_un, u_nil, u_cons, u_cb, u_call, u_callS, u_tup, u_lst, u_test, u_B, u_and, u_or, u_not, u_andV, u_orV, u_notV, u_ifE, u_chain, u_sl, u_noPart, u_part, u_bm, u_bm0, u_rev, u_lc, u_try, u_sui, u_sui0, u_unb_rt, u_unb_nx, u_xf, u_WE, w_nil, w_cons, u_raise, u_rng1, u_rng2, u_next, u_ret, u_gname, u_gnil, u_gcons, u_gsub, u_gtup,
  f_add, f_addS, f_addR, f_sub, f_mul, f_mulR, f_mod, f_div, f_pow, f_neg, f_cmp, f_eq, f_eqB, f_eqS, f_ne, f_neB, f_neS, f_isN, f_notN, f_isB, f_ix, f_ixS, f_int, f_intB, f_len, f_lenS, f_max, f_min, f_abs, f_list, f_tuple, f_all, f_sum, f_isi, f_isiT, f_append, f_insert, f_pop, f_sl, f_set,
  kitS, tys, List.isEmpty_cons, Option.map_some, kt_NoneType_int, kt_NoneType_bool, kt_NoneType_str, kt_NoneType_list, kt_NoneType_tuple, kt_NoneType_dict, kt_int_int, kt_int_bool, kt_int_str, kt_int_list, kt_int_tuple, kt_int_dict, kt_bool_int, kt_bool_bool, kt_bool_str, kt_bool_list, kt_bool_tuple, kt_bool_dict, kt_str_int, kt_str_bool, kt_str_str, kt_str_list, kt_str_tuple, kt_str_dict, kt_list_int, kt_list_bool, kt_list_str, kt_list_list, kt_list_tuple, kt_list_dict, kt_tuple_int, kt_tuple_bool, kt_tuple_str, kt_tuple_list, kt_tuple_tuple, kt_tuple_dict, kt_dict_int, kt_dict_bool, kt_dict_str, kt_dict_list, kt_dict_tuple, kt_dict_dict, asL_lst, asL_frz, asL_tup, asT_tup, asS_lst, asS_frz, asS_tup, tyN_non, tyN_bl, tyN_int, tyN_str, atV_lit, ixN_lit, upd_same, upd_ne, upd_ne',
  List.getElem?_cons_zero, List.getElem?_cons_succ, List.set_cons_zero, List.set_cons_succ, List.append_nil, List.length_cons, List.length_nil, Option.some.injEq, exists_eq_left', exists_eq_left, exists_and_left, V.bl.injEq, V.int.injEq, V.str.injEq, V.ref.injEq, Bool.not_eq_true, Bool.not_true, Bool.not_false, decide_true, decide_false, decide_eq_true_eq, decide_eq_false_iff_not, Bool.false_eq_true, if_true, if_false, ite_true, ite_false, reduceCtorEq, true_and, and_true, Nat.reduceAdd, Nat.reduceLT, Nat.zero_add, ne_eq, not_false_eq_true, not_true_eq_false, List.cons.injEq, and_assoc])
local macro_rules | `(tactic| walk_at "S") => `(tactic| try simp only [u_var, u_c, u_op, u_un, u_nil, u_cons, u_cb, u_call, u_callS, u_tup, u_lst, u_test, u_B, u_and, u_or, u_not, u_andV, u_orV, u_notV, u_ifE, u_chain, u_sl, u_noPart, u_part, u_bm, u_bm0, u_rev, u_lc, u_try, u_sui, u_sui0, u_unb_rt, u_unb_nx, u_xf, u_WE, w_nil, w_cons, u_raise, u_rng1, u_rng2, u_next, u_ret, u_gname, u_gnil, u_gcons, u_gsub, u_gtup,
  f_add, f_addS, f_addR, f_sub, f_mul, f_mulR, f_mod, f_div, f_pow, f_neg, f_cmp, f_eq, f_eqB, f_eqS, f_ne, f_neB, f_neS, f_isN, f_notN, f_isB, f_ix, f_ixS, f_int, f_intB, f_len, f_lenS, f_max, f_min, f_abs, f_list, f_tuple, f_all, f_sum, f_isi, f_isiT, f_append, f_insert, f_pop, f_sl, f_set,
  kitS, tys, List.isEmpty_cons, Option.map_some, kt_NoneType_int, kt_NoneType_bool, kt_NoneType_str, kt_NoneType_list, kt_NoneType_tuple, kt_NoneType_dict, kt_int_int, kt_int_bool, kt_int_str, kt_int_list, kt_int_tuple, kt_int_dict, kt_bool_int, kt_bool_bool, kt_bool_str, kt_bool_list, kt_bool_tuple, kt_bool_dict, kt_str_int, kt_str_bool, kt_str_str, kt_str_list, kt_str_tuple, kt_str_dict, kt_list_int, kt_list_bool, kt_list_str, kt_list_list, kt_list_tuple, kt_list_dict, kt_tuple_int, kt_tuple_bool, kt_tuple_str, kt_tuple_list, kt_tuple_tuple, kt_tuple_dict, kt_dict_int, kt_dict_bool, kt_dict_str, kt_dict_list, kt_dict_tuple, kt_dict_dict, asL_lst, asL_frz, asL_tup, asT_tup, asS_lst, asS_frz, asS_tup, tyN_non, tyN_bl, tyN_int, tyN_str, atV_lit, ixN_lit, upd_same, upd_ne, upd_ne',
  List.getElem?_cons_zero, List.getElem?_cons_succ, List.set_cons_zero, List.set_cons_succ, List.append_nil, List.length_cons, List.length_nil, Option.some.injEq, exists_eq_left', exists_eq_left, exists_and_left, V.bl.injEq, V.int.injEq, V.str.injEq, V.ref.injEq, Bool.not_eq_true, Bool.not_true, Bool.not_false, decide_true, decide_false, decide_eq_true_eq, decide_eq_false_iff_not, Bool.false_eq_true, if_true, if_false, ite_true, ite_false, reduceCtorEq, true_and, and_true, Nat.reduceAdd, Nat.reduceLT, Nat.zero_add, ne_eq, not_false_eq_true, not_true_eq_false, List.cons.injEq, and_assoc, *])
theorem seq_ty {H : Hp} {p : Addr} {xs : List V} (h : asL (H p) = some xs ∨ asT (H p) = some xs) : asS (H p) = some xs ∧ (tyN (.ref p) H = some "list" ∨ tyN (.ref p) H = some "tuple") := by
  rcases h with h | h
  · exact ⟨asS_of_L h, .inl (lst_ty h)⟩
  · exact ⟨asS_of_T h, .inr (tup_ty h)⟩
theorem seq_kp {st : Addr} {H H' : Hp} {p : Addr} {xs : List V} (k : Kp st H H') (np : p ≠ st) (h : asL (H p) = some xs ∨ asT (H p) = some xs) : asL (H' p) = some xs ∨ asT (H' p) = some xs := by
  cases e : H p with
  | none => rw [e] at h; rcases h with h | h <;> cases h
  | some o => rw [k.1 p o np e, ← e]; exact h
theorem sw_take {ω : Addr → Nat} {xs : List V} (i : Nat) : sw ω (xs.take i) + sw ω (xs.drop i) = sw ω xs := by
  rw [← sw_app, List.take_append_drop]
theorem sw_drop1 {ω : Addr → Nat} {xs : List V} (i : Nat) : sw ω (xs.drop (i + 1)) ≤ sw ω (xs.drop i) := by
  have h := sw_take (ω := ω) (xs := xs.drop i) 1
  rw [List.drop_drop] at h
  omega
/-- where a row stands while it is bent: the row, not yet among the values -/
def RowW (st : Addr) (H : Hp) (ρ ω : Addr → Nat) (k W : Nat) (p : Addr) (σ : L2.St) (H' : Hp) : Prop :=
  ∃ (pr : Addr) (ys : List V) (ρ1 ω1 : Addr → Nat) (w1 w2 : Option V), σ = [some (.ref st), some (.ref p), some (.ref pr), w1, w2] ∧ Mk st H ρ ω H' ρ1 ω1 ∧ H pr = none ∧ ω1 pr = 0 ∧ H' pr = some (.lst ys) ∧ (∀ x ∈ ys, Gd ρ1 ω1 (k + 1) x) ∧ sw ω1 ys ≤ 2 * W + 3
theorem ins_gd {ρ ω : Addr → Nat} {n i : Nat} {xs : List V} {v : V} (h : ∀ x ∈ xs, Gd ρ ω n x) (hv : Gd ρ ω n v) : ∀ x ∈ xs.take i ++ [v] ++ xs.drop i, Gd ρ ω n x := fun x hx => by
  rcases List.mem_append.mp hx with hx | hx
  · rcases List.mem_append.mp hx with hx | hx
    · exact h x (List.mem_of_mem_take hx)
    · rw [List.mem_singleton] at hx
      rw [hx]
      exact hv
  · exact h x (List.mem_of_mem_drop hx)
theorem ins_sw {ω : Addr → Nat} {i : Nat} {xs : List V} {v : V} : sw ω (xs.take i ++ [v] ++ xs.drop i) = sw ω xs + wv ω v := by
  rw [sw_app, sw_app, sw_one]
  have := sw_take (ω := ω) (xs := xs) i
  omega
def sp_l_bent_row (K : PySem.W.Frag) (C : CA) : Sp := fun vs H Q _ => ∃ st ρ ω k p xs, vs = [.ref st, .ref p] ∧ Bs st ρ ω H ∧ p ≠ st ∧ (asL (H p) = some xs ∨ asT (H p) = some xs) ∧ (∀ x ∈ xs, Gd ρ ω k x) ∧ xs.length ≤ 500 ∧ Makes st ρ ω H (k + 2) (2 * sw ω xs + 6) Q
def rd_l_bent_row (K : PySem.W.Frag) (C : CA) (E : XK) : TS :=
  (tSeq (tAsg (tCB fList (tCons (tVar 1) tNil)) (gName 2)) (tSeq (tAsg (tCallS (sp_l_take K C) (fun _ => E0) (tCons (tVar 0) (tCons (tOp fAdd (tCB fLen (tCons (tVar 2) tNil)) (tC (.int 1))) tNil))) (gName 3)) (tSeq (tAsg (tCallS (sp_l_take K C) (fun _ => E0) (tCons (tVar 0) (tCons (tC (.int 6)) tNil))) (gName 4)) (Evl.tCut (tIfS (tAnd (tTest (tOp (fEq K) (tVar 4) (tC (.int 0)))) (tTest (tOp fGt (tCB fLen (tCons (tVar 2) tNil)) (tC (.int 0))))) (tSeq (tAsg (tCB fMin (tCons (tVar 3) (tCons (tOp fSub (tCB fLen (tCons (tVar 2) tNil)) (tC (.int 1))) tNil))) (gName 3)) (tAsg (tOp fAdd (tSl fSl2 (tVar 2) tNoPart (tPart (tVar 3))) (tSl fSl2 (tVar 2) (tPart (tOp fAdd (tVar 3) (tC (.int 1)))) tNoPart)) (gName 2))) (tIfS (tAnd (tTest (tOp (fEq K) (tVar 4) (tC (.int 1)))) (tTest (tOp fGt (tCB fLen (tCons (tVar 2) tNil)) (tC (.int 0))))) (tDrop (tBMF "list" fInsert (tVar 2) (tCons (tVar 3) (tCons (tOp fIx (tVar 2) (tCB fMin (tCons (tVar 3) (tCons (tOp fSub (tCB fLen (tCons (tVar 2) tNil)) (tC (.int 1))) tNil)))) tNil)))) (tIfS (tTest (tOp (fEq K) (tVar 4) (tC (.int 2)))) (tDrop (tBMF "list" fInsert (tVar 2) (tCons (tVar 3) (tCons (tCallS (sp_l_pick K C) (fun _ => E0) (tCons (tVar 0) (tCons (tLst (tCons (tC .non) (tCons (tC (.int 0)) (tCons (tC (.str ("a" : Str))) (tCons (tTup tNil) (tCons (tLst tNil) tNil)))))) tNil))) tNil)))) (tIfS (tTest (tOp (fEq K) (tVar 4) (tC (.int 3)))) (tRet (tCallS (sp_l_pick K C) (fun _ => E0) (tCons (tVar 0) (tCons (tLst (tCons (tC .non) (tCons tDNewK (tCons (tC (.int 0)) (tCons (tC (.str ("a" : Str))) tNil))))) tNil)))) (tSeq (tIfS (tB (tCB fIsi (tCons (tVar 1) (tCons (tC (.ty "tuple")) tNil)))) (tRet (tVar 2)) tNext) (tRet (tCB fTuple (tCons (tVar 2) tNil)))))))) (tSeq (tIfS (tB (tCB fIsi (tCons (tVar 1) (tCons (tC (.ty "tuple")) tNil)))) (tRet (tCB fTuple (tCons (tVar 2) tNil))) tNext) (tRet (tVar 2)))))))
theorem pure_l_bent_row {K : PySem.W.Frag} {C : CA} (vs : List V) (H : Hp) (Q : VK) (E : XK) (h : sp_l_bent_row K C vs H Q E) : rd_l_bent_row K C E { nx := fun _ H' => Q .non H', rt := Q } (start [("store" : Str), ("value" : Str), ("row" : Str), ("at" : Str), ("form" : Str)] vs) H := by
  obtain ⟨st, ρ, ω, k, p, xs, rfl, B, np, hp, a, lx, q⟩ := h
  have hs := B.sa
  have b1 : 1 ≤ 2 * sw ω xs + 6 := by omega
  have a1' : ∀ x ∈ xs, Gd ρ ω (k + 1) x := fun x hx => (a x hx).mono (by omega)
  show rd_l_bent_row K C E _ [some (.ref st), some (.ref p), none, none, none] H
  unfold rd_l_bent_row
  refine q_asg ?_
  walk_at "s"
  simp only [(seq_ty hp).1]
  refine fun pr nr => al nr fun H1 t1 h1 => ?_
  have s1 := hs.sm t1
  have k1 : Kp st H H1 := kp_sm t1
  refine q_asg ?_
  walk_at "s"
  simp only [h1]
  walk_at "s"
  refine take_ok s1 (by omega) fun at_ H2 a0 a1 k2 s2 => ?_
  have h2 := k2.1 _ _ (hs.ne nr) h1
  refine q_asg ?_
  walk_at "s"
  refine take_ok s2 (by decide) fun f H3 f0 f1 k3 s3 => ?_
  have h3 := k3.1 _ _ (hs.ne nr) h2
  have k13 := (k1.trans k2).trans k3
  have npr := hs.ne nr
  have zr := B.wt.zero nr
  have m13 : Mk st H ρ ω H3 ρ ω := B.mk'.kpp k13 s3
  have at_le : at_.toNat ≤ xs.length := by omega
  refine ⟨RowW st H ρ ω k (sw ω xs) p, ?_, ?_⟩
  · refine q_if1 ?_
    walk_at "s"
    simp only [asS_at h3]
    walk_at "s"
    have tail : (f ≠ 0 ∨ xs = []) → tIfS (tAnd (tTest (tOp (fEq K) (tVar 4) (tC (.int 1)))) (tTest (tOp fGt (tCB fLen (tCons (tVar 2) tNil)) (tC (.int 0))))) (tDrop (tBMF "list" fInsert (tVar 2) (tCons (tVar 3) (tCons (tOp fIx (tVar 2) (tCB fMin (tCons (tVar 3) (tCons (tOp fSub (tCB fLen (tCons (tVar 2) tNil)) (tC (.int 1))) tNil)))) tNil)))) (tIfS (tTest (tOp (fEq K) (tVar 4) (tC (.int 2)))) (tDrop (tBMF "list" fInsert (tVar 2) (tCons (tVar 3) (tCons (tCallS (sp_l_pick K C) (fun _ => E0) (tCons (tVar 0) (tCons (tLst (tCons (tC .non) (tCons (tC (.int 0)) (tCons (tC (.str ("a" : Str))) (tCons (tTup tNil) (tCons (tLst tNil) tNil)))))) tNil))) tNil)))) (tIfS (tTest (tOp (fEq K) (tVar 4) (tC (.int 3)))) (tRet (tCallS (sp_l_pick K C) (fun _ => E0) (tCons (tVar 0) (tCons (tLst (tCons (tC .non) (tCons tDNewK (tCons (tC (.int 0)) (tCons (tC (.str ("a" : Str))) tNil))))) tNil)))) (tSeq (tIfS (tB (tCB fIsi (tCons (tVar 1) (tCons (tC (.ty "tuple")) tNil)))) (tRet (tVar 2)) tNext) (tRet (tCB fTuple (tCons (tVar 2) tNil)))))) { nx := RowW st H ρ ω k (sw ω xs) p, rt := Q } [some (.ref st), some (.ref p), some (.ref pr), some (.int at_), some (.int f)] H3 := fun _ => by
      refine q_if1 ?_
      walk_at "s"
      simp only [asS_at h3]
      walk_at "s"
      have r2 : tIfS (tTest (tOp (fEq K) (tVar 4) (tC (.int 2)))) (tDrop (tBMF "list" fInsert (tVar 2) (tCons (tVar 3) (tCons (tCallS (sp_l_pick K C) (fun _ => E0) (tCons (tVar 0) (tCons (tLst (tCons (tC .non) (tCons (tC (.int 0)) (tCons (tC (.str ("a" : Str))) (tCons (tTup tNil) (tCons (tLst tNil) tNil)))))) tNil))) tNil)))) (tIfS (tTest (tOp (fEq K) (tVar 4) (tC (.int 3)))) (tRet (tCallS (sp_l_pick K C) (fun _ => E0) (tCons (tVar 0) (tCons (tLst (tCons (tC .non) (tCons tDNewK (tCons (tC (.int 0)) (tCons (tC (.str ("a" : Str))) tNil))))) tNil)))) (tSeq (tIfS (tB (tCB fIsi (tCons (tVar 1) (tCons (tC (.ty "tuple")) tNil)))) (tRet (tVar 2)) tNext) (tRet (tCB fTuple (tCons (tVar 2) tNil))))) { nx := RowW st H ρ ω k (sw ω xs) p, rt := Q } [some (.ref st), some (.ref p), some (.ref pr), some (.int at_), some (.int f)] H3 := by
        refine q_if1 ?_
        walk_at "s"
        refine ite2 (fun c2 => ?_) fun c2 => ?_
        · refine q_drop1 ?_
          walk_at "s"
          refine ⟨tyN_lst h3, by decide, fun pa na => al na fun H4 t4 h4 => ⟨by decide, fun pb nb => al nb fun H5 t5 h5 => ⟨by decide, fun pc nc => al nc fun H6 t6 h6 => ?_⟩⟩⟩
          have t36 := sm_trans t4 (sm_trans t5 t6)
          have s6 := s3.sm t36
          refine pick_ok s6 (asS_at h6) (((s3.sm t4).sm t5).ne nc) (by show 5 < 2 ^ 60; decide) (by intro z; cases z) fun j v H7 hj k7 s7 => ?_
          have h7 := k7.1 _ _ npr (t36 _ _ h3)
          have k17 := (k13.trans (kp_sm t36)).trans k7
          simp only [h7]
          refine ⟨by show _ < 2 ^ 24; omega, a0, by omega, ?_⟩
          have npa := s3.ne na
          have npb := (s3.sm t4).ne nb
          have na0 : H pa = none := m13.nn na
          have nb0 : H pb = none := (m13.sm t4).nn nb
          have ga := k7.1 _ _ npa (t6 _ _ (t5 _ _ h4))
          have gb := k7.1 _ _ npb (t6 _ _ h5)
          have m7 : Mk st H ρ ω H7 ρ ω := B.mk'.kpp k17 s7
          have hj5 : j < 5 := (List.getElem?_eq_some_iff.mp hj).1
          have fin : ∀ ρ1 ω1, Mk st H ρ ω H7 ρ1 ω1 → ω1 pr = 0 → (∀ x ∈ xs, Gd ρ1 ω1 (k + 1) x) → sw ω1 xs = sw ω xs → Gd ρ1 ω1 (k + 1) v → wv ω1 v ≤ 3 → RowW st H ρ ω k (sw ω xs) p [some (.ref st), some (.ref p), some (.ref pr), some (.int at_), some (.int f)] (upd H7 pr (.lst (xs.take at_.toNat ++ [v] ++ xs.drop at_.toNat))) := fun ρ1 ω1 m1 z1 g1 e1 gv wv' =>
            ⟨pr, _, ρ1, ω1, _, _, rfl, m1.put B nr z1, nr, z1, upd_same, ins_gd g1 gv, by rw [ins_sw, e1]; omega⟩
          match j, hj5, hj with
          | 0, _, hj => cases hj; exact fin ρ ω m7 zr a1' rfl gd_non (by show 1 ≤ 3; decide)
          | 1, _, hj => cases hj; exact fin ρ ω m7 zr a1' rfl (gd_int (by decide)) (by show 1 ≤ 3; decide)
          | 2, _, hj => cases hj; exact fin ρ ω m7 zr a1' rfl (gd_str ⟨by decide, by unfold asciiZ; decide +kernel⟩) (by show 1 ≤ 3; decide)
          | 3, _, hj =>
            cases hj
            have z0 := B.wt.zero na0
            have m8 := m7.addT (xs := []) (a := 0) (b := 3) na0 z0 npa ga (fun x hx => by cases hx) (by show 0 < 3; decide)
            exact fin _ _ m8 (by rw [fu_ne (ne_of_none h3 na)]; exact zr) (fun x hx => fu_gd z0 (a1' x hx)) (fu_sw z0 a1') (gd_new (by decide) (by omega)) (by rw [wv_new]; decide)
          | 4, _, hj =>
            cases hj
            have z0 := B.wt.zero nb0
            have m8 := m7.addL (xs := []) (a := 0) (b := 3) nb0 z0 npb gb (fun x hx => by cases hx) (by show 0 + (2 - 0) < 3; decide)
            exact fin _ _ m8 (by rw [fu_ne (ne_of_none (t4 _ _ h3) nb)]; exact zr) (fun x hx => fu_gd z0 (a1' x hx)) (fu_sw z0 a1') (gd_new (by decide) (by omega)) (by rw [wv_new]; decide)
        · refine q_if1 ?_
          walk_at "s"
          refine ite2 (fun c3 => ?_) fun c3 => ?_
          · refine fun pa na => al na fun H4 t4 h4 => ⟨by decide, fun pc nc => al nc fun H6 t6 h6 => ?_⟩
            have t36 := sm_trans t4 t6
            have s6 := s3.sm t36
            refine pick_ok s6 (asS_at h6) ((s3.sm t4).ne nc) (by show 4 < 2 ^ 60; decide) (by intro z; cases z) fun j v H7 hj k7 s7 => ?_
            have k17 := (k13.trans (kp_sm t36)).trans k7
            have ga := k7.1 _ _ (s3.ne na) (t6 _ _ h4)
            have hj5 : j < 4 := (List.getElem?_eq_some_iff.mp hj).1
            match j, hj5, hj with
            | 0, _, hj => cases hj; exact q.no b1 B k17 s7
            | 1, _, hj =>
              cases hj
              have na0 : H pa = none := m13.nn na
              exact q _ _ _ _ ((B.mk'.kpp k17 s7).addD (kvs := []) (a := 0) (b := 3) na0 (B.wt.zero na0) (s3.ne na) ga (fun x hx => by cases hx) (by show 0 + 0 + slk [] < 3; decide)) (gd_new (by decide) (by omega)) (by rw [wv_new]; omega)
            | 2, _, hj => cases hj; exact q.i b1 B k17 s7 (by decide)
            | 3, _, hj => cases hj; exact q.s b1 B k17 s7 ⟨by decide, by unfold asciiZ; decide +kernel⟩
          · refine q_if ?_
            walk_at "s"
            rcases (seq_ty (seq_kp k13 np hp)).2 with e | e
            · rw [e]
              walk_at "s"
              simp only [h3]
              walk_at "s"
              refine fun pt nt => al nt fun H4 t4 h4 => ?_
              have k4 := k13.trans (kp_sm t4)
              exact q _ _ H4 _ (m13.newT (a := k + 1) (b := sw ω xs + 1) nt t4 h4 a1' (by omega)) (gd_new (by omega) (by omega)) (by rw [wv_new]; omega)
            · rw [e]
              walk_at "s"
              exact q _ _ H3 _ (m13.addL (a := k + 1) (b := sw ω xs + 3) nr zr npr h3 a1' (by omega)) (gd_new (by omega) (by omega)) (by rw [wv_new]; omega)
      by_cases c1 : f = 1
      · subst c1
        simp only [decide_true, if_true]
        refine ite2 (fun c0 => ?_) fun c0 => r2
        refine q_drop1 ?_
        walk_at "s"
        refine ⟨tyN_lst h3, ?_⟩
        simp only [asS_at h3]
        walk_at "s"
        have ej : min at_ (((xs.length : Nat) : Int) - 1) = ((min at_.toNat (xs.length - 1) : Nat) : Int) := by omega
        rw [ej]
        have hj : xs[min at_.toNat (xs.length - 1)]? = some (xs[min at_.toNat (xs.length - 1)]'(by omega)) := List.getElem?_eq_getElem _
        refine at_nat hj ?_
        simp only [h3]
        refine ⟨by show _ < 2 ^ 24; omega, a0, by omega, ?_⟩
        have mv : xs[min at_.toNat (xs.length - 1)]'(by omega) ∈ xs := List.getElem_mem _
        generalize xs[min at_.toNat (xs.length - 1)]'(by omega) = v at hj mv
        exact ⟨pr, _, ρ, ω, _, _, rfl, m13.put B nr zr, nr, zr, upd_same, ins_gd a1' (a1' v mv), by rw [ins_sw]; have := sw_mem (ω := ω) mv; omega⟩
      · have c1' : decide (f = 1) = false := decide_eq_false c1
        rw [if_neg c1]
        exact r2
    by_cases c0 : f = 0
    · subst c0
      rw [if_pos rfl]
      refine ite2 (fun c1 => ?_) fun c1 => tail (.inr (by
        cases xs with
        | nil => rfl
        | cons x xs => exact absurd (show (0 : Int) < ((x :: xs).length : Nat) by rw [List.length_cons]; omega) c1))
      refine q_asg ?_
      walk_at "s"
      simp only [asS_at h3]
      walk_at "s"
      refine q_asg1 ?_
      walk_at "s"
      simp only [f_slR, f_sl, asL_at h3]
      refine fun pa na => al na fun H6 t6 g6 => ?_
      simp only [asL_at (t6 _ _ h3)]
      refine fun pb nb => al nb fun H7 t7 g7 => ?_
      rw [cut_to (by omega)] at g6
      rw [cut_from (by omega)] at g7
      simp only [f_addR, t7 _ _ g6, g7]
      refine ⟨by rw [List.length_take, List.length_drop]; show _ ≤ 2 ^ 24; omega, fun pc nc => al nc fun H8 t8 h8 => ?_⟩
      have t38 := sm_trans t6 (sm_trans t7 t8)
      have n6 := sm_none (sm_trans t6 t7) nc
      have nc0 : H pc = none := m13.nn n6
      refine ⟨pc, _, ρ, ω, _, _, rfl, m13.sm t38, nc0, B.wt.zero nc0, h8, fun x hx => ?_, ?_⟩
      · rcases List.mem_append.mp hx with hx | hx
        · exact a1' x (List.mem_of_mem_take hx)
        · exact a1' x (List.mem_of_mem_drop hx)
      · rw [sw_app]
        have e1 := sw_take (ω := ω) (xs := xs) (min at_ (((xs.length : Nat) : Int) - 1)).toNat
        have e2 := sw_drop1 (ω := ω) (xs := xs) (min at_ (((xs.length : Nat) : Int) - 1)).toNat
        have e3 : (min at_ (((xs.length : Nat) : Int) - 1) + 1).toNat = (min at_ (((xs.length : Nat) : Int) - 1)).toNat + 1 := by omega
        rw [e3]
        omega
    · have c0' : decide (f = 0) = false := decide_eq_false c0
      rw [if_neg c0]
      exact tail (.inl c0)
  · rintro σ H4 ⟨pr2, ys, ρ1, ω1, w1, w2, rfl, m4, nr2, z2, h4, ay, wy⟩
    refine q_if ?_
    walk_at "s"
    rcases (seq_ty (seq_kp m4.kp np hp)).2 with e | e
    · rw [e]
      walk_at "s"
      exact q _ _ H4 _ (m4.addL (a := k + 1) (b := sw ω1 ys + 3) nr2 z2 (hs.ne nr2) h4 ay (by omega)) (gd_new (by omega) (by omega)) (by rw [wv_new]; omega)
    · rw [e]
      walk_at "s"
      simp only [h4]
      walk_at "s"
      refine fun pt nt => al nt fun H5 t5 h5 => ?_
      exact q _ _ H5 _ (m4.newT (a := k + 1) (b := sw ω1 ys + 1) nt t5 h5 ay (by omega)) (gd_new (by omega) (by omega)) (by rw [wv_new]; omega)
end XB

/-! Values bent. -/
namespace XB
open PySem L2
local macro_rules | `(tactic| walk_at "s") => `(tactic| try simp only [u_var, u_c, u_op, u_un, u_nil, u_cons, u_cb, u_call, u_callS, u_tup, u_lst, u_test, u_B, u_and, u_or, u_not, u_andV, u_orV, u_notV, u_ifE, u_chain, u_sl, u_noPart, u_part, u_bm, u_bm0, u_rev, u_lc, u_try, u_sui, u_sui0, u_unb_rt, u_unb_nx, u_xf, u_WE, w_nil, w_cons, u_raise, u_rng1, u_rng2, u_next, u_ret, u_gname, u_gnil, u_gcons, u_gsub, u_gtup,
  f_add, f_addS, f_addR, f_sub, f_mul, f_mulR, f_mod, f_div, f_pow, f_neg, f_cmp, f_eq, f_eqB, f_eqS, f_ne, f_neB, f_neS, f_isN, f_notN, f_isB, f_ix, f_ixS, f_int, f_intB, f_len, f_lenS, f_max, f_min, f_abs, f_list, f_tuple, f_all, f_sum, f_isi, f_isiT, f_append, f_insert, f_pop, f_sl, f_set,
  kitS, tys, List.isEmpty_cons, Option.map_some, kt_NoneType_int, kt_NoneType_bool, kt_NoneType_str, kt_NoneType_list, kt_NoneType_tuple, kt_NoneType_dict, kt_int_int, kt_int_bool, kt_int_str, kt_int_list, kt_int_tuple, kt_int_dict, kt_bool_int, kt_bool_bool, kt_bool_str, kt_bool_list, kt_bool_tuple, kt_bool_dict, kt_str_int, kt_str_bool, kt_str_str, kt_str_list, kt_str_tuple, kt_str_dict, kt_list_int, kt_list_bool, kt_list_str, kt_list_list, kt_list_tuple, kt_list_dict, kt_tuple_int, kt_tuple_bool, kt_tuple_str, kt_tuple_list, kt_tuple_tuple, kt_tuple_dict, kt_dict_int, kt_dict_bool, kt_dict_str, kt_dict_list, kt_dict_tuple, kt_dict_dict, asL_lst, asL_frz, asL_tup, asT_tup, asS_lst, asS_frz, asS_tup, tyN_non, tyN_bl, tyN_int, tyN_str, atV_lit, ixN_lit, upd_same, upd_ne, upd_ne',
  List.getElem?_cons_zero, List.getElem?_cons_succ, List.set_cons_zero, List.set_cons_succ, List.append_nil, List.length_cons, List.length_nil, Option.some.injEq, exists_eq_left', exists_eq_left, exists_and_left, V.bl.injEq, V.int.injEq, V.str.injEq, V.ref.injEq, Bool.not_eq_true, Bool.not_true, Bool.not_false, decide_true, decide_false, decide_eq_true_eq, decide_eq_false_iff_not, Bool.false_eq_true, if_true, if_false, ite_true, ite_false, reduceCtorEq, true_and, and_true, Nat.reduceAdd, Nat.reduceLT, Nat.zero_add, ne_eq, not_false_eq_true, not_true_eq_false, List.cons.injEq, and_assoc])
local macro_rules | `(tactic| walk_at "S") => `(tactic| try simp only [u_var, u_c, u_op, u_un, u_nil, u_cons, u_cb, u_call, u_callS, u_tup, u_lst, u_test, u_B, u_and, u_or, u_not, u_andV, u_orV, u_notV, u_ifE, u_chain, u_sl, u_noPart, u_part, u_bm, u_bm0, u_rev, u_lc, u_try, u_sui, u_sui0, u_unb_rt, u_unb_nx, u_xf, u_WE, w_nil, w_cons, u_raise, u_rng1, u_rng2, u_next, u_ret, u_gname, u_gnil, u_gcons, u_gsub, u_gtup,
  f_add, f_addS, f_addR, f_sub, f_mul, f_mulR, f_mod, f_div, f_pow, f_neg, f_cmp, f_eq, f_eqB, f_eqS, f_ne, f_neB, f_neS, f_isN, f_notN, f_isB, f_ix, f_ixS, f_int, f_intB, f_len, f_lenS, f_max, f_min, f_abs, f_list, f_tuple, f_all, f_sum, f_isi, f_isiT, f_append, f_insert, f_pop, f_sl, f_set,
  kitS, tys, List.isEmpty_cons, Option.map_some, kt_NoneType_int, kt_NoneType_bool, kt_NoneType_str, kt_NoneType_list, kt_NoneType_tuple, kt_NoneType_dict, kt_int_int, kt_int_bool, kt_int_str, kt_int_list, kt_int_tuple, kt_int_dict, kt_bool_int, kt_bool_bool, kt_bool_str, kt_bool_list, kt_bool_tuple, kt_bool_dict, kt_str_int, kt_str_bool, kt_str_str, kt_str_list, kt_str_tuple, kt_str_dict, kt_list_int, kt_list_bool, kt_list_str, kt_list_list, kt_list_tuple, kt_list_dict, kt_tuple_int, kt_tuple_bool, kt_tuple_str, kt_tuple_list, kt_tuple_tuple, kt_tuple_dict, kt_dict_int, kt_dict_bool, kt_dict_str, kt_dict_list, kt_dict_tuple, kt_dict_dict, asL_lst, asL_frz, asL_tup, asT_tup, asS_lst, asS_frz, asS_tup, tyN_non, tyN_bl, tyN_int, tyN_str, atV_lit, ixN_lit, upd_same, upd_ne, upd_ne',
  List.getElem?_cons_zero, List.getElem?_cons_succ, List.set_cons_zero, List.set_cons_succ, List.append_nil, List.length_cons, List.length_nil, Option.some.injEq, exists_eq_left', exists_eq_left, exists_and_left, V.bl.injEq, V.int.injEq, V.str.injEq, V.ref.injEq, Bool.not_eq_true, Bool.not_true, Bool.not_false, decide_true, decide_false, decide_eq_true_eq, decide_eq_false_iff_not, Bool.false_eq_true, if_true, if_false, ite_true, ite_false, reduceCtorEq, true_and, and_true, Nat.reduceAdd, Nat.reduceLT, Nat.zero_add, ne_eq, not_false_eq_true, not_true_eq_false, List.cons.injEq, and_assoc, *])
def SmV (ω : Addr → Nat) (H : Hp) : Nat → V → Prop
  | 0, v => FlS v
  | n + 1, v => FlS v ∨ ∃ p xs, v = .ref p ∧ 0 < ω p ∧ (H p = some (.lst xs) ∨ H p = some (.tup xs)) ∧ ∀ x ∈ xs, SmV ω H n x
theorem SmV.mk {st : Addr} {ρ ω ρ1 ω1 : Addr → Nat} {H H1 : Hp} (m : Mk st H ρ ω H1 ρ1 ω1) (z : ω st = 0) : ∀ {n : Nat} {v : V}, SmV ω H n v → SmV ω1 H1 n v
  | 0, _, h => h
  | n + 1, v, h => by
    rcases h with h | ⟨p, xs, e, hp, hl, g⟩
    · exact .inl h
    · have np : p ≠ st := fun c => by rw [c, z] at hp; omega
      refine .inr ⟨p, xs, e, by rw [(m.ex.1 p hp).2]; exact hp, hl.imp (m.kp.1 p _ np) (m.kp.1 p _ np), fun x hx => SmV.mk m z (g x hx)⟩
theorem SmV.cases {ω : Addr → Nat} {H : Hp} {n : Nat} {v : V} (h : SmV ω H n v) : FlS v ∨ ∃ k p xs, n = k + 1 ∧ v = .ref p ∧ 0 < ω p ∧ (H p = some (.lst xs) ∨ H p = some (.tup xs)) ∧ ∀ x ∈ xs, SmV ω H k x := by
  cases n with
  | zero => exact .inl h
  | succ n =>
    rcases h with h | ⟨p, xs, h⟩
    · exact .inl h
    · exact .inr ⟨n, p, xs, rfl, h⟩
/-- the items of a value's cell -/
theorem Wt.items {ρ ω : Addr → Nat} {H : Hp} {p : Addr} {k : Nat} {xs : List V} (W : Wt ρ ω H) (g : Gd ρ ω (k + 1) (.ref p)) (h : H p = some (.lst xs) ∨ H p = some (.tup xs)) : (∀ x ∈ xs, Gd ρ ω k x) ∧ sw ω xs < ω p := by
  rcases g with g | ⟨q, e, g, l⟩
  · exact (fl_noref g).elim
  · cases e
    rcases W p g with ⟨ys, a, b, c⟩ | ⟨ys, a, b, c⟩ | ⟨kvs, a, b, c⟩
    · rw [a] at h
      have e : ys = xs := by rcases h with h | h <;> cases h; rfl
      subst e
      exact ⟨fun x hx => (b x hx).mono (by omega), by omega⟩
    · rw [a] at h
      have e : ys = xs := by rcases h with h | h <;> cases h; rfl
      subst e
      exact ⟨fun x hx => (b x hx).mono (by omega), by omega⟩
    · rw [a] at h
      rcases h with h | h <;> cases h
theorem seq_of {H : Hp} {p : Addr} {xs : List V} (h : H p = some (.lst xs) ∨ H p = some (.tup xs)) : asL (H p) = some xs ∨ asT (H p) = some xs := by
  rcases h with h | h <;> rw [h]
  · exact .inl rfl
  · exact .inr rfl
theorem set_sw {ω : Addr → Nat} {v : V} : ∀ {xs : List V} {i : Nat} {x : V}, xs[i]? = some x → sw ω (xs.set i v) + wv ω x = sw ω xs + wv ω v
  | [], i, x, h => by simp at h
  | y :: r, 0, x, h => by
    cases h
    simp only [List.set_cons_zero, sw]
    omega
  | y :: r, i + 1, x, h => by
    have := set_sw (ω := ω) (v := v) (xs := r) (i := i) (x := x) (by simpa using h)
    simp only [List.set_cons_succ, sw]
    omega
def sp_bentN (k : Nat) : Sp := fun vs H Q _ => ∃ st ρ ω n v, vs = [.ref st, v] ∧ Bs st ρ ω H ∧ n ≤ k ∧ SmV ω H n v ∧ Gd ρ ω n v ∧ wv ω v ≤ 400 ∧ Makes st ρ ω H (n + 2) (2 * wv ω v + 10 * (n + 1)) Q
def sp_bent_in : Nat → Sp
  | 0 => fun _ _ _ _ => False
  | n + 1 => sp_bentN n
def sp_l_bent (K : PySem.W.Frag) (C : CA) : Sp := sp_bentN 3
def rd_l_bent (K : PySem.W.Frag) (C : CA) (spR : Sp) (E : XK) : TS :=
  (tSeq (tIfS (tNot (tB (tCB fIsiT (tCons (tVar 1) (tCons (tTup (tCons (tC (.ty "list")) (tCons (tC (.ty "tuple")) tNil))) tNil))))) (tRet (tCallS (sp_l_bent_leaf K C) (fun _ => E0) (tCons (tVar 0) (tCons (tVar 1) tNil)))) tNext) (tSeq (tIfS (tOr (tTest (tOp (fEq K) (tCB fLen (tCons (tVar 1) tNil)) (tC (.int 0)))) (tTest (tOp (fEq K) (tCallS (sp_l_take K C) (fun _ => E0) (tCons (tVar 0) (tCons (tC (.int 4)) tNil))) (tC (.int 0))))) (tRet (tCallS (sp_l_bent_row K C) (fun _ => E0) (tCons (tVar 0) (tCons (tVar 1) tNil)))) tNext) (tSeq (tAsg (tCallS (sp_l_take K C) (fun _ => E0) (tCons (tVar 0) (tCons (tCB fLen (tCons (tVar 1) tNil)) tNil))) (gName 2)) (tSeq (tAsg (tCB fList (tCons (tVar 1) tNil)) (gName 3)) (tSeq (tAsg (tCallS spR (fun _ => E0) (tCons (tVar 0) (tCons (tOp fIx (tVar 3) (tVar 2)) tNil))) (gSub (tVar 3) (tVar 2) fSet)) (tSeq (tIfS (tB (tCB fIsi (tCons (tVar 1) (tCons (tC (.ty "tuple")) tNil)))) (tRet (tCB fTuple (tCons (tVar 3) tNil))) tNext) (tRet (tVar 3))))))))
theorem pure_l_bentN {K : PySem.W.Frag} {C : CA} (k : Nat) (vs : List V) (H : Hp) (Q : VK) (E : XK) (h : sp_bentN k vs H Q E) : rd_l_bent K C (sp_bent_in k) E { nx := fun _ H' => Q .non H', rt := Q } (start [("store" : Str), ("value" : Str), ("at" : Str), ("row" : Str)] vs) H := by
  obtain ⟨st, ρ, ω, n, v, rfl, B, hn, r, gv, wv0, q⟩ := h
  have hs := B.sa
  show rd_l_bent K C _ E _ [some (.ref st), some v, none, none] H
  unfold rd_l_bent
  refine q_if ?_
  walk_at "s"
  refine ⟨by decide, fun tp ht => al ht fun H1 t1 h1 => ?_⟩
  try simp only [h1]
  have k1 : Kp st H H1 := kp_sm t1
  have s1 := hs.sm t1
  have m1 : Mk st H ρ ω H1 ρ ω := B.mk'.sm t1
  have B1 := m1.bs
  have q1 : Makes st ρ ω H1 (n + 2) (2 * wv ω v + 10 * (n + 1)) Q := q.from m1
  have r1 := r.mk m1 B.z
  have leaf : FlS v → sp_l_bent_leaf K C [.ref st, v] H1 Q E0 := fun f => ⟨st, ρ, ω, v, rfl, B1, f, fun ρ2 ω2 H2 u m2 g w => q1 ρ2 ω2 H2 u m2 (g.mono (by omega)) (by omega)⟩
  have seq : ∀ (j : Nat) (p : Addr) (xs : List V), n = j + 1 → v = .ref p → 0 < ω p → (H1 p = some (.lst xs) ∨ H1 p = some (.tup xs)) → (∀ x ∈ xs, SmV ω H1 j x) →
      tSeq (tIfS (tOr (tTest (tOp (fEq K) (tCB fLen (tCons (tVar 1) tNil)) (tC (.int 0)))) (tTest (tOp (fEq K) (tCallS (sp_l_take K C) (fun _ => E0) (tCons (tVar 0) (tCons (tC (.int 4)) tNil))) (tC (.int 0))))) (tRet (tCallS (sp_l_bent_row K C) (fun _ => E0) (tCons (tVar 0) (tCons (tVar 1) tNil)))) tNext) (tSeq (tAsg (tCallS (sp_l_take K C) (fun _ => E0) (tCons (tVar 0) (tCons (tCB fLen (tCons (tVar 1) tNil)) tNil))) (gName 2)) (tSeq (tAsg (tCB fList (tCons (tVar 1) tNil)) (gName 3)) (tSeq (tAsg (tCallS (sp_bent_in k) (fun _ => E0) (tCons (tVar 0) (tCons (tOp fIx (tVar 3) (tVar 2)) tNil))) (gSub (tVar 3) (tVar 2) fSet)) (tSeq (tIfS (tB (tCB fIsi (tCons (tVar 1) (tCons (tC (.ty "tuple")) tNil)))) (tRet (tCB fTuple (tCons (tVar 3) tNil))) tNext) (tRet (tVar 3)))))) { nx := fun _ H' => Q .non H', rt := Q } [some (.ref st), some v, none, none] H1 := by
    intro j p xs en ev pos hp0 a
    subst en ev
    have np : p ≠ st := fun z => by rw [z, B.z] at pos; omega
    have hp := seq_of hp0
    obtain ⟨gx, wx⟩ := B1.wt.items gv hp0
    have wp : wv ω (.ref p) = ω p := rfl
    have lx : xs.length ≤ 500 := by have := sw_len gx; omega
    refine q_if ?_
    walk_at "s"
    simp only [(seq_ty hp).1]
    walk_at "s"
    refine ite2 (fun c1 => ?_) fun c1 => ?_
    · exact ⟨st, ρ, ω, j, p, xs, rfl, B1, np, hp, gx, lx, fun ρ2 ω2 H2 u m2 g w => q1 ρ2 ω2 H2 u m2 (g.mono (by omega)) (by omega)⟩
    · refine take_ok s1 (by decide) fun f H2 f0 f1 k2 s2 => ?_
      have hp2 := seq_kp k2 np hp
      walk_at "s"
      refine ite2 (fun c2 => ?_) fun c2 => ?_
      · exact ⟨st, ρ, ω, j, p, xs, rfl, B1.kp k2 s2, np, hp2, gx, lx, fun ρ2 ω2 H3 u m3 g w => q1 ρ2 ω2 H3 u ((B1.mk'.kpp k2 s2).trans m3) (g.mono (by omega)) (by omega)⟩
      · refine q_asg ?_
        walk_at "s"
        simp only [(seq_ty hp2).1]
        walk_at "s"
        refine take_ok s2 (by omega) fun at_ H3 a0 a1 k3 s3 => ?_
        have k13 := k2.trans k3
        have hp3 := seq_kp k13 np hp
        refine q_asg ?_
        walk_at "s"
        simp only [(seq_ty hp3).1]
        refine fun pr nr => al nr fun H4 t4 h4 => ?_
        have s4 := s3.sm t4
        have k14 := k13.trans (kp_sm t4)
        have npr := s3.ne nr
        obtain ⟨i, rfl⟩ : ∃ i : Nat, at_ = i := ⟨at_.toNat, by omega⟩
        have hi : i < xs.length := by omega
        have hx : xs[i]? = some xs[i] := by simp [hi]
        have mx : xs[i] ∈ xs := List.getElem_mem _
        refine q_asg ?_
        walk_at "s"
        simp only [h4]
        refine at_nat hx ?_
        match k, hn with
        | 0, hn => omega
        | k + 1, hn =>
        have m4 : Mk st H1 ρ ω H4 ρ ω := B1.mk'.kpp k14 s4
        have nr1 : H1 pr = none := (B1.mk'.kpp k13 s3).nn nr
        have zr := B1.wt.zero nr1
        have sx := sw_mem (ω := ω) mx
        refine ⟨st, ρ, ω, j, xs[i], rfl, m4.bs, by omega, (a _ mx).mk m4 B1.z, gx _ mx, by omega, fun ρ5 ω5 H5 v' m5 g5 w5 => ?_⟩
        have h5 := m5.kp.1 _ _ npr h4
        walk_at "s"
        have ei : ixN xs.length (i : Int) = some i := by
          unfold ixN
          rw [if_pos (by omega), if_pos (by omega)]
          simp
        simp only [h5, ei]
        have m15 := m4.trans m5
        have z5 := m5.off zr (by rw [h4]; exact fun z => by cases z)
        have m6 := m15.put (o := .lst (xs.set i v')) B1 nr1 z5
        have g6 : (upd H5 pr (.lst (xs.set i v'))) pr = some (.lst (xs.set i v')) := upd_same
        have hp6 := seq_kp m6.kp np hp
        have ga : ∀ x ∈ xs.set i v', Gd ρ5 ω5 (j + 2) x := fun x hx => by
          rcases List.mem_or_eq_of_mem_set hx with hx | rfl
          · exact (m15.gd (gx x hx)).mono (by omega)
          · exact g5
        have sa : sw ω5 (xs.set i v') ≤ 2 * sw ω xs + 10 * (j + 1) := by
          have e1 := set_sw (ω := ω5) (v := v') hx
          rw [m15.ex.sw gx, m15.wv (gx _ mx)] at e1
          omega
        generalize upd H5 pr (.lst (xs.set i v')) = H6 at m6 g6 hp6 ⊢
        refine q_if ?_
        walk_at "s"
        rcases (seq_ty hp6).2 with e6 | e6
        · rw [e6]
          walk_at "s"
          exact q1 _ _ H6 _ (m6.addL (a := j + 2) (b := sw ω5 (xs.set i v') + 3) nr1 z5 npr g6 ga (by omega)) (gd_new (by omega) (by omega)) (by rw [wv_new]; omega)
        · rw [e6]
          walk_at "s"
          simp only [g6]
          walk_at "s"
          refine fun pt nt => al nt fun H7 t7 h7 => ?_
          exact q1 _ _ H7 _ (m6.newT (a := j + 2) (b := sw ω5 (xs.set i v') + 1) nt t7 h7 ga (by omega)) (gd_new (by omega) (by omega)) (by rw [wv_new]; omega)
  rcases r.cases with f | ⟨j, p, xs, en, ev, pos, hp, a⟩
  · rcases id f with rfl | ⟨b, rfl⟩ | ⟨i, rfl, li⟩ | ⟨z, rfl, lz, az⟩
    · walk_at "s"; exact leaf f
    · walk_at "s"; exact leaf f
    · walk_at "s"; exact leaf f
    · walk_at "s"; exact leaf f
  · have hp1 : H1 p = some (.lst xs) ∨ H1 p = some (.tup xs) := hp.imp (t1 _ _) (t1 _ _)
    have g := seq j p xs en ev pos hp1 fun x hx => (a x hx).mk m1 B.z
    subst ev
    rcases hp1 with e | e
    · rw [tyN_lst e]
      walk_at "s"
      exact g
    · rw [tup_ty (by rw [e]; rfl)]
      walk_at "s"
      exact g
end XB

/-! Values spoilt. -/
namespace XB
open PySem L2
local macro_rules | `(tactic| walk_at "s") => `(tactic| try simp only [u_var, u_c, u_op, u_un, u_nil, u_cons, u_cb, u_call, u_callS, u_tup, u_lst, u_test, u_B, u_and, u_or, u_not, u_andV, u_orV, u_notV, u_ifE, u_chain, u_sl, u_noPart, u_part, u_bm, u_bm0, u_rev, u_lc, u_try, u_sui, u_sui0, u_unb_rt, u_unb_nx, u_xf, u_WE, w_nil, w_cons, u_raise, u_rng1, u_rng2, u_next, u_ret, u_gname, u_gnil, u_gcons, u_gsub, u_gtup,
  f_add, f_addS, f_addR, f_sub, f_mul, f_mulR, f_mod, f_div, f_pow, f_neg, f_cmp, f_eq, f_eqB, f_eqS, f_ne, f_neB, f_neS, f_isN, f_notN, f_isB, f_ix, f_ixS, f_int, f_intB, f_len, f_lenS, f_max, f_min, f_abs, f_list, f_tuple, f_all, f_sum, f_isi, f_isiT, f_append, f_insert, f_pop, f_sl, f_set,
  kitS, tys, List.isEmpty_cons, Option.map_some, kt_NoneType_int, kt_NoneType_bool, kt_NoneType_str, kt_NoneType_list, kt_NoneType_tuple, kt_NoneType_dict, kt_int_int, kt_int_bool, kt_int_str, kt_int_list, kt_int_tuple, kt_int_dict, kt_bool_int, kt_bool_bool, kt_bool_str, kt_bool_list, kt_bool_tuple, kt_bool_dict, kt_str_int, kt_str_bool, kt_str_str, kt_str_list, kt_str_tuple, kt_str_dict, kt_list_int, kt_list_bool, kt_list_str, kt_list_list, kt_list_tuple, kt_list_dict, kt_tuple_int, kt_tuple_bool, kt_tuple_str, kt_tuple_list, kt_tuple_tuple, kt_tuple_dict, kt_dict_int, kt_dict_bool, kt_dict_str, kt_dict_list, kt_dict_tuple, kt_dict_dict, asL_lst, asL_frz, asL_tup, asT_tup, asS_lst, asS_frz, asS_tup, tyN_non, tyN_bl, tyN_int, tyN_str, atV_lit, ixN_lit, upd_same, upd_ne, upd_ne',
  List.getElem?_cons_zero, List.getElem?_cons_succ, List.set_cons_zero, List.set_cons_succ, List.append_nil, List.length_cons, List.length_nil, Option.some.injEq, exists_eq_left', exists_eq_left, exists_and_left, V.bl.injEq, V.int.injEq, V.str.injEq, V.ref.injEq, Bool.not_eq_true, Bool.not_true, Bool.not_false, decide_true, decide_false, decide_eq_true_eq, decide_eq_false_iff_not, Bool.false_eq_true, if_true, if_false, ite_true, ite_false, reduceCtorEq, true_and, and_true, Nat.reduceAdd, Nat.reduceLT, Nat.zero_add, ne_eq, not_false_eq_true, not_true_eq_false, List.cons.injEq, and_assoc])
local macro_rules | `(tactic| walk_at "S") => `(tactic| try simp only [u_var, u_c, u_op, u_un, u_nil, u_cons, u_cb, u_call, u_callS, u_tup, u_lst, u_test, u_B, u_and, u_or, u_not, u_andV, u_orV, u_notV, u_ifE, u_chain, u_sl, u_noPart, u_part, u_bm, u_bm0, u_rev, u_lc, u_try, u_sui, u_sui0, u_unb_rt, u_unb_nx, u_xf, u_WE, w_nil, w_cons, u_raise, u_rng1, u_rng2, u_next, u_ret, u_gname, u_gnil, u_gcons, u_gsub, u_gtup,
  f_add, f_addS, f_addR, f_sub, f_mul, f_mulR, f_mod, f_div, f_pow, f_neg, f_cmp, f_eq, f_eqB, f_eqS, f_ne, f_neB, f_neS, f_isN, f_notN, f_isB, f_ix, f_ixS, f_int, f_intB, f_len, f_lenS, f_max, f_min, f_abs, f_list, f_tuple, f_all, f_sum, f_isi, f_isiT, f_append, f_insert, f_pop, f_sl, f_set,
  kitS, tys, List.isEmpty_cons, Option.map_some, kt_NoneType_int, kt_NoneType_bool, kt_NoneType_str, kt_NoneType_list, kt_NoneType_tuple, kt_NoneType_dict, kt_int_int, kt_int_bool, kt_int_str, kt_int_list, kt_int_tuple, kt_int_dict, kt_bool_int, kt_bool_bool, kt_bool_str, kt_bool_list, kt_bool_tuple, kt_bool_dict, kt_str_int, kt_str_bool, kt_str_str, kt_str_list, kt_str_tuple, kt_str_dict, kt_list_int, kt_list_bool, kt_list_str, kt_list_list, kt_list_tuple, kt_list_dict, kt_tuple_int, kt_tuple_bool, kt_tuple_str, kt_tuple_list, kt_tuple_tuple, kt_tuple_dict, kt_dict_int, kt_dict_bool, kt_dict_str, kt_dict_list, kt_dict_tuple, kt_dict_dict, asL_lst, asL_frz, asL_tup, asT_tup, asS_lst, asS_frz, asS_tup, tyN_non, tyN_bl, tyN_int, tyN_str, atV_lit, ixN_lit, upd_same, upd_ne, upd_ne',
  List.getElem?_cons_zero, List.getElem?_cons_succ, List.set_cons_zero, List.set_cons_succ, List.append_nil, List.length_cons, List.length_nil, Option.some.injEq, exists_eq_left', exists_eq_left, exists_and_left, V.bl.injEq, V.int.injEq, V.str.injEq, V.ref.injEq, Bool.not_eq_true, Bool.not_true, Bool.not_false, decide_true, decide_false, decide_eq_true_eq, decide_eq_false_iff_not, Bool.false_eq_true, if_true, if_false, ite_true, ite_false, reduceCtorEq, true_and, and_true, Nat.reduceAdd, Nat.reduceLT, Nat.zero_add, ne_eq, not_false_eq_true, not_true_eq_false, List.cons.injEq, and_assoc, *])
/-- what weighs more than v, and what weighs nothing, stands -/
def Stands (ω : Addr → Nat) (w : Nat) (H H' : Hp) : Prop := ∀ a o, (ω a = 0 ∨ w < ω a) → H a = some o → H' a = some o
section
variable {ρ ω : Addr → Nat} {H H' H1 H2 : Hp} {n w : Nat} {v : V} {p : Addr} {xs ys : List V}
theorem Stands.refl : Stands ω w H H := fun _ _ _ h => h
theorem Stands.trans (a : Stands ω w H H1) (b : Stands ω w H1 H2) : Stands ω w H H2 := fun q o h e => b q o h (a q o h e)
theorem Stands.sm (k : Sm H H') : Stands ω w H H' := fun q o _ e => k q o e
theorem Stands.less {u : Nat} (a : Stands ω u H H') (h : u ≤ w) : Stands ω w H H' := fun q o z e => a q o (z.imp id fun z => by omega) e
theorem Wt.smm (W : Wt ρ ω H) (k : Sm H H') : Wt ρ ω H' := W.keep fun q o _ e => k q o e
theorem Wt.set (W : Wt ρ ω H) (h : CellOk ρ ω (upd H p o) p) : Wt ρ ω (upd H p o) := fun q hq => by
  by_cases c : q = p
  · rw [c]; exact h
  · rcases W q hq with ⟨xs, a, b⟩ | ⟨xs, a, b⟩ | ⟨xs, a, b⟩
    · exact .inl ⟨xs, by rw [upd_ne c]; exact a, b⟩
    · exact .inr (.inl ⟨xs, by rw [upd_ne c]; exact a, b⟩)
    · exact .inr (.inr ⟨xs, by rw [upd_ne c]; exact a, b⟩)
theorem Stands.set (h : 0 < ω p) (hw : ω p ≤ w) : Stands ω w H (upd H p o) := fun q u z e => by
  rw [upd_ne (fun c => by rw [c] at z; omega)]
  exact e
theorem cell_lst (W : Wt ρ ω H) (hp : 0 < ω p) (h : H p = some (.lst xs)) : (∀ x ∈ xs, Gd ρ ω (ρ p) x) ∧ sw ω xs + (2 - xs.length) < ω p := by
  rcases W p hp with ⟨ys, a, b⟩ | ⟨ys, a, b⟩ | ⟨ys, a, b⟩ <;> rw [h] at a <;> cases a
  exact b
theorem cell_tup (W : Wt ρ ω H) (hp : 0 < ω p) (h : H p = some (.tup xs)) : (∀ x ∈ xs, Gd ρ ω (ρ p) x) ∧ sw ω xs < ω p := by
  rcases W p hp with ⟨ys, a, b⟩ | ⟨ys, a, b⟩ | ⟨ys, a, b⟩ <;> rw [h] at a <;> cases a
  exact b
theorem cell_dct {kvs : List (Key × V)} (W : Wt ρ ω H) (hp : 0 < ω p) (h : H p = some (.dK kvs)) : (∀ kv ∈ kvs, keyOk kv.1 ∧ Gd ρ ω (ρ p) kv.2) ∧ sw ω (kvs.map (·.2)) + kvs.length + slk kvs < ω p := by
  rcases W p hp with ⟨ys, a, b⟩ | ⟨ys, a, b⟩ | ⟨ys, a, b⟩ <;> rw [h] at a <;> cases a
  exact b
theorem last_sw : ∀ {xs : List V}, xs ≠ [] → (∀ x ∈ xs, Gd ρ ω n x) → sw ω xs.dropLast + 1 ≤ sw ω xs
  | [], h, _ => absurd rfl h
  | [x], _, g => by
    have := (g x List.mem_cons_self).pos
    simp only [List.dropLast, sw]
    omega
  | x :: y :: r, _, g => by
    have := last_sw (xs := y :: r) (by simp) fun z hz => g z (List.mem_cons_of_mem _ hz)
    simp only [List.dropLast, sw] at this ⊢
    omega
theorem pop_ok (g : ∀ x ∈ xs, Gd ρ ω n x) (l : 2 ≤ xs.length) : (∀ x ∈ xs.dropLast.set 0 .non, Gd ρ ω n x) ∧ sw ω (xs.dropLast.set 0 .non) + (2 - (xs.dropLast.set 0 .non).length) ≤ sw ω xs + (2 - xs.length) := by
  refine ⟨fun x hx => ?_, ?_⟩
  · rcases List.mem_or_eq_of_mem_set hx with hx | rfl
    · exact g x (List.dropLast_subset _ hx)
    · exact gd_non
  · have a := last_sw (xs := xs) (by intro e; rw [e] at l; cases l) g
    have l0 : 0 < xs.dropLast.length := by rw [List.length_dropLast]; omega
    have hx : xs.dropLast[0]? = some (xs.dropLast[0]'l0) := List.getElem?_eq_getElem _
    have b := set_sw (ω := ω) (v := .non) hx
    have c := (g _ (List.dropLast_subset _ (List.getElem_mem l0))).pos
    have d : wv ω (.non : V) = 1 := rfl
    rw [List.length_set, List.length_dropLast]
    omega
theorem push_ok (g : ∀ x ∈ xs, Gd ρ ω n x) (l : xs.length < 2) : (∀ x ∈ xs ++ [.non], Gd ρ ω n x) ∧ sw ω (xs ++ [.non]) + (2 - (xs ++ [V.non]).length) ≤ sw ω xs + (2 - xs.length) := by
  refine ⟨fun x hx => ?_, ?_⟩
  · rcases List.mem_append.mp hx with hx | hx
    · exact g x hx
    · rw [List.mem_singleton] at hx
      rw [hx]
      exact gd_non
  · rw [sw_app, sw_one, List.length_append]
    have d : wv ω (.non : V) = 1 := rfl
    have e : [V.non].length = 1 := rfl
    omega
theorem put_same {kvs : List (Key × V)} {k : Key} {u : V} (hu : wv ω u = 1) (gu : Gd ρ ω n u) (ku : keyOk k) (g : ∀ kv ∈ kvs, keyOk kv.1 ∧ Gd ρ ω n kv.2) :
    (∀ kv ∈ putK kvs k u, keyOk kv.1 ∧ Gd ρ ω n kv.2) ∧ ((∃ kv ∈ kvs, kv.1 = k) → (putK kvs k u).map (·.1) = kvs.map (·.1) ∧ sw ω ((putK kvs k u).map (·.2)) ≤ sw ω (kvs.map (·.2))) ∧
    ((¬ ∃ kv ∈ kvs, kv.1 = k) → putK kvs k u = kvs ++ [(k, u)]) := by
  refine ⟨(putK_all (P := fun k w => keyOk k ∧ Gd ρ ω n w) g ⟨ku, gu⟩).1, fun he => ?_, fun no => ?_⟩
  · obtain ⟨kv, hk, e⟩ := id he
    have ha : (kvs.any fun kv => decide (kv.1 = k)) = true := List.any_eq_true.mpr ⟨kv, hk, decide_eq_true e⟩
    unfold putK
    rw [if_pos ha]
    clear ha hk e he
    refine ⟨?_, ?_⟩
    · rw [List.map_map]
      refine List.map_congr_left fun kv _ => ?_
      dsimp only [Function.comp]
      split <;> rfl
    · induction kvs with
      | nil => exact Nat.le_refl _
      | cons x r ih =>
        have a := ih fun kv hk => g kv (List.mem_cons_of_mem _ hk)
        have b := (g x List.mem_cons_self).2.pos
        have c : wv ω u = 1 := hu
        simp only [List.map_cons, sw]
        split
        · show wv ω u + _ ≤ _
          omega
        · omega
  · have ha : ¬ (kvs.any fun kv => decide (kv.1 = k)) = true := fun z => by
      obtain ⟨kv, hk, e⟩ := List.any_eq_true.mp z
      exact no ⟨kv, hk, of_decide_eq_true e⟩
    unfold putK
    rw [if_neg ha]
theorem slk_keys {a b : List (Key × V)} (h : a.map (·.1) = b.map (·.1)) : slk a = slk b := by
  have : ∀ l : List (Key × V), (l.any fun kv => decide (kv.1 = spoiltK)) = (l.map (·.1)).any fun k => decide (k = spoiltK) := fun l => by
    rw [List.any_map]
    rfl
  unfold slk
  rw [this, this, h]
theorem slk_has {a : List (Key × V)} : (∃ kv ∈ a, kv.1 = spoiltK) → slk a = 0 := fun ⟨kv, hk, e⟩ => by
  unfold slk
  rw [if_pos (List.any_eq_true.mpr ⟨kv, hk, decide_eq_true e⟩)]
theorem slk_not {a : List (Key × V)} : (¬ ∃ kv ∈ a, kv.1 = spoiltK) → slk a = 2 := fun no => by
  unfold slk
  rw [if_neg fun z => by
    obtain ⟨kv, hk, e⟩ := List.any_eq_true.mp z
    exact no ⟨kv, hk, of_decide_eq_true e⟩]
theorem val_of {kvs : List (Key × V)} {k : Key} (h : k ∈ kvs.map (·.1)) : ∃ u, valV kvs k = some u ∧ ∃ kv ∈ kvs, kv.1 = k ∧ kv.2 = u := by
  unfold valV
  cases e : kvs.find? fun kv => decide (kv.1 = k) with
  | none =>
    obtain ⟨kv, hk, rfl⟩ := List.mem_map.mp h
    have := List.find?_eq_none.mp e kv hk
    simp at this
  | some kv => exact ⟨kv.2, rfl, kv, List.mem_of_find?_eq_some e, by have := List.find?_some e; simpa using this, rfl⟩
end
def sp_spoilN (n : Nat) : Sp := fun vs H Q _ => ∃ ρ ω v, vs = [v] ∧ Wt ρ ω H ∧ Gd ρ ω n v ∧ wv ω v ≤ 1000 ∧ ∀ H', Wt ρ ω H' → Stands ω (wv ω v) H H' → Q .non H'
def sp_spoil_in : Nat → Sp
  | 0 => fun _ _ _ _ => False
  | n + 1 => sp_spoilN n
def sp_l_spoil (K : PySem.W.Frag) (C : CA) : Sp := sp_spoilN 15
def rd_l_spoil (K : PySem.W.Frag) (C : CA) (spR : Sp) (E : XK) : TS :=
  (tSeq (tIfS (tB (tCB fIsi (tCons (tVar 0) (tCons (tC (.ty "dict")) tNil)))) (tSeq (tFor (iList K (tCB rListD (tCons (tVar 0) tNil))) (gName 1) (tSeq (tDrop (tCallS spR (fun _ => E0) (tCons (tDGet (tVar 0) (tVar 1)) tNil))) (sDPut (tVar 0) (tVar 1) (tC .non)))) (sDPut (tVar 0) (tC (.str ("0spoilt" : Str))) (tC (.int 0)))) tNext) (tSeq (tIfS (tB (tCB fIsiT (tCons (tVar 0) (tCons (tTup (tCons (tC (.ty "list")) (tCons (tC (.ty "tuple")) tNil))) tNil)))) (tFor (iList K (tCB fList (tCons (tVar 0) tNil))) (gName 2) (tDrop (tCallS spR (fun _ => E0) (tCons (tVar 2) tNil)))) tNext) (tIfS (tB (tCB fIsi (tCons (tVar 0) (tCons (tC (.ty "list")) tNil)))) (tIfS (tTest (tOp fGt (tCB fLen (tCons (tVar 0) tNil)) (tC (.int 1)))) (tSeq (tDrop (tBM0F "list" fPop (tVar 0))) (tAsg (tC .non) (gSub (tVar 0) (tC (.int 0)) fSet))) (tDrop (tBMF "list" fAppend (tVar 0) (tCons (tC .non) tNil)))) tNext)))
theorem pure_l_spoilN {K : PySem.W.Frag} {C : CA} (n : Nat) (vs : List V) (H : Hp) (Q : VK) (E : XK) (h : sp_spoilN n vs H Q E) : rd_l_spoil K C (sp_spoil_in n) E { nx := fun _ H' => Q .non H', rt := Q } (start [("value" : Str), ("key" : Str), ("part" : Str)] vs) H := by
  obtain ⟨ρ, ω, v, rfl, W, g, hw, q⟩ := h
  show rd_l_spoil K C _ E _ [some v, none, none] H
  unfold rd_l_spoil
  rcases g with f | ⟨p, rfl, hp, hr⟩
  · have q1 : ∀ H', Sm H H' → Q .non H' := fun H' s => q H' (W.smm s) (.sm s)
    rcases id f with rfl | ⟨b, rfl⟩ | ⟨i, rfl, li⟩ | ⟨z, rfl, lz⟩
    all_goals
      refine q_if ?_
      walk_at "s"
      refine q_if ?_
      walk_at "s"
      refine ⟨by decide, fun tp ht => al ht fun H1 s1 h1 => ?_⟩
      try simp only [h1]
      walk_at "s"
      refine q_if1 ?_
      walk_at "s"
      exact q1 H1 s1
  obtain ⟨m, rfl⟩ : ∃ m, n = m + 1 := ⟨n - 1, by omega⟩
  have hw : ω p ≤ 1000 := hw
  have wp : wv ω (.ref p) = ω p := rfl
  /- the walk over the items of a list or tuple -/
  have parts : ∀ (pl : Addr) (xs : List V) (o : HO) (vk vp : Option V) (D : Ends) (H1 : Hp), Wt ρ ω H1 → ω pl = 0 → H1 pl = some (.lst xs) → H1 p = some o → (∀ x ∈ xs, Gd ρ ω (ρ p) x) → sw ω xs < ω p →
      (∀ vp' H', Wt ρ ω H' → Stands ω (ω p) H1 H' → H' p = some o → D.nx [some (.ref p), vk, vp'] H') →
      Loop (Itl K pl) (gName 2) (tDrop (tCallS (sp_spoil_in (m + 1)) (fun _ => E0) (tCons (tVar 2) tNil))) D [some (.ref p), vk, vp] H1 := by
    intro pl xs o vk vp D H1 W1 zl hl ho gx wx k
    refine loop_list (xs := xs) (fun i σ H' => ∃ vp', σ = [some (.ref p), vk, vp'] ∧ Wt ρ ω H' ∧ Stands ω (ω p) H1 H' ∧ H' p = some o) ⟨vp, rfl, W1, Stands.refl, ho⟩ ?_ ?_ ?_
    · rintro i σ H2 hi ⟨vp', rfl, W2, st2, o2⟩
      exact asL_at (st2 _ _ (.inl zl) hl)
    · rintro i x σ H2 hx ⟨vp', rfl, W2, st2, o2⟩
      have mx := List.mem_of_getElem? hx
      have sx := sw_mem (ω := ω) mx
      walk_at "s"
      refine q_drop1 ?_
      walk_at "s"
      refine ⟨ρ, ω, x, rfl, W2, (gx x mx).mono (by omega), by omega, fun H3 W3 st3 => ?_⟩
      dsimp only
      exact ⟨W3, st2.trans (st3.less (by omega)), st3 _ _ (.inr (by omega)) o2⟩
    · rintro σ H2 ⟨vp', rfl, W2, st2, o2⟩
      exact k vp' H2 W2 st2 o2
  rcases W p hp with ⟨xs, a, gx, wx⟩ | ⟨xs, a, gx, wx⟩ | ⟨kvs, a, gx, wx⟩
  · have lx := sw_len gx
    refine q_if ?_
    walk_at "s"
    rw [tyN_lst a]
    walk_at "s"
    refine q_if ?_
    walk_at "s"
    refine ⟨by decide, fun tp ht => al ht fun H1 s1 h1 => ?_⟩
    try simp only [h1]
    simp only [tyN_lst (s1 _ _ a)]
    walk_at "s"
    refine q_for ?_
    rw [u_list]
    walk_at "s"
    rw [asS_at (s1 _ _ a)]
    refine fun pl nl => al nl fun H2 s2 h2 => ?_
    have s12 := sm_trans s1 s2
    have zl := W.zero (sm_none s1 nl)
    refine ⟨⟨_, asL_seq (asL_at h2)⟩, ?_⟩
    refine parts pl xs _ none none _ H2 (W.smm s12) zl h2 (s12 _ _ a) gx (by omega) fun vp' H3 W3 st3 a3 => ?_
    have st03 : Stands ω (ω p) H H3 := (Stands.sm s12).trans st3
    dsimp only
    have fin : ∀ ys, (∀ x ∈ ys, Gd ρ ω (ρ p) x) → sw ω ys + (2 - ys.length) ≤ sw ω xs + (2 - xs.length) → Q .non (upd H3 p (.lst ys)) := fun ys gy wy =>
      q _ (W3.set (.inl ⟨ys, upd_same, gy, by omega⟩)) (st03.trans (Stands.set hp (Nat.le_refl _)))
    refine q_if1 ?_
    walk_at "s"
    simp only [tyN_lst a3]
    walk_at "s"
    refine q_if1 ?_
    walk_at "s"
    simp only [a3]
    walk_at "s"
    refine ite2 (fun c => ?_) fun c => ?_
    · have c2 : 1 < xs.length := by omega
      have el : xs[xs.length - 1]? = some (xs[xs.length - 1]'(by omega)) := by simp
      refine q_drop ?_
      walk_at "s"
      refine ⟨tyN_lst a3, ?_⟩
      simp only [a3, el]
      refine q_asg1 ?_
      walk_at "s"
      have c3 : 0 < xs.dropLast.length := by rw [List.length_dropLast]; omega
      simp only [c3, if_true, upd_upd]
      have := pop_ok gx (by omega)
      exact fin _ this.1 this.2
    · refine q_drop1 ?_
      walk_at "s"
      refine ⟨tyN_lst a3, ?_⟩
      simp only [a3]
      have := push_ok gx (by omega)
      exact ⟨by show _ < 2 ^ 24; omega, fin _ this.1 this.2⟩
  · have lx := sw_len gx
    refine q_if ?_
    walk_at "s"
    rw [tup_ty (by rw [a]; rfl)]
    walk_at "s"
    refine q_if ?_
    walk_at "s"
    refine ⟨by decide, fun tp ht => al ht fun H1 s1 h1 => ?_⟩
    try simp only [h1]
    simp only [tup_ty (show asT (H1 p) = some xs by rw [s1 _ _ a]; rfl)]
    walk_at "s"
    refine q_for ?_
    rw [u_list]
    walk_at "s"
    rw [asS_of_T (show asT (H1 p) = some xs by rw [s1 _ _ a]; rfl)]
    refine fun pl nl => al nl fun H2 s2 h2 => ?_
    have s12 := sm_trans s1 s2
    have zl := W.zero (sm_none s1 nl)
    refine ⟨⟨_, asL_seq (asL_at h2)⟩, ?_⟩
    refine parts pl xs _ none none _ H2 (W.smm s12) zl h2 (s12 _ _ a) gx (by omega) fun vp' H3 W3 st3 a3 => ?_
    have st03 : Stands ω (ω p) H H3 := (Stands.sm s12).trans st3
    dsimp only
    refine q_if1 ?_
    walk_at "s"
    simp only [tup_ty (show asT (H3 p) = some xs by rw [a3]; rfl)]
    walk_at "s"
    exact q H3 W3 st03
  · refine q_if ?_
    walk_at "s"
    rw [tyN_dK a]
    walk_at "s"
    refine q_seq ?_
    refine q_for ?_
    rw [u_list]
    walk_at "s"
    refine ⟨p, kvs, rfl, a, fun pl nl => al nl fun H1 s1 h1 => ?_⟩
    have zl := W.zero nl
    refine ⟨pl, rfl, ⟨_, asL_seq (asL_at h1)⟩, ?_⟩
    have lv : ∀ {l : List (Key × V)}, l.map (·.1) = kvs.map (·.1) → l.length = kvs.length := fun e => by simpa using congrArg List.length e
    refine loop_list (xs := kvs.map fun kv => kV kv.1) (fun i σ H' => ∃ kvs' vk, σ = [some (.ref p), vk, none] ∧ Wt ρ ω H' ∧ Stands ω (ω p) H1 H' ∧ H' p = some (.dK kvs') ∧ kvs'.map (·.1) = kvs.map (·.1)) ⟨kvs, none, rfl, W.smm s1, Stands.refl, s1 _ _ a, rfl⟩ ?_ ?_ ?_
    · rintro i σ H2 hi ⟨kvs', vk, rfl, W2, st2, d2, e2⟩
      exact asL_at (st2 _ _ (.inl zl) h1)
    · rintro i x σ H2 hx ⟨kvs', vk, rfl, W2, st2, d2, e2⟩
      rw [List.getElem?_map, Option.map_eq_some_iff] at hx
      obtain ⟨kv, hkv, rfl⟩ := hx
      have mk : kv.1 ∈ kvs'.map (·.1) := by rw [e2]; exact List.mem_map.mpr ⟨kv, List.mem_of_getElem? hkv, rfl⟩
      obtain ⟨u, hu, kw, mw, ew, eu⟩ := val_of mk
      obtain ⟨g2, w2⟩ := cell_dct W2 hp d2
      have su : wv ω u ≤ sw ω (kvs'.map (·.2)) := sw_mem (List.mem_map.mpr ⟨kw, mw, eu⟩)
      have gu := (g2 kw mw).2
      rw [eu] at gu
      have ku := (g2 kw mw).1
      rw [ew] at ku
      walk_at "s"
      refine q_drop ?_
      walk_at "s"
      unfold tDGet
      walk_at "s"
      refine ⟨u, .inl ⟨kvs', kv.1, .inl d2, rfl, hu.symm⟩, ρ, ω, u, rfl, W2, gu.mono (by omega), by omega, fun H3 W3 st3 => ?_⟩
      have d3 := st3 _ _ (.inr (by omega)) d2
      dsimp only
      unfold sDPut
      walk_at "s"
      have ps := put_same (n := ρ p) (u := .non) (ω := ω) (ρ := ρ) rfl gd_non ku g2
      have pk := ps.2.1 ⟨kw, mw, ew⟩
      have l3 := lv (pk.1.trans e2)
      have l2 := lv e2
      have sk := slk_keys pk.1
      refine ⟨_, .inl ⟨kvs', kv.1, d3, rfl, by show _ < 2 ^ 24; omega, rfl⟩, ?_⟩
      refine ⟨W3.set (.inr (.inr ⟨_, upd_same, ps.1, by omega⟩)), st2.trans ((st3.less (by omega)).trans (Stands.set hp (Nat.le_refl _))), _, by simp only [upd_same], pk.1.trans e2⟩
    · rintro σ H2 ⟨kvs', vk, rfl, W2, st2, d2, e2⟩
      obtain ⟨g2, w2⟩ := cell_dct W2 hp d2
      have ps := put_same (n := ρ p) (k := spoiltK) (u := .int 0) (ω := ω) (ρ := ρ) rfl (gd_int (by decide)) ⟨by decide, by unfold asciiZ; decide +kernel⟩ g2
      have hc : CellOk ρ ω (upd H2 p (.dK (putK kvs' spoiltK (.int 0)))) p := by
        refine .inr (.inr ⟨_, upd_same, ps.1, ?_⟩)
        by_cases c : ∃ kv ∈ kvs', kv.1 = spoiltK
        · have pk := ps.2.1 c
          have sk := slk_keys pk.1
          have l3 : (putK kvs' spoiltK (.int 0)).length = kvs'.length := by simpa using congrArg List.length pk.1
          omega
        · rw [ps.2.2 c, List.map_append, sw_app, List.length_append]
          have a1 := slk_not c
          have a2 : slk (kvs' ++ [(spoiltK, .int 0)]) = 0 := slk_has ⟨(spoiltK, .int 0), List.mem_append_right _ List.mem_cons_self, rfl⟩
          have a3 : sw ω ([(spoiltK, V.int 0)].map (·.2)) = 1 := rfl
          have a4 : [(spoiltK, V.int 0)].length = 1 := rfl
          omega
      dsimp only
      unfold sDPut
      walk_at "s"
      refine ⟨_, .inl ⟨kvs', spoiltK, d2, rfl, by show _ < 2 ^ 24; omega, rfl⟩, ?_⟩
      have W3 := W2.set hc
      have st3 : Stands ω (ω p) H (upd H2 p (.dK (putK kvs' spoiltK (.int 0)))) := (Stands.sm s1).trans (st2.trans (Stands.set hp (Nat.le_refl _)))
      have d3 : (upd H2 p (.dK (putK kvs' spoiltK (.int 0)))) p = some (.dK (putK kvs' spoiltK (.int 0))) := upd_same
      generalize (upd H2 p (.dK (putK kvs' spoiltK (.int 0)))) = H3 at W3 st3 d3 ⊢
      refine q_if ?_
      walk_at "s"
      refine ⟨by decide, fun tp ht => al ht fun H4 s4 h4 => ?_⟩
      try simp only [h4]
      simp only [tyN_dK (s4 _ _ d3)]
      walk_at "s"
      refine q_if1 ?_
      walk_at "s"
      simp only [tyN_dK (s4 _ _ d3)]
      walk_at "s"
      exact q H4 (W3.smm s4) (st3.trans (Stands.sm s4))
end XB

/-! Right values. -/
namespace XB
open PySem L2
local macro_rules | `(tactic| walk_at "s") => `(tactic| try simp only [u_var, u_c, u_op, u_un, u_nil, u_cons, u_cb, u_call, u_callS, u_tup, u_lst, u_test, u_B, u_and, u_or, u_not, u_andV, u_orV, u_notV, u_ifE, u_chain, u_sl, u_noPart, u_part, u_bm, u_bm0, u_rev, u_lc, u_try, u_sui, u_sui0, u_unb_rt, u_unb_nx, u_xf, u_WE, w_nil, w_cons, u_raise, u_rng1, u_rng2, u_next, u_ret, u_gname, u_gnil, u_gcons, u_gsub, u_gtup,
  f_add, f_addS, f_addR, f_sub, f_mul, f_mulR, f_mod, f_div, f_pow, f_neg, f_cmp, f_eq, f_eqB, f_eqS, f_ne, f_neB, f_neS, f_isN, f_notN, f_isB, f_ix, f_ixS, f_int, f_intB, f_len, f_lenS, f_max, f_min, f_abs, f_list, f_tuple, f_all, f_sum, f_isi, f_isiT, f_append, f_insert, f_pop, f_sl, f_set,
  kitS, tys, List.isEmpty_cons, Option.map_some, kt_NoneType_int, kt_NoneType_bool, kt_NoneType_str, kt_NoneType_list, kt_NoneType_tuple, kt_NoneType_dict, kt_int_int, kt_int_bool, kt_int_str, kt_int_list, kt_int_tuple, kt_int_dict, kt_bool_int, kt_bool_bool, kt_bool_str, kt_bool_list, kt_bool_tuple, kt_bool_dict, kt_str_int, kt_str_bool, kt_str_str, kt_str_list, kt_str_tuple, kt_str_dict, kt_list_int, kt_list_bool, kt_list_str, kt_list_list, kt_list_tuple, kt_list_dict, kt_tuple_int, kt_tuple_bool, kt_tuple_str, kt_tuple_list, kt_tuple_tuple, kt_tuple_dict, kt_dict_int, kt_dict_bool, kt_dict_str, kt_dict_list, kt_dict_tuple, kt_dict_dict, asL_lst, asL_frz, asL_tup, asT_tup, asS_lst, asS_frz, asS_tup, tyN_non, tyN_bl, tyN_int, tyN_str, atV_lit, ixN_lit, upd_same, upd_ne, upd_ne',
  List.getElem?_cons_zero, List.getElem?_cons_succ, List.set_cons_zero, List.set_cons_succ, List.append_nil, List.length_cons, List.length_nil, Option.some.injEq, exists_eq_left', exists_eq_left, exists_and_left, V.bl.injEq, V.int.injEq, V.str.injEq, V.ref.injEq, Bool.not_eq_true, Bool.not_true, Bool.not_false, decide_true, decide_false, decide_eq_true_eq, decide_eq_false_iff_not, Bool.false_eq_true, if_true, if_false, ite_true, ite_false, reduceCtorEq, true_and, and_true, Nat.reduceAdd, Nat.reduceLT, Nat.zero_add, ne_eq, not_false_eq_true, not_true_eq_false, List.cons.injEq, and_assoc])
local macro_rules | `(tactic| walk_at "S") => `(tactic| try simp only [u_var, u_c, u_op, u_un, u_nil, u_cons, u_cb, u_call, u_callS, u_tup, u_lst, u_test, u_B, u_and, u_or, u_not, u_andV, u_orV, u_notV, u_ifE, u_chain, u_sl, u_noPart, u_part, u_bm, u_bm0, u_rev, u_lc, u_try, u_sui, u_sui0, u_unb_rt, u_unb_nx, u_xf, u_WE, w_nil, w_cons, u_raise, u_rng1, u_rng2, u_next, u_ret, u_gname, u_gnil, u_gcons, u_gsub, u_gtup,
  f_add, f_addS, f_addR, f_sub, f_mul, f_mulR, f_mod, f_div, f_pow, f_neg, f_cmp, f_eq, f_eqB, f_eqS, f_ne, f_neB, f_neS, f_isN, f_notN, f_isB, f_ix, f_ixS, f_int, f_intB, f_len, f_lenS, f_max, f_min, f_abs, f_list, f_tuple, f_all, f_sum, f_isi, f_isiT, f_append, f_insert, f_pop, f_sl, f_set,
  kitS, tys, List.isEmpty_cons, Option.map_some, kt_NoneType_int, kt_NoneType_bool, kt_NoneType_str, kt_NoneType_list, kt_NoneType_tuple, kt_NoneType_dict, kt_int_int, kt_int_bool, kt_int_str, kt_int_list, kt_int_tuple, kt_int_dict, kt_bool_int, kt_bool_bool, kt_bool_str, kt_bool_list, kt_bool_tuple, kt_bool_dict, kt_str_int, kt_str_bool, kt_str_str, kt_str_list, kt_str_tuple, kt_str_dict, kt_list_int, kt_list_bool, kt_list_str, kt_list_list, kt_list_tuple, kt_list_dict, kt_tuple_int, kt_tuple_bool, kt_tuple_str, kt_tuple_list, kt_tuple_tuple, kt_tuple_dict, kt_dict_int, kt_dict_bool, kt_dict_str, kt_dict_list, kt_dict_tuple, kt_dict_dict, asL_lst, asL_frz, asL_tup, asT_tup, asS_lst, asS_frz, asS_tup, tyN_non, tyN_bl, tyN_int, tyN_str, atV_lit, ixN_lit, upd_same, upd_ne, upd_ne',
  List.getElem?_cons_zero, List.getElem?_cons_succ, List.set_cons_zero, List.set_cons_succ, List.append_nil, List.length_cons, List.length_nil, Option.some.injEq, exists_eq_left', exists_eq_left, exists_and_left, V.bl.injEq, V.int.injEq, V.str.injEq, V.ref.injEq, Bool.not_eq_true, Bool.not_true, Bool.not_false, decide_true, decide_false, decide_eq_true_eq, decide_eq_false_iff_not, Bool.false_eq_true, if_true, if_false, ite_true, ite_false, reduceCtorEq, true_and, and_true, Nat.reduceAdd, Nat.reduceLT, Nat.zero_add, ne_eq, not_false_eq_true, not_true_eq_false, List.cons.injEq, and_assoc, *])
def Words (zs : List Str) : Prop := zs.length = 3 ∧ ∀ z ∈ zs, 1 ≤ z.length ∧ z.length ≤ 8 ∧ asciiZ z
/-- a value that is bent later -/
def Rv (ρ ω : Addr → Nat) (H : Hp) (x : V) : Prop := Gd ρ ω 2 x ∧ SmV ω H 2 x ∧ wv ω x ≤ 40
section
variable {K : PySem.W.Frag} {C : CA} {Q : VK} {E : XK} {st r p : Addr} {ρ ω ρ1 ω1 : Addr → Nat} {H H1 H2 : Hp} {x : V} {xs : List V} {zs : List Str}
theorem Words.fl {z : Str} (w : Words zs) (h : z ∈ zs) : FlS (.str z) := by
  have := w.2 z h
  exact .inr (.inr (.inr ⟨z, rfl, by omega, this.2.2⟩))
theorem fls_int {i : Int} (h : i.natAbs < 10 ^ 31) : FlS (.int i) := .inr (.inr (.inl ⟨i, rfl, h⟩))
theorem fls_dash : FlS (.str ("-" : Str)) := .inr (.inr (.inr ⟨_, rfl, by decide, by unfold asciiZ; decide +kernel⟩))
theorem pickw (w : Words zs) (hs : StAt H st) (hr : H r = some (.lst (zs.map V.str))) (nr : r ≠ st) (q : ∀ z H', z ∈ zs → Kp st H H' → StAt H' st → Q (.str z) H') : sp_l_pick K C [.ref st, .ref r] H Q E := by
  refine pick_ok hs (asS_at hr) nr (by rw [List.length_map, w.1]; decide) (by intro e; have := congrArg List.length e; rw [List.length_map, w.1] at this; cases this) fun n v H' hv k s => ?_
  rw [List.getElem?_map, Option.map_eq_some_iff] at hv
  obtain ⟨z, hz, rfl⟩ := hv
  exact q z H' (List.mem_of_getElem? hz) k s
theorem Rv.fl (h : FlS x) : Rv ρ ω H x := ⟨.inl h.fl, .inl h, by rw [fl_wv h.fl]; decide⟩
theorem Rv.mk (m : Mk st H ρ ω H1 ρ1 ω1) (z : ω st = 0) (h : Rv ρ ω H x) : Rv ρ1 ω1 H1 x := ⟨m.gd h.1, h.2.1.mk m z, by rw [m.wv h.1]; exact h.2.2⟩
theorem SmV.put {o : HO} (z : ω p = 0) : ∀ {n : Nat} {x : V}, SmV ω H n x → SmV ω (upd H p o) n x
  | 0, _, h => h
  | n + 1, x, h => by
    rcases h with h | ⟨q, xs, e, hq, hl, g⟩
    · exact .inl h
    · have nq : q ≠ p := fun c => by rw [c, z] at hq; omega
      exact .inr ⟨q, xs, e, hq, by rw [upd_ne nq]; exact hl, fun y hy => SmV.put z (g y hy)⟩
theorem SmV.fu {b : Nat} (hb : 0 < b) : ∀ {n : Nat} {x : V}, SmV ω H n x → SmV (fu ω p b) H n x
  | 0, _, h => h
  | n + 1, x, h => by
    rcases h with h | ⟨q, xs, e, hq, hl, g⟩
    · exact .inl h
    · refine .inr ⟨q, xs, e, ?_, hl, fun y hy => SmV.fu hb (g y hy)⟩
      by_cases c : q = p
      · rw [c, fu_same]; exact hb
      · rw [fu_ne c]; exact hq
theorem SmV.up : ∀ {n : Nat} {x : V}, SmV ω H n x → SmV ω H (n + 1) x
  | 0, _, h => .inl h
  | n + 1, x, h => by
    rcases h with h | ⟨q, xs, e, hq, hl, g⟩
    · exact .inl h
    · exact .inr ⟨q, xs, e, hq, hl, fun y hy => SmV.up (g y hy)⟩
theorem sw_fls : ∀ {xs : List V}, (∀ x ∈ xs, FlS x) → sw ω xs = xs.length
  | [], _ => rfl
  | x :: r, h => by
    simp only [sw, List.length_cons]
    rw [fl_wv (h x List.mem_cons_self).fl, sw_fls fun y hy => h y (List.mem_cons_of_mem _ hy)]
    omega
theorem Bs.tup (b : Bs st ρ ω H) (np : H p = none) (s : Sm H H1) (h : H1 p = some (.tup xs)) (f : ∀ x ∈ xs, FlS x) (l : xs.length ≤ 10) : ∃ ρ1 ω1, Mk st H ρ ω H1 ρ1 ω1 ∧ Rv ρ1 ω1 H1 (.ref p) ∧ Gd ρ1 ω1 1 (.ref p) ∧ SmV ω1 H1 1 (.ref p) ∧ wv ω1 (.ref p) ≤ xs.length + 1 := by
  have m := b.mk'.newT (a := 0) (b := xs.length + 1) np s h (fun x hx => .inl (f x hx).fl) (by rw [sw_fls f]; omega)
  have w : wv (fu ω p (xs.length + 1)) (.ref p) = xs.length + 1 := wv_new
  have g1 : Gd (fu ρ p 0) (fu ω p (xs.length + 1)) 1 (.ref p) := gd_new (by omega) (by omega)
  have pos : 0 < (fu ω p (xs.length + 1)) p := by rw [fu_same]; omega
  exact ⟨_, _, m, ⟨g1.mono (by omega), .inr ⟨p, xs, rfl, pos, .inr h, fun x hx => .inl (f x hx)⟩, by omega⟩, g1, .inr ⟨p, xs, rfl, pos, .inr h, fun x hx => f x hx⟩, by omega⟩
end
def sp_l_rights (K : PySem.W.Frag) (C : CA) : Sp := fun vs H Q _ => ∃ st ρ ω r zs, vs = [.ref st, .ref r] ∧ Bs st ρ ω H ∧ H r = some (.lst (zs.map V.str)) ∧ r ≠ st ∧ Words zs ∧
  ∀ ρ1 ω1 H1 p xs, Mk st H ρ ω H1 ρ1 ω1 → H p = none → ω1 p = 0 → H1 p = some (.lst xs) → xs.length = 12 → (∀ x ∈ xs, Rv ρ1 ω1 H1 x) → Q (.ref p) H1
def rd_l_rights (K : PySem.W.Frag) (C : CA) (E : XK) : TS :=
  (tSeq (tAsg (tCallS (sp_l_pick K C) (fun _ => E0) (tCons (tVar 0) (tCons (tVar 1) tNil))) (gName 2)) (tSeq (tAsg (tCallS (sp_l_pick K C) (fun _ => E0) (tCons (tVar 0) (tCons (tVar 1) tNil))) (gName 3)) (tSeq (tAsg (tCallS (sp_l_edge K C) (fun _ => E0) (tCons (tVar 0) (tCons (tC (.int 0)) (tCons (tC (.int 6)) tNil)))) (gName 4)) (tSeq (tAsg (tCB fTuple (tCons (tLc (iRng1 (tCons (tCallS (sp_l_edge K C) (fun _ => E0) (tCons (tVar 0) (tCons (tC (.int 1)) (tCons (tC (.int 7)) tNil)))) tNil)) (gName 8) tYes (tCallS (sp_l_pick K C) (fun _ => E0) (tCons (tVar 0) (tCons (tVar 1) tNil))) [8]) tNil)) (gName 5)) (tSeq (tAsg (tLc (iRng1 (tCons (tCallS (sp_l_take K C) (fun _ => E0) (tCons (tVar 0) (tCons (tC (.int 4)) tNil))) tNil)) (gName 8) tYes (tTup (tCons (tCallS (sp_l_pick K C) (fun _ => E0) (tCons (tVar 0) (tCons (tVar 1) tNil))) (tCons (tVar 3) (tCons (tCallS (sp_l_take K C) (fun _ => E0) (tCons (tVar 0) (tCons (tC (.int 7)) tNil))) tNil)))) [8]) (gName 6)) (tSeq (tAsg (tLst (tCons (tVar 2) (tCons (tC (.str ("-" : Str))) (tCons (tVar 4) (tCons (tCB fAbs (tCons (tCallS (sp_l_number K C) (fun _ => E0) (tCons (tVar 0) tNil)) tNil)) (tCons (tVar 5) (tCons (tTup (tCons (tVar 4) (tCons (tVar 3) tNil))) (tCons (tTup (tCons (tCB fMin (tCons (tVar 4) (tCons (tC (.int 5)) tNil))) (tCons (tVar 2) (tCons (tVar 3) tNil)))) tNil)))))))) (gName 7)) (tRet (tOp fAdd (tVar 7) (tLst (tCons (tTup (tCons (tVar 4) (tCons (tVar 2) (tCons (tC (.str ("-" : Str))) tNil)))) (tCons (tTup (tCons (tVar 2) (tCons (tVar 3) (tCons (tVar 4) tNil)))) (tCons (tVar 6) (tCons (tTup (tCons (tVar 2) (tCons (tVar 4) (tCons (tVar 3) tNil)))) (tCons (tTup (tCons (tVar 2) (tCons (tVar 4) (tCons (tC (.str ("-" : Str))) tNil)))) tNil))))))))))))))
theorem pure_l_rights {K : PySem.W.Frag} {C : CA} (vs : List V) (H : Hp) (Q : VK) (E : XK) (h : sp_l_rights K C vs H Q E) : rd_l_rights K C E { nx := fun _ H' => Q .non H', rt := Q } (start [("store" : Str), ("row" : Str), ("name" : Str), ("other" : Str), ("day" : Str), ("plan" : Str), ("deeds" : Str), ("found" : Str), ("k" : Str)] vs) H := by
  obtain ⟨st, ρ, ω, r, zs, rfl, B, hr, nr, w, q⟩ := h
  show rd_l_rights K C E _ [some (.ref st), some (.ref r), none, none, none, none, none, none, none] H
  unfold rd_l_rights
  have hs := B.sa
  refine q_asg ?_
  walk_at "s"
  refine pickw w hs hr nr fun z1 H1 m1 k1 s1 => ?_
  have f1 := w.fl m1
  have r1 := k1.1 _ _ nr hr
  walk_at "s"
  refine q_asg ?_
  walk_at "s"
  refine pickw w s1 r1 nr fun z2 H2 m2 k2' s2 => ?_
  have f2 := w.fl m2
  have k2 := k1.trans k2'
  have r2 := k2.1 _ _ nr hr
  walk_at "s"
  refine q_asg ?_
  walk_at "s"
  refine edge_ok s2 fun d H3 d0 d1 k3' s3 => ?_
  have k3 := k2.trans k3'
  have fd : FlS (.int d) := fls_int (by omega)
  have r3 := k3.1 _ _ nr hr
  walk_at "s"
  refine q_asg ?_
  walk_at "s"
  refine edge_ok s3 fun n H4 n0 n1 k4' s4 => ?_
  have k4 := k3.trans k4'
  have r4 := k4.1 _ _ nr hr
  walk_at "s"
  refine ⟨by omega, by omega, fun Dd hD => ?_⟩
  have nD := s4.ne hD
  have hD0 : H Dd = none := kp_none' k4 hD s4
  refine made_range (fun i H' => Kp st H H' ∧ StAt H' st ∧ ∃ acc, H' Dd = some (.lst acc) ∧ acc.length ≤ i ∧ ∀ x ∈ acc, FlS x) ⟨k4.put' hD0 nD, hs.put' hD0 k4 s4, [], upd_same, Nat.le_refl 0, fun x hx => by cases hx⟩ (fun i H5 hi p => ⟨rfl, ?_⟩) fun H5 p => ?_
  · obtain ⟨k5, s5, acc, h5, l5, g5⟩ := p
    refine iteT (B := True) ?_
    walk_at "s"
    refine pickw w s5 (k5.1 _ _ nr hr) nr fun z H6 mz k6 s6 => ?_
    have k56 := k5.trans k6
    refine ⟨acc, k6.1 _ _ nD h5, by show _ < 2 ^ 24; omega, k56.put' hD0 nD, hs.put' hD0 k56 s6, _, rfl, by rw [List.length_append]; show _ + 1 ≤ _; omega, fun x hx => ?_⟩
    rcases List.mem_append.mp hx with hx | hx
    · exact g5 x hx
    · rw [List.mem_singleton] at hx
      rw [hx]
      exact w.fl mz
  obtain ⟨k5, s5, acc, h5, l5, g5⟩ := p
  rw [asL_at h5]
  refine fun l nl => al nl fun H6 t6 h6 => ?_
  have B5 := B.kp k5 s5
  obtain ⟨ρ6, ω6, m6', rp6, _⟩ := B5.tup nl t6 h6 g5 (by omega)
  have m6 := (B.mk'.kpp k5 s5).trans m6'
  have B6 := m6.bs
  refine q_asg ?_
  walk_at "s"
  refine take_ok B6.sa (by decide) fun n2 H7 n20 n21 k7 s7 => ?_
  walk_at "s"
  refine ⟨by omega, by omega, fun De hE => ?_⟩
  have m7 : Mk st H6 ρ6 ω6 H7 ρ6 ω6 := B6.mk'.kpp k7 s7
  have hE6 : H6 De = none := m7.nn hE
  have nE := B6.sa.ne hE6
  have zE := B6.wt.zero hE6
  refine made_range (fun i H' => ∃ ρ7 ω7 acc, Mk st H6 ρ6 ω6 H' ρ7 ω7 ∧ H' De = some (.lst acc) ∧ ω7 De = 0 ∧ acc.length ≤ i ∧ ∀ x ∈ acc, Gd ρ7 ω7 1 x ∧ SmV ω7 H' 1 x ∧ wv ω7 x ≤ 4) ⟨ρ6, ω6, [], m7.put B6 hE6 zE, upd_same, zE, Nat.le_refl 0, fun x hx => by cases hx⟩ (fun i H8 hi p => ⟨rfl, ?_⟩) fun H8 p => ?_
  · obtain ⟨ρ7, ω7, acc, m8, h8, z8, l8, g8⟩ := p
    refine iteT (B := True) ?_
    walk_at "s"
    have r8 := (m6.trans m8).kp.1 _ _ nr hr
    refine pickw w m8.bs.sa r8 nr fun z H9 mz k9 s9 => ?_
    refine take_ok s9 (by decide) fun t H10 t0 t1 k10 s10 => ?_
    have m10 : Mk st H8 ρ7 ω7 H10 ρ7 ω7 := m8.bs.mk'.kpp (k9.trans k10) s10
    walk_at "s"
    refine ⟨by decide, fun pt nt => al nt fun H11 t11 h11 => ?_⟩
    obtain ⟨ρ8, ω8, m11', _, g11, v11, w11⟩ := m10.bs.tup nt t11 h11 (fun x hx => by
      simp only [List.mem_cons, List.not_mem_nil, or_false] at hx
      rcases hx with rfl | rfl | rfl
      · exact w.fl mz
      · exact f2
      · exact fls_int (by omega)) (by show 3 ≤ 10; decide)
    have m11 := m10.trans m11'
    have z11 := m11.off z8 (by rw [h8]; exact fun z => by cases z)
    refine ⟨acc, m11.kp.1 _ _ nE h8, by show _ < 2 ^ 24; omega, ρ8, ω8, (m8.trans m11).put B6 hE6 z11, _, rfl, z11, by rw [List.length_append]; show _ + 1 ≤ _; omega, fun x hx => ?_⟩
    rcases List.mem_append.mp hx with hx | hx
    · obtain ⟨a1, a2, a3⟩ := g8 x hx
      exact ⟨m11.gd a1, (a2.mk m11 m8.bs.z).put z11, by rw [m11.wv a1]; exact a3⟩
    · rw [List.mem_singleton] at hx
      rw [hx]
      exact ⟨g11, v11.put z11, w11⟩
  obtain ⟨ρ7, ω7, dacc, m8, h8, z8, l8, g8⟩ := p
  have ld : dacc.length ≤ 3 := by omega
  have sd : sw ω7 dacc ≤ 3 * 4 := Nat.le_trans (sw_le fun x hx => (g8 x hx).2.2) (Nat.mul_le_mul_right _ ld)
  have m9 := m8.addL (a := 1) (b := 15) hE6 z8 nE h8 (fun x hx => (g8 x hx).1) (by omega)
  have rd9 : Rv (fu ρ7 De 1) (fu ω7 De 15) H8 (.ref De) := ⟨gd_new (by decide) (by decide), .inr ⟨De, dacc, rfl, by rw [fu_same]; decide, .inl h8, fun x hx => ((g8 x hx).2.1).fu (by decide)⟩, by rw [wv_new]; decide⟩
  have rp9 := rp6.mk m9 B6.z
  have M9 := m6.trans m9
  generalize fu ρ7 De 1 = ρ9, fu ω7 De 15 = ω9 at m9 rd9 rp9 M9
  walk_at "s"
  refine q_asg ?_
  walk_at "s"
  refine number_ok M9.bs.sa fun nn H9 nn0 nn1 k9 s9 => ?_
  walk_at "s"
  have m10 := M9.kpp k9 s9
  have x10 : Mk st H8 ρ9 ω9 H9 ρ9 ω9 := M9.bs.mk'.kpp k9 s9
  have rd10 := rd9.mk x10 M9.bs.z
  have rp10 := rp9.mk x10 M9.bs.z
  have f3 : ∀ {a b c : V}, FlS a → FlS b → FlS c → ∀ x ∈ [a, b, c], FlS x := fun ha hb hc x hx => by
    simp only [List.mem_cons, List.not_mem_nil, or_false] at hx
    rcases hx with rfl | rfl | rfl
    · exact ha
    · exact hb
    · exact hc
  have f2' : ∀ {a b : V}, FlS a → FlS b → ∀ x ∈ [a, b], FlS x := fun ha hb x hx => by
    simp only [List.mem_cons, List.not_mem_nil, or_false] at hx
    rcases hx with rfl | rfl
    · exact ha
    · exact hb
  have three : ∀ {a b c : V}, [a, b, c].length ≤ 10 := fun {a b c} => by show 3 ≤ 10; decide
  refine ⟨by decide, fun pa na => al na fun Ha ta ha => ?_⟩
  obtain ⟨ρa, ωa, xa, ra, _⟩ := m10.bs.tup na ta ha (f2' fd f2) (by show 2 ≤ 10; decide)
  have ma := m10.trans xa
  refine ⟨by decide, fun pb nb => al nb fun Hb tb hb => ?_⟩
  obtain ⟨ρb, ωb, xb, rb, _⟩ := ma.bs.tup nb tb hb (f3 (fls_int (i := min d 5) (by omega)) f1 f2) three
  have mb := ma.trans xb
  refine ⟨by show 7 ≤ 2 ^ 24; decide, fun pc nc => al nc fun Hc tc hc => ?_⟩
  have xc : Mk st Hb ρb ωb Hc ρb ωb := mb.bs.mk'.sm tc
  have mc := mb.trans xc
  refine ⟨by decide, fun pd nd => al nd fun Hd td hd => ?_⟩
  obtain ⟨ρd, ωd, xd, rd, _⟩ := mc.bs.tup nd td hd (f3 fd f1 fls_dash) three
  have md := mc.trans xd
  refine ⟨by decide, fun pe ne => al ne fun He te he => ?_⟩
  obtain ⟨ρe, ωe, xe, re, _⟩ := md.bs.tup ne te he (f3 f1 f2 fd) three
  have me := md.trans xe
  refine ⟨by decide, fun pf nf => al nf fun Hf tf hf => ?_⟩
  obtain ⟨ρf, ωf, xf, rf, _⟩ := me.bs.tup nf tf hf (f3 f1 fd f2) three
  have mf := me.trans xf
  refine ⟨by decide, fun pg ng => al ng fun Hg tg hg => ?_⟩
  obtain ⟨ρg, ωg, xg, rg, _⟩ := mf.bs.tup ng tg hg (f3 f1 fd fls_dash) three
  have mg := mf.trans xg
  refine ⟨by show 5 ≤ 2 ^ 24; decide, fun ph nh => al nh fun Hh th hh => ?_⟩
  have xh : Mk st Hg ρg ωg Hh ρg ωg := mg.bs.mk'.sm th
  have mh := mg.trans xh
  have hc' : Hh pc = some (.lst _) := th _ _ (tg _ _ (tf _ _ (te _ _ (td _ _ hc))))
  walk_at "s"
  rw [hc']
  dsimp only
  refine ⟨by show 12 ≤ 2 ^ 24; decide, fun pi ni => al ni fun Hi ti hi => ?_⟩
  have xi : Mk st Hh ρg ωg Hi ρg ωg := mh.bs.mk'.sm ti
  have yg := xh.trans xi
  have yf := xg.trans yg
  have ye := xf.trans yf
  have yd := xe.trans ye
  have yc := xd.trans yd
  have yb := xc.trans yc
  have ya := xb.trans yb
  have y0 := xa.trans ya
  have hi : Hi pi = some (.lst [V.str z1, V.str (Str.ofString "-"), V.int d, V.int (if nn < 0 then -nn else nn), V.ref l, V.ref pa, V.ref pb, V.ref pd, V.ref pe, V.ref De, V.ref pf, V.ref pg]) := hi
  refine q ρg ωg Hi pi _ (mh.trans xi) (mh.nn ni) (mh.bs.wt.zero ni) hi rfl fun x hx => ?_
  simp only [List.mem_cons, List.not_mem_nil, or_false] at hx
  rcases hx with rfl | rfl | rfl | rfl | rfl | rfl | rfl | rfl | rfl | rfl | rfl | rfl
  · exact Rv.fl f1
  · exact Rv.fl fls_dash
  · exact Rv.fl fd
  · refine Rv.fl (fls_int ?_)
    split <;> omega
  · exact rp10.mk y0 m10.bs.z
  · exact ra.mk ya ma.bs.z
  · exact rb.mk yb mb.bs.z
  · exact rd.mk yd md.bs.z
  · exact re.mk ye me.bs.z
  · exact rd10.mk y0 m10.bs.z
  · exact rf.mk yf mf.bs.z
  · exact rg.mk yg mg.bs.z
end XB

/-! Values at the edges. -/
namespace XB
open PySem L2
local macro_rules | `(tactic| walk_at "s") => `(tactic| try simp only [u_var, u_c, u_op, u_un, u_nil, u_cons, u_cb, u_call, u_callS, u_tup, u_lst, u_test, u_B, u_and, u_or, u_not, u_andV, u_orV, u_notV, u_ifE, u_chain, u_sl, u_noPart, u_part, u_bm, u_bm0, u_rev, u_lc, u_try, u_sui, u_sui0, u_unb_rt, u_unb_nx, u_xf, u_WE, w_nil, w_cons, u_raise, u_rng1, u_rng2, u_next, u_ret, u_gname, u_gnil, u_gcons, u_gsub, u_gtup,
  f_add, f_addS, f_addR, f_sub, f_mul, f_mulR, f_mod, f_div, f_pow, f_neg, f_cmp, f_eq, f_eqB, f_eqS, f_ne, f_neB, f_neS, f_isN, f_notN, f_isB, f_ix, f_ixS, f_int, f_intB, f_len, f_lenS, f_max, f_min, f_abs, f_list, f_tuple, f_all, f_sum, f_isi, f_isiT, f_append, f_insert, f_pop, f_sl, f_set,
  kitS, tys, List.isEmpty_cons, Option.map_some, kt_NoneType_int, kt_NoneType_bool, kt_NoneType_str, kt_NoneType_list, kt_NoneType_tuple, kt_NoneType_dict, kt_int_int, kt_int_bool, kt_int_str, kt_int_list, kt_int_tuple, kt_int_dict, kt_bool_int, kt_bool_bool, kt_bool_str, kt_bool_list, kt_bool_tuple, kt_bool_dict, kt_str_int, kt_str_bool, kt_str_str, kt_str_list, kt_str_tuple, kt_str_dict, kt_list_int, kt_list_bool, kt_list_str, kt_list_list, kt_list_tuple, kt_list_dict, kt_tuple_int, kt_tuple_bool, kt_tuple_str, kt_tuple_list, kt_tuple_tuple, kt_tuple_dict, kt_dict_int, kt_dict_bool, kt_dict_str, kt_dict_list, kt_dict_tuple, kt_dict_dict, asL_lst, asL_frz, asL_tup, asT_tup, asS_lst, asS_frz, asS_tup, tyN_non, tyN_bl, tyN_int, tyN_str, atV_lit, ixN_lit, upd_same, upd_ne, upd_ne',
  List.getElem?_cons_zero, List.getElem?_cons_succ, List.set_cons_zero, List.set_cons_succ, List.append_nil, List.length_cons, List.length_nil, Option.some.injEq, exists_eq_left', exists_eq_left, exists_and_left, V.bl.injEq, V.int.injEq, V.str.injEq, V.ref.injEq, Bool.not_eq_true, Bool.not_true, Bool.not_false, decide_true, decide_false, decide_eq_true_eq, decide_eq_false_iff_not, Bool.false_eq_true, if_true, if_false, ite_true, ite_false, reduceCtorEq, true_and, and_true, Nat.reduceAdd, Nat.reduceLT, Nat.zero_add, ne_eq, not_false_eq_true, not_true_eq_false, List.cons.injEq, and_assoc])
local macro_rules | `(tactic| walk_at "S") => `(tactic| try simp only [u_var, u_c, u_op, u_un, u_nil, u_cons, u_cb, u_call, u_callS, u_tup, u_lst, u_test, u_B, u_and, u_or, u_not, u_andV, u_orV, u_notV, u_ifE, u_chain, u_sl, u_noPart, u_part, u_bm, u_bm0, u_rev, u_lc, u_try, u_sui, u_sui0, u_unb_rt, u_unb_nx, u_xf, u_WE, w_nil, w_cons, u_raise, u_rng1, u_rng2, u_next, u_ret, u_gname, u_gnil, u_gcons, u_gsub, u_gtup,
  f_add, f_addS, f_addR, f_sub, f_mul, f_mulR, f_mod, f_div, f_pow, f_neg, f_cmp, f_eq, f_eqB, f_eqS, f_ne, f_neB, f_neS, f_isN, f_notN, f_isB, f_ix, f_ixS, f_int, f_intB, f_len, f_lenS, f_max, f_min, f_abs, f_list, f_tuple, f_all, f_sum, f_isi, f_isiT, f_append, f_insert, f_pop, f_sl, f_set,
  kitS, tys, List.isEmpty_cons, Option.map_some, kt_NoneType_int, kt_NoneType_bool, kt_NoneType_str, kt_NoneType_list, kt_NoneType_tuple, kt_NoneType_dict, kt_int_int, kt_int_bool, kt_int_str, kt_int_list, kt_int_tuple, kt_int_dict, kt_bool_int, kt_bool_bool, kt_bool_str, kt_bool_list, kt_bool_tuple, kt_bool_dict, kt_str_int, kt_str_bool, kt_str_str, kt_str_list, kt_str_tuple, kt_str_dict, kt_list_int, kt_list_bool, kt_list_str, kt_list_list, kt_list_tuple, kt_list_dict, kt_tuple_int, kt_tuple_bool, kt_tuple_str, kt_tuple_list, kt_tuple_tuple, kt_tuple_dict, kt_dict_int, kt_dict_bool, kt_dict_str, kt_dict_list, kt_dict_tuple, kt_dict_dict, asL_lst, asL_frz, asL_tup, asT_tup, asS_lst, asS_frz, asS_tup, tyN_non, tyN_bl, tyN_int, tyN_str, atV_lit, ixN_lit, upd_same, upd_ne, upd_ne',
  List.getElem?_cons_zero, List.getElem?_cons_succ, List.set_cons_zero, List.set_cons_succ, List.append_nil, List.length_cons, List.length_nil, Option.some.injEq, exists_eq_left', exists_eq_left, exists_and_left, V.bl.injEq, V.int.injEq, V.str.injEq, V.ref.injEq, Bool.not_eq_true, Bool.not_true, Bool.not_false, decide_true, decide_false, decide_eq_true_eq, decide_eq_false_iff_not, Bool.false_eq_true, if_true, if_false, ite_true, ite_false, reduceCtorEq, true_and, and_true, Nat.reduceAdd, Nat.reduceLT, Nat.zero_add, ne_eq, not_false_eq_true, not_true_eq_false, List.cons.injEq, and_assoc, *])
def Vok (ρ ω : Addr → Nat) (x : V) : Prop := Gd ρ ω 12 x ∧ wv ω x ≤ 1000
theorem Vok.mk {st : Addr} {ρ ω ρ1 ω1 : Addr → Nat} {H H1 : Hp} {x : V} (m : Mk st H ρ ω H1 ρ1 ω1) (h : Vok ρ ω x) : Vok ρ1 ω1 x := ⟨m.gd h.1, by rw [m.wv h.1]; exact h.2⟩
theorem Rv.vok {ρ ω : Addr → Nat} {H : Hp} {x : V} (h : Rv ρ ω H x) : Vok ρ ω x := ⟨h.1.mono (by decide), Nat.le_trans h.2.2 (by decide)⟩
theorem FlS.vok {ρ ω : Addr → Nat} {x : V} (h : FlS x) : Vok ρ ω x := ⟨.inl h.fl, by rw [fl_wv h.fl]; decide⟩
theorem rep_sw {ω : Addr → Nat} {v : V} : ∀ {k : Nat}, sw ω (List.replicate k [v]).flatten = k * wv ω v ∧ (List.replicate k [v]).flatten.length = k ∧ ∀ x ∈ (List.replicate k [v]).flatten, x = v
  | 0 => ⟨by simp [sw], by simp, by simp⟩
  | k + 1 => by
    have ih := rep_sw (ω := ω) (v := v) (k := k)
    rw [List.replicate_succ, List.flatten_cons]
    refine ⟨by rw [sw_app, ih.1, sw_one, Nat.succ_mul]; omega, by rw [List.length_append, ih.2.1]; show 1 + k = k + 1; omega, fun x hx => ?_⟩
    rcases List.mem_append.mp hx with hx | hx
    · exact List.mem_singleton.mp hx
    · exact ih.2.2 x hx
/-- the deeds that are many, not yet among the values -/
def RowE (st r : Addr) (H : Hp) (ρ ω : Addr → Nat) (z1 : Str) (pl : V) (pt : Addr) (σ : L2.St) (H' : Hp) : Prop :=
  ∃ (pd : Addr) (ys : List V) (ρ1 ω1 : Addr → Nat), σ = [some (.ref st), some (.ref r), some (.str z1), some pl, some (.ref pt), some (.ref pd), none, none] ∧ Mk st H ρ ω H' ρ1 ω1 ∧ H pd = none ∧ ω1 pd = 0 ∧ H' pd = some (.lst ys) ∧ ys.length ≤ 61 ∧ 59 ≤ ys.length ∧ (∀ y ∈ ys, Gd ρ1 ω1 4 y) ∧ sw ω1 ys ≤ 300
def sp_l_edged (K : PySem.W.Frag) (C : CA) : Sp := fun vs H Q _ => ∃ st ρ ω r zs, vs = [.ref st, .ref r] ∧ Bs st ρ ω H ∧ H r = some (.lst (zs.map V.str)) ∧ r ≠ st ∧ Words zs ∧
  ∀ ρ1 ω1 H1 p xs, Mk st H ρ ω H1 ρ1 ω1 → H p = none → ω1 p = 0 → H1 p = some (.lst xs) → xs.length = 9 → (∀ x ∈ xs, Vok ρ1 ω1 x) → Q (.ref p) H1
def rd_l_edged (K : PySem.W.Frag) (C : CA) (E : XK) : TS :=
  (tSeq (tAsg (tCallS (sp_l_pick K C) (fun _ => E0) (tCons (tVar 0) (tCons (tVar 1) tNil))) (gName 2)) (tSeq (tAsg (tCallS (sp_l_pick K C) (fun _ => E0) (tCons (tVar 0) (tCons (tOp fAdd (tVar 1) (tLst (tCons (tC (.str ("-" : Str))) tNil))) tNil))) (gName 3)) (tSeq (tAsg (tTup (tCons (tVar 2) (tCons (tCallS (sp_l_pick K C) (fun _ => E0) (tCons (tVar 0) (tCons (tVar 1) tNil))) (tCons (tCallS (sp_l_take K C) (fun _ => E0) (tCons (tVar 0) (tCons (tC (.int 7)) tNil))) tNil)))) (gName 4)) (tSeq (tAsg (tOp rRep (tLst (tCons (tVar 4) tNil)) (tOp fAdd (tC (.int 59)) (tCallS (sp_l_take K C) (fun _ => E0) (tCons (tVar 0) (tCons (tC (.int 3)) tNil))))) (gName 5)) (Evl.tCut (tIfS (tTest (tOp (fEq K) (tCallS (sp_l_take K C) (fun _ => E0) (tCons (tVar 0) (tCons (tC (.int 2)) tNil))) (tC (.int 0)))) (tAsg (tCallS (sp_l_bent K C) (fun _ => E0) (tCons (tVar 0) (tCons (tVar 4) tNil))) (gSub (tVar 5) (tCallS (sp_l_take K C) (fun _ => E0) (tCons (tVar 0) (tCons (tCB fLen (tCons (tVar 5) tNil)) tNil))) fSet)) tNext) (tSeq (tAsg (tOp fSub (tCallS (sp_l_take K C) (fun _ => E0) (tCons (tVar 0) (tCons (tC (.int 9)) tNil))) (tC (.int 1))) (gName 6)) (tSeq (tAsg (tLst (tCons (tVar 5) (tCons (tOp (rRepT K) (tTup (tCons (tVar 2) tNil)) (tOp fAdd (tC (.int 6)) (tCallS (sp_l_take K C) (fun _ => E0) (tCons (tVar 0) (tCons (tC (.int 3)) tNil))))) (tCons (tOp fMulS (tOp fIx (tVar 2) (tC (.int 0))) (tOp fAdd (tC (.int 7)) (tCallS (sp_l_take K C) (fun _ => E0) (tCons (tVar 0) (tCons (tC (.int 3)) tNil))))) (tCons (tVar 6) (tCons (tTup (tCons (tVar 6) (tCons (tVar 3) tNil))) tNil)))))) (gName 7)) (tRet (tOp fAdd (tVar 7) (tLst (tCons (tTup (tCons (tOp fAdd (tC (.int 4)) (tCallS (sp_l_take K C) (fun _ => E0) (tCons (tVar 0) (tCons (tC (.int 4)) tNil)))) (tCons (tVar 2) (tCons (tVar 3) tNil)))) (tCons (tTup (tCons (tVar 6) (tCons (tVar 2) (tCons (tVar 3) tNil)))) (tCons (tTup (tCons (tVar 2) (tCons (tVar 6) (tCons (tVar 3) tNil)))) (tCons (tTup (tCons (tVar 2) (tCons (tVar 3) (tCons (tVar 6) tNil)))) tNil))))))))))))))
theorem pure_l_edged {K : PySem.W.Frag} {C : CA} (vs : List V) (H : Hp) (Q : VK) (E : XK) (h : sp_l_edged K C vs H Q E) : rd_l_edged K C E { nx := fun _ H' => Q .non H', rt := Q } (start [("store" : Str), ("row" : Str), ("name" : Str), ("place" : Str), ("deed" : Str), ("deeds" : Str), ("day" : Str), ("found" : Str)] vs) H := by
  obtain ⟨st, ρ, ω, r, zs, rfl, B, hr, nr, w, q⟩ := h
  show rd_l_edged K C E _ [some (.ref st), some (.ref r), none, none, none, none, none, none] H
  unfold rd_l_edged
  have hs := B.sa
  refine q_asg ?_
  walk_at "s"
  refine pickw w hs hr nr fun z1 H1 mz1 k1 s1 => ?_
  have f1 := w.fl mz1
  have r1 := k1.1 _ _ nr hr
  walk_at "s"
  refine q_asg ?_
  walk_at "s"
  refine ⟨by decide, fun pa na => al na fun H2 t2 h2 => ?_⟩
  have k2 := k1.trans (kp_sm t2)
  have s2 := s1.sm t2
  rw [t2 _ _ r1]
  dsimp only
  refine ⟨by rw [List.length_map, w.1]; show 3 + 1 ≤ 2 ^ 24; decide, fun pb nb => al nb fun H3 t3 h3 => ?_⟩
  have k3 := k2.trans (kp_sm t3)
  have s3 := s2.sm t3
  refine pick_ok s3 (asS_at h3) (s2.ne nb) (by rw [List.length_append, List.length_map, w.1]; show 3 + 1 < 2 ^ 60; decide) (by simp) fun n pl H4 hv k4' s4 => ?_
  have k4 := k3.trans k4'
  have fp : FlS pl := by
    have := List.mem_of_getElem? hv
    rcases List.mem_append.mp this with hx | hx
    · obtain ⟨z, hz, rfl⟩ := List.mem_map.mp hx
      exact w.fl hz
    · rw [List.mem_singleton] at hx
      rw [hx]
      exact fls_dash
  walk_at "s"
  refine q_asg ?_
  walk_at "s"
  refine pickw w s4 (k4.1 _ _ nr hr) nr fun z2 H5 mz2 k5' s5 => ?_
  have f2 := w.fl mz2
  have k5 := k4.trans k5'
  walk_at "s"
  refine take_ok s5 (by decide) fun t H6 t0 t1 k6' s6 => ?_
  have k6 := k5.trans k6'
  walk_at "s"
  refine ⟨by decide, fun pt nt => al nt fun H7 t7 h7 => ?_⟩
  have f3 : ∀ {a b c : V}, FlS a → FlS b → FlS c → ∀ x ∈ [a, b, c], FlS x := fun ha hb hc x hx => by
    simp only [List.mem_cons, List.not_mem_nil, or_false] at hx
    rcases hx with rfl | rfl | rfl
    · exact ha
    · exact hb
    · exact hc
  have three : ∀ {a b c : V}, [a, b, c].length ≤ 10 := fun {a b c} => by show 3 ≤ 10; decide
  have m6 := B.mk'.kpp k6 s6
  obtain ⟨ρ7, ω7, x7, _, g7, v7, w7⟩ := m6.bs.tup nt t7 h7 (f3 f1 f2 (fls_int (i := t) (by omega))) three
  have m7 := m6.trans x7
  have w7 : wv ω7 (.ref pt) ≤ 4 := w7
  refine q_asg ?_
  walk_at "s"
  refine ⟨by decide, fun pc nc => al nc fun H8 t8 h8 => ?_⟩
  have m8 := m7.sm t8
  refine take_ok m8.bs.sa (by decide) fun t2 H9 t20 t21 k9 s9 => ?_
  have m9 := m8.kpp k9 s9
  walk_at "s"
  have npc := m7.bs.sa.ne nc
  have h9c := k9.1 _ _ npc h8
  refine ⟨pc, 59 + t2, [.ref pt], rfl, rfl, h9c, by omega, by omega, by show 1 * (59 + t2).toNat ≤ 2 ^ 24; omega, fun pd nd => al nd fun H10 t10 h10 => ?_⟩
  have m10 := m9.sm t10
  have nd0 : H pd = none := m9.nn nd
  have zd : ω7 pd = 0 := m9.bs.wt.zero nd
  have npd := hs.ne nd0
  have x10 : Mk st H7 ρ7 ω7 H10 ρ7 ω7 := ((m7.bs.mk'.sm t8).kpp k9 s9).sm t10
  have rs := rep_sw (ω := ω7) (v := .ref pt) (k := (59 + t2).toNat)
  generalize (List.replicate (59 + t2).toNat [V.ref pt]).flatten = ys at h10 rs
  obtain ⟨rs1, rs2, rs3⟩ := rs
  have sy : sw ω7 ys ≤ 61 * 4 := by
    rw [rs1]
    exact Nat.mul_le_mul (by omega) w7
  have gy : ∀ y ∈ ys, Gd ρ7 ω7 4 y := fun y hy => by
    rw [rs3 y hy]
    exact g7.mono (by decide)
  refine ⟨RowE st r H ρ ω z1 pl pt, q_if1 ?_, ?_⟩
  · walk_at "s"
    refine take_ok m10.bs.sa (by decide) fun c H11 c0 c1 k11 s11 => ?_
    have m11 := m10.kpp k11 s11
    have h11 := k11.1 _ _ npd h10
    walk_at "s"
    refine ite2 (fun cc => ?_) fun cc => ?_
    · refine q_asg1 ?_
      walk_at "s"
      refine ⟨st, ρ7, ω7, 1, .ref pt, rfl, m11.bs, by decide, v7.mk (x10.kpp k11 s11) m7.bs.z, g7, by omega, fun ρ2 ω2 H12 v' m12 g12 w12 => ?_⟩
      have h12 := m12.kp.1 _ _ npd h11
      have M12 := m11.trans m12
      have z12 := m12.off zd (by rw [h11]; exact fun z => by cases z)
      walk_at "s"
      rw [h12]
      walk_at "s"
      refine take_ok M12.bs.sa (by omega) fun i H13 i0 i1 k13 s13 => ?_
      have h13 := k13.1 _ _ npd h12
      obtain ⟨j, rfl⟩ : ∃ j : Nat, i = j := ⟨i.toNat, by omega⟩
      have hj : j < ys.length := by omega
      have ei : ixN ys.length (j : Int) = some j := by
        unfold ixN
        rw [if_pos (by omega), if_pos (by omega)]
        simp
      walk_at "s"
      simp only [h13, ei]
      have hx : ys[j]? = some (ys[j]) := List.getElem?_eq_getElem hj
      have sb := set_sw (ω := ω2) (v := v') hx
      rw [m12.ex.sw gy] at sb
      have := (m12.gd (gy _ (List.getElem_mem hj))).pos
      refine ⟨pd, ys.set j v', ρ2, ω2, rfl, (M12.kpp k13 s13).put B nd0 z12, nd0, z12, upd_same, by rw [List.length_set]; omega, by rw [List.length_set]; omega, fun y hy => ?_, by omega⟩
      rcases List.mem_or_eq_of_mem_set hy with hy | rfl
      · exact m12.gd (gy y hy)
      · exact g12.mono (by decide)
    · walk_at "s"
      exact ⟨pd, ys, ρ7, ω7, rfl, m11, nd0, zd, h11, by omega, by omega, gy, by omega⟩
  · rintro σ H11 ⟨pd, ys, ρ8, ω8, rfl, m11, nd0, zd, h11, ly, _, gy, sy⟩
    have m12 := m11.addL (a := 4) (b := 303) nd0 zd (hs.ne nd0) h11 gy (by omega)
    have vd : Vok (fu ρ8 pd 4) (fu ω8 pd 303) (.ref pd) := ⟨gd_new (by decide) (by decide), by rw [wv_new]; decide⟩
    generalize fu ρ8 pd 4 = ρa, fu ω8 pd 303 = ωa at m12 vd
    refine q_asg ?_
    walk_at "s"
    refine take_ok m12.bs.sa (by decide) fun d H12 d0 d1 k12 s12 => ?_
    have m13 := m12.kpp k12 s12
    have fd : FlS (.int (d - 1)) := fls_int (by omega)
    walk_at "s"
    refine q_asg ?_
    walk_at "s"
    refine ⟨by decide, fun pe ne => al ne fun H13 t13 h13 => ?_⟩
    have m14 := m13.sm t13
    refine take_ok m14.bs.sa (by decide) fun e H14 e0 e1 k14 s14 => ?_
    have m15 := m14.kpp k14 s14
    have h14 := k14.1 _ _ (m13.bs.sa.ne ne) h13
    walk_at "s"
    refine ⟨pe, 6 + e, [.str z1], rfl, rfl, asT_seq (by rw [h14]; rfl), by simp, by omega, by omega, by show 1 ≤ 1000; decide, fun pf nf => al nf fun H15 t15 h15 => ?_⟩
    have rs := rep_sw (ω := ωa) (v := .str z1) (k := (6 + e).toNat)
    generalize (List.replicate (6 + e).toNat [V.str z1]).flatten = ns at h15 rs
    obtain ⟨ρb, ωb, xb, rb, _⟩ := m15.bs.tup nf t15 h15 (fun x hx => by rw [rs.2.2 x hx]; exact f1) (by have := rs.2.1; omega)
    have mb := m15.trans xb
    have vd := vd.mk ((((m12.bs.mk'.kpp k12 s12).sm t13).kpp k14 s14).trans xb)
    dsimp only
    have lz := (w.2 z1 mz1).1
    have lz8 := (w.2 z1 mz1).2.1
    have az := (w.2 z1 mz1).2.2
    refine ⟨by show _ ≤ 2 ^ 24; omega, txt_atM (Int.le_refl 0) (by show (0 : Int) < (z1.length : Nat); omega) (fun ch _ hch => ?_) az⟩
    refine take_ok mb.bs.sa (by decide) fun g H16 g0 g1 k16 s16 => ?_
    have m16 := mb.kpp k16 s16
    have x16 : Mk st H15 ρb ωb H16 ρb ωb := mb.bs.mk'.kpp k16 s16
    refine ⟨⟨#[ch]⟩, 7 + g, rfl, rfl, rfl, by omega, by omega, fun u lu au => ?_⟩
    have fu' : FlS (.str u) := .inr (.inr (.inr ⟨u, rfl, by omega, au (ascii1 hch)⟩))
    have f2' : ∀ {a b : V}, FlS a → FlS b → ∀ x ∈ [a, b], FlS x := fun ha hb x hx => by
      simp only [List.mem_cons, List.not_mem_nil, or_false] at hx
      rcases hx with rfl | rfl
      · exact ha
      · exact hb
    refine ⟨by decide, fun pg ng => al ng fun Hg tg hg => ?_⟩
    obtain ⟨ρg, ωg, xg, rg, _⟩ := m16.bs.tup ng tg hg (f2' fd fp) (by show 2 ≤ 10; decide)
    have mg := m16.trans xg
    refine ⟨by show 5 ≤ 2 ^ 24; decide, fun ph nh => al nh fun Hh th hh => ?_⟩
    have xh : Mk st Hg ρg ωg Hh ρg ωg := mg.bs.mk'.sm th
    have mh := mg.trans xh
    refine take_ok mh.bs.sa (by decide) fun a H17 a0 a1 k17 s17 => ?_
    have x17 : Mk st Hh ρg ωg H17 ρg ωg := mh.bs.mk'.kpp k17 s17
    have m17 := mh.trans x17
    have h17 := k17.1 _ _ (mg.bs.sa.ne nh) hh
    walk_at "s"
    refine ⟨by decide, fun pj nj => al nj fun Hj tj hj => ?_⟩
    obtain ⟨ρj, ωj, xj, rj, _⟩ := m17.bs.tup nj tj hj (f3 (fls_int (i := 4 + a) (by omega)) f1 fp) three
    have mj := m17.trans xj
    refine ⟨by decide, fun pk nk => al nk fun Hk tk hk => ?_⟩
    obtain ⟨ρk, ωk, xk, rk, _⟩ := mj.bs.tup nk tk hk (f3 fd f1 fp) three
    have mk := mj.trans xk
    refine ⟨by decide, fun pl2 nl => al nl fun Hl tl hl => ?_⟩
    obtain ⟨ρl, ωl, xl, rl, _⟩ := mk.bs.tup nl tl hl (f3 f1 fd fp) three
    have ml := mk.trans xl
    refine ⟨by decide, fun pm nm => al nm fun Hm tm hm => ?_⟩
    obtain ⟨ρm, ωm, xm, rm, _⟩ := ml.bs.tup nm tm hm (f3 f1 fp fd) three
    have mm := ml.trans xm
    refine ⟨by show 4 ≤ 2 ^ 24; decide, fun pn nn => al nn fun Hn tn hn => ?_⟩
    have xn : Mk st Hm ρm ωm Hn ρm ωm := mm.bs.mk'.sm tn
    have mn := mm.trans xn
    have hh' : Hn ph = some (.lst _) := tn _ _ (tm _ _ (tl _ _ (tk _ _ (tj _ _ h17))))
    rw [hh']
    dsimp only
    refine ⟨by show 9 ≤ 2 ^ 24; decide, fun po no => al no fun Ho to ho => ?_⟩
    have xo : Mk st Hn ρm ωm Ho ρm ωm := mn.bs.mk'.sm to
    have ym := xn.trans xo
    have yl := xm.trans ym
    have yk := xl.trans yl
    have yj := xk.trans yk
    have y17 := xj.trans yj
    have yg := (xh.trans x17).trans y17
    have yb := x16.trans (xg.trans yg)
    have ho : Ho po = some (.lst [V.ref pd, V.ref pf, V.str u, V.int (d - 1), V.ref pg, V.ref pj, V.ref pk, V.ref pl2, V.ref pm]) := ho
    refine q ρm ωm Ho po _ (mn.trans xo) (mn.nn no) (mn.bs.wt.zero no) ho rfl fun x hx => ?_
    simp only [List.mem_cons, List.not_mem_nil, or_false] at hx
    rcases hx with rfl | rfl | rfl | rfl | rfl | rfl | rfl | rfl | rfl
    · exact vd.mk yb
    · exact rb.vok.mk yb
    · exact fu'.vok
    · exact fd.vok
    · exact rg.vok.mk yg
    · exact rj.vok.mk yj
    · exact rk.vok.mk yk
    · exact rl.vok.mk yl
    · exact rm.vok.mk ym
end XB

/-! The law. -/
namespace XB
open PySem L2
local macro_rules | `(tactic| walk_at "s") => `(tactic| try simp only [u_var, u_c, u_op, u_un, u_nil, u_cons, u_cb, u_call, u_callS, u_tup, u_lst, u_test, u_B, u_and, u_or, u_not, u_andV, u_orV, u_notV, u_ifE, u_chain, u_sl, u_noPart, u_part, u_bm, u_bm0, u_rev, u_lc, u_try, u_sui, u_sui0, u_unb_rt, u_unb_nx, u_xf, u_WE, w_nil, w_cons, u_raise, u_rng1, u_rng2, u_next, u_ret, u_gname, u_gnil, u_gcons, u_gsub, u_gtup,
  f_add, f_addS, f_addR, f_sub, f_mul, f_mulR, f_mod, f_div, f_pow, f_neg, f_cmp, f_eq, f_eqB, f_eqS, f_ne, f_neB, f_neS, f_isN, f_notN, f_isB, f_ix, f_ixS, f_int, f_intB, f_len, f_lenS, f_max, f_min, f_abs, f_list, f_tuple, f_all, f_sum, f_isi, f_isiT, f_append, f_insert, f_pop, f_sl, f_set,
  kitS, tys, List.isEmpty_cons, Option.map_some, kt_NoneType_int, kt_NoneType_bool, kt_NoneType_str, kt_NoneType_list, kt_NoneType_tuple, kt_NoneType_dict, kt_int_int, kt_int_bool, kt_int_str, kt_int_list, kt_int_tuple, kt_int_dict, kt_bool_int, kt_bool_bool, kt_bool_str, kt_bool_list, kt_bool_tuple, kt_bool_dict, kt_str_int, kt_str_bool, kt_str_str, kt_str_list, kt_str_tuple, kt_str_dict, kt_list_int, kt_list_bool, kt_list_str, kt_list_list, kt_list_tuple, kt_list_dict, kt_tuple_int, kt_tuple_bool, kt_tuple_str, kt_tuple_list, kt_tuple_tuple, kt_tuple_dict, kt_dict_int, kt_dict_bool, kt_dict_str, kt_dict_list, kt_dict_tuple, kt_dict_dict, asL_lst, asL_frz, asL_tup, asT_tup, asS_lst, asS_frz, asS_tup, tyN_non, tyN_bl, tyN_int, tyN_str, atV_lit, ixN_lit, upd_same, upd_ne, upd_ne',
  List.getElem?_cons_zero, List.getElem?_cons_succ, List.set_cons_zero, List.set_cons_succ, List.append_nil, List.length_cons, List.length_nil, Option.some.injEq, exists_eq_left', exists_eq_left, exists_and_left, V.bl.injEq, V.int.injEq, V.str.injEq, V.ref.injEq, Bool.not_eq_true, Bool.not_true, Bool.not_false, decide_true, decide_false, decide_eq_true_eq, decide_eq_false_iff_not, Bool.false_eq_true, if_true, if_false, ite_true, ite_false, reduceCtorEq, true_and, and_true, Nat.reduceAdd, Nat.reduceLT, Nat.zero_add, ne_eq, not_false_eq_true, not_true_eq_false, List.cons.injEq, and_assoc])
local macro_rules | `(tactic| walk_at "S") => `(tactic| try simp only [u_var, u_c, u_op, u_un, u_nil, u_cons, u_cb, u_call, u_callS, u_tup, u_lst, u_test, u_B, u_and, u_or, u_not, u_andV, u_orV, u_notV, u_ifE, u_chain, u_sl, u_noPart, u_part, u_bm, u_bm0, u_rev, u_lc, u_try, u_sui, u_sui0, u_unb_rt, u_unb_nx, u_xf, u_WE, w_nil, w_cons, u_raise, u_rng1, u_rng2, u_next, u_ret, u_gname, u_gnil, u_gcons, u_gsub, u_gtup,
  f_add, f_addS, f_addR, f_sub, f_mul, f_mulR, f_mod, f_div, f_pow, f_neg, f_cmp, f_eq, f_eqB, f_eqS, f_ne, f_neB, f_neS, f_isN, f_notN, f_isB, f_ix, f_ixS, f_int, f_intB, f_len, f_lenS, f_max, f_min, f_abs, f_list, f_tuple, f_all, f_sum, f_isi, f_isiT, f_append, f_insert, f_pop, f_sl, f_set,
  kitS, tys, List.isEmpty_cons, Option.map_some, kt_NoneType_int, kt_NoneType_bool, kt_NoneType_str, kt_NoneType_list, kt_NoneType_tuple, kt_NoneType_dict, kt_int_int, kt_int_bool, kt_int_str, kt_int_list, kt_int_tuple, kt_int_dict, kt_bool_int, kt_bool_bool, kt_bool_str, kt_bool_list, kt_bool_tuple, kt_bool_dict, kt_str_int, kt_str_bool, kt_str_str, kt_str_list, kt_str_tuple, kt_str_dict, kt_list_int, kt_list_bool, kt_list_str, kt_list_list, kt_list_tuple, kt_list_dict, kt_tuple_int, kt_tuple_bool, kt_tuple_str, kt_tuple_list, kt_tuple_tuple, kt_tuple_dict, kt_dict_int, kt_dict_bool, kt_dict_str, kt_dict_list, kt_dict_tuple, kt_dict_dict, asL_lst, asL_frz, asL_tup, asT_tup, asS_lst, asS_frz, asS_tup, tyN_non, tyN_bl, tyN_int, tyN_str, atV_lit, ixN_lit, upd_same, upd_ne, upd_ne',
  List.getElem?_cons_zero, List.getElem?_cons_succ, List.set_cons_zero, List.set_cons_succ, List.append_nil, List.length_cons, List.length_nil, Option.some.injEq, exists_eq_left', exists_eq_left, exists_and_left, V.bl.injEq, V.int.injEq, V.str.injEq, V.ref.injEq, Bool.not_eq_true, Bool.not_true, Bool.not_false, decide_true, decide_false, decide_eq_true_eq, decide_eq_false_iff_not, Bool.false_eq_true, if_true, if_false, ite_true, ite_false, reduceCtorEq, true_and, and_true, Nat.reduceAdd, Nat.reduceLT, Nat.zero_add, ne_eq, not_false_eq_true, not_true_eq_false, List.cons.injEq, and_assoc, *])
def sp_l_store (K : PySem.W.Frag) (C : CA) : Sp := fun vs H Q _ => ∃ (a : Addr) (ns : List Int), vs = [.ref a] ∧ SqL K H a (ns.map V.int) ∧ ns.length ≤ 63 ∧ ∀ st H', Sm H H' → H st = none → StAt H' st → Q (.ref st) H'
def rd_l_store (K : PySem.W.Frag) (C : CA) (E : XK) : TS :=
  (tSeq (tAsg (tLc (iList K (tVar 0)) (gName 1) tYes (tCB fInt (tCons (tVar 1) tNil)) [1]) (gName 2)) (tSeq (tAsg (tC (.int 0)) (gName 3)) (tSeq (tFor (iList K (tVar 2)) (gName 1) (tAsg (tCallS (sp_l_mixed K C) (fun _ => E0) (tCons (tOp fAdd (tCB fInt (tCons (tVar 1) tNil)) (tVar 3)) (tCons (tCB fLen (tCons (tVar 2) tNil)) tNil))) (gName 3))) (tRet (tLst (tCons (tVar 2) (tCons (tC (.int 0)) (tCons (tC (.int 0)) (tCons (tC (.int 0)) (tCons (tVar 3) tNil))))))))))
theorem pure_l_store {K : PySem.W.Frag} {C : CA} (vs : List V) (H : Hp) (Q : VK) (E : XK) (h : sp_l_store K C vs H Q E) : rd_l_store K C E { nx := fun _ H' => Q .non H', rt := Q } (start [("script" : Str), ("cell" : Str), ("cells" : Str), ("seed" : Str)] vs) H := by
  obtain ⟨a, ns, rfl, hs, hn, q⟩ := h
  show rd_l_store K C E _ [some (.ref a), none, none, none] H
  unfold rd_l_store
  refine q_asg ?_
  walk_at "s"
  rw [u_list]
  walk_at "s"
  refine ⟨⟨_, hs⟩, fun Dd hD => ?_⟩
  refine made_mapS id (fun H' s => L2.Same.seq s hs) hD (by rw [List.length_map]; show _ < 2 ^ 24; omega) (fun _ => rfl) (fun i x H1 Q1 hx s1 q1 => ?_) fun H1 s1 hd => ?_
  · obtain ⟨n, hn, rfl⟩ := get_int hx
    walk_at "s"
    exact q1 H1 fun _ _ z => z
  · rw [List.map_id] at hd
    walk_at "s"
    refine q_asg ?_
    walk_at "s"
    refine q_for ?_
    rw [u_list]
    walk_at "s"
    refine ⟨⟨_, asL_seq (by rw [hd] <;> rfl)⟩, ?_⟩
    refine loop_list (xs := ns.map V.int) (fun i σ H2 => ∃ (v : Option V) (e : Int), σ = [some (.ref a), v, some (.ref Dd), some (.int e)] ∧ H2 = H1) ⟨_, _, rfl, rfl⟩ (fun i σ H2 _ ⟨_, _, _, e⟩ => by rw [e, hd] <;> rfl) ?_ ?_
    · rintro i x σ H2 hx ⟨v, e, rfl, rfl⟩
      obtain ⟨n, hn, rfl⟩ := get_int hx
      walk_at "s"
      refine q_asg1 ?_
      walk_at "s"
      rw [hd]
      walk_at "s"
      refine ⟨_, _, rfl, fun r _ _ => ?_⟩
      walk_at "s"
      exact ⟨r, rfl⟩
    · rintro σ H2 ⟨v, e, rfl, rfl⟩
      walk_at "s"
      refine ⟨by decide, fun st hst => ?_⟩
      have h0 : H st = none := by
        cases eo : H st with
        | none => rfl
        | some o => rw [s1 _ _ eo] at hst; cases hst
      refine q st _ (sm_new s1 hst) h0 ⟨Dd, ns, 0, 0, 0, e, upd_same, ?_, ne_of_none hd hst, by decide, by omega⟩
      rw [upd_ne (ne_of_none hd hst)]
      exact hd
section
variable {st : Addr} {ρ ω ρ1 ω1 ρ2 ω2 : Addr → Nat} {H H1 H2 : Hp} {x : V} {xs ys : List V}
theorem bs_zero (s : StAt H st) : Bs st (fun _ => 0) (fun _ => 0) H := ⟨s, fun p h => absurd h (Nat.lt_irrefl 0), rfl⟩
theorem bent_ok {K : PySem.W.Frag} {C : CA} {Q : VK} {E : XK} (b : Bs st ρ ω H) (r : Rv ρ ω H x) (q : ∀ ρ1 ω1 H1 v, Mk st H ρ ω H1 ρ1 ω1 → Vok ρ1 ω1 v → Q v H1) : sp_l_bent K C [.ref st, x] H Q E :=
  ⟨st, ρ, ω, 2, x, rfl, b, by decide, r.2.1, r.1, Nat.le_trans r.2.2 (by decide), fun ρ1 ω1 H1 v m g w => q ρ1 ω1 H1 v m ⟨g.mono (by decide), by have := r.2.2; omega⟩⟩
theorem edged_ok {K : PySem.W.Frag} {C : CA} {Q : VK} {E : XK} {r : Addr} {zs : List Str} (b : Bs st ρ ω H) (hr : H r = some (.lst (zs.map V.str))) (nr : r ≠ st) (w : Words zs)
    (q : ∀ ρ1 ω1 H1 p xs, Mk st H ρ ω H1 ρ1 ω1 → H p = none → ω1 p = 0 → H1 p = some (.lst xs) → xs.length = 9 → (∀ x ∈ xs, Vok ρ1 ω1 x) → Q (.ref p) H1) : sp_l_edged K C [.ref st, .ref r] H Q E := ⟨st, ρ, ω, r, zs, rfl, b, hr, nr, w, q⟩
theorem rights_ok {K : PySem.W.Frag} {C : CA} {Q : VK} {E : XK} {r : Addr} {zs : List Str} (b : Bs st ρ ω H) (hr : H r = some (.lst (zs.map V.str))) (nr : r ≠ st) (w : Words zs)
    (q : ∀ ρ1 ω1 H1 p xs, Mk st H ρ ω H1 ρ1 ω1 → H p = none → ω1 p = 0 → H1 p = some (.lst xs) → xs.length = 12 → (∀ x ∈ xs, Rv ρ1 ω1 H1 x) → Q (.ref p) H1) : sp_l_rights K C [.ref st, .ref r] H Q E := ⟨st, ρ, ω, r, zs, rfl, b, hr, nr, w, q⟩
end
def sp_law (K : PySem.W.Frag) (C : CA) : Sp := fun vs H Q _ => ∃ (a : Addr) (ns : List Int), vs = [.ref a] ∧ SqL K H a (ns.map V.int) ∧ ns.length ≤ 63 ∧ ∀ H', Q (.bl true) H'
def rd_law (K : PySem.W.Frag) (C : CA) (E : XK) : TS :=
  (tSeq (tAsg (tCallS (sp_l_store K C) (fun _ => E0) (tCons (tVar 0) tNil)) (gName 1)) (tSeq (tIfS (tTest (tOp (fNe K) (tLst (tCons (tC (.str ("-" : Str))) (tCons (tC (.int 6)) (tCons (tC (.int 8)) (tCons (tC (.int 6)) (tCons (tC (.int 60)) tNil)))))) (tLst (tCons (tC (.str ("-" : Str))) (tCons (tC (.int 6)) (tCons (tC (.int 8)) (tCons (tC (.int 6)) (tCons (tC (.int 60)) tNil)))))))) (tRet (tC (.bl false))) tNext) (tSeq (tAsg (tLc (iRng1 (tCons (tC (.int 3)) tNil)) (gName 2) tYes (tCallS (sp_l_word K C) (fun _ => E0) (tCons (tVar 1) (tCons (tCallS (sp_l_edge K C) (fun _ => E0) (tCons (tVar 1) (tCons (tC (.int 1)) (tCons (tC (.int 8)) tNil)))) tNil))) [2]) (gName 3)) (tSeq (tAsg (tOp fAdd (tCallS (sp_l_edged K C) (fun _ => E0) (tCons (tVar 1) (tCons (tVar 3) tNil))) (tLc (iRng1 (tCons (tC (.int 4)) tNil)) (gName 2) tYes (tCallS (sp_l_any K C) (fun _ => E0) (tCons (tVar 1) tNil)) [2])) (gName 4)) (tSeq (tFor (iList K (tCallS (sp_l_rights K C) (fun _ => E0) (tCons (tVar 1) (tCons (tVar 3) tNil)))) (gName 5) (tSeq (tDrop (tBMF "list" fAppend (tVar 4) (tCons (tCallS (sp_l_bent K C) (fun _ => E0) (tCons (tVar 1) (tCons (tVar 5) tNil))) tNil))) (tDrop (tBMF "list" fAppend (tVar 4) (tCons (tVar 5) tNil))))) (tSeq (tFor (iList K (tVar 4)) (gName 5) (tIfS (tNot (tB (tCallS (sp_l_agrees K C) (fun _ => E0) (tCons (tVar 5) tNil)))) (tRet (tC (.bl false))) tNext)) (tSeq (tFor (iRng1 (tCons (tCB fLen (tCons (tVar 4) tNil)) tNil)) (gName 2) (tSeq (tDrop (tCallS (sp_l_spoil K C) (fun _ => E0) (tCons (tOp fIx (tVar 4) (tVar 2)) tNil))) (tIfS (tNot (tB (tCallS (sp_l_agrees K C) (fun _ => E0) (tCons (tOp fIx (tVar 4) (tVar 2)) tNil)))) (tRet (tC (.bl false))) tNext))) (tRet (tC (.bl true))))))))))
theorem pure_law {K : PySem.W.Frag} {C : CA} (vs : List V) (H : Hp) (Q : VK) (E : XK) (h : sp_law K C vs H Q E) : rd_law K C E { nx := fun _ H' => Q .non H', rt := Q } (start [("script" : Str), ("store" : Str), ("k" : Str), ("row" : Str), ("values" : Str), ("value" : Str)] vs) H := by
  obtain ⟨a, ns, rfl, ha, hn, q⟩ := h
  show rd_law K C E _ [some (.ref a), none, none, none, none, none] H
  unfold rd_law
  refine q_asg ?_
  walk_at "s"
  refine ⟨a, ns, rfl, ha, hn, fun st H1 t1 ne1 s1 => ?_⟩
  refine q_if ?_
  walk_at "s"
  refine ⟨by decide, fun pa na => al na fun H2 t2 h2 => ⟨by decide, fun pb nb => al nb fun H3 t3 h3 => ?_⟩⟩
  have s3 := (s1.sm t2).sm t3
  unfold fNe
  dsimp only
  refine ⟨.list [.str ("-" : Str), .int 6, .int 8, .int 6, .int 60], .list [.str ("-" : Str), .int 6, .int 8, .int 6, .int 60], .lst (asL_seq (asL_at (t3 _ _ h2))) (.cons (.str _) (.cons (.int _) (.cons (.int _) (.cons (.int _) (.cons (.int _) .nil))))), .lst (asL_seq (asL_at h3)) (.cons (.str _) (.cons (.int _) (.cons (.int _) (.cons (.int _) (.cons (.int _) .nil))))), by decide +kernel, by decide +kernel, ?_⟩
  rw [show PyData.eqv (.list [.str ("-" : Str), .int 6, .int 8, .int 6, .int 60]) (.list [.str ("-" : Str), .int 6, .int 8, .int 6, .int 60]) = true by decide +kernel]
  refine ⟨false, rfl, ?_⟩
  walk_at "s"
  refine q_asg ?_
  walk_at "s"
  refine ⟨by decide, by decide, fun Dd hD => ?_⟩
  have nD := s3.ne hD
  refine made_range (fun i H' => Kp st H3 H' ∧ StAt H' st ∧ ∃ zs : List Str, H' Dd = some (.lst (zs.map V.str)) ∧ zs.length = i ∧ ∀ z ∈ zs, 1 ≤ z.length ∧ z.length ≤ 8 ∧ asciiZ z) ⟨(Kp.refl _ _).put' hD nD, s3.put' hD (Kp.refl _ _) s3, [], upd_same, rfl, fun x hx => by cases hx⟩ (fun i H5 hi p => ⟨rfl, ?_⟩) fun H5 p => ?_
  · obtain ⟨k5, s5, zs, h5, l5, g5⟩ := p
    refine iteT (B := True) ?_
    walk_at "s"
    refine edge_ok s5 fun n H6 n0 n1 k6 s6 => ?_
    walk_at "s"
    refine ⟨st, n, rfl, s6, by omega, by omega, fun z H7 z0 z1 z2 k7 s7 => ?_⟩
    have k57 := (k5.trans k6).trans k7
    refine ⟨zs.map V.str, k7.1 _ _ nD (k6.1 _ _ nD h5), by rw [List.length_map]; show _ < 2 ^ 24; omega, k57.put' hD nD, s3.put' hD k57 s7, zs ++ [z], by rw [List.map_append]; rfl, by rw [List.length_append]; show _ + 1 = _; omega, fun x hx => ?_⟩
    rcases List.mem_append.mp hx with hx | hx
    · exact g5 x hx
    · rw [List.mem_singleton] at hx
      rw [hx]
      exact ⟨z0, z1, z2⟩
  obtain ⟨k5, s5, zs, h5, l5, g5⟩ := p
  have wz : Words zs := ⟨l5, g5⟩
  walk_at "s"
  refine q_asg ?_
  walk_at "s"
  refine edged_ok (bs_zero s5) h5 nD wz fun ρ6 ω6 H6 pe es m6 ne6 oe6 h6 l6 g6 => ?_
  have npe : pe ≠ st := s5.ne ne6
  refine ⟨by decide, by decide, fun Da hDa => ?_⟩
  refine made_range (fun i H' => ∃ ρ ω acc, Mk st H6 ρ6 ω6 H' ρ ω ∧ ω Da = 0 ∧ H' Da = some (.lst acc) ∧ acc.length = i ∧ ∀ x ∈ acc, Vok ρ ω x) ⟨ρ6, ω6, [], m6.bs.mk'.put m6.bs hDa (m6.bs.wt.zero hDa), m6.bs.wt.zero hDa, upd_same, rfl, fun x hx => by cases hx⟩ (fun i H7 hi p => ⟨rfl, ?_⟩) fun H7 p => ?_
  · obtain ⟨ρ7, ω7, acc, m7, o7, h7, l7, g7⟩ := p
    refine iteT (B := True) ?_
    walk_at "s"
    refine ⟨st, ρ7, ω7, rfl, m7.bs, fun ρ8 ω8 H8 v m8 g8 w8 => ?_⟩
    have m78 := m7.trans m8
    have o8 : ω8 Da = 0 := m8.off o7 (by rw [h7]; exact fun z => by cases z)
    refine ⟨acc, m8.kp.1 _ _ (m6.bs.sa.ne hDa) h7, by rw [l7]; show _ < 2 ^ 24; omega, ρ8, ω8, m78.put m6.bs hDa o8, o8, acc ++ [v], rfl, by rw [List.length_append]; show _ + 1 = _; omega, fun x hx => ?_⟩
    rcases List.mem_append.mp hx with hx | hx
    · exact (g7 x hx).mk m8
    · rw [List.mem_singleton] at hx
      rw [hx]
      exact ⟨g8, by omega⟩
  obtain ⟨ρ7, ω7, acc, m7, o7, h7, l7, g7⟩ := p
  have he7 : H7 pe = some (.lst es) := m7.kp.1 _ _ npe h6
  walk_at "s"
  rw [he7, h7]
  dsimp only
  refine ⟨by rw [l6, l7]; decide, fun pv nv => al nv fun H8 t8 h8 => ?_⟩
  have npv : pv ≠ st := m7.bs.sa.ne nv
  have m8 : Mk st H7 ρ7 ω7 H8 ρ7 ω7 := m7.bs.mk'.sm t8
  have g8 : ∀ x ∈ es ++ acc, Vok ρ7 ω7 x := fun x hx => by
    rcases List.mem_append.mp hx with hx | hx
    · exact (g6 x hx).mk m7
    · exact g7 x hx
  have l8 : (es ++ acc).length = 13 := by rw [List.length_append, l6, l7]; rfl
  have ov : ω7 pv = 0 := m7.bs.wt.zero nv
  have r8 : H8 Dd = some (.lst (zs.map V.str)) := (m6.trans (m7.trans m8)).kp.1 _ _ nD h5
  generalize es ++ acc = vs0 at h8 g8 l8
  refine q_for ?_
  rw [u_list]
  walk_at "s"
  refine rights_ok m8.bs r8 nD wz fun ρ9 ω9 H9 pr rs m9 nr9 or9 h9 l9 g9 => ?_
  have npr : pr ≠ st := m8.bs.sa.ne nr9
  have nprv : pr ≠ pv := fun e => by rw [e, h8] at nr9; cases nr9
  walk_at "s"
  refine ⟨⟨_, asL_seq (asL_at h9)⟩, ?_⟩
  refine loop_list (xs := rs) (fun i σ H' => ∃ ρ ω ys vv, σ = [some (.ref a), some (.ref st), none, some (.ref Dd), some (.ref pv), vv] ∧ Mk st H7 ρ7 ω7 H' ρ ω ∧ ω pv = 0 ∧ ω pr = 0 ∧ H' pr = some (.lst rs) ∧ (∀ x ∈ rs, Rv ρ ω H' x) ∧ H' pv = some (.lst ys) ∧ ys.length = 13 + 2 * i ∧ ∀ y ∈ ys, Vok ρ ω y)
    ⟨ρ9, ω9, vs0, none, rfl, m8.trans m9, m9.off ov (by rw [h8]; exact fun z => by cases z), or9, h9, g9, m9.kp.1 _ _ npv h8, l8, fun y hy => (g8 y hy).mk m9⟩
    (fun i σ H' _ ⟨_, _, _, _, _, _, _, _, e, _⟩ => asL_at e) ?_ ?_
  · rintro i x σ H10 hx ⟨ρ1, ω1, ys, vv, rfl, m10, o10, or10, h10, g10, y10, l10, w10⟩
    have hi : i < rs.length := (List.getElem?_eq_some_iff.mp hx).1
    have gx := g10 x (List.mem_of_getElem? hx)
    walk_at "s"
    refine q_drop ?_
    walk_at "s"
    refine ⟨tyN_lst y10, bent_ok m10.bs gx fun ρ2 ω2 H11 v m11 g11 => ?_⟩
    have y11 := m11.kp.1 _ _ npv y10
    rw [y11]
    dsimp only
    refine ⟨by rw [l10]; show _ < 2 ^ 24; omega, ?_⟩
    have o11 : ω2 pv = 0 := m11.off o10 (by rw [y10]; exact fun z => by cases z)
    have p11 : ω2 pr = 0 := m11.off or10 (by rw [h10]; exact fun z => by cases z)
    have m12 := (m10.trans m11).put (o := .lst (ys ++ [v])) m7.bs nv o11
    refine q_drop1 ?_
    walk_at "s"
    refine ⟨tyN_lst upd_same, by rw [List.length_append, l10]; show _ + 1 < 2 ^ 24; omega, ?_⟩
    have m13 : Mk st H7 ρ7 ω7 (upd (upd H11 pv (.lst (ys ++ [v]))) pv (.lst (ys ++ [v] ++ [x]))) ρ2 ω2 := m12.put m7.bs nv o11
    refine ⟨ρ2, ω2, m13, o11, p11, by rw [upd_ne nprv, upd_ne nprv]; exact m11.kp.1 _ _ npr h10, fun z hz => ?_, ys ++ [v] ++ [x], by first | exact upd_same | rfl, by rw [List.length_append, List.length_append, l10]; show _ + 1 + 1 = _; omega, fun z hz => ?_⟩
    · have := (g10 z hz).mk m11 m10.bs.z
      exact ⟨this.1, (this.2.1.put o11).put o11, this.2.2⟩
    · rcases List.mem_append.mp hz with hz | hz
      · rcases List.mem_append.mp hz with hz | hz
        · exact (w10 z hz).mk m11
        · rw [List.mem_singleton] at hz
          rw [hz]
          exact g11
      · rw [List.mem_singleton] at hz
        rw [hz]
        exact gx.vok.mk m11
  rintro σ H10 ⟨ρ1, ω1, ys, vv, rfl, m10, o10, or10, h10, g10, y10, l10, w10⟩
  have W10 := m10.bs.wt
  clear g10 h10 or10
  dsimp only
  refine q_for ?_
  rw [u_list]
  walk_at "s"
  refine ⟨⟨_, asL_seq (asL_at y10)⟩, ?_⟩
  refine loop_list (xs := ys) (fun i σ H' => ∃ vv, σ = [some (.ref a), some (.ref st), none, some (.ref Dd), some (.ref pv), vv] ∧ Sm H10 H') ⟨_, rfl, fun _ _ z => z⟩ (fun i σ H' _ ⟨_, _, e⟩ => asL_at (e _ _ y10)) ?_ ?_
  · rintro i x σ H11 hx ⟨vv, rfl, k11⟩
    have gx := w10 x (List.mem_of_getElem? hx)
    walk_at "s"
    refine q_if1 ?_
    walk_at "s"
    refine agrees_ok (W10.smm k11) gx.1 (by decide) gx.2 fun H12 k12 => ?_
    walk_at "s"
    exact sm_trans k11 k12
  rintro σ H11 ⟨vv2, rfl, k11⟩
  have W11 := W10.smm k11
  have y11 := k11 _ _ y10
  dsimp only
  refine q_for ?_
  walk_at "s"
  rw [y11]
  refine ⟨by rw [l10, l9]; decide, by rw [l10, l9]; decide, ?_⟩
  refine loop_range (fun i σ H' => ∃ kv, σ = [some (.ref a), some (.ref st), kv, some (.ref Dd), some (.ref pv), vv2] ∧ Wt ρ1 ω1 H' ∧ H' pv = some (.lst ys)) ⟨_, rfl, W11, y11⟩ ?_ ?_
  · rintro i σ H12 hi ⟨kv, rfl, W12, y12⟩
    have hx : ys[i]? = some (ys[i]'(by omega)) := List.getElem?_eq_getElem _
    have gx := w10 _ (List.mem_of_getElem? hx)
    generalize ys[i]'(by omega) = x at hx gx
    walk_at "s"
    refine q_drop ?_
    walk_at "s"
    rw [asS_at y12]
    dsimp only
    rw [Int.zero_add]
    refine at_nat hx ?_
    refine ⟨ρ1, ω1, x, rfl, W12, gx.1.mono (by decide), gx.2, fun H13 W13 k13 => ?_⟩
    have y13 := k13 _ _ (.inl o10) y12
    refine q_if1 ?_
    walk_at "s"
    rw [asS_at y13]
    dsimp only
    try rw [Int.zero_add]
    refine at_nat hx ?_
    refine agrees_ok W13 gx.1 (by decide) gx.2 fun H14 k14 => ?_
    walk_at "s"
    exact ⟨W13.smm k14, k14 _ _ y13⟩
  · rintro σ H12 ⟨kv, rfl, _⟩
    walk_at "s"
    exact q _
end XB

/-! Each def holds what it promises. -/
namespace XB
open PySem PySem.Spec PyProof.Rows L2
def top (i : Nat) : Stmt := PySem.Challenge.pw_crossfarers_k00_shapes.main.body.getD i (.Pass ⟨0, 0, 0, 0⟩)
/-- a def of the text -/
structure Dfn (K : PySem.W.Frag) (mg : Str → Option Value) (x qual : Str) (st : Stmt) (ps : List Str) where
  f : Addr
  fd : FuncData
  mg : mg x = some (.ref f)
  fn : Fun K x qual st f fd
  bi : Binds K fd ps []
/-- an error's class and its __init__ -/
structure Ini (K : PySem.W.Frag) (C : Addr) (qual : Str) (st : Stmt) (ps names : List Str) where
  f : Addr
  fd : FuncData
  ex : OexC K C
  iC : PySem.W.findIn K (.ref C) "__init__" = some (some (.ref f))
  tI : PySem.W.typeIn K (.ref f) = some (.type "function")
  fn : Fun K "__init__" qual st f fd
  bi : Binds K fd ps []
  ec : ExcC K C
  xf : XfC K C
  no : ∀ n ∈ names, PySem.W.findIn K (.ref C) n = some none
theorem hot_of {X : Cx} {a : Addr} {oe : Obj} {cls : Value} {d : Option Addr} {pn : List (Addr × Obj)} (hz : L2N.Zn cls d oe) (hf : ∃ fv, oe.data = .fields fv) : L2H.HotC (X.suite a ((a, oe) :: pn)) := by
  obtain ⟨vs, e⟩ := hf
  exact ⟨(a, oe), ⟨rfl, vs, e, hz.2.2 vs e⟩, List.mem_cons_self⟩
theorem hu_H {k : Nat} {A : Around} (r : L2H.RoomH k A) : A.units + 64 < cLine := by have := r.un; omega
theorem no_fn {P : Program} {w : World} {K : PySem.W.Frag} {mg : Str → Option Value} {base : Heap} {CX : CXT} {k : Nat} {f : Addr} {fd : FuncData} {ps : List Str} : FnOk P w K mg base CX k f fd ps (fun _ _ _ _ => False) :=
  ⟨fun _ _ _ _ h => h.elim, fun _ _ _ _ _ _ _ _ _ _ _ _ _ h => h.elim⟩
theorem lt_one {n : Nat} (h : n + 64 < cLine) : n + 1 < cLine := by omega
theorem no_fnH {P : Program} {w : World} {K : PySem.W.Frag} {mg : Str → Option Value} {base : Heap} {CX : CXT} {k : Nat} {f : Addr} {fd : FuncData} {ps : List Str} : L2H.FnH P w K mg base CX k f fd ps (fun _ _ _ _ => False) :=
  ⟨fun _ _ _ _ h => h.elim, fun _ _ _ _ _ _ _ _ _ _ _ _ _ _ _ _ h => h.elim⟩
theorem okH {P : Program} {w : World} {K : PySem.W.Frag} {mg : Str → Option Value} {base : Heap} {x qual : Str} {st : Stmt} {f : Addr} {fd : FuncData} {N ps : List Str} {k : Nat} {sp : Sp} (F : Fun K x qual st f fd) (S : FnScope N ps (defScope st))
    (len : ∀ vs H Q E, sp vs H Q E → vs.length = ps.length)
    (hbody : ∀ (cdv : Value) (A : Around) (outer : List Env) (s : Shared) (H : Hp) (vs : List V) (Q : VK) (E : XK) (p : Addr × Obj), L2H.Hot1 A p → L2H.RoomH k (A.deeper (envOfC qual (defScope st) s.heap.objs.size f cdv)) → sp vs H Q E →
      ∃ t, PSs (L2H.cxH CX0 P w K mg base N qual (defScope st) f cdv A outer s H E p) (defBody st) t ∧ t { nx := fun _ H' => Q .non H', rt := Q } (start N vs) H) : L2H.FnH P w K mg base CX0 (k + 1) f fd ps sp := by
  obtain ⟨oc, od, kV, doc, pm, an, cdv, ct, osl, rfl, lk, hcd⟩ := F.ex
  exact L2H.fn_ofH lk hcd S len fun A outer s H vs Q E p hot hr hsp => hbody cdv A outer s H vs Q E p hot hr hsp
theorem okG' {P : Program} {w : World} {K : PySem.W.Frag} {mg : Str → Option Value} {base : Heap} {x qual : Str} {st : Stmt} {f : Addr} {fd : FuncData} {N ps : List Str} {k : Nat} {sp : Sp} (F : Fun K x qual st f fd) (S : FnScope N ps (defScope st))
    (len : ∀ vs H Q E, sp vs H Q E → vs.length = ps.length)
    (hbody : ∀ (cdv : Value) (A : Around) (outer : List Env) (s : Shared) (H : Hp) (vs : List V) (Q : VK) (E : XK), Room k (A.deeper (envOfC qual (defScope st) s.heap.objs.size f cdv)) → Calm A s H → sp vs H Q E →
      ∃ t, PSs (cxOf CX0 P w K mg base N qual (defScope st) f cdv A outer s H E).nox (defBody st) t ∧ t { nx := fun _ H' => Q .non H', rt := Q } (start N vs) H) : FnG P w K mg base CX0 (k + 1) f fd ps sp :=
  okG F S len fun cdv A outer s H vs Q E hr hg h => by
    obtain ⟨t, ht, q⟩ := hbody cdv A outer s H vs Q E hr hg h
    exact ⟨t, ht.nox, q⟩
abbrev s_is_name : Stmt := top 9
abbrev sN_is_name : List Str := [("value" : Str), ("sign" : Str)]
theorem sc_is_name : FnScope sN_is_name [("value" : Str)] (defScope s_is_name) := ⟨rfl, rfl, rfl, by decide +kernel, rfl, by decide +kernel, by decide +kernel⟩
abbrev s_is_place : Stmt := top 10
abbrev sN_is_place : List Str := [("value" : Str)]
theorem sc_is_place : FnScope sN_is_place [("value" : Str)] (defScope s_is_place) := ⟨rfl, rfl, rfl, by decide +kernel, rfl, by decide +kernel, by decide +kernel⟩
abbrev s_is_whole : Stmt := top 11
abbrev sN_is_whole : List Str := [("value" : Str)]
theorem sc_is_whole : FnScope sN_is_whole [("value" : Str)] (defScope s_is_whole) := ⟨rfl, rfl, rfl, by decide +kernel, rfl, by decide +kernel, by decide +kernel⟩
abbrev s_is_day : Stmt := top 12
abbrev sN_is_day : List Str := [("value" : Str)]
theorem sc_is_day : FnScope sN_is_day [("value" : Str)] (defScope s_is_day) := ⟨rfl, rfl, rfl, by decide +kernel, rfl, by decide +kernel, by decide +kernel⟩
abbrev s_is_number : Stmt := top 13
abbrev sN_is_number : List Str := [("value" : Str)]
theorem sc_is_number : FnScope sN_is_number [("value" : Str)] (defScope s_is_number) := ⟨rfl, rfl, rfl, by decide +kernel, rfl, by decide +kernel, by decide +kernel⟩
abbrev s_is_plan : Stmt := top 14
abbrev sN_is_plan : List Str := [("value" : Str), ("town" : Str)]
theorem sc_is_plan : FnScope sN_is_plan [("value" : Str)] (defScope s_is_plan) := ⟨rfl, rfl, rfl, by decide +kernel, rfl, by decide +kernel, by decide +kernel⟩
abbrev s_is_crossing : Stmt := top 15
abbrev sN_is_crossing : List Str := [("value" : Str)]
theorem sc_is_crossing : FnScope sN_is_crossing [("value" : Str)] (defScope s_is_crossing) := ⟨rfl, rfl, rfl, by decide +kernel, rfl, by decide +kernel, by decide +kernel⟩
abbrev s_is_leg : Stmt := top 16
abbrev sN_is_leg : List Str := [("value" : Str)]
theorem sc_is_leg : FnScope sN_is_leg [("value" : Str)] (defScope s_is_leg) := ⟨rfl, rfl, rfl, by decide +kernel, rfl, by decide +kernel, by decide +kernel⟩
abbrev s_is_deed : Stmt := top 17
abbrev sN_is_deed : List Str := [("value" : Str)]
theorem sc_is_deed : FnScope sN_is_deed [("value" : Str)] (defScope s_is_deed) := ⟨rfl, rfl, rfl, by decide +kernel, rfl, by decide +kernel, by decide +kernel⟩
abbrev s_is_history : Stmt := top 18
abbrev sN_is_history : List Str := [("value" : Str), ("deed" : Str)]
theorem sc_is_history : FnScope sN_is_history [("value" : Str)] (defScope s_is_history) := ⟨rfl, rfl, rfl, by decide +kernel, rfl, by decide +kernel, by decide +kernel⟩
abbrev s_is_sighting : Stmt := top 19
abbrev sN_is_sighting : List Str := [("value" : Str)]
theorem sc_is_sighting : FnScope sN_is_sighting [("value" : Str)] (defScope s_is_sighting) := ⟨rfl, rfl, rfl, by decide +kernel, rfl, by decide +kernel, by decide +kernel⟩
abbrev s_is_tuple_of : Stmt := top 20
abbrev sN_is_tuple_of : List Str := [("value" : Str), ("parts" : Str)]
theorem sc_is_tuple_of : FnScope sN_is_tuple_of [("value" : Str), ("parts" : Str)] (defScope s_is_tuple_of) := ⟨rfl, rfl, rfl, by decide +kernel, rfl, by decide +kernel, by decide +kernel⟩
abbrev s_l_mixed : Stmt := top 22
abbrev sN_l_mixed : List Str := [("cell" : Str), ("k" : Str), ("first" : Str), ("second" : Str)]
theorem sc_l_mixed : FnScope sN_l_mixed [("cell" : Str), ("k" : Str)] (defScope s_l_mixed) := ⟨rfl, rfl, rfl, by decide +kernel, rfl, by decide +kernel, by decide +kernel⟩
abbrev s_l_store : Stmt := top 23
abbrev sN_l_store : List Str := [("script" : Str), ("cell" : Str), ("cells" : Str), ("seed" : Str)]
theorem sc_l_store : FnScope sN_l_store [("script" : Str)] (defScope s_l_store) := ⟨rfl, rfl, rfl, by decide +kernel, rfl, by decide +kernel, by decide +kernel⟩
abbrev s_l_take : Stmt := top 24
abbrev sN_l_take : List Str := [("store" : Str), ("many" : Str), ("base" : Str), ("cell" : Str), ("digit" : Str)]
theorem sc_l_take : FnScope sN_l_take [("store" : Str), ("many" : Str)] (defScope s_l_take) := ⟨rfl, rfl, rfl, by decide +kernel, rfl, by decide +kernel, by decide +kernel⟩
abbrev s_l_great : Stmt := top 25
abbrev sN_l_great : List Str := [("store" : Str), ("many" : Str), ("number" : Str), ("k" : Str)]
theorem sc_l_great : FnScope sN_l_great [("store" : Str), ("many" : Str)] (defScope s_l_great) := ⟨rfl, rfl, rfl, by decide +kernel, rfl, by decide +kernel, by decide +kernel⟩
abbrev s_l_edge : Stmt := top 26
abbrev sN_l_edge : List Str := [("store" : Str), ("low" : Str), ("high" : Str), ("form" : Str)]
theorem sc_l_edge : FnScope sN_l_edge [("store" : Str), ("low" : Str), ("high" : Str)] (defScope s_l_edge) := ⟨rfl, rfl, rfl, by decide +kernel, rfl, by decide +kernel, by decide +kernel⟩
abbrev s_l_number : Stmt := top 27
abbrev sN_l_number : List Str := [("store" : Str), ("top" : Str), ("form" : Str)]
theorem sc_l_number : FnScope sN_l_number [("store" : Str)] (defScope s_l_number) := ⟨rfl, rfl, rfl, by decide +kernel, rfl, by decide +kernel, by decide +kernel⟩
abbrev s_l_pick : Stmt := top 28
abbrev sN_l_pick : List Str := [("store" : Str), ("row" : Str)]
theorem sc_l_pick : FnScope sN_l_pick [("store" : Str), ("row" : Str)] (defScope s_l_pick) := ⟨rfl, rfl, rfl, by decide +kernel, rfl, by decide +kernel, by decide +kernel⟩
abbrev s_l_word : Stmt := top 29
abbrev sN_l_word : List Str := [("store" : Str), ("size" : Str), ("letters" : Str), ("signs" : Str), ("word" : Str), ("k" : Str)]
theorem sc_l_word : FnScope sN_l_word [("store" : Str), ("size" : Str)] (defScope s_l_word) := ⟨rfl, rfl, rfl, by decide +kernel, rfl, by decide +kernel, by decide +kernel⟩
abbrev s_l_text : Stmt := top 30
abbrev sN_l_text : List Str := [("store" : Str), ("limit" : Str), ("signs" : Str), ("size" : Str), ("text" : Str), ("k" : Str)]
theorem sc_l_text : FnScope sN_l_text [("store" : Str), ("limit" : Str)] (defScope s_l_text) := ⟨rfl, rfl, rfl, by decide +kernel, rfl, by decide +kernel, by decide +kernel⟩
abbrev s_l_value : Stmt := top 31
abbrev sN_l_value : List Str := [("store" : Str), ("depth" : Str), ("form" : Str), ("row" : Str), ("k" : Str), ("table" : Str), ("part" : Str)]
theorem sc_l_value : FnScope sN_l_value [("store" : Str), ("depth" : Str)] (defScope s_l_value) := ⟨rfl, rfl, rfl, by decide +kernel, rfl, by decide +kernel, by decide +kernel⟩
abbrev s_l_spoil : Stmt := top 32
abbrev sN_l_spoil : List Str := [("value" : Str), ("key" : Str), ("part" : Str)]
theorem sc_l_spoil : FnScope sN_l_spoil [("value" : Str)] (defScope s_l_spoil) := ⟨rfl, rfl, rfl, by decide +kernel, rfl, by decide +kernel, by decide +kernel⟩
abbrev s_l_is_name : Stmt := top 33
abbrev sN_l_is_name : List Str := [("value" : Str), ("sign" : Str)]
theorem sc_l_is_name : FnScope sN_l_is_name [("value" : Str)] (defScope s_l_is_name) := ⟨rfl, rfl, rfl, by decide +kernel, rfl, by decide +kernel, by decide +kernel⟩
abbrev s_l_is_within : Stmt := top 34
abbrev sN_l_is_within : List Str := [("value" : Str), ("low" : Str), ("high" : Str)]
theorem sc_l_is_within : FnScope sN_l_is_within [("value" : Str), ("low" : Str), ("high" : Str)] (defScope s_l_is_within) := ⟨rfl, rfl, rfl, by decide +kernel, rfl, by decide +kernel, by decide +kernel⟩
abbrev s_l_is_deed : Stmt := top 35
abbrev sN_l_is_deed : List Str := [("value" : Str)]
theorem sc_l_is_deed : FnScope sN_l_is_deed [("value" : Str)] (defScope s_l_is_deed) := ⟨rfl, rfl, rfl, by decide +kernel, rfl, by decide +kernel, by decide +kernel⟩
abbrev s_l_bent_row : Stmt := top 36
abbrev sN_l_bent_row : List Str := [("store" : Str), ("value" : Str), ("row" : Str), ("at" : Str), ("form" : Str)]
theorem sc_l_bent_row : FnScope sN_l_bent_row [("store" : Str), ("value" : Str)] (defScope s_l_bent_row) := ⟨rfl, rfl, rfl, by decide +kernel, rfl, by decide +kernel, by decide +kernel⟩
abbrev s_l_bent_leaf : Stmt := top 37
abbrev sN_l_bent_leaf : List Str := [("store" : Str), ("value" : Str), ("form" : Str)]
theorem sc_l_bent_leaf : FnScope sN_l_bent_leaf [("store" : Str), ("value" : Str)] (defScope s_l_bent_leaf) := ⟨rfl, rfl, rfl, by decide +kernel, rfl, by decide +kernel, by decide +kernel⟩
abbrev s_l_bent : Stmt := top 38
abbrev sN_l_bent : List Str := [("store" : Str), ("value" : Str), ("at" : Str), ("row" : Str)]
theorem sc_l_bent : FnScope sN_l_bent [("store" : Str), ("value" : Str)] (defScope s_l_bent) := ⟨rfl, rfl, rfl, by decide +kernel, rfl, by decide +kernel, by decide +kernel⟩
abbrev s_l_is_end : Stmt := top 39
abbrev sN_l_is_end : List Str := [("value" : Str)]
theorem sc_l_is_end : FnScope sN_l_is_end [("value" : Str)] (defScope s_l_is_end) := ⟨rfl, rfl, rfl, by decide +kernel, rfl, by decide +kernel, by decide +kernel⟩
abbrev s_l_due : Stmt := top 40
abbrev sN_l_due : List Str := [("value" : Str), ("told" : Str), ("row" : Str), ("names" : Str), ("days" : Str), ("ends" : Str), ("three" : Str), ("part" : Str), ("p" : Str)]
theorem sc_l_due : FnScope sN_l_due [("value" : Str)] (defScope s_l_due) := ⟨rfl, rfl, rfl, by decide +kernel, rfl, by decide +kernel, by decide +kernel⟩
abbrev s_l_agrees : Stmt := top 41
abbrev sN_l_agrees : List Str := [("value" : Str), ("kept" : Str), ("due" : Str), ("told" : Str), ("answer" : Str)]
theorem sc_l_agrees : FnScope sN_l_agrees [("value" : Str)] (defScope s_l_agrees) := ⟨rfl, rfl, rfl, by decide +kernel, rfl, by decide +kernel, by decide +kernel⟩
abbrev s_l_rights : Stmt := top 42
abbrev sN_l_rights : List Str := [("store" : Str), ("row" : Str), ("name" : Str), ("other" : Str), ("day" : Str), ("plan" : Str), ("deeds" : Str), ("found" : Str), ("k" : Str)]
theorem sc_l_rights : FnScope sN_l_rights [("store" : Str), ("row" : Str)] (defScope s_l_rights) := ⟨rfl, rfl, rfl, by decide +kernel, rfl, by decide +kernel, by decide +kernel⟩
abbrev s_l_edged : Stmt := top 43
abbrev sN_l_edged : List Str := [("store" : Str), ("row" : Str), ("name" : Str), ("place" : Str), ("deed" : Str), ("deeds" : Str), ("day" : Str), ("found" : Str)]
theorem sc_l_edged : FnScope sN_l_edged [("store" : Str), ("row" : Str)] (defScope s_l_edged) := ⟨rfl, rfl, rfl, by decide +kernel, rfl, by decide +kernel, by decide +kernel⟩
abbrev s_l_any : Stmt := top 44
abbrev sN_l_any : List Str := [("store" : Str), ("value" : Str), ("k" : Str)]
theorem sc_l_any : FnScope sN_l_any [("store" : Str)] (defScope s_l_any) := ⟨rfl, rfl, rfl, by decide +kernel, rfl, by decide +kernel, by decide +kernel⟩
abbrev s_law : Stmt := top 45
abbrev sN_law : List Str := [("script" : Str), ("store" : Str), ("k" : Str), ("row" : Str), ("values" : Str), ("value" : Str)]
theorem sc_law : FnScope sN_law [("script" : Str)] (defScope s_law) := ⟨rfl, rfl, rfl, by decide +kernel, rfl, by decide +kernel, by decide +kernel⟩
structure Txt (K : PySem.W.Frag) (mg : Str → Option Value) (C : CA) where
  d_is_name : Dfn K mg "is_name" "is_name" s_is_name [("value" : Str)]
  d_is_place : Dfn K mg "is_place" "is_place" s_is_place [("value" : Str)]
  d_is_whole : Dfn K mg "is_whole" "is_whole" s_is_whole [("value" : Str)]
  d_is_day : Dfn K mg "is_day" "is_day" s_is_day [("value" : Str)]
  d_is_number : Dfn K mg "is_number" "is_number" s_is_number [("value" : Str)]
  d_is_plan : Dfn K mg "is_plan" "is_plan" s_is_plan [("value" : Str)]
  d_is_crossing : Dfn K mg "is_crossing" "is_crossing" s_is_crossing [("value" : Str)]
  d_is_leg : Dfn K mg "is_leg" "is_leg" s_is_leg [("value" : Str)]
  d_is_deed : Dfn K mg "is_deed" "is_deed" s_is_deed [("value" : Str)]
  d_is_history : Dfn K mg "is_history" "is_history" s_is_history [("value" : Str)]
  d_is_sighting : Dfn K mg "is_sighting" "is_sighting" s_is_sighting [("value" : Str)]
  d_is_tuple_of : Dfn K mg "is_tuple_of" "is_tuple_of" s_is_tuple_of [("value" : Str), ("parts" : Str)]
  d_l_mixed : Dfn K mg "_law_mixed" "_law_mixed" s_l_mixed [("cell" : Str), ("k" : Str)]
  d_l_store : Dfn K mg "_law_store" "_law_store" s_l_store [("script" : Str)]
  d_l_take : Dfn K mg "_law_take" "_law_take" s_l_take [("store" : Str), ("many" : Str)]
  d_l_great : Dfn K mg "_law_great" "_law_great" s_l_great [("store" : Str), ("many" : Str)]
  d_l_edge : Dfn K mg "_law_edge" "_law_edge" s_l_edge [("store" : Str), ("low" : Str), ("high" : Str)]
  d_l_number : Dfn K mg "_law_number" "_law_number" s_l_number [("store" : Str)]
  d_l_pick : Dfn K mg "_law_pick" "_law_pick" s_l_pick [("store" : Str), ("row" : Str)]
  d_l_word : Dfn K mg "_law_word" "_law_word" s_l_word [("store" : Str), ("size" : Str)]
  d_l_text : Dfn K mg "_law_text" "_law_text" s_l_text [("store" : Str), ("limit" : Str)]
  d_l_value : Dfn K mg "_law_value" "_law_value" s_l_value [("store" : Str), ("depth" : Str)]
  d_l_spoil : Dfn K mg "_law_spoil" "_law_spoil" s_l_spoil [("value" : Str)]
  d_l_is_name : Dfn K mg "_law_is_name" "_law_is_name" s_l_is_name [("value" : Str)]
  d_l_is_within : Dfn K mg "_law_is_within" "_law_is_within" s_l_is_within [("value" : Str), ("low" : Str), ("high" : Str)]
  d_l_is_deed : Dfn K mg "_law_is_deed" "_law_is_deed" s_l_is_deed [("value" : Str)]
  d_l_bent_row : Dfn K mg "_law_bent_row" "_law_bent_row" s_l_bent_row [("store" : Str), ("value" : Str)]
  d_l_bent_leaf : Dfn K mg "_law_bent_leaf" "_law_bent_leaf" s_l_bent_leaf [("store" : Str), ("value" : Str)]
  d_l_bent : Dfn K mg "_law_bent" "_law_bent" s_l_bent [("store" : Str), ("value" : Str)]
  d_l_is_end : Dfn K mg "_law_is_end" "_law_is_end" s_l_is_end [("value" : Str)]
  d_l_due : Dfn K mg "_law_due" "_law_due" s_l_due [("value" : Str)]
  d_l_agrees : Dfn K mg "_law_agrees" "_law_agrees" s_l_agrees [("value" : Str)]
  d_l_rights : Dfn K mg "_law_rights" "_law_rights" s_l_rights [("store" : Str), ("row" : Str)]
  d_l_edged : Dfn K mg "_law_edged" "_law_edged" s_l_edged [("store" : Str), ("row" : Str)]
  d_l_any : Dfn K mg "_law_any" "_law_any" s_l_any [("store" : Str)]
  d_law : Dfn K mg "law" "law" s_law [("script" : Str)]
  t_END : Nat
  c_END : mg "END" = some (.str ("-" : Str) t_END)
  t_LAST_DAY : Nat
  c_LAST_DAY : mg "LAST_DAY" = some (.int 6 t_LAST_DAY)
  t_LETTERS : Nat
  c_LETTERS : mg "LETTERS" = some (.str ("abcdefghijklmnopqrstuvwxyz" : Str) t_LETTERS)
  t_LETTERS_AND_DIGITS : Nat
  c_LETTERS_AND_DIGITS : mg "LETTERS_AND_DIGITS" = some (.str ("abcdefghijklmnopqrstuvwxyz0123456789" : Str) t_LETTERS_AND_DIGITS)
  t_LONGEST_NAME : Nat
  c_LONGEST_NAME : mg "LONGEST_NAME" = some (.int 8 t_LONGEST_NAME)
  t_MOST_DEEDS : Nat
  c_MOST_DEEDS : mg "MOST_DEEDS" = some (.int 60 t_MOST_DEEDS)
  t_MOST_TOWNS : Nat
  c_MOST_TOWNS : mg "MOST_TOWNS" = some (.int 8 t_MOST_TOWNS)
  t_MOST_TRAVELLERS : Nat
  c_MOST_TRAVELLERS : mg "MOST_TRAVELLERS" = some (.int 6 t_MOST_TRAVELLERS)
  b_abs : mg "abs" = none
  b_all : mg "all" = none
  b_bool : mg "bool" = none
  b_dict : mg "dict" = none
  b_int : mg "int" = none
  b_isinstance : mg "isinstance" = none
  b_len : mg "len" = none
  b_list : mg "list" = none
  b_max : mg "max" = none
  b_min : mg "min" = none
  b_range : mg "range" = none
  b_repr : mg "repr" = none
  b_str : mg "str" = none
  b_tuple : mg "tuple" = none
section
variable {P : Program} {w : World} {K : PySem.W.Frag} {mg : Str → Option Value} {base : Heap} {C : CA}
theorem ok_is_name (T : Txt K mg C) : FnOk P w K mg base CX0 2 T.d_is_name.f T.d_is_name.fd [("value" : Str)] (sp_is_name K C) := by
  refine T.d_is_name.fn.ok sc_is_name (fun vs H Q E h => ?_) (fun cdv A outer s H vs Q E hr h => ⟨rd_is_name K C E, ?_, pure_is_name vs H Q E h⟩)
  · first
    | (obtain ⟨_, rfl, _⟩ := h; rfl)
    | (obtain ⟨_, _, rfl, _⟩ := h; rfl)
    | (obtain ⟨_, _, _, rfl, _⟩ := h; rfl)
    | (obtain ⟨_, _, _, _, rfl, _⟩ := h; rfl)
    | (obtain ⟨_, _, _, _, _, rfl, _⟩ := h; rfl)
    | (obtain ⟨_, _, _, _, _, _, rfl, _⟩ := h; rfl)
    | (obtain ⟨_, _, _, _, _, _, _, rfl, _⟩ := h; rfl)
  · unfold rd_is_name
    exact (pss_cons (ps_if (PW.pt (pw_or (pt_not (pt_val (pe_callB c_isi (by rfl) T.b_isinstance (by decide +kernel) (pa_cons (pv 0) (pa_cons (pe_bltn (v := .ty "str") (by rfl) T.b_str (by decide +kernel) rfl) pa_nil))))) (pw_or1 (pt_not (pt_chain op_leF op_leF pe_int (pe_callB c_len (by rfl) T.b_len (by decide +kernel) (pa_cons (pv 0) pa_nil)) (pe_glob (by rfl) T.c_LONGEST_NAME ⟨_, rfl⟩)))))) (pss_one (ps_ret pe_bl)) pss_nil) (pss_one (ps_ret (pe_and (pe_cmpR op_inF (pe_ix ix_F (pv 0) pe_int (fun _ _ => rfl)) (pe_glob (by rfl) T.c_LETTERS ⟨_, rfl⟩) (by rfl)) (pe_one (pe_callB (c_all rfl) (by rfl) T.b_all (by decide +kernel) (pa_cons (pe_lc (own := [(("sign" : Str), 1)]) (g := (gName 1)) rfl sc_is_name.nd (pi_str (pv 0)) (blkOk_by (own := [(("sign" : Str), 1)]) (N := sN_is_name) (sc := defScope s_is_name) (by decide +kernel)) (fun _ _ _ _ _ => (pg_name (i := 1) sc_is_name.nd rfl (by first | exact .inl rfl | exact .inr rfl))) (fun _ _ _ _ _ => pts_nil) (fun _ _ _ _ _ => (pe_cmpR op_inF (pv 1) (pe_glob (by rfl) T.c_LETTERS_AND_DIGITS ⟨_, rfl⟩) (by rfl)))) pa_nil)))))))
theorem ok_is_place (T : Txt K mg C) : FnOk P w K mg base CX0 3 T.d_is_place.f T.d_is_place.fd [("value" : Str)] (sp_is_place K C) := by
  have G_is_name := ok_is_name (P := P) (w := w) (mg := mg) (base := base) T
  refine T.d_is_place.fn.ok sc_is_place (fun vs H Q E h => ?_) (fun cdv A outer s H vs Q E hr h => ⟨rd_is_place K C E, ?_, pure_is_place vs H Q E h⟩)
  · first
    | (obtain ⟨_, rfl, _⟩ := h; rfl)
    | (obtain ⟨_, _, rfl, _⟩ := h; rfl)
    | (obtain ⟨_, _, _, rfl, _⟩ := h; rfl)
    | (obtain ⟨_, _, _, _, rfl, _⟩ := h; rfl)
    | (obtain ⟨_, _, _, _, _, rfl, _⟩ := h; rfl)
    | (obtain ⟨_, _, _, _, _, _, rfl, _⟩ := h; rfl)
    | (obtain ⟨_, _, _, _, _, _, _, rfl, _⟩ := h; rfl)
  · unfold rd_is_place
    exact (pss_one (ps_ret (pe_or (pe_callS G_is_name (hr.mono (by decide)) (by rfl) T.d_is_name.mg T.d_is_name.fn.kp T.d_is_name.bi pass0S (pa_cons (pv 0) pa_nil)) (pe_one (pe_cmpR (op_eqX hr.units) (pv 0) (pe_glob (by rfl) T.c_END ⟨_, rfl⟩) (nomark _))))))
theorem ok_is_whole (T : Txt K mg C) : FnOk P w K mg base CX0 2 T.d_is_whole.f T.d_is_whole.fd [("value" : Str)] (sp_is_whole K C) := by
  refine T.d_is_whole.fn.ok sc_is_whole (fun vs H Q E h => ?_) (fun cdv A outer s H vs Q E hr h => ⟨rd_is_whole K C E, ?_, pure_is_whole vs H Q E h⟩)
  · first
    | (obtain ⟨_, rfl, _⟩ := h; rfl)
    | (obtain ⟨_, _, rfl, _⟩ := h; rfl)
    | (obtain ⟨_, _, _, rfl, _⟩ := h; rfl)
    | (obtain ⟨_, _, _, _, rfl, _⟩ := h; rfl)
    | (obtain ⟨_, _, _, _, _, rfl, _⟩ := h; rfl)
    | (obtain ⟨_, _, _, _, _, _, rfl, _⟩ := h; rfl)
    | (obtain ⟨_, _, _, _, _, _, _, rfl, _⟩ := h; rfl)
  · unfold rd_is_whole
    exact (pss_one (ps_ret (pe_and (pe_callB c_isi (by rfl) T.b_isinstance (by decide +kernel) (pa_cons (pv 0) (pa_cons (pe_bltn (v := .ty "int") (by rfl) T.b_int (by decide +kernel) rfl) pa_nil))) (pe_one (pe_not (pe_callB c_isi (by rfl) T.b_isinstance (by decide +kernel) (pa_cons (pv 0) (pa_cons (pe_bltn (v := .ty "bool") (by rfl) T.b_bool (by decide +kernel) rfl) pa_nil))))))))
theorem ok_is_day (T : Txt K mg C) : FnOk P w K mg base CX0 3 T.d_is_day.f T.d_is_day.fd [("value" : Str)] (sp_is_day K C) := by
  have G_is_whole := ok_is_whole (P := P) (w := w) (mg := mg) (base := base) T
  refine T.d_is_day.fn.ok sc_is_day (fun vs H Q E h => ?_) (fun cdv A outer s H vs Q E hr h => ⟨rd_is_day K C E, ?_, pure_is_day vs H Q E h⟩)
  · first
    | (obtain ⟨_, rfl, _⟩ := h; rfl)
    | (obtain ⟨_, _, rfl, _⟩ := h; rfl)
    | (obtain ⟨_, _, _, rfl, _⟩ := h; rfl)
    | (obtain ⟨_, _, _, _, rfl, _⟩ := h; rfl)
    | (obtain ⟨_, _, _, _, _, rfl, _⟩ := h; rfl)
    | (obtain ⟨_, _, _, _, _, _, rfl, _⟩ := h; rfl)
    | (obtain ⟨_, _, _, _, _, _, _, rfl, _⟩ := h; rfl)
  · unfold rd_is_day
    exact (pss_one (ps_ret (pe_and (pe_callS G_is_whole (hr.mono (by decide)) (by rfl) T.d_is_whole.mg T.d_is_whole.fn.kp T.d_is_whole.bi pass0S (pa_cons (pv 0) pa_nil)) (pe_one (pe_chain op_leF op_leF pe_int (pv 0) (pe_glob (by rfl) T.c_LAST_DAY ⟨_, rfl⟩))))))
theorem ok_is_number (T : Txt K mg C) : FnOk P w K mg base CX0 3 T.d_is_number.f T.d_is_number.fd [("value" : Str)] (sp_is_number K C) := by
  have G_is_whole := ok_is_whole (P := P) (w := w) (mg := mg) (base := base) T
  refine T.d_is_number.fn.ok sc_is_number (fun vs H Q E h => ?_) (fun cdv A outer s H vs Q E hr h => ⟨rd_is_number K C E, ?_, pure_is_number vs H Q E h⟩)
  · first
    | (obtain ⟨_, rfl, _⟩ := h; rfl)
    | (obtain ⟨_, _, rfl, _⟩ := h; rfl)
    | (obtain ⟨_, _, _, rfl, _⟩ := h; rfl)
    | (obtain ⟨_, _, _, _, rfl, _⟩ := h; rfl)
    | (obtain ⟨_, _, _, _, _, rfl, _⟩ := h; rfl)
    | (obtain ⟨_, _, _, _, _, _, rfl, _⟩ := h; rfl)
    | (obtain ⟨_, _, _, _, _, _, _, rfl, _⟩ := h; rfl)
  · unfold rd_is_number
    exact (pss_one (ps_ret (pe_and (pe_callS G_is_whole (hr.mono (by decide)) (by rfl) T.d_is_whole.mg T.d_is_whole.fn.kp T.d_is_whole.bi pass0S (pa_cons (pv 0) pa_nil)) (pe_one (pe_cmpR op_geF (pv 0) pe_int (nomark _))))))
theorem ok_is_plan (T : Txt K mg C) : FnOk P w K mg base CX0 3 T.d_is_plan.f T.d_is_plan.fd [("value" : Str)] (sp_is_plan K C) := by
  have G_is_name := ok_is_name (P := P) (w := w) (mg := mg) (base := base) T
  refine T.d_is_plan.fn.ok sc_is_plan (fun vs H Q E h => ?_) (fun cdv A outer s H vs Q E hr h => ⟨rd_is_plan K C E, ?_, pure_is_plan vs H Q E h⟩)
  · first
    | (obtain ⟨_, rfl, _⟩ := h; rfl)
    | (obtain ⟨_, _, rfl, _⟩ := h; rfl)
    | (obtain ⟨_, _, _, rfl, _⟩ := h; rfl)
    | (obtain ⟨_, _, _, _, rfl, _⟩ := h; rfl)
    | (obtain ⟨_, _, _, _, _, rfl, _⟩ := h; rfl)
    | (obtain ⟨_, _, _, _, _, _, rfl, _⟩ := h; rfl)
    | (obtain ⟨_, _, _, _, _, _, _, rfl, _⟩ := h; rfl)
  · unfold rd_is_plan
    exact (pss_cons (ps_if (PW.pt (pw_or (pt_not (pt_val (pe_callB c_isi (by rfl) T.b_isinstance (by decide +kernel) (pa_cons (pv 0) (pa_cons (pe_bltn (v := .ty "tuple") (by rfl) T.b_tuple (by decide +kernel) rfl) pa_nil))))) (pw_or1 (pt_not (pt_chain op_leF op_leF pe_int (pe_callB c_len (by rfl) T.b_len (by decide +kernel) (pa_cons (pv 0) pa_nil)) (pe_op op_addF (pe_glob (by rfl) T.c_LAST_DAY ⟨_, rfl⟩) pe_int)))))) (pss_one (ps_ret pe_bl)) pss_nil) (pss_one (ps_ret (pe_callB (c_all rfl) (by rfl) T.b_all (by decide +kernel) (pa_cons (pe_lc (own := [(("town" : Str), 1)]) (g := (gName 1)) rfl sc_is_plan.nd (pi_tup (pv 0)) (blkOk_by (own := [(("town" : Str), 1)]) (N := sN_is_plan) (sc := defScope s_is_plan) (by decide +kernel)) (fun _ _ _ _ _ => (pg_name (i := 1) sc_is_plan.nd rfl (by first | exact .inl rfl | exact .inr rfl))) (fun _ _ _ _ _ => pts_nil) (fun _ _ _ _ _ => (pe_callS G_is_name (hr.mono (by decide)) (by rfl) T.d_is_name.mg T.d_is_name.fn.kp T.d_is_name.bi pass0S (pa_cons (pv 1) pa_nil)))) pa_nil)))))
theorem ok_is_tuple_of (T : Txt K mg C) : FnOk P w K mg base CX0 2 T.d_is_tuple_of.f T.d_is_tuple_of.fd [("value" : Str), ("parts" : Str)] (sp_is_tuple_of K C) := by
  refine T.d_is_tuple_of.fn.ok sc_is_tuple_of (fun vs H Q E h => ?_) (fun cdv A outer s H vs Q E hr h => ⟨rd_is_tuple_of K C E, ?_, pure_is_tuple_of vs H Q E h⟩)
  · first
    | (obtain ⟨_, rfl, _⟩ := h; rfl)
    | (obtain ⟨_, _, rfl, _⟩ := h; rfl)
    | (obtain ⟨_, _, _, rfl, _⟩ := h; rfl)
    | (obtain ⟨_, _, _, _, rfl, _⟩ := h; rfl)
    | (obtain ⟨_, _, _, _, _, rfl, _⟩ := h; rfl)
    | (obtain ⟨_, _, _, _, _, _, rfl, _⟩ := h; rfl)
    | (obtain ⟨_, _, _, _, _, _, _, rfl, _⟩ := h; rfl)
  · unfold rd_is_tuple_of
    exact (pss_one (ps_ret (pe_and (pe_callB c_isi (by rfl) T.b_isinstance (by decide +kernel) (pa_cons (pv 0) (pa_cons (pe_bltn (v := .ty "tuple") (by rfl) T.b_tuple (by decide +kernel) rfl) pa_nil))) (pe_one (pe_cmpR (op_eqF hr.units) (pe_callB c_len (by rfl) T.b_len (by decide +kernel) (pa_cons (pv 0) pa_nil)) (pv 1) (nomark _))))))
theorem ok_is_crossing (T : Txt K mg C) : FnOk P w K mg base CX0 4 T.d_is_crossing.f T.d_is_crossing.fd [("value" : Str)] (sp_is_crossing K C) := by
  have G_is_day := ok_is_day (P := P) (w := w) (mg := mg) (base := base) T
  have G_is_name := ok_is_name (P := P) (w := w) (mg := mg) (base := base) T
  have G_is_tuple_of := ok_is_tuple_of (P := P) (w := w) (mg := mg) (base := base) T
  refine T.d_is_crossing.fn.ok sc_is_crossing (fun vs H Q E h => ?_) (fun cdv A outer s H vs Q E hr h => ⟨rd_is_crossing K C E, ?_, pure_is_crossing vs H Q E h⟩)
  · first
    | (obtain ⟨_, rfl, _⟩ := h; rfl)
    | (obtain ⟨_, _, rfl, _⟩ := h; rfl)
    | (obtain ⟨_, _, _, rfl, _⟩ := h; rfl)
    | (obtain ⟨_, _, _, _, rfl, _⟩ := h; rfl)
    | (obtain ⟨_, _, _, _, _, rfl, _⟩ := h; rfl)
    | (obtain ⟨_, _, _, _, _, _, rfl, _⟩ := h; rfl)
    | (obtain ⟨_, _, _, _, _, _, _, rfl, _⟩ := h; rfl)
  · unfold rd_is_crossing
    exact (pss_one (ps_ret (pe_and (pe_callS G_is_tuple_of (hr.mono (by decide)) (by rfl) T.d_is_tuple_of.mg T.d_is_tuple_of.fn.kp T.d_is_tuple_of.bi pass0S (pa_cons (pv 0) (pa_cons pe_int pa_nil))) (pe_and (pe_callS G_is_day (hr.mono (by decide)) (by rfl) T.d_is_day.mg T.d_is_day.fn.kp T.d_is_day.bi pass0S (pa_cons (pe_ix ix_F (pv 0) pe_int (fun _ _ => rfl)) pa_nil)) (pe_one (pe_callS G_is_name (hr.mono (by decide)) (by rfl) T.d_is_name.mg T.d_is_name.fn.kp T.d_is_name.bi pass0S (pa_cons (pe_ix ix_F (pv 0) pe_int (fun _ _ => rfl)) pa_nil)))))))
theorem ok_is_leg (T : Txt K mg C) : FnOk P w K mg base CX0 5 T.d_is_leg.f T.d_is_leg.fd [("value" : Str)] (sp_is_leg K C) := by
  have G_is_crossing := ok_is_crossing (P := P) (w := w) (mg := mg) (base := base) T
  have G_is_place := ok_is_place (P := P) (w := w) (mg := mg) (base := base) T
  have G_is_tuple_of := ok_is_tuple_of (P := P) (w := w) (mg := mg) (base := base) T
  refine T.d_is_leg.fn.ok sc_is_leg (fun vs H Q E h => ?_) (fun cdv A outer s H vs Q E hr h => ⟨rd_is_leg K C E, ?_, pure_is_leg vs H Q E h⟩)
  · first
    | (obtain ⟨_, rfl, _⟩ := h; rfl)
    | (obtain ⟨_, _, rfl, _⟩ := h; rfl)
    | (obtain ⟨_, _, _, rfl, _⟩ := h; rfl)
    | (obtain ⟨_, _, _, _, rfl, _⟩ := h; rfl)
    | (obtain ⟨_, _, _, _, _, rfl, _⟩ := h; rfl)
    | (obtain ⟨_, _, _, _, _, _, rfl, _⟩ := h; rfl)
    | (obtain ⟨_, _, _, _, _, _, _, rfl, _⟩ := h; rfl)
  · unfold rd_is_leg
    exact (pss_cons (ps_if (PW.pt (pw_or (pt_not (pt_val (pe_callS G_is_tuple_of (hr.mono (by decide)) (by rfl) T.d_is_tuple_of.mg T.d_is_tuple_of.fn.kp T.d_is_tuple_of.bi pass0S (pa_cons (pv 0) (pa_cons pe_int pa_nil))))) (pw_or (pt_not (pt_val (pe_callS G_is_crossing (hr.mono (by decide)) (by rfl) T.d_is_crossing.mg T.d_is_crossing.fn.kp T.d_is_crossing.bi pass0S (pa_cons (pe_slice sl_F2 (pv 0) po_none (po_some pe_int)) pa_nil)))) (pw_or1 (pt_not (pt_val (pe_callS G_is_place (hr.mono (by decide)) (by rfl) T.d_is_place.mg T.d_is_place.fn.kp T.d_is_place.bi pass0S (pa_cons (pe_ix ix_F (pv 0) pe_int (fun _ _ => rfl)) pa_nil)))))))) (pss_one (ps_ret pe_bl)) pss_nil) (pss_one (ps_ret (pe_or (pe_cmpR (op_eqX hr.units) (pe_ix ix_F (pv 0) pe_int (fun _ _ => rfl)) (pe_glob (by rfl) T.c_END ⟨_, rfl⟩) (nomark _)) (pe_one (pe_cmpR op_ltF (pe_ix ix_F (pv 0) pe_int (fun _ _ => rfl)) (pe_glob (by rfl) T.c_LAST_DAY ⟨_, rfl⟩) (nomark _)))))))
theorem ok_is_deed (T : Txt K mg C) : FnOk P w K mg base CX0 4 T.d_is_deed.f T.d_is_deed.fd [("value" : Str)] (sp_is_deed K C) := by
  have G_is_day := ok_is_day (P := P) (w := w) (mg := mg) (base := base) T
  have G_is_name := ok_is_name (P := P) (w := w) (mg := mg) (base := base) T
  have G_is_tuple_of := ok_is_tuple_of (P := P) (w := w) (mg := mg) (base := base) T
  refine T.d_is_deed.fn.ok sc_is_deed (fun vs H Q E h => ?_) (fun cdv A outer s H vs Q E hr h => ⟨rd_is_deed K C E, ?_, pure_is_deed vs H Q E h⟩)
  · first
    | (obtain ⟨_, rfl, _⟩ := h; rfl)
    | (obtain ⟨_, _, rfl, _⟩ := h; rfl)
    | (obtain ⟨_, _, _, rfl, _⟩ := h; rfl)
    | (obtain ⟨_, _, _, _, rfl, _⟩ := h; rfl)
    | (obtain ⟨_, _, _, _, _, rfl, _⟩ := h; rfl)
    | (obtain ⟨_, _, _, _, _, _, rfl, _⟩ := h; rfl)
    | (obtain ⟨_, _, _, _, _, _, _, rfl, _⟩ := h; rfl)
  · unfold rd_is_deed
    exact (pss_one (ps_ret (pe_and (pe_callS G_is_tuple_of (hr.mono (by decide)) (by rfl) T.d_is_tuple_of.mg T.d_is_tuple_of.fn.kp T.d_is_tuple_of.bi pass0S (pa_cons (pv 0) (pa_cons pe_int pa_nil))) (pe_and (pe_callS G_is_name (hr.mono (by decide)) (by rfl) T.d_is_name.mg T.d_is_name.fn.kp T.d_is_name.bi pass0S (pa_cons (pe_ix ix_F (pv 0) pe_int (fun _ _ => rfl)) pa_nil)) (pe_and (pe_callS G_is_name (hr.mono (by decide)) (by rfl) T.d_is_name.mg T.d_is_name.fn.kp T.d_is_name.bi pass0S (pa_cons (pe_ix ix_F (pv 0) pe_int (fun _ _ => rfl)) pa_nil)) (pe_one (pe_callS G_is_day (hr.mono (by decide)) (by rfl) T.d_is_day.mg T.d_is_day.fn.kp T.d_is_day.bi pass0S (pa_cons (pe_ix ix_F (pv 0) pe_int (fun _ _ => rfl)) pa_nil))))))))
theorem ok_is_history (T : Txt K mg C) : FnOk P w K mg base CX0 5 T.d_is_history.f T.d_is_history.fd [("value" : Str)] (sp_is_history K C) := by
  have G_is_deed := ok_is_deed (P := P) (w := w) (mg := mg) (base := base) T
  refine T.d_is_history.fn.ok sc_is_history (fun vs H Q E h => ?_) (fun cdv A outer s H vs Q E hr h => ⟨rd_is_history K C E, ?_, pure_is_history vs H Q E h⟩)
  · first
    | (obtain ⟨_, rfl, _⟩ := h; rfl)
    | (obtain ⟨_, _, rfl, _⟩ := h; rfl)
    | (obtain ⟨_, _, _, rfl, _⟩ := h; rfl)
    | (obtain ⟨_, _, _, _, rfl, _⟩ := h; rfl)
    | (obtain ⟨_, _, _, _, _, rfl, _⟩ := h; rfl)
    | (obtain ⟨_, _, _, _, _, _, rfl, _⟩ := h; rfl)
    | (obtain ⟨_, _, _, _, _, _, _, rfl, _⟩ := h; rfl)
  · unfold rd_is_history
    exact (pss_one (ps_ret (pe_and (pe_callB c_isi (by rfl) T.b_isinstance (by decide +kernel) (pa_cons (pv 0) (pa_cons (pe_bltn (v := .ty "list") (by rfl) T.b_list (by decide +kernel) rfl) pa_nil))) (pe_and (pe_cmpR op_leF (pe_callB c_len (by rfl) T.b_len (by decide +kernel) (pa_cons (pv 0) pa_nil)) (pe_glob (by rfl) T.c_MOST_DEEDS ⟨_, rfl⟩) (nomark _)) (pe_one (pe_callB (c_all rfl) (by rfl) T.b_all (by decide +kernel) (pa_cons (pe_lc (own := [(("deed" : Str), 1)]) (g := (gName 1)) rfl sc_is_history.nd (pi_list (pv 0)) (blkOk_by (own := [(("deed" : Str), 1)]) (N := sN_is_history) (sc := defScope s_is_history) (by decide +kernel)) (fun _ _ _ _ _ => (pg_name (i := 1) sc_is_history.nd rfl (by first | exact .inl rfl | exact .inr rfl))) (fun _ _ _ _ _ => pts_nil) (fun _ _ _ _ _ => (pe_callS G_is_deed (hr.mono (by decide)) (by rfl) T.d_is_deed.mg T.d_is_deed.fn.kp T.d_is_deed.bi pass0S (pa_cons (pv 1) pa_nil)))) pa_nil)))))))
theorem ok_is_sighting (T : Txt K mg C) : FnOk P w K mg base CX0 4 T.d_is_sighting.f T.d_is_sighting.fd [("value" : Str)] (sp_is_sighting K C) := by
  have G_is_day := ok_is_day (P := P) (w := w) (mg := mg) (base := base) T
  have G_is_name := ok_is_name (P := P) (w := w) (mg := mg) (base := base) T
  have G_is_place := ok_is_place (P := P) (w := w) (mg := mg) (base := base) T
  have G_is_tuple_of := ok_is_tuple_of (P := P) (w := w) (mg := mg) (base := base) T
  refine T.d_is_sighting.fn.ok sc_is_sighting (fun vs H Q E h => ?_) (fun cdv A outer s H vs Q E hr h => ⟨rd_is_sighting K C E, ?_, pure_is_sighting vs H Q E h⟩)
  · first
    | (obtain ⟨_, rfl, _⟩ := h; rfl)
    | (obtain ⟨_, _, rfl, _⟩ := h; rfl)
    | (obtain ⟨_, _, _, rfl, _⟩ := h; rfl)
    | (obtain ⟨_, _, _, _, rfl, _⟩ := h; rfl)
    | (obtain ⟨_, _, _, _, _, rfl, _⟩ := h; rfl)
    | (obtain ⟨_, _, _, _, _, _, rfl, _⟩ := h; rfl)
    | (obtain ⟨_, _, _, _, _, _, _, rfl, _⟩ := h; rfl)
  · unfold rd_is_sighting
    exact (pss_one (ps_ret (pe_and (pe_callS G_is_tuple_of (hr.mono (by decide)) (by rfl) T.d_is_tuple_of.mg T.d_is_tuple_of.fn.kp T.d_is_tuple_of.bi pass0S (pa_cons (pv 0) (pa_cons pe_int pa_nil))) (pe_and (pe_callS G_is_name (hr.mono (by decide)) (by rfl) T.d_is_name.mg T.d_is_name.fn.kp T.d_is_name.bi pass0S (pa_cons (pe_ix ix_F (pv 0) pe_int (fun _ _ => rfl)) pa_nil)) (pe_and (pe_callS G_is_day (hr.mono (by decide)) (by rfl) T.d_is_day.mg T.d_is_day.fn.kp T.d_is_day.bi pass0S (pa_cons (pe_ix ix_F (pv 0) pe_int (fun _ _ => rfl)) pa_nil)) (pe_one (pe_callS G_is_place (hr.mono (by decide)) (by rfl) T.d_is_place.mg T.d_is_place.fn.kp T.d_is_place.bi pass0S (pa_cons (pe_ix ix_F (pv 0) pe_int (fun _ _ => rfl)) pa_nil))))))))
theorem ok_l_mixed (T : Txt K mg C) : FnOk P w K mg base CX0 2 T.d_l_mixed.f T.d_l_mixed.fd [("cell" : Str), ("k" : Str)] (sp_l_mixed K C) := by
  refine T.d_l_mixed.fn.ok sc_l_mixed (fun vs H Q E h => ?_) (fun cdv A outer s H vs Q E hr h => ⟨rd_l_mixed K C E, ?_, pure_l_mixed vs H Q E h⟩)
  · first
    | (obtain ⟨_, rfl, _⟩ := h; rfl)
    | (obtain ⟨_, _, rfl, _⟩ := h; rfl)
    | (obtain ⟨_, _, _, rfl, _⟩ := h; rfl)
    | (obtain ⟨_, _, _, _, rfl, _⟩ := h; rfl)
    | (obtain ⟨_, _, _, _, _, rfl, _⟩ := h; rfl)
    | (obtain ⟨_, _, _, _, _, _, rfl, _⟩ := h; rfl)
    | (obtain ⟨_, _, _, _, _, _, _, rfl, _⟩ := h; rfl)
  · unfold rd_l_mixed
    exact (pss_cons (ps_set (i := 2) sc_l_mixed.nd rfl (Or.inl rfl) (pe_op op_modF (pe_callTy c_int (by rfl) T.b_int (by decide +kernel) (pa_cons (pe_op op_addF (pe_op op_addF (pe_op op_mulF (pe_callTy c_int (by rfl) T.b_int (by decide +kernel) (pa_cons (pv 0) pa_nil)) pe_int) (pe_op op_mulF (pv 1) pe_int)) pe_int) pa_nil)) pe_int)) (pss_cons (ps_set (i := 3) sc_l_mixed.nd rfl (Or.inl rfl) (pe_op op_modF (pe_callTy c_int (by rfl) T.b_int (by decide +kernel) (pa_cons (pe_op op_addF (pe_op op_addF (pe_op op_mulF (pv 2) (pv 2)) (pe_op op_mulF (pv 1) pe_int)) pe_int) pa_nil)) pe_int)) (pss_one (ps_ret (pe_op op_modF (pe_callTy c_int (by rfl) T.b_int (by decide +kernel) (pa_cons (pe_op op_addF (pe_op op_mulF (pv 3) (pv 3)) (pv 2)) pa_nil)) pe_int)))))
theorem ok_l_store (T : Txt K mg C) : FnOk P w K mg base CX0 3 T.d_l_store.f T.d_l_store.fd [("script" : Str)] (sp_l_store K C) := by
  have G_l_mixed := ok_l_mixed (P := P) (w := w) (mg := mg) (base := base) T
  refine T.d_l_store.fn.ok sc_l_store (fun vs H Q E h => ?_) (fun cdv A outer s H vs Q E hr h => ⟨rd_l_store K C E, ?_, pure_l_store vs H Q E h⟩)
  · first
    | (obtain ⟨_, rfl, _⟩ := h; rfl)
    | (obtain ⟨_, _, rfl, _⟩ := h; rfl)
    | (obtain ⟨_, _, _, rfl, _⟩ := h; rfl)
    | (obtain ⟨_, _, _, _, rfl, _⟩ := h; rfl)
    | (obtain ⟨_, _, _, _, _, rfl, _⟩ := h; rfl)
    | (obtain ⟨_, _, _, _, _, _, rfl, _⟩ := h; rfl)
    | (obtain ⟨_, _, _, _, _, _, _, rfl, _⟩ := h; rfl)
  · unfold rd_l_store
    exact (pss_cons (ps_setLc (i := 2) (own := [(("cell" : Str), 1)]) (g := (gName 1)) rfl sc_l_store.nd rfl rfl (sw_true rfl rfl rfl (by decide +kernel)) (pi_list (pv 0)) (blkOk_by (own := [(("cell" : Str), 1)]) (N := sN_l_store) (sc := defScope s_l_store) (by decide +kernel)) (fun _ _ _ _ _ => (pg_name (i := 1) sc_l_store.nd rfl (by first | exact .inl rfl | exact .inr rfl))) (fun _ _ _ _ _ => pts_nil) (fun _ _ _ _ _ => (pe_callTy c_int (by rfl) T.b_int (by decide +kernel) (pa_cons (pv 1) pa_nil)))) (pss_cons (ps_set (i := 3) sc_l_store.nd rfl (Or.inl rfl) pe_int) (pss_cons (ps_for PassesOwn.never rfl (pi_list (pv 2)) (pg_name (i := 1) sc_l_store.nd rfl (by first | exact .inl rfl | exact .inr rfl)) (pss_one (ps_set (i := 3) sc_l_store.nd rfl (Or.inl rfl) (pe_callS G_l_mixed (hr.mono (by decide)) (by rfl) T.d_l_mixed.mg T.d_l_mixed.fn.kp T.d_l_mixed.bi pass0S (pa_cons (pe_op op_addF (pe_callTy c_int (by rfl) T.b_int (by decide +kernel) (pa_cons (pv 1) pa_nil)) (pv 3)) (pa_cons (pe_callB c_len (by rfl) T.b_len (by decide +kernel) (pa_cons (pv 2) pa_nil)) pa_nil)))))) (pss_one (ps_ret (pe_lst (pa_cons (pv 2) (pa_cons pe_int (pa_cons pe_int (pa_cons pe_int (pa_cons (pv 3) pa_nil)))))))))))
theorem ok_l_take (T : Txt K mg C) : FnOk P w K mg base CX0 3 T.d_l_take.f T.d_l_take.fd [("store" : Str), ("many" : Str)] (sp_l_take K C) := by
  have G_l_mixed := ok_l_mixed (P := P) (w := w) (mg := mg) (base := base) T
  refine T.d_l_take.fn.ok sc_l_take (fun vs H Q E h => ?_) (fun cdv A outer s H vs Q E hr h => ⟨rd_l_take K C E, ?_, pure_l_take vs H Q E h⟩)
  · first
    | (obtain ⟨_, rfl, _⟩ := h; rfl)
    | (obtain ⟨_, _, rfl, _⟩ := h; rfl)
    | (obtain ⟨_, _, _, rfl, _⟩ := h; rfl)
    | (obtain ⟨_, _, _, _, rfl, _⟩ := h; rfl)
    | (obtain ⟨_, _, _, _, _, rfl, _⟩ := h; rfl)
    | (obtain ⟨_, _, _, _, _, _, rfl, _⟩ := h; rfl)
    | (obtain ⟨_, _, _, _, _, _, _, rfl, _⟩ := h; rfl)
  · unfold rd_l_take
    exact (pss_cons (ps_set (i := 2) sc_l_take.nd rfl (Or.inl rfl) (pe_callB (c_max rfl) (by rfl) T.b_max (by decide +kernel) (pa_cons pe_int (pa_cons (pv 1) pa_nil)))) (pss_cons (ps_asg (pe_op op_addF (pe_ix ix_F (pv 0) pe_int (fun _ _ => rfl)) pe_int) (pg_sub (pv 0) pe_int set_F)) (Evl.pss_cut (ps_if (PW.pt (pw_and (pt_cmpR (op_eqF hr.units) (pe_ix ix_F (pv 0) pe_int (fun _ _ => rfl)) pe_int (nomark _)) (pw_and1 (pt_cmpR op_ltF (pe_ix ix_F (pv 0) pe_int (fun _ _ => rfl)) (pe_callB c_len (by rfl) T.b_len (by decide +kernel) (pa_cons (pe_ix ix_F (pv 0) pe_int (fun _ _ => rfl)) pa_nil)) (nomark _))))) (pss_cons (ps_set (i := 3) sc_l_take.nd rfl (Or.inl rfl) (pe_callTy c_int (by rfl) T.b_int (by decide +kernel) (pa_cons (pe_ix ix_F (pe_ix ix_F (pv 0) pe_int (fun _ _ => rfl)) (pe_ix ix_F (pv 0) pe_int (fun _ _ => rfl)) (fun _ _ => rfl)) pa_nil))) (pss_cons (ps_asg (pe_op op_addF (pe_ix ix_F (pv 0) pe_int (fun _ _ => rfl)) pe_int) (pg_sub (pv 0) pe_int set_F)) (pss_cons (ps_if (pt_cmpR op_ltF (pv 3) (pe_op op_powF pe_int pe_int) (nomark _)) (pss_one (ps_ret (pe_op op_modF (pe_callTy c_int (by rfl) T.b_int (by decide +kernel) (pa_cons (pe_callS G_l_mixed (hr.mono (by decide)) (by rfl) T.d_l_mixed.mg T.d_l_mixed.fn.kp T.d_l_mixed.bi pass0S (pa_cons (pv 3) (pa_cons (pe_ix ix_F (pv 0) pe_int (fun _ _ => rfl)) pa_nil))) pa_nil)) (pv 2)))) pss_nil) (pss_one (ps_asg (pv 3) (pg_sub (pv 0) pe_int set_F)))))) pss_nil) (pss_cons (ps_if (pt_cmpR (op_eqF hr.units) (pe_ix ix_F (pv 0) pe_int (fun _ _ => rfl)) pe_int (nomark _)) (pss_one (ps_ret (pe_op op_modF (pe_callTy c_int (by rfl) T.b_int (by decide +kernel) (pa_cons (pe_callS G_l_mixed (hr.mono (by decide)) (by rfl) T.d_l_mixed.mg T.d_l_mixed.fn.kp T.d_l_mixed.bi pass0S (pa_cons (pe_ix ix_F (pv 0) pe_int (fun _ _ => rfl)) (pa_cons (pe_ix ix_F (pv 0) pe_int (fun _ _ => rfl)) pa_nil))) pa_nil)) (pv 2)))) pss_nil) (pss_cons (ps_set (i := 4) sc_l_take.nd rfl (Or.inl rfl) (pe_op op_modF (pe_callTy c_int (by rfl) T.b_int (by decide +kernel) (pa_cons (pe_ix ix_F (pv 0) pe_int (fun _ _ => rfl)) pa_nil)) (pv 2))) (pss_cons (ps_asg (pe_op op_divF (pe_callTy c_int (by rfl) T.b_int (by decide +kernel) (pa_cons (pe_ix ix_F (pv 0) pe_int (fun _ _ => rfl)) pa_nil)) (pv 2)) (pg_sub (pv 0) pe_int set_F)) (pss_one (ps_ret (pv 4)))))))))
theorem ok_l_great (T : Txt K mg C) : FnOk P w K mg base CX0 4 T.d_l_great.f T.d_l_great.fd [("store" : Str), ("many" : Str)] (sp_l_great K C) := by
  have G_l_take := ok_l_take (P := P) (w := w) (mg := mg) (base := base) T
  refine T.d_l_great.fn.ok sc_l_great (fun vs H Q E h => ?_) (fun cdv A outer s H vs Q E hr h => ⟨rd_l_great K C E, ?_, pure_l_great vs H Q E h⟩)
  · first
    | (obtain ⟨_, rfl, _⟩ := h; rfl)
    | (obtain ⟨_, _, rfl, _⟩ := h; rfl)
    | (obtain ⟨_, _, _, rfl, _⟩ := h; rfl)
    | (obtain ⟨_, _, _, _, rfl, _⟩ := h; rfl)
    | (obtain ⟨_, _, _, _, _, rfl, _⟩ := h; rfl)
    | (obtain ⟨_, _, _, _, _, _, rfl, _⟩ := h; rfl)
    | (obtain ⟨_, _, _, _, _, _, _, rfl, _⟩ := h; rfl)
  · unfold rd_l_great
    exact (pss_cons (ps_set (i := 2) sc_l_great.nd rfl (Or.inl rfl) pe_int) (pss_cons (ps_for PassesOwn.never rfl (pi_range1 (by rfl) T.b_range (pa_cons pe_int pa_nil)) (pg_name (i := 3) sc_l_great.nd rfl (by first | exact .inl rfl | exact .inr rfl)) (pss_one (ps_set (i := 2) sc_l_great.nd rfl (Or.inl rfl) (pe_op op_addF (pe_op op_mulF (pv 2) pe_int) (pe_callS G_l_take (hr.mono (by decide)) (by rfl) T.d_l_take.mg T.d_l_take.fn.kp T.d_l_take.bi pass0S (pa_cons (pv 0) (pa_cons pe_int pa_nil))))))) (pss_one (ps_ret (pe_op op_modF (pe_callTy c_int (by rfl) T.b_int (by decide +kernel) (pa_cons (pv 2) pa_nil)) (pe_callB (c_max rfl) (by rfl) T.b_max (by decide +kernel) (pa_cons pe_int (pa_cons (pv 1) pa_nil))))))))
theorem ok_l_edge (T : Txt K mg C) : FnOk P w K mg base CX0 5 T.d_l_edge.f T.d_l_edge.fd [("store" : Str), ("low" : Str), ("high" : Str)] (sp_l_edge K C) := by
  have G_l_great := ok_l_great (P := P) (w := w) (mg := mg) (base := base) T
  have G_l_take := ok_l_take (P := P) (w := w) (mg := mg) (base := base) T
  refine T.d_l_edge.fn.ok sc_l_edge (fun vs H Q E h => ?_) (fun cdv A outer s H vs Q E hr h => ⟨rd_l_edge K C E, ?_, pure_l_edge vs H Q E h⟩)
  · first
    | (obtain ⟨_, rfl, _⟩ := h; rfl)
    | (obtain ⟨_, _, rfl, _⟩ := h; rfl)
    | (obtain ⟨_, _, _, rfl, _⟩ := h; rfl)
    | (obtain ⟨_, _, _, _, rfl, _⟩ := h; rfl)
    | (obtain ⟨_, _, _, _, _, rfl, _⟩ := h; rfl)
    | (obtain ⟨_, _, _, _, _, _, rfl, _⟩ := h; rfl)
    | (obtain ⟨_, _, _, _, _, _, _, rfl, _⟩ := h; rfl)
  · unfold rd_l_edge
    exact (pss_cons (ps_if (pt_cmpR op_leF (pv 2) (pv 1) (nomark _)) (pss_one (ps_ret (pv 1))) pss_nil) (pss_cons (ps_set (i := 3) sc_l_edge.nd rfl (Or.inl rfl) (pe_callS G_l_take (hr.mono (by decide)) (by rfl) T.d_l_take.mg T.d_l_take.fn.kp T.d_l_take.bi pass0S (pa_cons (pv 0) (pa_cons pe_int pa_nil)))) (pss_cons (ps_if (pt_cmpR (op_eqF hr.units) (pv 3) pe_int (nomark _)) (pss_one (ps_ret (pv 1))) pss_nil) (pss_cons (ps_if (pt_cmpR (op_eqF hr.units) (pv 3) pe_int (nomark _)) (pss_one (ps_ret (pv 2))) pss_nil) (pss_cons (ps_if (pt_cmpR op_ltF (pe_op op_subF (pv 2) (pv 1)) pe_int (nomark _)) (pss_one (ps_ret (pe_op op_addF (pv 1) (pe_callS G_l_take (hr.mono (by decide)) (by rfl) T.d_l_take.mg T.d_l_take.fn.kp T.d_l_take.bi pass0S (pa_cons (pv 0) (pa_cons (pe_op op_addF (pe_op op_subF (pv 2) (pv 1)) pe_int) pa_nil)))))) pss_nil) (pss_one (ps_ret (pe_op op_addF (pv 1) (pe_callS G_l_great (hr.mono (by decide)) (by rfl) T.d_l_great.mg T.d_l_great.fn.kp T.d_l_great.bi pass0S (pa_cons (pv 0) (pa_cons (pe_op op_addF (pe_op op_subF (pv 2) (pv 1)) pe_int) pa_nil)))))))))))
theorem ok_l_number (T : Txt K mg C) : FnOk P w K mg base CX0 5 T.d_l_number.f T.d_l_number.fd [("store" : Str)] (sp_l_number K C) := by
  have G_l_great := ok_l_great (P := P) (w := w) (mg := mg) (base := base) T
  have G_l_take := ok_l_take (P := P) (w := w) (mg := mg) (base := base) T
  refine T.d_l_number.fn.ok sc_l_number (fun vs H Q E h => ?_) (fun cdv A outer s H vs Q E hr h => ⟨rd_l_number K C E, ?_, pure_l_number vs H Q E h⟩)
  · first
    | (obtain ⟨_, rfl, _⟩ := h; rfl)
    | (obtain ⟨_, _, rfl, _⟩ := h; rfl)
    | (obtain ⟨_, _, _, rfl, _⟩ := h; rfl)
    | (obtain ⟨_, _, _, _, rfl, _⟩ := h; rfl)
    | (obtain ⟨_, _, _, _, _, rfl, _⟩ := h; rfl)
    | (obtain ⟨_, _, _, _, _, _, rfl, _⟩ := h; rfl)
    | (obtain ⟨_, _, _, _, _, _, _, rfl, _⟩ := h; rfl)
  · unfold rd_l_number
    exact (pss_cons (ps_set (i := 1) sc_l_number.nd rfl (Or.inl rfl) (pe_op op_subF (pe_op op_powF pe_int pe_int) pe_int)) (pss_cons (ps_set (i := 2) sc_l_number.nd rfl (Or.inl rfl) (pe_callS G_l_take (hr.mono (by decide)) (by rfl) T.d_l_take.mg T.d_l_take.fn.kp T.d_l_take.bi pass0S (pa_cons (pv 0) (pa_cons pe_int pa_nil)))) (pss_cons (ps_if (pt_cmpR op_ltF (pv 2) pe_int (nomark _)) (pss_one (ps_ret (pe_ix ix_F (pe_lst (pa_cons pe_int (pa_cons pe_int (pa_cons (pe_un un_negF pe_int) (pa_cons (pv 1) (pa_cons (pe_op op_subF pe_int (pv 1)) pa_nil)))))) (pv 2) (fun _ _ => rfl)))) pss_nil) (pss_cons (ps_if (pt_cmpR op_ltF (pv 2) pe_int (nomark _)) (pss_one (ps_ret (pe_op op_subF (pe_callS G_l_take (hr.mono (by decide)) (by rfl) T.d_l_take.mg T.d_l_take.fn.kp T.d_l_take.bi pass0S (pa_cons (pv 0) (pa_cons pe_int pa_nil))) pe_int))) pss_nil) (pss_one (ps_ret (pe_op op_subF (pe_callS G_l_great (hr.mono (by decide)) (by rfl) T.d_l_great.mg T.d_l_great.fn.kp T.d_l_great.bi pass0S (pa_cons (pv 0) (pa_cons (pe_op op_addF (pe_op op_mulF pe_int (pv 1)) pe_int) pa_nil))) (pv 1))))))))
theorem ok_l_pick (T : Txt K mg C) : FnOk P w K mg base CX0 4 T.d_l_pick.f T.d_l_pick.fd [("store" : Str), ("row" : Str)] (sp_l_pick K C) := by
  have G_l_take := ok_l_take (P := P) (w := w) (mg := mg) (base := base) T
  refine T.d_l_pick.fn.ok sc_l_pick (fun vs H Q E h => ?_) (fun cdv A outer s H vs Q E hr h => ⟨rd_l_pick K C E, ?_, pure_l_pick vs H Q E h⟩)
  · first
    | (obtain ⟨_, rfl, _⟩ := h; rfl)
    | (obtain ⟨_, _, rfl, _⟩ := h; rfl)
    | (obtain ⟨_, _, _, rfl, _⟩ := h; rfl)
    | (obtain ⟨_, _, _, _, rfl, _⟩ := h; rfl)
    | (obtain ⟨_, _, _, _, _, rfl, _⟩ := h; rfl)
    | (obtain ⟨_, _, _, _, _, _, rfl, _⟩ := h; rfl)
    | (obtain ⟨_, _, _, _, _, _, _, rfl, _⟩ := h; rfl)
  · unfold rd_l_pick
    exact (pss_cons (ps_if (pt_cmpR (op_eqF hr.units) (pe_callB c_len (by rfl) T.b_len (by decide +kernel) (pa_cons (pv 1) pa_nil)) pe_int (nomark _)) (pss_one (ps_ret pe_non)) pss_nil) (pss_one (ps_ret (pe_ix ix_F (pv 1) (pe_callS G_l_take (hr.mono (by decide)) (by rfl) T.d_l_take.mg T.d_l_take.fn.kp T.d_l_take.bi pass0S (pa_cons (pv 0) (pa_cons (pe_callB c_len (by rfl) T.b_len (by decide +kernel) (pa_cons (pv 1) pa_nil)) pa_nil))) (fun _ _ => rfl)))))
theorem ok_l_word (T : Txt K mg C) : FnOk P w K mg base CX0 4 T.d_l_word.f T.d_l_word.fd [("store" : Str), ("size" : Str)] (sp_l_word K C) := by
  have G_l_take := ok_l_take (P := P) (w := w) (mg := mg) (base := base) T
  refine T.d_l_word.fn.ok sc_l_word (fun vs H Q E h => ?_) (fun cdv A outer s H vs Q E hr h => ⟨rd_l_word K C E, ?_, pure_l_word vs H Q E h⟩)
  · first
    | (obtain ⟨_, rfl, _⟩ := h; rfl)
    | (obtain ⟨_, _, rfl, _⟩ := h; rfl)
    | (obtain ⟨_, _, _, rfl, _⟩ := h; rfl)
    | (obtain ⟨_, _, _, _, rfl, _⟩ := h; rfl)
    | (obtain ⟨_, _, _, _, _, rfl, _⟩ := h; rfl)
    | (obtain ⟨_, _, _, _, _, _, rfl, _⟩ := h; rfl)
    | (obtain ⟨_, _, _, _, _, _, _, rfl, _⟩ := h; rfl)
  · unfold rd_l_word
    exact (pss_cons (ps_set (i := 2) sc_l_word.nd rfl (Or.inl rfl) pe_str) (pss_cons (ps_set (i := 3) sc_l_word.nd rfl (Or.inl rfl) (pe_op op_addF (pv 2) pe_str)) (pss_cons (ps_set (i := 4) sc_l_word.nd rfl (Or.inl rfl) (pe_ix ix_F (pv 2) (pe_callS G_l_take (hr.mono (by decide)) (by rfl) T.d_l_take.mg T.d_l_take.fn.kp T.d_l_take.bi pass0S (pa_cons (pv 0) (pa_cons pe_int pa_nil))) (fun _ _ => rfl))) (pss_cons (ps_for PassesOwn.never rfl (pi_range1 (by rfl) T.b_range (pa_cons (pe_callB (c_min rfl) (by rfl) T.b_min (by decide +kernel) (pa_cons pe_int (pa_cons (pe_op op_subF (pv 1) pe_int) pa_nil))) pa_nil)) (pg_name (i := 5) sc_l_word.nd rfl (by first | exact .inl rfl | exact .inr rfl)) (pss_one (ps_set (i := 4) sc_l_word.nd rfl (Or.inl rfl) (pe_op op_addF (pv 4) (pe_ix ix_F (pv 3) (pe_callS G_l_take (hr.mono (by decide)) (by rfl) T.d_l_take.mg T.d_l_take.fn.kp T.d_l_take.bi pass0S (pa_cons (pv 0) (pa_cons pe_int pa_nil))) (fun _ _ => rfl)))))) (pss_one (ps_ret (pv 4)))))))
theorem ok_l_text (T : Txt K mg C) : FnOk P w K mg base CX0 6 T.d_l_text.f T.d_l_text.fd [("store" : Str), ("limit" : Str)] (sp_l_text K C) := by
  have G_l_edge := ok_l_edge (P := P) (w := w) (mg := mg) (base := base) T
  have G_l_take := ok_l_take (P := P) (w := w) (mg := mg) (base := base) T
  refine T.d_l_text.fn.ok sc_l_text (fun vs H Q E h => ?_) (fun cdv A outer s H vs Q E hr h => ⟨rd_l_text K C E, ?_, pure_l_text vs H Q E h⟩)
  · first
    | (obtain ⟨_, rfl, _⟩ := h; rfl)
    | (obtain ⟨_, _, rfl, _⟩ := h; rfl)
    | (obtain ⟨_, _, _, rfl, _⟩ := h; rfl)
    | (obtain ⟨_, _, _, _, rfl, _⟩ := h; rfl)
    | (obtain ⟨_, _, _, _, _, rfl, _⟩ := h; rfl)
    | (obtain ⟨_, _, _, _, _, _, rfl, _⟩ := h; rfl)
    | (obtain ⟨_, _, _, _, _, _, _, rfl, _⟩ := h; rfl)
  · unfold rd_l_text
    exact (pss_cons (ps_set (i := 2) sc_l_text.nd rfl (Or.inl rfl) pe_str) (pss_cons (ps_set (i := 2) sc_l_text.nd rfl (Or.inl rfl) (pe_op op_addF (pv 2) pe_str)) (pss_cons (ps_set (i := 3) sc_l_text.nd rfl (Or.inl rfl) (pe_callS G_l_edge (hr.mono (by decide)) (by rfl) T.d_l_edge.mg T.d_l_edge.fn.kp T.d_l_edge.bi pass0S (pa_cons (pv 0) (pa_cons pe_int (pa_cons (pv 1) pa_nil))))) (pss_cons (ps_if (pt_cmpR (op_eqF hr.units) (pe_callS G_l_take (hr.mono (by decide)) (by rfl) T.d_l_take.mg T.d_l_take.fn.kp T.d_l_take.bi pass0S (pa_cons (pv 0) (pa_cons pe_int pa_nil))) pe_int (nomark _)) (pss_one (ps_ret (pe_op op_mulS (pe_ix ix_F (pv 2) (pe_callS G_l_take (hr.mono (by decide)) (by rfl) T.d_l_take.mg T.d_l_take.fn.kp T.d_l_take.bi pass0S (pa_cons (pv 0) (pa_cons (pe_callB c_len (by rfl) T.b_len (by decide +kernel) (pa_cons (pv 2) pa_nil)) pa_nil))) (fun _ _ => rfl)) (pv 3)))) pss_nil) (pss_cons (ps_set (i := 4) sc_l_text.nd rfl (Or.inl rfl) pe_str) (pss_cons (ps_for PassesOwn.never rfl (pi_range1 (by rfl) T.b_range (pa_cons (pv 3) pa_nil)) (pg_name (i := 5) sc_l_text.nd rfl (by first | exact .inl rfl | exact .inr rfl)) (pss_one (ps_set (i := 4) sc_l_text.nd rfl (Or.inl rfl) (pe_op op_addF (pv 4) (pe_ix ix_F (pv 2) (pe_callS G_l_take (hr.mono (by decide)) (by rfl) T.d_l_take.mg T.d_l_take.fn.kp T.d_l_take.bi pass0S (pa_cons (pv 0) (pa_cons (pe_callB c_len (by rfl) T.b_len (by decide +kernel) (pa_cons (pv 2) pa_nil)) pa_nil))) (fun _ _ => rfl)))))) (pss_one (ps_ret (pv 4)))))))))
theorem step_l_value (T : Txt K mg C) (n : Nat) (G_l_value : FnOk P w K mg base CX0 (n + 6) T.d_l_value.f T.d_l_value.fd [("store" : Str), ("depth" : Str)] (sp_value_in n)) : FnOk P w K mg base CX0 (n + 6 + 1) T.d_l_value.f T.d_l_value.fd [("store" : Str), ("depth" : Str)] (sp_valueN n) := by
  have G_l_number := ok_l_number (P := P) (w := w) (mg := mg) (base := base) T
  have G_l_pick := ok_l_pick (P := P) (w := w) (mg := mg) (base := base) T
  have G_l_take := ok_l_take (P := P) (w := w) (mg := mg) (base := base) T
  have G_l_text := ok_l_text (P := P) (w := w) (mg := mg) (base := base) T
  have G_l_word := ok_l_word (P := P) (w := w) (mg := mg) (base := base) T
  refine T.d_l_value.fn.ok sc_l_value (fun vs H Q E h => ?_) (fun cdv A outer s H vs Q E hr h => ⟨rd_l_value K C (sp_value_in n) E, ?_, pure_l_valueN n vs H Q E h⟩)
  · obtain ⟨_, _, _, rfl, _⟩ := h
    rfl
  · unfold rd_l_value
    exact (pss_cons (ps_set (i := 2) sc_l_value.nd rfl (Or.inl rfl) (pe_callS G_l_take (hr.mono (by omega)) (by rfl) T.d_l_take.mg T.d_l_take.fn.kp T.d_l_take.bi pass0S (pa_cons (pv 0) (pa_cons pe_int pa_nil)))) (pss_cons (ps_if (pt_cmpR op_ltF (pv 2) pe_int (nomark _)) (pss_one (ps_ret (pe_ix ix_F (pe_lst (pa_cons pe_non (pa_cons pe_bl (pa_cons pe_bl pa_nil)))) (pv 2) (fun _ _ => rfl)))) pss_nil) (pss_cons (ps_if (pt_cmpR (op_eqF hr.units) (pv 2) pe_int (nomark _)) (pss_one (ps_ret (pe_callS G_l_number (hr.mono (by omega)) (by rfl) T.d_l_number.mg T.d_l_number.fn.kp T.d_l_number.bi pass0S (pa_cons (pv 0) pa_nil)))) pss_nil) (pss_cons (ps_if (pt_cmpR (op_eqF hr.units) (pv 2) pe_int (nomark _)) (pss_one (ps_ret (pe_callS G_l_text (hr.mono (by omega)) (by rfl) T.d_l_text.mg T.d_l_text.fn.kp T.d_l_text.bi pass0S (pa_cons (pv 0) (pa_cons pe_int pa_nil))))) pss_nil) (pss_cons (ps_if (pt_cmpR (op_eqF hr.units) (pv 2) pe_int (nomark _)) (pss_one (ps_ret (pe_callS G_l_pick (hr.mono (by omega)) (by rfl) T.d_l_pick.mg T.d_l_pick.fn.kp T.d_l_pick.bi pass0S (pa_cons (pv 0) (pa_cons (pe_lst (pa_cons pe_str (pa_cons (pe_callS G_l_word (hr.mono (by omega)) (by rfl) T.d_l_word.mg T.d_l_word.fn.kp T.d_l_word.bi pass0S (pa_cons (pv 0) (pa_cons (pe_op op_addF pe_int (pe_callS G_l_take (hr.mono (by omega)) (by rfl) T.d_l_take.mg T.d_l_take.fn.kp T.d_l_take.bi pass0S (pa_cons (pv 0) (pa_cons pe_int pa_nil)))) pa_nil))) pa_nil))) pa_nil))))) pss_nil) (pss_cons (ps_if (pt_cmpR (op_eqF hr.units) (pv 2) pe_int (nomark _)) (pss_one (ps_ret (pe_callS G_l_take (hr.mono (by omega)) (by rfl) T.d_l_take.mg T.d_l_take.fn.kp T.d_l_take.bi pass0S (pa_cons (pv 0) (pa_cons pe_int pa_nil))))) pss_nil) (pss_cons (ps_if (pt_cmpR op_ltF (pv 1) pe_int (nomark _)) (pss_one (ps_ret (pe_ix ix_F (pe_lst (pa_cons (pe_lst pa_nil) (pa_cons (pe_tup pa_nil) (pa_cons pe_str pa_nil)))) (pe_callS G_l_take (hr.mono (by omega)) (by rfl) T.d_l_take.mg T.d_l_take.fn.kp T.d_l_take.bi pass0S (pa_cons (pv 0) (pa_cons pe_int pa_nil))) (fun _ _ => rfl)))) pss_nil) (pss_cons (ps_set (i := 3) sc_l_value.nd rfl (Or.inl rfl) (pe_lst pa_nil)) (pss_cons (ps_for PassesOwn.never rfl (pi_range1 (by rfl) T.b_range (pa_cons (pe_callS G_l_take (hr.mono (by omega)) (by rfl) T.d_l_take.mg T.d_l_take.fn.kp T.d_l_take.bi pass0S (pa_cons (pv 0) (pa_cons pe_int pa_nil))) pa_nil)) (pg_name (i := 4) sc_l_value.nd rfl (by first | exact .inl rfl | exact .inr rfl)) (pss_one (ps_expr (pe_imp (pe_bm PySem.F.plainAttrs_list PySem.F.slot_list_append PySem.F.type_list_append m_append (pv 3) (pa_cons (pe_callS G_l_value (hr.mono (by omega)) (by rfl) T.d_l_value.mg T.d_l_value.fn.kp T.d_l_value.bi pass0S (pa_cons (pv 0) (pa_cons (pe_op op_subF (pv 1) pe_int) pa_nil))) pa_nil)) bm_var)))) (pss_cons (ps_if (pt_cmpR (op_eqF hr.units) (pv 2) pe_int (nomark _)) (pss_one (ps_ret (pv 3))) pss_nil) (pss_cons (ps_if (pt_cmpR (op_eqF hr.units) (pv 2) pe_int (nomark _)) (pss_one (ps_ret (pe_callTy c_tuple (by rfl) T.b_tuple (by decide +kernel) (pa_cons (pv 3) pa_nil)))) pss_nil) (pss_cons (ps_set (i := 5) sc_l_value.nd rfl (Or.inl rfl) pe_dnewK) (pss_cons (ps_for PassesOwn.never rfl (pi_list (pv 3)) (pg_name (i := 6) sc_l_value.nd rfl (by first | exact .inl rfl | exact .inr rfl)) (pss_one (ps_dput (lt_one hr.units) (pv 5) (pe_callS G_l_text (hr.mono (by omega)) (by rfl) T.d_l_text.mg T.d_l_text.fn.kp T.d_l_text.bi pass0S (pa_cons (pv 0) (pa_cons pe_int pa_nil))) (pv 6) rfl))) (pss_one (ps_ret (pv 5))))))))))))))))
theorem ok_l_valueN (T : Txt K mg C) (n : Nat) : FnOk P w K mg base CX0 (n + 6 + 1) T.d_l_value.f T.d_l_value.fd [("store" : Str), ("depth" : Str)] (sp_valueN n) := by
  induction n with
  | zero => exact step_l_value T 0 no_fn
  | succ n ih => exact step_l_value T (n + 1) (by rw [show n + 1 + 6 = n + 6 + 1 from by omega]; exact ih)
theorem ok_l_value (T : Txt K mg C) : FnOk P w K mg base CX0 11 T.d_l_value.f T.d_l_value.fd [("store" : Str), ("depth" : Str)] (sp_l_value K C) := ok_l_valueN T 4
theorem step_l_spoil (T : Txt K mg C) (n : Nat) (G_l_spoil : FnOk P w K mg base CX0 (n + 1) T.d_l_spoil.f T.d_l_spoil.fd [("value" : Str)] (sp_spoil_in n)) : FnOk P w K mg base CX0 (n + 1 + 1) T.d_l_spoil.f T.d_l_spoil.fd [("value" : Str)] (sp_spoilN n) := by
  refine T.d_l_spoil.fn.ok sc_l_spoil (fun vs H Q E h => ?_) (fun cdv A outer s H vs Q E hr h => ⟨rd_l_spoil K C (sp_spoil_in n) E, ?_, pure_l_spoilN n vs H Q E h⟩)
  · obtain ⟨_, _, _, rfl, _⟩ := h
    rfl
  · unfold rd_l_spoil
    exact (pss_cons (ps_if (pt_val (pe_callB c_isi (by rfl) T.b_isinstance (by decide +kernel) (pa_cons (pv 0) (pa_cons (pe_bltn (v := .ty "dict") (by rfl) T.b_dict (by decide +kernel) rfl) pa_nil)))) (pss_cons (ps_for PassesOwn.never rfl (pi_list (pe_callTy (call_list_dK rfl) (by rfl) T.b_list (by decide +kernel) (pa_cons (pv 0) pa_nil))) (pg_name (i := 1) sc_l_spoil.nd rfl (by first | exact .inl rfl | exact .inr rfl)) (pss_cons (ps_expr (pe_callS G_l_spoil (hr.mono (by omega)) (by rfl) T.d_l_spoil.mg T.d_l_spoil.fn.kp T.d_l_spoil.bi pass0S (pa_cons (pe_dget (lt_one hr.units) (pv 0) (pv 1) (fun _ _ => rfl)) pa_nil))) (pss_one (ps_dput (lt_one hr.units) (pv 0) (pv 1) pe_non rfl)))) (pss_one (ps_dput (lt_one hr.units) (pv 0) pe_str pe_int rfl))) pss_nil) (pss_cons (ps_if (pt_val (pe_callB c_isiT (by rfl) T.b_isinstance (by decide +kernel) (pa_cons (pv 0) (pa_cons (pe_tup (pa_cons (pe_bltn (v := .ty "list") (by rfl) T.b_list (by decide +kernel) rfl) (pa_cons (pe_bltn (v := .ty "tuple") (by rfl) T.b_tuple (by decide +kernel) rfl) pa_nil))) pa_nil)))) (pss_one (ps_for PassesOwn.never rfl (pi_list (pe_callTy c_list (by rfl) T.b_list (by decide +kernel) (pa_cons (pv 0) pa_nil))) (pg_name (i := 2) sc_l_spoil.nd rfl (by first | exact .inl rfl | exact .inr rfl)) (pss_one (ps_expr (pe_callS G_l_spoil (hr.mono (by omega)) (by rfl) T.d_l_spoil.mg T.d_l_spoil.fn.kp T.d_l_spoil.bi pass0S (pa_cons (pv 2) pa_nil)))))) pss_nil) (pss_one (ps_if (pt_val (pe_callB c_isi (by rfl) T.b_isinstance (by decide +kernel) (pa_cons (pv 0) (pa_cons (pe_bltn (v := .ty "list") (by rfl) T.b_list (by decide +kernel) rfl) pa_nil)))) (pss_one (ps_if (pt_cmpR op_gtF (pe_callB c_len (by rfl) T.b_len (by decide +kernel) (pa_cons (pv 0) pa_nil)) pe_int (nomark _)) (pss_cons (ps_expr (pe_imp (pe_bm0 PySem.F.plainAttrs_list PySem.F.slot_list_pop PySem.F.type_list_pop m_pop (pv 0)) bm0_var)) (pss_one (ps_asg pe_non (pg_sub (pv 0) pe_int set_F)))) (pss_one (ps_expr (pe_imp (pe_bm PySem.F.plainAttrs_list PySem.F.slot_list_append PySem.F.type_list_append m_append (pv 0) (pa_cons pe_non pa_nil)) bm_var))))) pss_nil))))
theorem ok_l_spoilN (T : Txt K mg C) (n : Nat) : FnOk P w K mg base CX0 (n + 1 + 1) T.d_l_spoil.f T.d_l_spoil.fd [("value" : Str)] (sp_spoilN n) := by
  induction n with
  | zero => exact step_l_spoil T 0 no_fn
  | succ n ih => exact step_l_spoil T (n + 1) (by rw [show n + 1 + 1 = n + 1 + 1 from by omega]; exact ih)
theorem ok_l_spoil (T : Txt K mg C) : FnOk P w K mg base CX0 17 T.d_l_spoil.f T.d_l_spoil.fd [("value" : Str)] (sp_l_spoil K C) := ok_l_spoilN T 15
theorem ok_l_is_name (T : Txt K mg C) : FnOk P w K mg base CX0 2 T.d_l_is_name.f T.d_l_is_name.fd [("value" : Str)] (sp_l_is_name K C) := by
  refine T.d_l_is_name.fn.ok sc_l_is_name (fun vs H Q E h => ?_) (fun cdv A outer s H vs Q E hr h => ⟨rd_l_is_name K C E, ?_, pure_l_is_name vs H Q E h⟩)
  · first
    | (obtain ⟨_, rfl, _⟩ := h; rfl)
    | (obtain ⟨_, _, rfl, _⟩ := h; rfl)
    | (obtain ⟨_, _, _, rfl, _⟩ := h; rfl)
    | (obtain ⟨_, _, _, _, rfl, _⟩ := h; rfl)
    | (obtain ⟨_, _, _, _, _, rfl, _⟩ := h; rfl)
    | (obtain ⟨_, _, _, _, _, _, rfl, _⟩ := h; rfl)
    | (obtain ⟨_, _, _, _, _, _, _, rfl, _⟩ := h; rfl)
  · unfold rd_l_is_name
    exact (pss_cons (ps_if (PW.pt (pw_or (pt_not (pt_val (pe_callB c_isi (by rfl) T.b_isinstance (by decide +kernel) (pa_cons (pv 0) (pa_cons (pe_bltn (v := .ty "str") (by rfl) T.b_str (by decide +kernel) rfl) pa_nil))))) (pw_or (pt_cmpR op_ltF (pe_callB c_len (by rfl) T.b_len (by decide +kernel) (pa_cons (pv 0) pa_nil)) pe_int (nomark _)) (pw_or1 (pt_cmpR op_gtF (pe_callB c_len (by rfl) T.b_len (by decide +kernel) (pa_cons (pv 0) pa_nil)) pe_int (nomark _)))))) (pss_one (ps_ret pe_bl)) pss_nil) (pss_cons (ps_for PassesOwn.never rfl (pi_str (pv 0)) (pg_name (i := 1) sc_l_is_name.nd rfl (by first | exact .inl rfl | exact .inr rfl)) (pss_one (ps_if (pt_cmpR op_ninF (pv 1) pe_str (by rfl)) (pss_one (ps_ret pe_bl)) pss_nil))) (pss_one (ps_ret (pe_cmpR op_ninF (pe_ix ix_F (pv 0) pe_int (fun _ _ => rfl)) pe_str (by rfl))))))
theorem ok_l_is_within (T : Txt K mg C) : FnOk P w K mg base CX0 2 T.d_l_is_within.f T.d_l_is_within.fd [("value" : Str), ("low" : Str), ("high" : Str)] (sp_l_is_within K C) := by
  refine T.d_l_is_within.fn.ok sc_l_is_within (fun vs H Q E h => ?_) (fun cdv A outer s H vs Q E hr h => ⟨rd_l_is_within K C E, ?_, pure_l_is_within vs H Q E h⟩)
  · first
    | (obtain ⟨_, rfl, _⟩ := h; rfl)
    | (obtain ⟨_, _, rfl, _⟩ := h; rfl)
    | (obtain ⟨_, _, _, rfl, _⟩ := h; rfl)
    | (obtain ⟨_, _, _, _, rfl, _⟩ := h; rfl)
    | (obtain ⟨_, _, _, _, _, rfl, _⟩ := h; rfl)
    | (obtain ⟨_, _, _, _, _, _, rfl, _⟩ := h; rfl)
    | (obtain ⟨_, _, _, _, _, _, _, rfl, _⟩ := h; rfl)
  · unfold rd_l_is_within
    exact (pss_one (ps_ret (pe_and (pe_callB c_isi (by rfl) T.b_isinstance (by decide +kernel) (pa_cons (pv 0) (pa_cons (pe_bltn (v := .ty "int") (by rfl) T.b_int (by decide +kernel) rfl) pa_nil))) (pe_and (pe_not (pe_callB c_isi (by rfl) T.b_isinstance (by decide +kernel) (pa_cons (pv 0) (pa_cons (pe_bltn (v := .ty "bool") (by rfl) T.b_bool (by decide +kernel) rfl) pa_nil)))) (pe_one (pe_chain op_leF op_leF (pv 1) (pv 0) (pv 2)))))))
theorem ok_l_is_deed (T : Txt K mg C) : FnOk P w K mg base CX0 3 T.d_l_is_deed.f T.d_l_is_deed.fd [("value" : Str)] (sp_l_is_deed K C) := by
  have G_l_is_name := ok_l_is_name (P := P) (w := w) (mg := mg) (base := base) T
  have G_l_is_within := ok_l_is_within (P := P) (w := w) (mg := mg) (base := base) T
  refine T.d_l_is_deed.fn.ok sc_l_is_deed (fun vs H Q E h => ?_) (fun cdv A outer s H vs Q E hr h => ⟨rd_l_is_deed K C E, ?_, pure_l_is_deed vs H Q E h⟩)
  · first
    | (obtain ⟨_, rfl, _⟩ := h; rfl)
    | (obtain ⟨_, _, rfl, _⟩ := h; rfl)
    | (obtain ⟨_, _, _, rfl, _⟩ := h; rfl)
    | (obtain ⟨_, _, _, _, rfl, _⟩ := h; rfl)
    | (obtain ⟨_, _, _, _, _, rfl, _⟩ := h; rfl)
    | (obtain ⟨_, _, _, _, _, _, rfl, _⟩ := h; rfl)
    | (obtain ⟨_, _, _, _, _, _, _, rfl, _⟩ := h; rfl)
  · unfold rd_l_is_deed
    exact (pss_cons (ps_if (PW.pt (pw_or (pt_not (pt_val (pe_callB c_isi (by rfl) T.b_isinstance (by decide +kernel) (pa_cons (pv 0) (pa_cons (pe_bltn (v := .ty "tuple") (by rfl) T.b_tuple (by decide +kernel) rfl) pa_nil))))) (pw_or1 (pt_cmpR (op_neF hr.units) (pe_callB c_len (by rfl) T.b_len (by decide +kernel) (pa_cons (pv 0) pa_nil)) pe_int (nomark _))))) (pss_one (ps_ret pe_bl)) pss_nil) (pss_one (ps_ret (pe_and (pe_callS G_l_is_name (hr.mono (by decide)) (by rfl) T.d_l_is_name.mg T.d_l_is_name.fn.kp T.d_l_is_name.bi pass0S (pa_cons (pe_ix ix_F (pv 0) pe_int (fun _ _ => rfl)) pa_nil)) (pe_and (pe_callS G_l_is_name (hr.mono (by decide)) (by rfl) T.d_l_is_name.mg T.d_l_is_name.fn.kp T.d_l_is_name.bi pass0S (pa_cons (pe_ix ix_F (pv 0) pe_int (fun _ _ => rfl)) pa_nil)) (pe_one (pe_callS G_l_is_within (hr.mono (by decide)) (by rfl) T.d_l_is_within.mg T.d_l_is_within.fn.kp T.d_l_is_within.bi pass0S (pa_cons (pe_ix ix_F (pv 0) pe_int (fun _ _ => rfl)) (pa_cons pe_int (pa_cons pe_int pa_nil))))))))))
theorem ok_l_bent_row (T : Txt K mg C) : FnOk P w K mg base CX0 5 T.d_l_bent_row.f T.d_l_bent_row.fd [("store" : Str), ("value" : Str)] (sp_l_bent_row K C) := by
  have G_l_pick := ok_l_pick (P := P) (w := w) (mg := mg) (base := base) T
  have G_l_take := ok_l_take (P := P) (w := w) (mg := mg) (base := base) T
  refine T.d_l_bent_row.fn.ok sc_l_bent_row (fun vs H Q E h => ?_) (fun cdv A outer s H vs Q E hr h => ⟨rd_l_bent_row K C E, ?_, pure_l_bent_row vs H Q E h⟩)
  · first
    | (obtain ⟨_, rfl, _⟩ := h; rfl)
    | (obtain ⟨_, _, rfl, _⟩ := h; rfl)
    | (obtain ⟨_, _, _, rfl, _⟩ := h; rfl)
    | (obtain ⟨_, _, _, _, rfl, _⟩ := h; rfl)
    | (obtain ⟨_, _, _, _, _, rfl, _⟩ := h; rfl)
    | (obtain ⟨_, _, _, _, _, _, rfl, _⟩ := h; rfl)
    | (obtain ⟨_, _, _, _, _, _, _, rfl, _⟩ := h; rfl)
  · unfold rd_l_bent_row
    exact (pss_cons (ps_set (i := 2) sc_l_bent_row.nd rfl (Or.inl rfl) (pe_callTy c_list (by rfl) T.b_list (by decide +kernel) (pa_cons (pv 1) pa_nil))) (pss_cons (ps_set (i := 3) sc_l_bent_row.nd rfl (Or.inl rfl) (pe_callS G_l_take (hr.mono (by decide)) (by rfl) T.d_l_take.mg T.d_l_take.fn.kp T.d_l_take.bi pass0S (pa_cons (pv 0) (pa_cons (pe_op op_addF (pe_callB c_len (by rfl) T.b_len (by decide +kernel) (pa_cons (pv 2) pa_nil)) pe_int) pa_nil)))) (pss_cons (ps_set (i := 4) sc_l_bent_row.nd rfl (Or.inl rfl) (pe_callS G_l_take (hr.mono (by decide)) (by rfl) T.d_l_take.mg T.d_l_take.fn.kp T.d_l_take.bi pass0S (pa_cons (pv 0) (pa_cons pe_int pa_nil)))) (Evl.pss_cut (ps_if (PW.pt (pw_and (pt_cmpR (op_eqF hr.units) (pv 4) pe_int (nomark _)) (pw_and1 (pt_cmpR op_gtF (pe_callB c_len (by rfl) T.b_len (by decide +kernel) (pa_cons (pv 2) pa_nil)) pe_int (nomark _))))) (pss_cons (ps_set (i := 3) sc_l_bent_row.nd rfl (Or.inl rfl) (pe_callB (c_min rfl) (by rfl) T.b_min (by decide +kernel) (pa_cons (pv 3) (pa_cons (pe_op op_subF (pe_callB c_len (by rfl) T.b_len (by decide +kernel) (pa_cons (pv 2) pa_nil)) pe_int) pa_nil)))) (pss_one (ps_set (i := 2) sc_l_bent_row.nd rfl (Or.inl rfl) (pe_op op_addF (pe_slice sl_F2 (pv 2) po_none (po_some (pv 3))) (pe_slice sl_F2 (pv 2) (po_some (pe_op op_addF (pv 3) pe_int)) po_none))))) (pss_one (ps_if (PW.pt (pw_and (pt_cmpR (op_eqF hr.units) (pv 4) pe_int (nomark _)) (pw_and1 (pt_cmpR op_gtF (pe_callB c_len (by rfl) T.b_len (by decide +kernel) (pa_cons (pv 2) pa_nil)) pe_int (nomark _))))) (pss_one (ps_expr (pe_imp (pe_bm PySem.F.plainAttrs_list PySem.F.slot_list_insert PySem.F.type_list_insert m_insert (pv 2) (pa_cons (pv 3) (pa_cons (pe_ix ix_F (pv 2) (pe_callB (c_min rfl) (by rfl) T.b_min (by decide +kernel) (pa_cons (pv 3) (pa_cons (pe_op op_subF (pe_callB c_len (by rfl) T.b_len (by decide +kernel) (pa_cons (pv 2) pa_nil)) pe_int) pa_nil))) (fun _ _ => rfl)) pa_nil))) bm_var))) (pss_one (ps_if (pt_cmpR (op_eqF hr.units) (pv 4) pe_int (nomark _)) (pss_one (ps_expr (pe_imp (pe_bm PySem.F.plainAttrs_list PySem.F.slot_list_insert PySem.F.type_list_insert m_insert (pv 2) (pa_cons (pv 3) (pa_cons (pe_callS G_l_pick (hr.mono (by decide)) (by rfl) T.d_l_pick.mg T.d_l_pick.fn.kp T.d_l_pick.bi pass0S (pa_cons (pv 0) (pa_cons (pe_lst (pa_cons pe_non (pa_cons pe_int (pa_cons pe_str (pa_cons (pe_tup pa_nil) (pa_cons (pe_lst pa_nil) pa_nil)))))) pa_nil))) pa_nil))) bm_var))) (pss_one (ps_if (pt_cmpR (op_eqF hr.units) (pv 4) pe_int (nomark _)) (pss_one (ps_ret (pe_callS G_l_pick (hr.mono (by decide)) (by rfl) T.d_l_pick.mg T.d_l_pick.fn.kp T.d_l_pick.bi pass0S (pa_cons (pv 0) (pa_cons (pe_lst (pa_cons pe_non (pa_cons pe_dnewK (pa_cons pe_int (pa_cons pe_str pa_nil))))) pa_nil))))) (pss_cons (ps_if (pt_val (pe_callB c_isi (by rfl) T.b_isinstance (by decide +kernel) (pa_cons (pv 1) (pa_cons (pe_bltn (v := .ty "tuple") (by rfl) T.b_tuple (by decide +kernel) rfl) pa_nil)))) (pss_one (ps_ret (pv 2))) pss_nil) (pss_one (ps_ret (pe_callTy c_tuple (by rfl) T.b_tuple (by decide +kernel) (pa_cons (pv 2) pa_nil)))))))))))) (pss_cons (ps_if (pt_val (pe_callB c_isi (by rfl) T.b_isinstance (by decide +kernel) (pa_cons (pv 1) (pa_cons (pe_bltn (v := .ty "tuple") (by rfl) T.b_tuple (by decide +kernel) rfl) pa_nil)))) (pss_one (ps_ret (pe_callTy c_tuple (by rfl) T.b_tuple (by decide +kernel) (pa_cons (pv 2) pa_nil)))) pss_nil) (pss_one (ps_ret (pv 2))))))))
theorem ok_l_bent_leaf (T : Txt K mg C) : FnOk P w K mg base CX0 4 T.d_l_bent_leaf.f T.d_l_bent_leaf.fd [("store" : Str), ("value" : Str)] (sp_l_bent_leaf K C) := by
  have G_l_take := ok_l_take (P := P) (w := w) (mg := mg) (base := base) T
  refine T.d_l_bent_leaf.fn.ok sc_l_bent_leaf (fun vs H Q E h => ?_) (fun cdv A outer s H vs Q E hr h => ⟨rd_l_bent_leaf K C E, ?_, pure_l_bent_leaf vs H Q E h⟩)
  · first
    | (obtain ⟨_, rfl, _⟩ := h; rfl)
    | (obtain ⟨_, _, rfl, _⟩ := h; rfl)
    | (obtain ⟨_, _, _, rfl, _⟩ := h; rfl)
    | (obtain ⟨_, _, _, _, rfl, _⟩ := h; rfl)
    | (obtain ⟨_, _, _, _, _, rfl, _⟩ := h; rfl)
    | (obtain ⟨_, _, _, _, _, _, rfl, _⟩ := h; rfl)
    | (obtain ⟨_, _, _, _, _, _, _, rfl, _⟩ := h; rfl)
  · unfold rd_l_bent_leaf
    exact (pss_cons (ps_set (i := 2) sc_l_bent_leaf.nd rfl (Or.inl rfl) (pe_callS G_l_take (hr.mono (by decide)) (by rfl) T.d_l_take.mg T.d_l_take.fn.kp T.d_l_take.bi pass0S (pa_cons (pv 0) (pa_cons pe_int pa_nil)))) (pss_cons (ps_if (pt_cmpR op_ltF (pv 2) pe_int (nomark _)) (pss_one (ps_ret (pe_ix ix_F (pe_lst (pa_cons (pe_lst (pa_cons (pv 1) pa_nil)) (pa_cons (pe_tup (pa_cons (pv 1) pa_nil)) pa_nil))) (pv 2) (fun _ _ => rfl)))) pss_nil) (pss_cons (ps_if (pt_cmpR op_isNF (pv 1) pe_non (nomark _)) (pss_one (ps_ret (pe_ix ix_F (pe_lst (pa_cons pe_int (pa_cons pe_str (pa_cons pe_str (pa_cons pe_bl pa_nil))))) (pe_callS G_l_take (hr.mono (by decide)) (by rfl) T.d_l_take.mg T.d_l_take.fn.kp T.d_l_take.bi pass0S (pa_cons (pv 0) (pa_cons pe_int pa_nil))) (fun _ _ => rfl)))) pss_nil) (pss_cons (ps_if (PW.pt (pw_or (pt_cmpR (op_eqF hr.units) (pv 2) pe_int (nomark _)) (pw_or1 (pt_not (pt_val (pe_callB c_isiT (by rfl) T.b_isinstance (by decide +kernel) (pa_cons (pv 1) (pa_cons (pe_tup (pa_cons (pe_bltn (v := .ty "int") (by rfl) T.b_int (by decide +kernel) rfl) (pa_cons (pe_bltn (v := .ty "str") (by rfl) T.b_str (by decide +kernel) rfl) pa_nil))) pa_nil)))))))) (pss_one (ps_ret pe_non)) pss_nil) (pss_cons (ps_if (pt_val (pe_callB c_isi (by rfl) T.b_isinstance (by decide +kernel) (pa_cons (pv 1) (pa_cons (pe_bltn (v := .ty "bool") (by rfl) T.b_bool (by decide +kernel) rfl) pa_nil)))) (pss_one (ps_ret (pe_callTy c_int (by rfl) T.b_int (by decide +kernel) (pa_cons (pv 1) pa_nil)))) pss_nil) (pss_cons (ps_if (PW.pt (pw_and (pt_val (pe_callB c_isi (by rfl) T.b_isinstance (by decide +kernel) (pa_cons (pv 1) (pa_cons (pe_bltn (v := .ty "int") (by rfl) T.b_int (by decide +kernel) rfl) pa_nil)))) (pw_and1 (pt_cmpR op_gtF (pe_callB c_abs (by rfl) T.b_abs (by decide +kernel) (pa_cons (pv 1) pa_nil)) (pe_op op_powF pe_int pe_int) (nomark _))))) (pss_one (ps_ret (pe_ix ix_F (pe_lst (pa_cons pe_int (pa_cons pe_int (pa_cons (pe_un un_negF pe_int) (pa_cons pe_bl (pa_cons pe_str (pa_cons pe_int pa_nil))))))) (pe_op op_subF (pv 2) pe_int) (fun _ _ => rfl)))) pss_nil) (pss_cons (ps_if (pt_val (pe_callB c_isi (by rfl) T.b_isinstance (by decide +kernel) (pa_cons (pv 1) (pa_cons (pe_bltn (v := .ty "int") (by rfl) T.b_int (by decide +kernel) rfl) pa_nil)))) (pss_one (ps_ret (pe_ix ix_F (pe_lst (pa_cons (pe_op op_addF (pv 1) pe_int) (pa_cons (pe_op op_subF (pv 1) pe_int) (pa_cons (pe_op op_subF (pe_op op_subF pe_int (pe_callB c_abs (by rfl) T.b_abs (by decide +kernel) (pa_cons (pv 1) pa_nil))) pe_int) (pa_cons (pe_cmpR (op_eqF hr.units) (pv 1) pe_int (nomark _)) (pa_cons (pe_callTy c_strI (by rfl) T.b_str (by decide +kernel) (pa_cons (pv 1) pa_nil)) (pa_cons (pe_op op_addF (pv 1) pe_int) pa_nil))))))) (pe_op op_subF (pv 2) pe_int) (fun _ _ => rfl)))) pss_nil) (pss_cons (ps_if (PW.pt (pw_and (pt_cmpR (op_eqF hr.units) (pv 2) pe_int (nomark _)) (pw_and1 (pt_cmpR op_gtF (pe_callB c_len (by rfl) T.b_len (by decide +kernel) (pa_cons (pv 1) pa_nil)) pe_int (nomark _))))) (pss_one (ps_ret (pe_slice sl_F2 (pv 1) po_none (po_some (pe_un un_negF pe_int))))) pss_nil) (pss_one (ps_ret (pe_op op_addF (pv 1) (pe_ix ix_F pe_str (pe_op op_subF (pv 2) pe_int) (fun _ _ => rfl)))))))))))))
theorem step_l_bent (T : Txt K mg C) (n : Nat) (G_l_bent : FnOk P w K mg base CX0 (n + 5) T.d_l_bent.f T.d_l_bent.fd [("store" : Str), ("value" : Str)] (sp_bent_in n)) : FnOk P w K mg base CX0 (n + 5 + 1) T.d_l_bent.f T.d_l_bent.fd [("store" : Str), ("value" : Str)] (sp_bentN n) := by
  have G_l_bent_leaf := ok_l_bent_leaf (P := P) (w := w) (mg := mg) (base := base) T
  have G_l_bent_row := ok_l_bent_row (P := P) (w := w) (mg := mg) (base := base) T
  have G_l_take := ok_l_take (P := P) (w := w) (mg := mg) (base := base) T
  refine T.d_l_bent.fn.ok sc_l_bent (fun vs H Q E h => ?_) (fun cdv A outer s H vs Q E hr h => ⟨rd_l_bent K C (sp_bent_in n) E, ?_, pure_l_bentN n vs H Q E h⟩)
  · obtain ⟨_, _, _, _, _, rfl, _⟩ := h
    rfl
  · unfold rd_l_bent
    exact (pss_cons (ps_if (pt_not (pt_val (pe_callB c_isiT (by rfl) T.b_isinstance (by decide +kernel) (pa_cons (pv 1) (pa_cons (pe_tup (pa_cons (pe_bltn (v := .ty "list") (by rfl) T.b_list (by decide +kernel) rfl) (pa_cons (pe_bltn (v := .ty "tuple") (by rfl) T.b_tuple (by decide +kernel) rfl) pa_nil))) pa_nil))))) (pss_one (ps_ret (pe_callS G_l_bent_leaf (hr.mono (by omega)) (by rfl) T.d_l_bent_leaf.mg T.d_l_bent_leaf.fn.kp T.d_l_bent_leaf.bi pass0S (pa_cons (pv 0) (pa_cons (pv 1) pa_nil))))) pss_nil) (pss_cons (ps_if (PW.pt (pw_or (pt_cmpR (op_eqF hr.units) (pe_callB c_len (by rfl) T.b_len (by decide +kernel) (pa_cons (pv 1) pa_nil)) pe_int (nomark _)) (pw_or1 (pt_cmpR (op_eqF hr.units) (pe_callS G_l_take (hr.mono (by omega)) (by rfl) T.d_l_take.mg T.d_l_take.fn.kp T.d_l_take.bi pass0S (pa_cons (pv 0) (pa_cons pe_int pa_nil))) pe_int (nomark _))))) (pss_one (ps_ret (pe_callS G_l_bent_row (hr.mono (by omega)) (by rfl) T.d_l_bent_row.mg T.d_l_bent_row.fn.kp T.d_l_bent_row.bi pass0S (pa_cons (pv 0) (pa_cons (pv 1) pa_nil))))) pss_nil) (pss_cons (ps_set (i := 2) sc_l_bent.nd rfl (Or.inl rfl) (pe_callS G_l_take (hr.mono (by omega)) (by rfl) T.d_l_take.mg T.d_l_take.fn.kp T.d_l_take.bi pass0S (pa_cons (pv 0) (pa_cons (pe_callB c_len (by rfl) T.b_len (by decide +kernel) (pa_cons (pv 1) pa_nil)) pa_nil)))) (pss_cons (ps_set (i := 3) sc_l_bent.nd rfl (Or.inl rfl) (pe_callTy c_list (by rfl) T.b_list (by decide +kernel) (pa_cons (pv 1) pa_nil))) (pss_cons (ps_asg (pe_callS G_l_bent (hr.mono (by omega)) (by rfl) T.d_l_bent.mg T.d_l_bent.fn.kp T.d_l_bent.bi pass0S (pa_cons (pv 0) (pa_cons (pe_ix ix_F (pv 3) (pv 2) (fun _ _ => rfl)) pa_nil))) (pg_sub (pv 3) (pv 2) set_F)) (pss_cons (ps_if (pt_val (pe_callB c_isi (by rfl) T.b_isinstance (by decide +kernel) (pa_cons (pv 1) (pa_cons (pe_bltn (v := .ty "tuple") (by rfl) T.b_tuple (by decide +kernel) rfl) pa_nil)))) (pss_one (ps_ret (pe_callTy c_tuple (by rfl) T.b_tuple (by decide +kernel) (pa_cons (pv 3) pa_nil)))) pss_nil) (pss_one (ps_ret (pv 3)))))))))
theorem ok_l_bentN (T : Txt K mg C) (n : Nat) : FnOk P w K mg base CX0 (n + 5 + 1) T.d_l_bent.f T.d_l_bent.fd [("store" : Str), ("value" : Str)] (sp_bentN n) := by
  induction n with
  | zero => exact step_l_bent T 0 no_fn
  | succ n ih => exact step_l_bent T (n + 1) (by rw [show n + 1 + 5 = n + 5 + 1 from by omega]; exact ih)
theorem ok_l_bent (T : Txt K mg C) : FnOk P w K mg base CX0 9 T.d_l_bent.f T.d_l_bent.fd [("store" : Str), ("value" : Str)] (sp_l_bent K C) := ok_l_bentN T 3
theorem ok_l_is_end (T : Txt K mg C) : FnOk P w K mg base CX0 2 T.d_l_is_end.f T.d_l_is_end.fd [("value" : Str)] (sp_l_is_end K C) := by
  refine T.d_l_is_end.fn.ok sc_l_is_end (fun vs H Q E h => ?_) (fun cdv A outer s H vs Q E hr h => ⟨rd_l_is_end K C E, ?_, pure_l_is_end vs H Q E h⟩)
  · first
    | (obtain ⟨_, rfl, _⟩ := h; rfl)
    | (obtain ⟨_, _, rfl, _⟩ := h; rfl)
    | (obtain ⟨_, _, _, rfl, _⟩ := h; rfl)
    | (obtain ⟨_, _, _, _, rfl, _⟩ := h; rfl)
    | (obtain ⟨_, _, _, _, _, rfl, _⟩ := h; rfl)
    | (obtain ⟨_, _, _, _, _, _, rfl, _⟩ := h; rfl)
    | (obtain ⟨_, _, _, _, _, _, _, rfl, _⟩ := h; rfl)
  · unfold rd_l_is_end
    exact (pss_one (ps_ret (pe_and (pe_callB c_isi (by rfl) T.b_isinstance (by decide +kernel) (pa_cons (pv 0) (pa_cons (pe_bltn (v := .ty "str") (by rfl) T.b_str (by decide +kernel) rfl) pa_nil))) (pe_one (pe_cmpR (op_eqF hr.units) (pv 0) pe_str (nomark _))))))
theorem ok_l_due (T : Txt K mg C) : FnOk P w K mg base CX0 4 T.d_l_due.f T.d_l_due.fd [("value" : Str)] (sp_l_due K C) := by
  have G_l_is_deed := ok_l_is_deed (P := P) (w := w) (mg := mg) (base := base) T
  have G_l_is_end := ok_l_is_end (P := P) (w := w) (mg := mg) (base := base) T
  have G_l_is_name := ok_l_is_name (P := P) (w := w) (mg := mg) (base := base) T
  have G_l_is_within := ok_l_is_within (P := P) (w := w) (mg := mg) (base := base) T
  refine T.d_l_due.fn.ok sc_l_due (fun vs H Q E h => ?_) (fun cdv A outer s H vs Q E hr h => ⟨rd_l_due K C E, ?_, pure_l_due vs H Q E h⟩)
  · first
    | (obtain ⟨_, rfl, _⟩ := h; rfl)
    | (obtain ⟨_, _, rfl, _⟩ := h; rfl)
    | (obtain ⟨_, _, _, rfl, _⟩ := h; rfl)
    | (obtain ⟨_, _, _, _, rfl, _⟩ := h; rfl)
    | (obtain ⟨_, _, _, _, _, rfl, _⟩ := h; rfl)
    | (obtain ⟨_, _, _, _, _, _, rfl, _⟩ := h; rfl)
    | (obtain ⟨_, _, _, _, _, _, _, rfl, _⟩ := h; rfl)
  · unfold rd_l_due
    exact (pss_cons (ps_set (i := 1) sc_l_due.nd rfl (Or.inl rfl) (pe_lst (pa_cons (pe_callS G_l_is_name (hr.mono (by decide)) (by rfl) T.d_l_is_name.mg T.d_l_is_name.fn.kp T.d_l_is_name.bi pass0S (pa_cons (pv 0) pa_nil)) (pa_cons (pe_or (pe_callS G_l_is_name (hr.mono (by decide)) (by rfl) T.d_l_is_name.mg T.d_l_is_name.fn.kp T.d_l_is_name.bi pass0S (pa_cons (pv 0) pa_nil)) (pe_one (pe_callS G_l_is_end (hr.mono (by decide)) (by rfl) T.d_l_is_end.mg T.d_l_is_end.fn.kp T.d_l_is_end.bi pass0S (pa_cons (pv 0) pa_nil)))) (pa_cons (pe_callS G_l_is_within (hr.mono (by decide)) (by rfl) T.d_l_is_within.mg T.d_l_is_within.fn.kp T.d_l_is_within.bi pass0S (pa_cons (pv 0) (pa_cons pe_int (pa_cons pe_int pa_nil)))) pa_nil))))) (pss_cons (ps_expr (pe_imp (pe_bm PySem.F.plainAttrs_list PySem.F.slot_list_append PySem.F.type_list_append m_append (pv 1) (pa_cons (pe_and (pe_callB c_isi (by rfl) T.b_isinstance (by decide +kernel) (pa_cons (pv 0) (pa_cons (pe_bltn (v := .ty "int") (by rfl) T.b_int (by decide +kernel) rfl) pa_nil))) (pe_and (pe_not (pe_callB c_isi (by rfl) T.b_isinstance (by decide +kernel) (pa_cons (pv 0) (pa_cons (pe_bltn (v := .ty "bool") (by rfl) T.b_bool (by decide +kernel) rfl) pa_nil)))) (pe_one (pe_cmpR op_geF (pv 0) pe_int (nomark _))))) pa_nil)) bm_var)) (pss_cons (ps_set (i := 2) sc_l_due.nd rfl (Or.inl rfl) (pe_lst pa_nil)) (Evl.pss_cut (ps_if (PW.pt (pw_and (pt_val (pe_callB c_isi (by rfl) T.b_isinstance (by decide +kernel) (pa_cons (pv 0) (pa_cons (pe_bltn (v := .ty "tuple") (by rfl) T.b_tuple (by decide +kernel) rfl) pa_nil)))) (pw_and1 (pt_cmpR op_ltF (pe_callB c_len (by rfl) T.b_len (by decide +kernel) (pa_cons (pv 0) pa_nil)) pe_int (nomark _))))) (pss_one (ps_set (i := 2) sc_l_due.nd rfl (Or.inl rfl) (pe_callTy c_list (by rfl) T.b_list (by decide +kernel) (pa_cons (pv 0) pa_nil)))) pss_nil) (pss_cons (ps_setLc (i := 3) (own := [(("part" : Str), 7)]) (g := (gName 7)) rfl sc_l_due.nd rfl rfl (sw_true rfl rfl rfl (by decide +kernel)) (pi_list (pv 2)) (blkOk_by (own := [(("part" : Str), 7)]) (N := sN_l_due) (sc := defScope s_l_due) (by decide +kernel)) (fun _ _ _ _ _ => (pg_name (i := 7) sc_l_due.nd rfl (by first | exact .inl rfl | exact .inr rfl))) (fun _ _ _ _ _ => pts_nil) (fun _ _ _ _ _ => (pe_callS G_l_is_name (hr.mono (by decide)) (by rfl) T.d_l_is_name.mg T.d_l_is_name.fn.kp T.d_l_is_name.bi pass0S (pa_cons (pv 7) pa_nil)))) (pss_cons (ps_setLc (i := 4) (own := [(("part" : Str), 7)]) (g := (gName 7)) rfl sc_l_due.nd rfl rfl (sw_true rfl rfl rfl (by decide +kernel)) (pi_list (pv 2)) (blkOk_by (own := [(("part" : Str), 7)]) (N := sN_l_due) (sc := defScope s_l_due) (by decide +kernel)) (fun _ _ _ _ _ => (pg_name (i := 7) sc_l_due.nd rfl (by first | exact .inl rfl | exact .inr rfl))) (fun _ _ _ _ _ => pts_nil) (fun _ _ _ _ _ => (pe_callS G_l_is_within (hr.mono (by decide)) (by rfl) T.d_l_is_within.mg T.d_l_is_within.fn.kp T.d_l_is_within.bi pass0S (pa_cons (pv 7) (pa_cons pe_int (pa_cons pe_int pa_nil)))))) (pss_cons (ps_setLc (i := 5) (own := [(("part" : Str), 7)]) (g := (gName 7)) rfl sc_l_due.nd rfl rfl (sw_true rfl rfl rfl (by decide +kernel)) (pi_list (pv 2)) (blkOk_by (own := [(("part" : Str), 7)]) (N := sN_l_due) (sc := defScope s_l_due) (by decide +kernel)) (fun _ _ _ _ _ => (pg_name (i := 7) sc_l_due.nd rfl (by first | exact .inl rfl | exact .inr rfl))) (fun _ _ _ _ _ => pts_nil) (fun _ _ _ _ _ => (pe_callS G_l_is_end (hr.mono (by decide)) (by rfl) T.d_l_is_end.mg T.d_l_is_end.fn.kp T.d_l_is_end.bi pass0S (pa_cons (pv 7) pa_nil)))) (pss_cons (ps_expr (pe_imp (pe_bm PySem.F.plainAttrs_list PySem.F.slot_list_append PySem.F.type_list_append m_append (pv 1) (pa_cons (pe_and (pe_cmpR op_gtF (pe_callB c_len (by rfl) T.b_len (by decide +kernel) (pa_cons (pv 2) pa_nil)) pe_int (nomark _)) (pe_one (pe_cmpR op_ninF pe_bl (pv 3) (by rfl)))) pa_nil)) bm_var)) (pss_cons (ps_expr (pe_imp (pe_bm PySem.F.plainAttrs_list PySem.F.slot_list_append PySem.F.type_list_append m_append (pv 1) (pa_cons (pe_and (pe_cmpR (op_eqF hr.units) (pe_callB c_len (by rfl) T.b_len (by decide +kernel) (pa_cons (pv 2) pa_nil)) pe_int (nomark _)) (pe_and (pe_ix ix_F (pv 4) pe_int (fun _ _ => rfl)) (pe_one (pe_ix ix_F (pv 3) pe_int (fun _ _ => rfl))))) pa_nil)) bm_var)) (pss_cons (ps_set (i := 6) sc_l_due.nd rfl (Or.inl rfl) (pe_cmpR (op_eqF hr.units) (pe_callB c_len (by rfl) T.b_len (by decide +kernel) (pa_cons (pv 2) pa_nil)) pe_int (nomark _))) (pss_cons (ps_expr (pe_imp (pe_bm PySem.F.plainAttrs_list PySem.F.slot_list_append PySem.F.type_list_append m_append (pv 1) (pa_cons (pe_and (pv 6) (pe_and (pe_ix ix_F (pv 4) pe_int (fun _ _ => rfl)) (pe_and (pe_ix ix_F (pv 3) pe_int (fun _ _ => rfl)) (pe_one (pe_or (pe_ix ix_F (pv 5) pe_int (fun _ _ => rfl)) (pe_one (pe_and (pe_ix ix_F (pv 3) pe_int (fun _ _ => rfl)) (pe_one (pe_cmpR op_ltF (pe_ix ix_F (pv 2) pe_int (fun _ _ => rfl)) pe_int (nomark _)))))))))) pa_nil)) bm_var)) (pss_cons (ps_expr (pe_imp (pe_bm PySem.F.plainAttrs_list PySem.F.slot_list_append PySem.F.type_list_append m_append (pv 1) (pa_cons (pe_and (pv 6) (pe_and (pe_ix ix_F (pv 3) pe_int (fun _ _ => rfl)) (pe_and (pe_ix ix_F (pv 3) pe_int (fun _ _ => rfl)) (pe_one (pe_ix ix_F (pv 4) pe_int (fun _ _ => rfl)))))) pa_nil)) bm_var)) (pss_cons (ps_expr (pe_imp (pe_bm PySem.F.plainAttrs_list PySem.F.slot_list_append PySem.F.type_list_append m_append (pv 1) (pa_cons (pe_and (pe_callB c_isi (by rfl) T.b_isinstance (by decide +kernel) (pa_cons (pv 0) (pa_cons (pe_bltn (v := .ty "list") (by rfl) T.b_list (by decide +kernel) rfl) pa_nil))) (pe_and (pe_cmpR op_ltF (pe_callB c_len (by rfl) T.b_len (by decide +kernel) (pa_cons (pv 0) pa_nil)) pe_int (nomark _)) (pe_one (pe_cmpR (op_eqF hr.units) (pe_callB c_len (by rfl) T.b_len (by decide +kernel) (pa_cons (pe_lc (own := [(("p" : Str), 8)]) (g := (gName 8)) rfl sc_l_due.nd (pi_list (pv 0)) (blkOk_by (own := [(("p" : Str), 8)]) (N := sN_l_due) (sc := defScope s_l_due) (by decide +kernel)) (fun _ _ _ _ _ => (pg_name (i := 8) sc_l_due.nd rfl (by first | exact .inl rfl | exact .inr rfl))) (fun _ _ _ _ _ => (pts_one (pt_not (pt_val (pe_callS G_l_is_deed (hr.mono (by decide)) (by rfl) T.d_l_is_deed.mg T.d_l_is_deed.fn.kp T.d_l_is_deed.bi pass0S (pa_cons (pv 8) pa_nil)))))) (fun _ _ _ _ _ => (pv 8))) pa_nil)) pe_int (nomark _))))) pa_nil)) bm_var)) (pss_cons (ps_expr (pe_imp (pe_bm PySem.F.plainAttrs_list PySem.F.slot_list_append PySem.F.type_list_append m_append (pv 1) (pa_cons (pe_and (pv 6) (pe_and (pe_ix ix_F (pv 3) pe_int (fun _ _ => rfl)) (pe_and (pe_ix ix_F (pv 4) pe_int (fun _ _ => rfl)) (pe_one (pe_or (pe_ix ix_F (pv 3) pe_int (fun _ _ => rfl)) (pe_one (pe_ix ix_F (pv 5) pe_int (fun _ _ => rfl)))))))) pa_nil)) bm_var)) (pss_one (ps_ret (pv 1)))))))))))))))))
theorem ok_l_agrees (T : Txt K mg C) : FnG P w K mg base CX0 6 T.d_l_agrees.f T.d_l_agrees.fd [("value" : Str)] (sp_l_agrees K C) := by
  have G_is_crossing := ok_is_crossing (P := P) (w := w) (mg := mg) (base := base) T
  have G_is_day := ok_is_day (P := P) (w := w) (mg := mg) (base := base) T
  have G_is_deed := ok_is_deed (P := P) (w := w) (mg := mg) (base := base) T
  have G_is_history := ok_is_history (P := P) (w := w) (mg := mg) (base := base) T
  have G_is_leg := ok_is_leg (P := P) (w := w) (mg := mg) (base := base) T
  have G_is_name := ok_is_name (P := P) (w := w) (mg := mg) (base := base) T
  have G_is_number := ok_is_number (P := P) (w := w) (mg := mg) (base := base) T
  have G_is_place := ok_is_place (P := P) (w := w) (mg := mg) (base := base) T
  have G_is_plan := ok_is_plan (P := P) (w := w) (mg := mg) (base := base) T
  have G_is_sighting := ok_is_sighting (P := P) (w := w) (mg := mg) (base := base) T
  have G_l_due := ok_l_due (P := P) (w := w) (mg := mg) (base := base) T
  refine okG' T.d_l_agrees.fn sc_l_agrees (fun vs H Q E h => ?_) (fun cdv A outer s H vs Q E hr hcm0 h => ⟨rd_l_agrees K C E, ?_, pure_l_agrees vs H Q E h⟩)
  · first
    | (obtain ⟨_, rfl, _⟩ := h; rfl)
    | (obtain ⟨_, _, rfl, _⟩ := h; rfl)
    | (obtain ⟨_, _, _, rfl, _⟩ := h; rfl)
    | (obtain ⟨_, _, _, _, rfl, _⟩ := h; rfl)
    | (obtain ⟨_, _, _, _, _, rfl, _⟩ := h; rfl)
    | (obtain ⟨_, _, _, _, _, _, rfl, _⟩ := h; rfl)
    | (obtain ⟨_, _, _, _, _, _, _, rfl, _⟩ := h; rfl)
  · have hcm : CalmX (cxOf CX0 P w K mg base sN_l_agrees "_law_agrees" (defScope s_l_agrees) T.d_l_agrees.f cdv A outer s H E).nox := ⟨hcm0, rfl⟩
    unfold rd_l_agrees
    exact (pss_cons (ps_set (i := 1) sc_l_agrees.nd rfl (Or.inl rfl) (pe_callB (c_repr hr hcm) (by rfl) T.b_repr (by decide +kernel) (pa_cons (pv 0) pa_nil))) (pss_cons (ps_set (i := 2) sc_l_agrees.nd rfl (Or.inl rfl) (pe_callS G_l_due (hr.mono (by decide)) (by rfl) T.d_l_due.mg T.d_l_due.fn.kp T.d_l_due.bi pass0S (pa_cons (pv 0) pa_nil))) (pss_cons (ps_set (i := 3) sc_l_agrees.nd rfl (Or.inl rfl) (pe_lst (pa_cons (pe_callS G_is_name (hr.mono (by decide)) (by rfl) T.d_is_name.mg T.d_is_name.fn.kp T.d_is_name.bi pass0S (pa_cons (pv 0) pa_nil)) (pa_cons (pe_callS G_is_place (hr.mono (by decide)) (by rfl) T.d_is_place.mg T.d_is_place.fn.kp T.d_is_place.bi pass0S (pa_cons (pv 0) pa_nil)) (pa_cons (pe_callS G_is_day (hr.mono (by decide)) (by rfl) T.d_is_day.mg T.d_is_day.fn.kp T.d_is_day.bi pass0S (pa_cons (pv 0) pa_nil)) (pa_cons (pe_callS G_is_number (hr.mono (by decide)) (by rfl) T.d_is_number.mg T.d_is_number.fn.kp T.d_is_number.bi pass0S (pa_cons (pv 0) pa_nil)) (pa_cons (pe_callS G_is_plan (hr.mono (by decide)) (by rfl) T.d_is_plan.mg T.d_is_plan.fn.kp T.d_is_plan.bi pass0S (pa_cons (pv 0) pa_nil)) pa_nil))))))) (pss_cons (ps_set (i := 3) sc_l_agrees.nd rfl (Or.inl rfl) (pe_op op_addF (pv 3) (pe_lst (pa_cons (pe_callS G_is_crossing (hr.mono (by decide)) (by rfl) T.d_is_crossing.mg T.d_is_crossing.fn.kp T.d_is_crossing.bi pass0S (pa_cons (pv 0) pa_nil)) (pa_cons (pe_callS G_is_leg (hr.mono (by decide)) (by rfl) T.d_is_leg.mg T.d_is_leg.fn.kp T.d_is_leg.bi pass0S (pa_cons (pv 0) pa_nil)) (pa_cons (pe_callS G_is_deed (hr.mono (by decide)) (by rfl) T.d_is_deed.mg T.d_is_deed.fn.kp T.d_is_deed.bi pass0S (pa_cons (pv 0) pa_nil)) (pa_cons (pe_callS G_is_history (hr.mono (by decide)) (by rfl) T.d_is_history.mg T.d_is_history.fn.kp T.d_is_history.bi pass0S (pa_cons (pv 0) pa_nil)) (pa_cons (pe_callS G_is_sighting (hr.mono (by decide)) (by rfl) T.d_is_sighting.mg T.d_is_sighting.fn.kp T.d_is_sighting.bi pass0S (pa_cons (pv 0) pa_nil)) pa_nil)))))))) (pss_cons (ps_if (PW.pt (pw_or (pt_cmpR (op_neF hr.units) (pe_lc (own := [(("answer" : Str), 4)]) (g := (gName 4)) rfl sc_l_agrees.nd (pi_list (pv 3)) (blkOk_by (own := [(("answer" : Str), 4)]) (N := sN_l_agrees) (sc := defScope s_l_agrees) (by decide +kernel)) (fun _ _ _ _ _ => (pg_name (i := 4) sc_l_agrees.nd rfl (by first | exact .inl rfl | exact .inr rfl))) (fun _ _ _ _ _ => pts_nil) (fun _ _ _ _ _ => (pe_cmpR op_isBF (pv 4) pe_bl (nomark _)))) (pv 2) (nomark _)) (pw_or1 (pt_cmpR (op_neF hr.units) (pe_lc (own := [(("answer" : Str), 4)]) (g := (gName 4)) rfl sc_l_agrees.nd (pi_list (pv 3)) (blkOk_by (own := [(("answer" : Str), 4)]) (N := sN_l_agrees) (sc := defScope s_l_agrees) (by decide +kernel)) (fun _ _ _ _ _ => (pg_name (i := 4) sc_l_agrees.nd rfl (by first | exact .inl rfl | exact .inr rfl))) (fun _ _ _ _ _ => pts_nil) (fun _ _ _ _ _ => (pe_cmpR op_notBl (pv 4) pe_bl (nomark _)))) (pv 2) (nomark _))))) (pss_one (ps_ret pe_bl)) pss_nil) (pss_one (ps_ret (pe_cmpR (op_eqF hr.units) (pe_callB (c_repr hr hcm) (by rfl) T.b_repr (by decide +kernel) (pa_cons (pv 0) pa_nil)) (pv 1) (nomark _)))))))))
theorem ok_l_rights (T : Txt K mg C) : FnOk P w K mg base CX0 6 T.d_l_rights.f T.d_l_rights.fd [("store" : Str), ("row" : Str)] (sp_l_rights K C) := by
  have G_l_edge := ok_l_edge (P := P) (w := w) (mg := mg) (base := base) T
  have G_l_number := ok_l_number (P := P) (w := w) (mg := mg) (base := base) T
  have G_l_pick := ok_l_pick (P := P) (w := w) (mg := mg) (base := base) T
  have G_l_take := ok_l_take (P := P) (w := w) (mg := mg) (base := base) T
  refine T.d_l_rights.fn.ok sc_l_rights (fun vs H Q E h => ?_) (fun cdv A outer s H vs Q E hr h => ⟨rd_l_rights K C E, ?_, pure_l_rights vs H Q E h⟩)
  · first
    | (obtain ⟨_, rfl, _⟩ := h; rfl)
    | (obtain ⟨_, _, rfl, _⟩ := h; rfl)
    | (obtain ⟨_, _, _, rfl, _⟩ := h; rfl)
    | (obtain ⟨_, _, _, _, rfl, _⟩ := h; rfl)
    | (obtain ⟨_, _, _, _, _, rfl, _⟩ := h; rfl)
    | (obtain ⟨_, _, _, _, _, _, rfl, _⟩ := h; rfl)
    | (obtain ⟨_, _, _, _, _, _, _, rfl, _⟩ := h; rfl)
  · unfold rd_l_rights
    exact (pss_cons (ps_set (i := 2) sc_l_rights.nd rfl (Or.inl rfl) (pe_callS G_l_pick (hr.mono (by decide)) (by rfl) T.d_l_pick.mg T.d_l_pick.fn.kp T.d_l_pick.bi pass0S (pa_cons (pv 0) (pa_cons (pv 1) pa_nil)))) (pss_cons (ps_set (i := 3) sc_l_rights.nd rfl (Or.inr rfl) (pe_callS G_l_pick (hr.mono (by decide)) (by rfl) T.d_l_pick.mg T.d_l_pick.fn.kp T.d_l_pick.bi pass0S (pa_cons (pv 0) (pa_cons (pv 1) pa_nil)))) (pss_cons (ps_set (i := 4) sc_l_rights.nd rfl (Or.inl rfl) (pe_callS G_l_edge (hr.mono (by decide)) (by rfl) T.d_l_edge.mg T.d_l_edge.fn.kp T.d_l_edge.bi pass0S (pa_cons (pv 0) (pa_cons pe_int (pa_cons pe_int pa_nil))))) (pss_cons (ps_set (i := 5) sc_l_rights.nd rfl (Or.inl rfl) (pe_callTy c_tuple (by rfl) T.b_tuple (by decide +kernel) (pa_cons (pe_lc (own := [(("k" : Str), 8)]) (g := (gName 8)) rfl sc_l_rights.nd (pi_range1 (by rfl) T.b_range (pa_cons (pe_callS G_l_edge (hr.mono (by decide)) (by rfl) T.d_l_edge.mg T.d_l_edge.fn.kp T.d_l_edge.bi pass0S (pa_cons (pv 0) (pa_cons pe_int (pa_cons pe_int pa_nil)))) pa_nil)) (blkOk_by (own := [(("k" : Str), 8)]) (N := sN_l_rights) (sc := defScope s_l_rights) (by decide +kernel)) (fun _ _ _ _ _ => (pg_name (i := 8) sc_l_rights.nd rfl (by first | exact .inl rfl | exact .inr rfl))) (fun _ _ _ _ _ => pts_nil) (fun _ _ _ _ _ => (pe_callS G_l_pick (hr.mono (by decide)) (by rfl) T.d_l_pick.mg T.d_l_pick.fn.kp T.d_l_pick.bi pass0S (pa_cons (pv 0) (pa_cons (pv 1) pa_nil))))) pa_nil))) (pss_cons (ps_setLc (i := 6) (own := [(("k" : Str), 8)]) (g := (gName 8)) rfl sc_l_rights.nd rfl rfl (sw_true rfl rfl rfl (by decide +kernel)) (pi_range1 (by rfl) T.b_range (pa_cons (pe_callS G_l_take (hr.mono (by decide)) (by rfl) T.d_l_take.mg T.d_l_take.fn.kp T.d_l_take.bi pass0S (pa_cons (pv 0) (pa_cons pe_int pa_nil))) pa_nil)) (blkOk_by (own := [(("k" : Str), 8)]) (N := sN_l_rights) (sc := defScope s_l_rights) (by decide +kernel)) (fun _ _ _ _ _ => (pg_name (i := 8) sc_l_rights.nd rfl (by first | exact .inl rfl | exact .inr rfl))) (fun _ _ _ _ _ => pts_nil) (fun _ _ _ _ _ => (pe_tup (pa_cons (pe_callS G_l_pick (hr.mono (by decide)) (by rfl) T.d_l_pick.mg T.d_l_pick.fn.kp T.d_l_pick.bi pass0S (pa_cons (pv 0) (pa_cons (pv 1) pa_nil))) (pa_cons (pv 3) (pa_cons (pe_callS G_l_take (hr.mono (by decide)) (by rfl) T.d_l_take.mg T.d_l_take.fn.kp T.d_l_take.bi pass0S (pa_cons (pv 0) (pa_cons pe_int pa_nil))) pa_nil)))))) (pss_cons (ps_set (i := 7) sc_l_rights.nd rfl (Or.inl rfl) (pe_lst (pa_cons (pv 2) (pa_cons pe_str (pa_cons (pv 4) (pa_cons (pe_callB c_abs (by rfl) T.b_abs (by decide +kernel) (pa_cons (pe_callS G_l_number (hr.mono (by decide)) (by rfl) T.d_l_number.mg T.d_l_number.fn.kp T.d_l_number.bi pass0S (pa_cons (pv 0) pa_nil)) pa_nil)) (pa_cons (pv 5) (pa_cons (pe_tup (pa_cons (pv 4) (pa_cons (pv 3) pa_nil))) (pa_cons (pe_tup (pa_cons (pe_callB (c_min rfl) (by rfl) T.b_min (by decide +kernel) (pa_cons (pv 4) (pa_cons pe_int pa_nil))) (pa_cons (pv 2) (pa_cons (pv 3) pa_nil)))) pa_nil))))))))) (pss_one (ps_ret (pe_op op_addF (pv 7) (pe_lst (pa_cons (pe_tup (pa_cons (pv 4) (pa_cons (pv 2) (pa_cons pe_str pa_nil)))) (pa_cons (pe_tup (pa_cons (pv 2) (pa_cons (pv 3) (pa_cons (pv 4) pa_nil)))) (pa_cons (pv 6) (pa_cons (pe_tup (pa_cons (pv 2) (pa_cons (pv 4) (pa_cons (pv 3) pa_nil)))) (pa_cons (pe_tup (pa_cons (pv 2) (pa_cons (pv 4) (pa_cons pe_str pa_nil)))) pa_nil)))))))))))))))
theorem ok_l_edged (T : Txt K mg C) : FnOk P w K mg base CX0 10 T.d_l_edged.f T.d_l_edged.fd [("store" : Str), ("row" : Str)] (sp_l_edged K C) := by
  have G_l_bent := ok_l_bent (P := P) (w := w) (mg := mg) (base := base) T
  have G_l_pick := ok_l_pick (P := P) (w := w) (mg := mg) (base := base) T
  have G_l_take := ok_l_take (P := P) (w := w) (mg := mg) (base := base) T
  refine T.d_l_edged.fn.ok sc_l_edged (fun vs H Q E h => ?_) (fun cdv A outer s H vs Q E hr h => ⟨rd_l_edged K C E, ?_, pure_l_edged vs H Q E h⟩)
  · first
    | (obtain ⟨_, rfl, _⟩ := h; rfl)
    | (obtain ⟨_, _, rfl, _⟩ := h; rfl)
    | (obtain ⟨_, _, _, rfl, _⟩ := h; rfl)
    | (obtain ⟨_, _, _, _, rfl, _⟩ := h; rfl)
    | (obtain ⟨_, _, _, _, _, rfl, _⟩ := h; rfl)
    | (obtain ⟨_, _, _, _, _, _, rfl, _⟩ := h; rfl)
    | (obtain ⟨_, _, _, _, _, _, _, rfl, _⟩ := h; rfl)
  · unfold rd_l_edged
    exact (pss_cons (ps_set (i := 2) sc_l_edged.nd rfl (Or.inl rfl) (pe_callS G_l_pick (hr.mono (by decide)) (by rfl) T.d_l_pick.mg T.d_l_pick.fn.kp T.d_l_pick.bi pass0S (pa_cons (pv 0) (pa_cons (pv 1) pa_nil)))) (pss_cons (ps_set (i := 3) sc_l_edged.nd rfl (Or.inl rfl) (pe_callS G_l_pick (hr.mono (by decide)) (by rfl) T.d_l_pick.mg T.d_l_pick.fn.kp T.d_l_pick.bi pass0S (pa_cons (pv 0) (pa_cons (pe_op op_addF (pv 1) (pe_lst (pa_cons pe_str pa_nil))) pa_nil)))) (pss_cons (ps_set (i := 4) sc_l_edged.nd rfl (Or.inl rfl) (pe_tup (pa_cons (pv 2) (pa_cons (pe_callS G_l_pick (hr.mono (by decide)) (by rfl) T.d_l_pick.mg T.d_l_pick.fn.kp T.d_l_pick.bi pass0S (pa_cons (pv 0) (pa_cons (pv 1) pa_nil))) (pa_cons (pe_callS G_l_take (hr.mono (by decide)) (by rfl) T.d_l_take.mg T.d_l_take.fn.kp T.d_l_take.bi pass0S (pa_cons (pv 0) (pa_cons pe_int pa_nil))) pa_nil))))) (pss_cons (ps_set (i := 5) sc_l_edged.nd rfl (Or.inl rfl) (pe_op op_rep (pe_lst (pa_cons (pv 4) pa_nil)) (pe_op op_addF pe_int (pe_callS G_l_take (hr.mono (by decide)) (by rfl) T.d_l_take.mg T.d_l_take.fn.kp T.d_l_take.bi pass0S (pa_cons (pv 0) (pa_cons pe_int pa_nil)))))) (Evl.pss_cut (ps_if (pt_cmpR (op_eqF hr.units) (pe_callS G_l_take (hr.mono (by decide)) (by rfl) T.d_l_take.mg T.d_l_take.fn.kp T.d_l_take.bi pass0S (pa_cons (pv 0) (pa_cons pe_int pa_nil))) pe_int (nomark _)) (pss_one (ps_asg (pe_callS G_l_bent (hr.mono (by decide)) (by rfl) T.d_l_bent.mg T.d_l_bent.fn.kp T.d_l_bent.bi pass0S (pa_cons (pv 0) (pa_cons (pv 4) pa_nil))) (pg_sub (pv 5) (pe_callS G_l_take (hr.mono (by decide)) (by rfl) T.d_l_take.mg T.d_l_take.fn.kp T.d_l_take.bi pass0S (pa_cons (pv 0) (pa_cons (pe_callB c_len (by rfl) T.b_len (by decide +kernel) (pa_cons (pv 5) pa_nil)) pa_nil))) set_F))) pss_nil) (pss_cons (ps_set (i := 6) sc_l_edged.nd rfl (Or.inl rfl) (pe_op op_subF (pe_callS G_l_take (hr.mono (by decide)) (by rfl) T.d_l_take.mg T.d_l_take.fn.kp T.d_l_take.bi pass0S (pa_cons (pv 0) (pa_cons pe_int pa_nil))) pe_int)) (pss_cons (ps_set (i := 7) sc_l_edged.nd rfl (Or.inl rfl) (pe_lst (pa_cons (pv 5) (pa_cons (pe_op op_repT (pe_tup (pa_cons (pv 2) pa_nil)) (pe_op op_addF pe_int (pe_callS G_l_take (hr.mono (by decide)) (by rfl) T.d_l_take.mg T.d_l_take.fn.kp T.d_l_take.bi pass0S (pa_cons (pv 0) (pa_cons pe_int pa_nil))))) (pa_cons (pe_op op_mulS (pe_ix ix_F (pv 2) pe_int (fun _ _ => rfl)) (pe_op op_addF pe_int (pe_callS G_l_take (hr.mono (by decide)) (by rfl) T.d_l_take.mg T.d_l_take.fn.kp T.d_l_take.bi pass0S (pa_cons (pv 0) (pa_cons pe_int pa_nil))))) (pa_cons (pv 6) (pa_cons (pe_tup (pa_cons (pv 6) (pa_cons (pv 3) pa_nil))) pa_nil))))))) (pss_one (ps_ret (pe_op op_addF (pv 7) (pe_lst (pa_cons (pe_tup (pa_cons (pe_op op_addF pe_int (pe_callS G_l_take (hr.mono (by decide)) (by rfl) T.d_l_take.mg T.d_l_take.fn.kp T.d_l_take.bi pass0S (pa_cons (pv 0) (pa_cons pe_int pa_nil)))) (pa_cons (pv 2) (pa_cons (pv 3) pa_nil)))) (pa_cons (pe_tup (pa_cons (pv 6) (pa_cons (pv 2) (pa_cons (pv 3) pa_nil)))) (pa_cons (pe_tup (pa_cons (pv 2) (pa_cons (pv 6) (pa_cons (pv 3) pa_nil)))) (pa_cons (pe_tup (pa_cons (pv 2) (pa_cons (pv 3) (pa_cons (pv 6) pa_nil)))) pa_nil)))))))))))))))
theorem ok_l_any (T : Txt K mg C) : FnOk P w K mg base CX0 12 T.d_l_any.f T.d_l_any.fd [("store" : Str)] (sp_l_any K C) := by
  have G_l_take := ok_l_take (P := P) (w := w) (mg := mg) (base := base) T
  have G_l_value := ok_l_value (P := P) (w := w) (mg := mg) (base := base) T
  refine T.d_l_any.fn.ok sc_l_any (fun vs H Q E h => ?_) (fun cdv A outer s H vs Q E hr h => ⟨rd_l_any K C E, ?_, pure_l_any vs H Q E h⟩)
  · first
    | (obtain ⟨_, rfl, _⟩ := h; rfl)
    | (obtain ⟨_, _, rfl, _⟩ := h; rfl)
    | (obtain ⟨_, _, _, rfl, _⟩ := h; rfl)
    | (obtain ⟨_, _, _, _, rfl, _⟩ := h; rfl)
    | (obtain ⟨_, _, _, _, _, rfl, _⟩ := h; rfl)
    | (obtain ⟨_, _, _, _, _, _, rfl, _⟩ := h; rfl)
    | (obtain ⟨_, _, _, _, _, _, _, rfl, _⟩ := h; rfl)
  · unfold rd_l_any
    exact (pss_cons (ps_set (i := 1) sc_l_any.nd rfl (Or.inl rfl) (pe_callS G_l_value (hr.mono (by decide)) (by rfl) T.d_l_value.mg T.d_l_value.fn.kp T.d_l_value.bi pass0S (pa_cons (pv 0) (pa_cons pe_int pa_nil)))) (pss_cons (ps_for PassesOwn.never rfl (pi_range1 (by rfl) T.b_range (pa_cons (pe_callS G_l_take (hr.mono (by decide)) (by rfl) T.d_l_take.mg T.d_l_take.fn.kp T.d_l_take.bi pass0S (pa_cons (pv 0) (pa_cons pe_int pa_nil))) pa_nil)) (pg_name (i := 2) sc_l_any.nd rfl (by first | exact .inl rfl | exact .inr rfl)) (pss_one (ps_if (pt_cmpR (op_eqF hr.units) (pe_callS G_l_take (hr.mono (by decide)) (by rfl) T.d_l_take.mg T.d_l_take.fn.kp T.d_l_take.bi pass0S (pa_cons (pv 0) (pa_cons pe_int pa_nil))) pe_int (nomark _)) (pss_one (ps_set (i := 1) sc_l_any.nd rfl (Or.inl rfl) (pe_lst (pa_cons (pv 1) pa_nil)))) (pss_one (ps_set (i := 1) sc_l_any.nd rfl (Or.inl rfl) (pe_tup (pa_cons (pv 1) pa_nil))))))) (pss_one (ps_ret (pv 1)))))
theorem ok_law (T : Txt K mg C) : FnG P w K mg base CX0 18 T.d_law.f T.d_law.fd [("script" : Str)] (sp_law K C) := by
  have G_l_agrees := ok_l_agrees (P := P) (w := w) (mg := mg) (base := base) T
  have G_l_any := ok_l_any (P := P) (w := w) (mg := mg) (base := base) T
  have G_l_bent := ok_l_bent (P := P) (w := w) (mg := mg) (base := base) T
  have G_l_edge := ok_l_edge (P := P) (w := w) (mg := mg) (base := base) T
  have G_l_edged := ok_l_edged (P := P) (w := w) (mg := mg) (base := base) T
  have G_l_rights := ok_l_rights (P := P) (w := w) (mg := mg) (base := base) T
  have G_l_spoil := ok_l_spoil (P := P) (w := w) (mg := mg) (base := base) T
  have G_l_store := ok_l_store (P := P) (w := w) (mg := mg) (base := base) T
  have G_l_word := ok_l_word (P := P) (w := w) (mg := mg) (base := base) T
  refine okG' T.d_law.fn sc_law (fun vs H Q E h => ?_) (fun cdv A outer s H vs Q E hr hcm0 h => ⟨rd_law K C E, ?_, pure_law vs H Q E h⟩)
  · first
    | (obtain ⟨_, rfl, _⟩ := h; rfl)
    | (obtain ⟨_, _, rfl, _⟩ := h; rfl)
    | (obtain ⟨_, _, _, rfl, _⟩ := h; rfl)
    | (obtain ⟨_, _, _, _, rfl, _⟩ := h; rfl)
    | (obtain ⟨_, _, _, _, _, rfl, _⟩ := h; rfl)
    | (obtain ⟨_, _, _, _, _, _, rfl, _⟩ := h; rfl)
    | (obtain ⟨_, _, _, _, _, _, _, rfl, _⟩ := h; rfl)
  · have hcm : CalmX (cxOf CX0 P w K mg base sN_law "law" (defScope s_law) T.d_law.f cdv A outer s H E).nox := ⟨hcm0, rfl⟩
    unfold rd_law
    exact (pss_cons (ps_set (i := 1) sc_law.nd rfl (Or.inr rfl) (pe_callS G_l_store (hr.mono (by decide)) (by rfl) T.d_l_store.mg T.d_l_store.fn.kp T.d_l_store.bi pass0S (pa_cons (pv 0) pa_nil))) (pss_cons (ps_if (pt_cmpR (op_neF hr.units) (pe_lst (pa_cons (pe_glob (by rfl) T.c_END ⟨_, rfl⟩) (pa_cons (pe_glob (by rfl) T.c_LAST_DAY ⟨_, rfl⟩) (pa_cons (pe_glob (by rfl) T.c_MOST_TOWNS ⟨_, rfl⟩) (pa_cons (pe_glob (by rfl) T.c_MOST_TRAVELLERS ⟨_, rfl⟩) (pa_cons (pe_glob (by rfl) T.c_MOST_DEEDS ⟨_, rfl⟩) pa_nil)))))) (pe_lst (pa_cons pe_str (pa_cons pe_int (pa_cons pe_int (pa_cons pe_int (pa_cons pe_int pa_nil)))))) (nomark _)) (pss_one (ps_ret pe_bl)) pss_nil) (pss_cons (ps_setLc (i := 3) (own := [(("k" : Str), 2)]) (g := (gName 2)) rfl sc_law.nd rfl rfl (sw_true rfl rfl rfl (by decide +kernel)) (pi_range1 (by rfl) T.b_range (pa_cons pe_int pa_nil)) (blkOk_by (own := [(("k" : Str), 2)]) (N := sN_law) (sc := defScope s_law) (by decide +kernel)) (fun _ _ _ _ _ => (pg_name (i := 2) sc_law.nd rfl (by first | exact .inl rfl | exact .inr rfl))) (fun _ _ _ _ _ => pts_nil) (fun _ _ _ _ _ => (pe_callS G_l_word (hr.mono (by decide)) (by rfl) T.d_l_word.mg T.d_l_word.fn.kp T.d_l_word.bi pass0S (pa_cons (pv 1) (pa_cons (pe_callS G_l_edge (hr.mono (by decide)) (by rfl) T.d_l_edge.mg T.d_l_edge.fn.kp T.d_l_edge.bi pass0S (pa_cons (pv 1) (pa_cons pe_int (pa_cons pe_int pa_nil)))) pa_nil))))) (pss_cons (ps_set (i := 4) sc_law.nd rfl (Or.inl rfl) (pe_op op_addF (pe_callS G_l_edged (hr.mono (by decide)) (by rfl) T.d_l_edged.mg T.d_l_edged.fn.kp T.d_l_edged.bi pass0S (pa_cons (pv 1) (pa_cons (pv 3) pa_nil))) (pe_lc (own := [(("k" : Str), 2)]) (g := (gName 2)) rfl sc_law.nd (pi_range1 (by rfl) T.b_range (pa_cons pe_int pa_nil)) (blkOk_by (own := [(("k" : Str), 2)]) (N := sN_law) (sc := defScope s_law) (by decide +kernel)) (fun _ _ _ _ _ => (pg_name (i := 2) sc_law.nd rfl (by first | exact .inl rfl | exact .inr rfl))) (fun _ _ _ _ _ => pts_nil) (fun _ _ _ _ _ => (pe_callS G_l_any (hr.mono (by decide)) (by rfl) T.d_l_any.mg T.d_l_any.fn.kp T.d_l_any.bi pass0S (pa_cons (pv 1) pa_nil)))))) (pss_cons (ps_for PassesOwn.never rfl (pi_list (pe_callS G_l_rights (hr.mono (by decide)) (by rfl) T.d_l_rights.mg T.d_l_rights.fn.kp T.d_l_rights.bi pass0S (pa_cons (pv 1) (pa_cons (pv 3) pa_nil)))) (pg_name (i := 5) sc_law.nd rfl (by first | exact .inl rfl | exact .inr rfl)) (pss_cons (ps_expr (pe_imp (pe_bm PySem.F.plainAttrs_list PySem.F.slot_list_append PySem.F.type_list_append m_append (pv 4) (pa_cons (pe_callS G_l_bent (hr.mono (by decide)) (by rfl) T.d_l_bent.mg T.d_l_bent.fn.kp T.d_l_bent.bi pass0S (pa_cons (pv 1) (pa_cons (pv 5) pa_nil))) pa_nil)) bm_var)) (pss_one (ps_expr (pe_imp (pe_bm PySem.F.plainAttrs_list PySem.F.slot_list_append PySem.F.type_list_append m_append (pv 4) (pa_cons (pv 5) pa_nil)) bm_var))))) (pss_cons (ps_for PassesOwn.never rfl (pi_list (pv 4)) (pg_name (i := 5) sc_law.nd rfl (by first | exact .inl rfl | exact .inr rfl)) (pss_one (ps_if (pt_not (pt_val (pe_callG G_l_agrees (hr.mono (by decide)) hcm (by rfl) T.d_l_agrees.mg T.d_l_agrees.fn.kp T.d_l_agrees.bi pass0S (pa_cons (pv 5) pa_nil)))) (pss_one (ps_ret pe_bl)) pss_nil))) (pss_cons (ps_for PassesOwn.never rfl (pi_range1 (by rfl) T.b_range (pa_cons (pe_callB c_len (by rfl) T.b_len (by decide +kernel) (pa_cons (pv 4) pa_nil)) pa_nil)) (pg_name (i := 2) sc_law.nd rfl (by first | exact .inl rfl | exact .inr rfl)) (pss_cons (ps_expr (pe_callS G_l_spoil (hr.mono (by decide)) (by rfl) T.d_l_spoil.mg T.d_l_spoil.fn.kp T.d_l_spoil.bi pass0S (pa_cons (pe_ix ix_F (pv 4) (pv 2) (fun _ _ => rfl)) pa_nil))) (pss_one (ps_if (pt_not (pt_val (pe_callG G_l_agrees (hr.mono (by decide)) hcm (by rfl) T.d_l_agrees.mg T.d_l_agrees.fn.kp T.d_l_agrees.bi pass0S (pa_cons (pe_ix ix_F (pv 4) (pv 2) (fun _ _ => rfl)) pa_nil)))) (pss_one (ps_ret pe_bl)) pss_nil)))) (pss_one (ps_ret pe_bl)))))))))
end
end XB

/-! The end. -/
namespace XB
open PySem PySem.Spec PyProof.Rows L2
def sp_lawK (K : PySem.W.Frag) : Sp := fun vs H Q _ => ∃ (a : Addr) (ns : List Int), vs = [.ref a] ∧ SqL K H a (ns.map V.int) ∧ ns.length ≤ 63 ∧ ∀ H', Q (.bl true) H'
theorem all_mk {P : Program} {w : World} {K : PySem.W.Frag} {h : Heap} {mg : Str → Option Value} {fa : Addr} (X : K.In h) (G : h.Ns mainGlobals mg) (hfa : mg "law" = some (.ref fa))
    {f1 : Addr} {od1 an1 : Option Addr} {sl1 : Array (Option Value)} {oc1 kV1 dc1 pm1 cd1 ct1 : Value}
    {f2 : Addr} {od2 an2 : Option Addr} {sl2 : Array (Option Value)} {oc2 kV2 dc2 pm2 cd2 ct2 : Value}
    {f3 : Addr} {od3 an3 : Option Addr} {sl3 : Array (Option Value)} {oc3 kV3 dc3 pm3 cd3 ct3 : Value}
    {f4 : Addr} {od4 an4 : Option Addr} {sl4 : Array (Option Value)} {oc4 kV4 dc4 pm4 cd4 ct4 : Value}
    {f5 : Addr} {od5 an5 : Option Addr} {sl5 : Array (Option Value)} {oc5 kV5 dc5 pm5 cd5 ct5 : Value}
    {f6 : Addr} {od6 an6 : Option Addr} {sl6 : Array (Option Value)} {oc6 kV6 dc6 pm6 cd6 ct6 : Value}
    {f7 : Addr} {od7 an7 : Option Addr} {sl7 : Array (Option Value)} {oc7 kV7 dc7 pm7 cd7 ct7 : Value}
    {f8 : Addr} {od8 an8 : Option Addr} {sl8 : Array (Option Value)} {oc8 kV8 dc8 pm8 cd8 ct8 : Value}
    {f9 : Addr} {od9 an9 : Option Addr} {sl9 : Array (Option Value)} {oc9 kV9 dc9 pm9 cd9 ct9 : Value}
    {f10 : Addr} {od10 an10 : Option Addr} {sl10 : Array (Option Value)} {oc10 kV10 dc10 pm10 cd10 ct10 : Value}
    {f11 : Addr} {od11 an11 : Option Addr} {sl11 : Array (Option Value)} {oc11 kV11 dc11 pm11 cd11 ct11 : Value}
    {f12 : Addr} {od12 an12 : Option Addr} {sl12 : Array (Option Value)} {oc12 kV12 dc12 pm12 cd12 ct12 : Value}
    {f13 : Addr} {od13 an13 : Option Addr} {sl13 : Array (Option Value)} {oc13 kV13 dc13 pm13 cd13 ct13 : Value}
    {f14 : Addr} {od14 an14 : Option Addr} {sl14 : Array (Option Value)} {oc14 kV14 dc14 pm14 cd14 ct14 : Value}
    {f15 : Addr} {od15 an15 : Option Addr} {sl15 : Array (Option Value)} {oc15 kV15 dc15 pm15 cd15 ct15 : Value}
    {f16 : Addr} {od16 an16 : Option Addr} {sl16 : Array (Option Value)} {oc16 kV16 dc16 pm16 cd16 ct16 : Value}
    {f17 : Addr} {od17 an17 : Option Addr} {sl17 : Array (Option Value)} {oc17 kV17 dc17 pm17 cd17 ct17 : Value}
    {f18 : Addr} {od18 an18 : Option Addr} {sl18 : Array (Option Value)} {oc18 kV18 dc18 pm18 cd18 ct18 : Value}
    {f19 : Addr} {od19 an19 : Option Addr} {sl19 : Array (Option Value)} {oc19 kV19 dc19 pm19 cd19 ct19 : Value}
    {f20 : Addr} {od20 an20 : Option Addr} {sl20 : Array (Option Value)} {oc20 kV20 dc20 pm20 cd20 ct20 : Value}
    {f21 : Addr} {od21 an21 : Option Addr} {sl21 : Array (Option Value)} {oc21 kV21 dc21 pm21 cd21 ct21 : Value}
    {f22 : Addr} {od22 an22 : Option Addr} {sl22 : Array (Option Value)} {oc22 kV22 dc22 pm22 cd22 ct22 : Value}
    {f23 : Addr} {od23 an23 : Option Addr} {sl23 : Array (Option Value)} {oc23 kV23 dc23 pm23 cd23 ct23 : Value}
    {f24 : Addr} {od24 an24 : Option Addr} {sl24 : Array (Option Value)} {oc24 kV24 dc24 pm24 cd24 ct24 : Value}
    {f25 : Addr} {od25 an25 : Option Addr} {sl25 : Array (Option Value)} {oc25 kV25 dc25 pm25 cd25 ct25 : Value}
    {f26 : Addr} {od26 an26 : Option Addr} {sl26 : Array (Option Value)} {oc26 kV26 dc26 pm26 cd26 ct26 : Value}
    {f27 : Addr} {od27 an27 : Option Addr} {sl27 : Array (Option Value)} {oc27 kV27 dc27 pm27 cd27 ct27 : Value}
    {f28 : Addr} {od28 an28 : Option Addr} {sl28 : Array (Option Value)} {oc28 kV28 dc28 pm28 cd28 ct28 : Value}
    {f29 : Addr} {od29 an29 : Option Addr} {sl29 : Array (Option Value)} {oc29 kV29 dc29 pm29 cd29 ct29 : Value}
    {f30 : Addr} {od30 an30 : Option Addr} {sl30 : Array (Option Value)} {oc30 kV30 dc30 pm30 cd30 ct30 : Value}
    {f31 : Addr} {od31 an31 : Option Addr} {sl31 : Array (Option Value)} {oc31 kV31 dc31 pm31 cd31 ct31 : Value}
    {f32 : Addr} {od32 an32 : Option Addr} {sl32 : Array (Option Value)} {oc32 kV32 dc32 pm32 cd32 ct32 : Value}
    {f33 : Addr} {od33 an33 : Option Addr} {sl33 : Array (Option Value)} {oc33 kV33 dc33 pm33 cd33 ct33 : Value}
    {f34 : Addr} {od34 an34 : Option Addr} {sl34 : Array (Option Value)} {oc34 kV34 dc34 pm34 cd34 ct34 : Value}
    {f35 : Addr} {od35 an35 : Option Addr} {sl35 : Array (Option Value)} {oc35 kV35 dc35 pm35 cd35 ct35 : Value}
    {f36 : Addr} {od36 an36 : Option Addr} {sl36 : Array (Option Value)} {oc36 kV36 dc36 pm36 cd36 ct36 : Value}
    {t_END : Nat}
    {t_LAST_DAY : Nat}
    {t_LETTERS : Nat}
    {t_LETTERS_AND_DIGITS : Nat}
    {t_LONGEST_NAME : Nat}
    {t_MOST_DEEDS : Nat}
    {t_MOST_TOWNS : Nat}
    {t_MOST_TRAVELLERS : Nat}
    (a_is_name : PySem.W.nsIn K mainGlobals "is_name" = some (some (.ref f1)))
    (l_is_name : K.lookup f1 = some ⟨oc1, od1, .func (PySem.W.fnOf "is_name" "is_name" (defArgs s_is_name) (defBody s_is_name) (defScope s_is_name) .none kV1 dc1 pm1 an1 cd1 ct1), sl1⟩)
    (c_is_name : PySem.W.codeIn K cd1 "is_name" = true)
    (k_is_name : PySem.W.keepIn K (.ref f1) = true)
    (a_is_place : PySem.W.nsIn K mainGlobals "is_place" = some (some (.ref f2)))
    (l_is_place : K.lookup f2 = some ⟨oc2, od2, .func (PySem.W.fnOf "is_place" "is_place" (defArgs s_is_place) (defBody s_is_place) (defScope s_is_place) .none kV2 dc2 pm2 an2 cd2 ct2), sl2⟩)
    (c_is_place : PySem.W.codeIn K cd2 "is_place" = true)
    (k_is_place : PySem.W.keepIn K (.ref f2) = true)
    (a_is_whole : PySem.W.nsIn K mainGlobals "is_whole" = some (some (.ref f3)))
    (l_is_whole : K.lookup f3 = some ⟨oc3, od3, .func (PySem.W.fnOf "is_whole" "is_whole" (defArgs s_is_whole) (defBody s_is_whole) (defScope s_is_whole) .none kV3 dc3 pm3 an3 cd3 ct3), sl3⟩)
    (c_is_whole : PySem.W.codeIn K cd3 "is_whole" = true)
    (k_is_whole : PySem.W.keepIn K (.ref f3) = true)
    (a_is_day : PySem.W.nsIn K mainGlobals "is_day" = some (some (.ref f4)))
    (l_is_day : K.lookup f4 = some ⟨oc4, od4, .func (PySem.W.fnOf "is_day" "is_day" (defArgs s_is_day) (defBody s_is_day) (defScope s_is_day) .none kV4 dc4 pm4 an4 cd4 ct4), sl4⟩)
    (c_is_day : PySem.W.codeIn K cd4 "is_day" = true)
    (k_is_day : PySem.W.keepIn K (.ref f4) = true)
    (a_is_number : PySem.W.nsIn K mainGlobals "is_number" = some (some (.ref f5)))
    (l_is_number : K.lookup f5 = some ⟨oc5, od5, .func (PySem.W.fnOf "is_number" "is_number" (defArgs s_is_number) (defBody s_is_number) (defScope s_is_number) .none kV5 dc5 pm5 an5 cd5 ct5), sl5⟩)
    (c_is_number : PySem.W.codeIn K cd5 "is_number" = true)
    (k_is_number : PySem.W.keepIn K (.ref f5) = true)
    (a_is_plan : PySem.W.nsIn K mainGlobals "is_plan" = some (some (.ref f6)))
    (l_is_plan : K.lookup f6 = some ⟨oc6, od6, .func (PySem.W.fnOf "is_plan" "is_plan" (defArgs s_is_plan) (defBody s_is_plan) (defScope s_is_plan) .none kV6 dc6 pm6 an6 cd6 ct6), sl6⟩)
    (c_is_plan : PySem.W.codeIn K cd6 "is_plan" = true)
    (k_is_plan : PySem.W.keepIn K (.ref f6) = true)
    (a_is_crossing : PySem.W.nsIn K mainGlobals "is_crossing" = some (some (.ref f7)))
    (l_is_crossing : K.lookup f7 = some ⟨oc7, od7, .func (PySem.W.fnOf "is_crossing" "is_crossing" (defArgs s_is_crossing) (defBody s_is_crossing) (defScope s_is_crossing) .none kV7 dc7 pm7 an7 cd7 ct7), sl7⟩)
    (c_is_crossing : PySem.W.codeIn K cd7 "is_crossing" = true)
    (k_is_crossing : PySem.W.keepIn K (.ref f7) = true)
    (a_is_leg : PySem.W.nsIn K mainGlobals "is_leg" = some (some (.ref f8)))
    (l_is_leg : K.lookup f8 = some ⟨oc8, od8, .func (PySem.W.fnOf "is_leg" "is_leg" (defArgs s_is_leg) (defBody s_is_leg) (defScope s_is_leg) .none kV8 dc8 pm8 an8 cd8 ct8), sl8⟩)
    (c_is_leg : PySem.W.codeIn K cd8 "is_leg" = true)
    (k_is_leg : PySem.W.keepIn K (.ref f8) = true)
    (a_is_deed : PySem.W.nsIn K mainGlobals "is_deed" = some (some (.ref f9)))
    (l_is_deed : K.lookup f9 = some ⟨oc9, od9, .func (PySem.W.fnOf "is_deed" "is_deed" (defArgs s_is_deed) (defBody s_is_deed) (defScope s_is_deed) .none kV9 dc9 pm9 an9 cd9 ct9), sl9⟩)
    (c_is_deed : PySem.W.codeIn K cd9 "is_deed" = true)
    (k_is_deed : PySem.W.keepIn K (.ref f9) = true)
    (a_is_history : PySem.W.nsIn K mainGlobals "is_history" = some (some (.ref f10)))
    (l_is_history : K.lookup f10 = some ⟨oc10, od10, .func (PySem.W.fnOf "is_history" "is_history" (defArgs s_is_history) (defBody s_is_history) (defScope s_is_history) .none kV10 dc10 pm10 an10 cd10 ct10), sl10⟩)
    (c_is_history : PySem.W.codeIn K cd10 "is_history" = true)
    (k_is_history : PySem.W.keepIn K (.ref f10) = true)
    (a_is_sighting : PySem.W.nsIn K mainGlobals "is_sighting" = some (some (.ref f11)))
    (l_is_sighting : K.lookup f11 = some ⟨oc11, od11, .func (PySem.W.fnOf "is_sighting" "is_sighting" (defArgs s_is_sighting) (defBody s_is_sighting) (defScope s_is_sighting) .none kV11 dc11 pm11 an11 cd11 ct11), sl11⟩)
    (c_is_sighting : PySem.W.codeIn K cd11 "is_sighting" = true)
    (k_is_sighting : PySem.W.keepIn K (.ref f11) = true)
    (a_is_tuple_of : PySem.W.nsIn K mainGlobals "is_tuple_of" = some (some (.ref f12)))
    (l_is_tuple_of : K.lookup f12 = some ⟨oc12, od12, .func (PySem.W.fnOf "is_tuple_of" "is_tuple_of" (defArgs s_is_tuple_of) (defBody s_is_tuple_of) (defScope s_is_tuple_of) .none kV12 dc12 pm12 an12 cd12 ct12), sl12⟩)
    (c_is_tuple_of : PySem.W.codeIn K cd12 "is_tuple_of" = true)
    (k_is_tuple_of : PySem.W.keepIn K (.ref f12) = true)
    (a_l_mixed : PySem.W.nsIn K mainGlobals "_law_mixed" = some (some (.ref f13)))
    (l_l_mixed : K.lookup f13 = some ⟨oc13, od13, .func (PySem.W.fnOf "_law_mixed" "_law_mixed" (defArgs s_l_mixed) (defBody s_l_mixed) (defScope s_l_mixed) .none kV13 dc13 pm13 an13 cd13 ct13), sl13⟩)
    (c_l_mixed : PySem.W.codeIn K cd13 "_law_mixed" = true)
    (k_l_mixed : PySem.W.keepIn K (.ref f13) = true)
    (a_l_store : PySem.W.nsIn K mainGlobals "_law_store" = some (some (.ref f14)))
    (l_l_store : K.lookup f14 = some ⟨oc14, od14, .func (PySem.W.fnOf "_law_store" "_law_store" (defArgs s_l_store) (defBody s_l_store) (defScope s_l_store) .none kV14 dc14 pm14 an14 cd14 ct14), sl14⟩)
    (c_l_store : PySem.W.codeIn K cd14 "_law_store" = true)
    (k_l_store : PySem.W.keepIn K (.ref f14) = true)
    (a_l_take : PySem.W.nsIn K mainGlobals "_law_take" = some (some (.ref f15)))
    (l_l_take : K.lookup f15 = some ⟨oc15, od15, .func (PySem.W.fnOf "_law_take" "_law_take" (defArgs s_l_take) (defBody s_l_take) (defScope s_l_take) .none kV15 dc15 pm15 an15 cd15 ct15), sl15⟩)
    (c_l_take : PySem.W.codeIn K cd15 "_law_take" = true)
    (k_l_take : PySem.W.keepIn K (.ref f15) = true)
    (a_l_great : PySem.W.nsIn K mainGlobals "_law_great" = some (some (.ref f16)))
    (l_l_great : K.lookup f16 = some ⟨oc16, od16, .func (PySem.W.fnOf "_law_great" "_law_great" (defArgs s_l_great) (defBody s_l_great) (defScope s_l_great) .none kV16 dc16 pm16 an16 cd16 ct16), sl16⟩)
    (c_l_great : PySem.W.codeIn K cd16 "_law_great" = true)
    (k_l_great : PySem.W.keepIn K (.ref f16) = true)
    (a_l_edge : PySem.W.nsIn K mainGlobals "_law_edge" = some (some (.ref f17)))
    (l_l_edge : K.lookup f17 = some ⟨oc17, od17, .func (PySem.W.fnOf "_law_edge" "_law_edge" (defArgs s_l_edge) (defBody s_l_edge) (defScope s_l_edge) .none kV17 dc17 pm17 an17 cd17 ct17), sl17⟩)
    (c_l_edge : PySem.W.codeIn K cd17 "_law_edge" = true)
    (k_l_edge : PySem.W.keepIn K (.ref f17) = true)
    (a_l_number : PySem.W.nsIn K mainGlobals "_law_number" = some (some (.ref f18)))
    (l_l_number : K.lookup f18 = some ⟨oc18, od18, .func (PySem.W.fnOf "_law_number" "_law_number" (defArgs s_l_number) (defBody s_l_number) (defScope s_l_number) .none kV18 dc18 pm18 an18 cd18 ct18), sl18⟩)
    (c_l_number : PySem.W.codeIn K cd18 "_law_number" = true)
    (k_l_number : PySem.W.keepIn K (.ref f18) = true)
    (a_l_pick : PySem.W.nsIn K mainGlobals "_law_pick" = some (some (.ref f19)))
    (l_l_pick : K.lookup f19 = some ⟨oc19, od19, .func (PySem.W.fnOf "_law_pick" "_law_pick" (defArgs s_l_pick) (defBody s_l_pick) (defScope s_l_pick) .none kV19 dc19 pm19 an19 cd19 ct19), sl19⟩)
    (c_l_pick : PySem.W.codeIn K cd19 "_law_pick" = true)
    (k_l_pick : PySem.W.keepIn K (.ref f19) = true)
    (a_l_word : PySem.W.nsIn K mainGlobals "_law_word" = some (some (.ref f20)))
    (l_l_word : K.lookup f20 = some ⟨oc20, od20, .func (PySem.W.fnOf "_law_word" "_law_word" (defArgs s_l_word) (defBody s_l_word) (defScope s_l_word) .none kV20 dc20 pm20 an20 cd20 ct20), sl20⟩)
    (c_l_word : PySem.W.codeIn K cd20 "_law_word" = true)
    (k_l_word : PySem.W.keepIn K (.ref f20) = true)
    (a_l_text : PySem.W.nsIn K mainGlobals "_law_text" = some (some (.ref f21)))
    (l_l_text : K.lookup f21 = some ⟨oc21, od21, .func (PySem.W.fnOf "_law_text" "_law_text" (defArgs s_l_text) (defBody s_l_text) (defScope s_l_text) .none kV21 dc21 pm21 an21 cd21 ct21), sl21⟩)
    (c_l_text : PySem.W.codeIn K cd21 "_law_text" = true)
    (k_l_text : PySem.W.keepIn K (.ref f21) = true)
    (a_l_value : PySem.W.nsIn K mainGlobals "_law_value" = some (some (.ref f22)))
    (l_l_value : K.lookup f22 = some ⟨oc22, od22, .func (PySem.W.fnOf "_law_value" "_law_value" (defArgs s_l_value) (defBody s_l_value) (defScope s_l_value) .none kV22 dc22 pm22 an22 cd22 ct22), sl22⟩)
    (c_l_value : PySem.W.codeIn K cd22 "_law_value" = true)
    (k_l_value : PySem.W.keepIn K (.ref f22) = true)
    (a_l_spoil : PySem.W.nsIn K mainGlobals "_law_spoil" = some (some (.ref f23)))
    (l_l_spoil : K.lookup f23 = some ⟨oc23, od23, .func (PySem.W.fnOf "_law_spoil" "_law_spoil" (defArgs s_l_spoil) (defBody s_l_spoil) (defScope s_l_spoil) .none kV23 dc23 pm23 an23 cd23 ct23), sl23⟩)
    (c_l_spoil : PySem.W.codeIn K cd23 "_law_spoil" = true)
    (k_l_spoil : PySem.W.keepIn K (.ref f23) = true)
    (a_l_is_name : PySem.W.nsIn K mainGlobals "_law_is_name" = some (some (.ref f24)))
    (l_l_is_name : K.lookup f24 = some ⟨oc24, od24, .func (PySem.W.fnOf "_law_is_name" "_law_is_name" (defArgs s_l_is_name) (defBody s_l_is_name) (defScope s_l_is_name) .none kV24 dc24 pm24 an24 cd24 ct24), sl24⟩)
    (c_l_is_name : PySem.W.codeIn K cd24 "_law_is_name" = true)
    (k_l_is_name : PySem.W.keepIn K (.ref f24) = true)
    (a_l_is_within : PySem.W.nsIn K mainGlobals "_law_is_within" = some (some (.ref f25)))
    (l_l_is_within : K.lookup f25 = some ⟨oc25, od25, .func (PySem.W.fnOf "_law_is_within" "_law_is_within" (defArgs s_l_is_within) (defBody s_l_is_within) (defScope s_l_is_within) .none kV25 dc25 pm25 an25 cd25 ct25), sl25⟩)
    (c_l_is_within : PySem.W.codeIn K cd25 "_law_is_within" = true)
    (k_l_is_within : PySem.W.keepIn K (.ref f25) = true)
    (a_l_is_deed : PySem.W.nsIn K mainGlobals "_law_is_deed" = some (some (.ref f26)))
    (l_l_is_deed : K.lookup f26 = some ⟨oc26, od26, .func (PySem.W.fnOf "_law_is_deed" "_law_is_deed" (defArgs s_l_is_deed) (defBody s_l_is_deed) (defScope s_l_is_deed) .none kV26 dc26 pm26 an26 cd26 ct26), sl26⟩)
    (c_l_is_deed : PySem.W.codeIn K cd26 "_law_is_deed" = true)
    (k_l_is_deed : PySem.W.keepIn K (.ref f26) = true)
    (a_l_bent_row : PySem.W.nsIn K mainGlobals "_law_bent_row" = some (some (.ref f27)))
    (l_l_bent_row : K.lookup f27 = some ⟨oc27, od27, .func (PySem.W.fnOf "_law_bent_row" "_law_bent_row" (defArgs s_l_bent_row) (defBody s_l_bent_row) (defScope s_l_bent_row) .none kV27 dc27 pm27 an27 cd27 ct27), sl27⟩)
    (c_l_bent_row : PySem.W.codeIn K cd27 "_law_bent_row" = true)
    (k_l_bent_row : PySem.W.keepIn K (.ref f27) = true)
    (a_l_bent_leaf : PySem.W.nsIn K mainGlobals "_law_bent_leaf" = some (some (.ref f28)))
    (l_l_bent_leaf : K.lookup f28 = some ⟨oc28, od28, .func (PySem.W.fnOf "_law_bent_leaf" "_law_bent_leaf" (defArgs s_l_bent_leaf) (defBody s_l_bent_leaf) (defScope s_l_bent_leaf) .none kV28 dc28 pm28 an28 cd28 ct28), sl28⟩)
    (c_l_bent_leaf : PySem.W.codeIn K cd28 "_law_bent_leaf" = true)
    (k_l_bent_leaf : PySem.W.keepIn K (.ref f28) = true)
    (a_l_bent : PySem.W.nsIn K mainGlobals "_law_bent" = some (some (.ref f29)))
    (l_l_bent : K.lookup f29 = some ⟨oc29, od29, .func (PySem.W.fnOf "_law_bent" "_law_bent" (defArgs s_l_bent) (defBody s_l_bent) (defScope s_l_bent) .none kV29 dc29 pm29 an29 cd29 ct29), sl29⟩)
    (c_l_bent : PySem.W.codeIn K cd29 "_law_bent" = true)
    (k_l_bent : PySem.W.keepIn K (.ref f29) = true)
    (a_l_is_end : PySem.W.nsIn K mainGlobals "_law_is_end" = some (some (.ref f30)))
    (l_l_is_end : K.lookup f30 = some ⟨oc30, od30, .func (PySem.W.fnOf "_law_is_end" "_law_is_end" (defArgs s_l_is_end) (defBody s_l_is_end) (defScope s_l_is_end) .none kV30 dc30 pm30 an30 cd30 ct30), sl30⟩)
    (c_l_is_end : PySem.W.codeIn K cd30 "_law_is_end" = true)
    (k_l_is_end : PySem.W.keepIn K (.ref f30) = true)
    (a_l_due : PySem.W.nsIn K mainGlobals "_law_due" = some (some (.ref f31)))
    (l_l_due : K.lookup f31 = some ⟨oc31, od31, .func (PySem.W.fnOf "_law_due" "_law_due" (defArgs s_l_due) (defBody s_l_due) (defScope s_l_due) .none kV31 dc31 pm31 an31 cd31 ct31), sl31⟩)
    (c_l_due : PySem.W.codeIn K cd31 "_law_due" = true)
    (k_l_due : PySem.W.keepIn K (.ref f31) = true)
    (a_l_agrees : PySem.W.nsIn K mainGlobals "_law_agrees" = some (some (.ref f32)))
    (l_l_agrees : K.lookup f32 = some ⟨oc32, od32, .func (PySem.W.fnOf "_law_agrees" "_law_agrees" (defArgs s_l_agrees) (defBody s_l_agrees) (defScope s_l_agrees) .none kV32 dc32 pm32 an32 cd32 ct32), sl32⟩)
    (c_l_agrees : PySem.W.codeIn K cd32 "_law_agrees" = true)
    (k_l_agrees : PySem.W.keepIn K (.ref f32) = true)
    (a_l_rights : PySem.W.nsIn K mainGlobals "_law_rights" = some (some (.ref f33)))
    (l_l_rights : K.lookup f33 = some ⟨oc33, od33, .func (PySem.W.fnOf "_law_rights" "_law_rights" (defArgs s_l_rights) (defBody s_l_rights) (defScope s_l_rights) .none kV33 dc33 pm33 an33 cd33 ct33), sl33⟩)
    (c_l_rights : PySem.W.codeIn K cd33 "_law_rights" = true)
    (k_l_rights : PySem.W.keepIn K (.ref f33) = true)
    (a_l_edged : PySem.W.nsIn K mainGlobals "_law_edged" = some (some (.ref f34)))
    (l_l_edged : K.lookup f34 = some ⟨oc34, od34, .func (PySem.W.fnOf "_law_edged" "_law_edged" (defArgs s_l_edged) (defBody s_l_edged) (defScope s_l_edged) .none kV34 dc34 pm34 an34 cd34 ct34), sl34⟩)
    (c_l_edged : PySem.W.codeIn K cd34 "_law_edged" = true)
    (k_l_edged : PySem.W.keepIn K (.ref f34) = true)
    (a_l_any : PySem.W.nsIn K mainGlobals "_law_any" = some (some (.ref f35)))
    (l_l_any : K.lookup f35 = some ⟨oc35, od35, .func (PySem.W.fnOf "_law_any" "_law_any" (defArgs s_l_any) (defBody s_l_any) (defScope s_l_any) .none kV35 dc35 pm35 an35 cd35 ct35), sl35⟩)
    (c_l_any : PySem.W.codeIn K cd35 "_law_any" = true)
    (k_l_any : PySem.W.keepIn K (.ref f35) = true)
    (a_law : PySem.W.nsIn K mainGlobals "law" = some (some (.ref f36)))
    (l_law : K.lookup f36 = some ⟨oc36, od36, .func (PySem.W.fnOf "law" "law" (defArgs s_law) (defBody s_law) (defScope s_law) .none kV36 dc36 pm36 an36 cd36 ct36), sl36⟩)
    (c_law : PySem.W.codeIn K cd36 "law" = true)
    (k_law : PySem.W.keepIn K (.ref f36) = true)
    (hn : PySem.W.specialIn K (.builtin "object.__class__") "__get__" = some (some (.builtin "getset_descriptor.__get__")))
    (ht : PySem.W.takesIn K (.builtin "object.__class__") = some true)
    (a_END : PySem.W.nsIn K mainGlobals "END" = some (some (.str ("-" : Str) t_END)))
    (a_LAST_DAY : PySem.W.nsIn K mainGlobals "LAST_DAY" = some (some (.int 6 t_LAST_DAY)))
    (a_LETTERS : PySem.W.nsIn K mainGlobals "LETTERS" = some (some (.str ("abcdefghijklmnopqrstuvwxyz" : Str) t_LETTERS)))
    (a_LETTERS_AND_DIGITS : PySem.W.nsIn K mainGlobals "LETTERS_AND_DIGITS" = some (some (.str ("abcdefghijklmnopqrstuvwxyz0123456789" : Str) t_LETTERS_AND_DIGITS)))
    (a_LONGEST_NAME : PySem.W.nsIn K mainGlobals "LONGEST_NAME" = some (some (.int 8 t_LONGEST_NAME)))
    (a_MOST_DEEDS : PySem.W.nsIn K mainGlobals "MOST_DEEDS" = some (some (.int 60 t_MOST_DEEDS)))
    (a_MOST_TOWNS : PySem.W.nsIn K mainGlobals "MOST_TOWNS" = some (some (.int 8 t_MOST_TOWNS)))
    (a_MOST_TRAVELLERS : PySem.W.nsIn K mainGlobals "MOST_TRAVELLERS" = some (some (.int 6 t_MOST_TRAVELLERS)))
    (z_abs : PySem.W.nsIn K mainGlobals "abs" = some none)
    (z_all : PySem.W.nsIn K mainGlobals "all" = some none)
    (z_bool : PySem.W.nsIn K mainGlobals "bool" = some none)
    (z_dict : PySem.W.nsIn K mainGlobals "dict" = some none)
    (z_int : PySem.W.nsIn K mainGlobals "int" = some none)
    (z_isinstance : PySem.W.nsIn K mainGlobals "isinstance" = some none)
    (z_len : PySem.W.nsIn K mainGlobals "len" = some none)
    (z_list : PySem.W.nsIn K mainGlobals "list" = some none)
    (z_max : PySem.W.nsIn K mainGlobals "max" = some none)
    (z_min : PySem.W.nsIn K mainGlobals "min" = some none)
    (z_range : PySem.W.nsIn K mainGlobals "range" = some none)
    (z_repr : PySem.W.nsIn K mainGlobals "repr" = some none)
    (z_str : PySem.W.nsIn K mainGlobals "str" = some none)
    (z_tuple : PySem.W.nsIn K mainGlobals "tuple" = some none)
    : ∃ fd : FuncData, (∀ (s : Shared) (u : Value), BindsTo s fd ⟨[u], []⟩ [("script", u)]) ∧ ∀ base : Heap, K.In base → base.Ns mainGlobals mg → FnG P w K mg base CX0 30 fa fd ["script"] (sp_lawK K) := by
  have e := hfa.symm.trans (PySem.W.mg_of X G a_law)
  cases e
  let T : Txt K mg (⟨0⟩ : CA) := {
    d_is_name := ⟨f1, _, PySem.W.mg_of X G a_is_name, fun_mk (st := s_is_name) l_is_name c_is_name k_is_name, (Fun.binds (ps := [("value" : Str)]) (fun_mk (st := s_is_name) l_is_name c_is_name k_is_name) fun _ _ _ _ _ _ us hl => match us, hl with | [_], _ => rfl)⟩,
    d_is_place := ⟨f2, _, PySem.W.mg_of X G a_is_place, fun_mk (st := s_is_place) l_is_place c_is_place k_is_place, (Fun.binds (ps := [("value" : Str)]) (fun_mk (st := s_is_place) l_is_place c_is_place k_is_place) fun _ _ _ _ _ _ us hl => match us, hl with | [_], _ => rfl)⟩,
    d_is_whole := ⟨f3, _, PySem.W.mg_of X G a_is_whole, fun_mk (st := s_is_whole) l_is_whole c_is_whole k_is_whole, (Fun.binds (ps := [("value" : Str)]) (fun_mk (st := s_is_whole) l_is_whole c_is_whole k_is_whole) fun _ _ _ _ _ _ us hl => match us, hl with | [_], _ => rfl)⟩,
    d_is_day := ⟨f4, _, PySem.W.mg_of X G a_is_day, fun_mk (st := s_is_day) l_is_day c_is_day k_is_day, (Fun.binds (ps := [("value" : Str)]) (fun_mk (st := s_is_day) l_is_day c_is_day k_is_day) fun _ _ _ _ _ _ us hl => match us, hl with | [_], _ => rfl)⟩,
    d_is_number := ⟨f5, _, PySem.W.mg_of X G a_is_number, fun_mk (st := s_is_number) l_is_number c_is_number k_is_number, (Fun.binds (ps := [("value" : Str)]) (fun_mk (st := s_is_number) l_is_number c_is_number k_is_number) fun _ _ _ _ _ _ us hl => match us, hl with | [_], _ => rfl)⟩,
    d_is_plan := ⟨f6, _, PySem.W.mg_of X G a_is_plan, fun_mk (st := s_is_plan) l_is_plan c_is_plan k_is_plan, (Fun.binds (ps := [("value" : Str)]) (fun_mk (st := s_is_plan) l_is_plan c_is_plan k_is_plan) fun _ _ _ _ _ _ us hl => match us, hl with | [_], _ => rfl)⟩,
    d_is_crossing := ⟨f7, _, PySem.W.mg_of X G a_is_crossing, fun_mk (st := s_is_crossing) l_is_crossing c_is_crossing k_is_crossing, (Fun.binds (ps := [("value" : Str)]) (fun_mk (st := s_is_crossing) l_is_crossing c_is_crossing k_is_crossing) fun _ _ _ _ _ _ us hl => match us, hl with | [_], _ => rfl)⟩,
    d_is_leg := ⟨f8, _, PySem.W.mg_of X G a_is_leg, fun_mk (st := s_is_leg) l_is_leg c_is_leg k_is_leg, (Fun.binds (ps := [("value" : Str)]) (fun_mk (st := s_is_leg) l_is_leg c_is_leg k_is_leg) fun _ _ _ _ _ _ us hl => match us, hl with | [_], _ => rfl)⟩,
    d_is_deed := ⟨f9, _, PySem.W.mg_of X G a_is_deed, fun_mk (st := s_is_deed) l_is_deed c_is_deed k_is_deed, (Fun.binds (ps := [("value" : Str)]) (fun_mk (st := s_is_deed) l_is_deed c_is_deed k_is_deed) fun _ _ _ _ _ _ us hl => match us, hl with | [_], _ => rfl)⟩,
    d_is_history := ⟨f10, _, PySem.W.mg_of X G a_is_history, fun_mk (st := s_is_history) l_is_history c_is_history k_is_history, (Fun.binds (ps := [("value" : Str)]) (fun_mk (st := s_is_history) l_is_history c_is_history k_is_history) fun _ _ _ _ _ _ us hl => match us, hl with | [_], _ => rfl)⟩,
    d_is_sighting := ⟨f11, _, PySem.W.mg_of X G a_is_sighting, fun_mk (st := s_is_sighting) l_is_sighting c_is_sighting k_is_sighting, (Fun.binds (ps := [("value" : Str)]) (fun_mk (st := s_is_sighting) l_is_sighting c_is_sighting k_is_sighting) fun _ _ _ _ _ _ us hl => match us, hl with | [_], _ => rfl)⟩,
    d_is_tuple_of := ⟨f12, _, PySem.W.mg_of X G a_is_tuple_of, fun_mk (st := s_is_tuple_of) l_is_tuple_of c_is_tuple_of k_is_tuple_of, (Fun.binds (ps := [("value" : Str), ("parts" : Str)]) (fun_mk (st := s_is_tuple_of) l_is_tuple_of c_is_tuple_of k_is_tuple_of) fun _ _ _ _ _ _ us hl => match us, hl with | [_, _], _ => rfl)⟩,
    d_l_mixed := ⟨f13, _, PySem.W.mg_of X G a_l_mixed, fun_mk (st := s_l_mixed) l_l_mixed c_l_mixed k_l_mixed, (Fun.binds (ps := [("cell" : Str), ("k" : Str)]) (fun_mk (st := s_l_mixed) l_l_mixed c_l_mixed k_l_mixed) fun _ _ _ _ _ _ us hl => match us, hl with | [_, _], _ => rfl)⟩,
    d_l_store := ⟨f14, _, PySem.W.mg_of X G a_l_store, fun_mk (st := s_l_store) l_l_store c_l_store k_l_store, (Fun.binds (ps := [("script" : Str)]) (fun_mk (st := s_l_store) l_l_store c_l_store k_l_store) fun _ _ _ _ _ _ us hl => match us, hl with | [_], _ => rfl)⟩,
    d_l_take := ⟨f15, _, PySem.W.mg_of X G a_l_take, fun_mk (st := s_l_take) l_l_take c_l_take k_l_take, (Fun.binds (ps := [("store" : Str), ("many" : Str)]) (fun_mk (st := s_l_take) l_l_take c_l_take k_l_take) fun _ _ _ _ _ _ us hl => match us, hl with | [_, _], _ => rfl)⟩,
    d_l_great := ⟨f16, _, PySem.W.mg_of X G a_l_great, fun_mk (st := s_l_great) l_l_great c_l_great k_l_great, (Fun.binds (ps := [("store" : Str), ("many" : Str)]) (fun_mk (st := s_l_great) l_l_great c_l_great k_l_great) fun _ _ _ _ _ _ us hl => match us, hl with | [_, _], _ => rfl)⟩,
    d_l_edge := ⟨f17, _, PySem.W.mg_of X G a_l_edge, fun_mk (st := s_l_edge) l_l_edge c_l_edge k_l_edge, (Fun.binds (ps := [("store" : Str), ("low" : Str), ("high" : Str)]) (fun_mk (st := s_l_edge) l_l_edge c_l_edge k_l_edge) fun _ _ _ _ _ _ us hl => match us, hl with | [_, _, _], _ => rfl)⟩,
    d_l_number := ⟨f18, _, PySem.W.mg_of X G a_l_number, fun_mk (st := s_l_number) l_l_number c_l_number k_l_number, (Fun.binds (ps := [("store" : Str)]) (fun_mk (st := s_l_number) l_l_number c_l_number k_l_number) fun _ _ _ _ _ _ us hl => match us, hl with | [_], _ => rfl)⟩,
    d_l_pick := ⟨f19, _, PySem.W.mg_of X G a_l_pick, fun_mk (st := s_l_pick) l_l_pick c_l_pick k_l_pick, (Fun.binds (ps := [("store" : Str), ("row" : Str)]) (fun_mk (st := s_l_pick) l_l_pick c_l_pick k_l_pick) fun _ _ _ _ _ _ us hl => match us, hl with | [_, _], _ => rfl)⟩,
    d_l_word := ⟨f20, _, PySem.W.mg_of X G a_l_word, fun_mk (st := s_l_word) l_l_word c_l_word k_l_word, (Fun.binds (ps := [("store" : Str), ("size" : Str)]) (fun_mk (st := s_l_word) l_l_word c_l_word k_l_word) fun _ _ _ _ _ _ us hl => match us, hl with | [_, _], _ => rfl)⟩,
    d_l_text := ⟨f21, _, PySem.W.mg_of X G a_l_text, fun_mk (st := s_l_text) l_l_text c_l_text k_l_text, (Fun.binds (ps := [("store" : Str), ("limit" : Str)]) (fun_mk (st := s_l_text) l_l_text c_l_text k_l_text) fun _ _ _ _ _ _ us hl => match us, hl with | [_, _], _ => rfl)⟩,
    d_l_value := ⟨f22, _, PySem.W.mg_of X G a_l_value, fun_mk (st := s_l_value) l_l_value c_l_value k_l_value, (Fun.binds (ps := [("store" : Str), ("depth" : Str)]) (fun_mk (st := s_l_value) l_l_value c_l_value k_l_value) fun _ _ _ _ _ _ us hl => match us, hl with | [_, _], _ => rfl)⟩,
    d_l_spoil := ⟨f23, _, PySem.W.mg_of X G a_l_spoil, fun_mk (st := s_l_spoil) l_l_spoil c_l_spoil k_l_spoil, (Fun.binds (ps := [("value" : Str)]) (fun_mk (st := s_l_spoil) l_l_spoil c_l_spoil k_l_spoil) fun _ _ _ _ _ _ us hl => match us, hl with | [_], _ => rfl)⟩,
    d_l_is_name := ⟨f24, _, PySem.W.mg_of X G a_l_is_name, fun_mk (st := s_l_is_name) l_l_is_name c_l_is_name k_l_is_name, (Fun.binds (ps := [("value" : Str)]) (fun_mk (st := s_l_is_name) l_l_is_name c_l_is_name k_l_is_name) fun _ _ _ _ _ _ us hl => match us, hl with | [_], _ => rfl)⟩,
    d_l_is_within := ⟨f25, _, PySem.W.mg_of X G a_l_is_within, fun_mk (st := s_l_is_within) l_l_is_within c_l_is_within k_l_is_within, (Fun.binds (ps := [("value" : Str), ("low" : Str), ("high" : Str)]) (fun_mk (st := s_l_is_within) l_l_is_within c_l_is_within k_l_is_within) fun _ _ _ _ _ _ us hl => match us, hl with | [_, _, _], _ => rfl)⟩,
    d_l_is_deed := ⟨f26, _, PySem.W.mg_of X G a_l_is_deed, fun_mk (st := s_l_is_deed) l_l_is_deed c_l_is_deed k_l_is_deed, (Fun.binds (ps := [("value" : Str)]) (fun_mk (st := s_l_is_deed) l_l_is_deed c_l_is_deed k_l_is_deed) fun _ _ _ _ _ _ us hl => match us, hl with | [_], _ => rfl)⟩,
    d_l_bent_row := ⟨f27, _, PySem.W.mg_of X G a_l_bent_row, fun_mk (st := s_l_bent_row) l_l_bent_row c_l_bent_row k_l_bent_row, (Fun.binds (ps := [("store" : Str), ("value" : Str)]) (fun_mk (st := s_l_bent_row) l_l_bent_row c_l_bent_row k_l_bent_row) fun _ _ _ _ _ _ us hl => match us, hl with | [_, _], _ => rfl)⟩,
    d_l_bent_leaf := ⟨f28, _, PySem.W.mg_of X G a_l_bent_leaf, fun_mk (st := s_l_bent_leaf) l_l_bent_leaf c_l_bent_leaf k_l_bent_leaf, (Fun.binds (ps := [("store" : Str), ("value" : Str)]) (fun_mk (st := s_l_bent_leaf) l_l_bent_leaf c_l_bent_leaf k_l_bent_leaf) fun _ _ _ _ _ _ us hl => match us, hl with | [_, _], _ => rfl)⟩,
    d_l_bent := ⟨f29, _, PySem.W.mg_of X G a_l_bent, fun_mk (st := s_l_bent) l_l_bent c_l_bent k_l_bent, (Fun.binds (ps := [("store" : Str), ("value" : Str)]) (fun_mk (st := s_l_bent) l_l_bent c_l_bent k_l_bent) fun _ _ _ _ _ _ us hl => match us, hl with | [_, _], _ => rfl)⟩,
    d_l_is_end := ⟨f30, _, PySem.W.mg_of X G a_l_is_end, fun_mk (st := s_l_is_end) l_l_is_end c_l_is_end k_l_is_end, (Fun.binds (ps := [("value" : Str)]) (fun_mk (st := s_l_is_end) l_l_is_end c_l_is_end k_l_is_end) fun _ _ _ _ _ _ us hl => match us, hl with | [_], _ => rfl)⟩,
    d_l_due := ⟨f31, _, PySem.W.mg_of X G a_l_due, fun_mk (st := s_l_due) l_l_due c_l_due k_l_due, (Fun.binds (ps := [("value" : Str)]) (fun_mk (st := s_l_due) l_l_due c_l_due k_l_due) fun _ _ _ _ _ _ us hl => match us, hl with | [_], _ => rfl)⟩,
    d_l_agrees := ⟨f32, _, PySem.W.mg_of X G a_l_agrees, fun_mk (st := s_l_agrees) l_l_agrees c_l_agrees k_l_agrees, (Fun.binds (ps := [("value" : Str)]) (fun_mk (st := s_l_agrees) l_l_agrees c_l_agrees k_l_agrees) fun _ _ _ _ _ _ us hl => match us, hl with | [_], _ => rfl)⟩,
    d_l_rights := ⟨f33, _, PySem.W.mg_of X G a_l_rights, fun_mk (st := s_l_rights) l_l_rights c_l_rights k_l_rights, (Fun.binds (ps := [("store" : Str), ("row" : Str)]) (fun_mk (st := s_l_rights) l_l_rights c_l_rights k_l_rights) fun _ _ _ _ _ _ us hl => match us, hl with | [_, _], _ => rfl)⟩,
    d_l_edged := ⟨f34, _, PySem.W.mg_of X G a_l_edged, fun_mk (st := s_l_edged) l_l_edged c_l_edged k_l_edged, (Fun.binds (ps := [("store" : Str), ("row" : Str)]) (fun_mk (st := s_l_edged) l_l_edged c_l_edged k_l_edged) fun _ _ _ _ _ _ us hl => match us, hl with | [_, _], _ => rfl)⟩,
    d_l_any := ⟨f35, _, PySem.W.mg_of X G a_l_any, fun_mk (st := s_l_any) l_l_any c_l_any k_l_any, (Fun.binds (ps := [("store" : Str)]) (fun_mk (st := s_l_any) l_l_any c_l_any k_l_any) fun _ _ _ _ _ _ us hl => match us, hl with | [_], _ => rfl)⟩,
    d_law := ⟨fa, _, PySem.W.mg_of X G a_law, fun_mk (st := s_law) l_law c_law k_law, (Fun.binds (ps := [("script" : Str)]) (fun_mk (st := s_law) l_law c_law k_law) fun _ _ _ _ _ _ us hl => match us, hl with | [_], _ => rfl)⟩,
    t_END := t_END,
    c_END := PySem.W.mg_of X G a_END,
    t_LAST_DAY := t_LAST_DAY,
    c_LAST_DAY := PySem.W.mg_of X G a_LAST_DAY,
    t_LETTERS := t_LETTERS,
    c_LETTERS := PySem.W.mg_of X G a_LETTERS,
    t_LETTERS_AND_DIGITS := t_LETTERS_AND_DIGITS,
    c_LETTERS_AND_DIGITS := PySem.W.mg_of X G a_LETTERS_AND_DIGITS,
    t_LONGEST_NAME := t_LONGEST_NAME,
    c_LONGEST_NAME := PySem.W.mg_of X G a_LONGEST_NAME,
    t_MOST_DEEDS := t_MOST_DEEDS,
    c_MOST_DEEDS := PySem.W.mg_of X G a_MOST_DEEDS,
    t_MOST_TOWNS := t_MOST_TOWNS,
    c_MOST_TOWNS := PySem.W.mg_of X G a_MOST_TOWNS,
    t_MOST_TRAVELLERS := t_MOST_TRAVELLERS,
    c_MOST_TRAVELLERS := PySem.W.mg_of X G a_MOST_TRAVELLERS,
    b_abs := PySem.W.mg_none_of X G z_abs,
    b_all := PySem.W.mg_none_of X G z_all,
    b_bool := PySem.W.mg_none_of X G z_bool,
    b_dict := PySem.W.mg_none_of X G z_dict,
    b_int := PySem.W.mg_none_of X G z_int,
    b_isinstance := PySem.W.mg_none_of X G z_isinstance,
    b_len := PySem.W.mg_none_of X G z_len,
    b_list := PySem.W.mg_none_of X G z_list,
    b_max := PySem.W.mg_none_of X G z_max,
    b_min := PySem.W.mg_none_of X G z_min,
    b_range := PySem.W.mg_none_of X G z_range,
    b_repr := PySem.W.mg_none_of X G z_repr,
    b_str := PySem.W.mg_none_of X G z_str,
    b_tuple := PySem.W.mg_none_of X G z_tuple }
  exact ⟨_, fun s u => .of_eq rfl, fun base _ _ => (ok_law T).mono (by decide)⟩
end XB

/-! The end. -/
namespace XB
open PySem PySem.Spec PyProof.Rows L2
theorem walk {l : PySem.W.OpenLaw} {q : Program} {loose : List Str} {XP : (Str → Option Value) → Heap → Prop} {YP : World → Heap → Prop} {d : DefRec} {K : Params → PySem.W.Frag} (hn : l.most = some 63) (hdf : d.params.defaults = [])
    (hq : PyProof.Rows.importsNone q = true) (hY : ∀ (w : World) (h : Heap), YP w h → (K w.params).In h) 
    (F : ∀ (w : World) (mg : Str → Option Value) (fa : Addr) (h : Heap), (K w.params).In h → h.Ns mainGlobals mg → mg d.name = some (.ref fa) →
      ∃ fd : FuncData, (∀ (s : Shared) (u : Value), BindsTo s fd ⟨[u], []⟩ [("script", u)]) ∧ ∀ base : Heap, (K w.params).In base → base.Ns mainGlobals mg → FnG l.prog w (K w.params) mg base CX0 30 fa fd ["script"] (sp_lawK (K w.params))) :
    PySem.W.WalkO q loose XP YP l.row.toRowW d [] (fun f vs => PySem.call f vs) :=
  walk_ofG (n := 63) (k := 30) (x := "script") (sp := fun w => sp_lawK (K w.params)) hn (by decide) hdf ⟨rfl, by decide, by decide⟩ hq hY F (fun _ _ a ns hl _ hS => ⟨a, ns, rfl, hS, hl, fun _ => rfl⟩)
end XB
open PySem PySem.W PyProof.Rows in
set_option maxRecDepth 100000 in
set_option maxHeartbeats 0 in
theorem PySem.Challenge.cw_crossfarers_k00_shapes_holds : PySem.Challenge.rw_crossfarers_k00_shapes.Holds := by
  w_on; o_law; k_head; (case hw => w_witness2)
  k_fill
  refine XB.walk (l := PySem.Challenge.rw_crossfarers_k00_shapes) rfl rfl ?hq (fun w h Y => PySem.W.kIn_of Y) ?F
  case hq => first | rfl | kernel_rfl | decide +kernel
  case F =>
    intro w mg fa h KX G hmg
    refine' XB.all_mk KX G hmg ?a_is_name ?l_is_name ?c_is_name ?k_is_name ?a_is_place ?l_is_place ?c_is_place ?k_is_place ?a_is_whole ?l_is_whole ?c_is_whole ?k_is_whole ?a_is_day ?l_is_day ?c_is_day ?k_is_day ?a_is_number ?l_is_number ?c_is_number ?k_is_number ?a_is_plan ?l_is_plan ?c_is_plan ?k_is_plan ?a_is_crossing ?l_is_crossing ?c_is_crossing ?k_is_crossing ?a_is_leg ?l_is_leg ?c_is_leg ?k_is_leg ?a_is_deed ?l_is_deed ?c_is_deed ?k_is_deed ?a_is_history ?l_is_history ?c_is_history ?k_is_history ?a_is_sighting ?l_is_sighting ?c_is_sighting ?k_is_sighting ?a_is_tuple_of ?l_is_tuple_of ?c_is_tuple_of ?k_is_tuple_of ?a_l_mixed ?l_l_mixed ?c_l_mixed ?k_l_mixed ?a_l_store ?l_l_store ?c_l_store ?k_l_store ?a_l_take ?l_l_take ?c_l_take ?k_l_take ?a_l_great ?l_l_great ?c_l_great ?k_l_great ?a_l_edge ?l_l_edge ?c_l_edge ?k_l_edge ?a_l_number ?l_l_number ?c_l_number ?k_l_number ?a_l_pick ?l_l_pick ?c_l_pick ?k_l_pick ?a_l_word ?l_l_word ?c_l_word ?k_l_word ?a_l_text ?l_l_text ?c_l_text ?k_l_text ?a_l_value ?l_l_value ?c_l_value ?k_l_value ?a_l_spoil ?l_l_spoil ?c_l_spoil ?k_l_spoil ?a_l_is_name ?l_l_is_name ?c_l_is_name ?k_l_is_name ?a_l_is_within ?l_l_is_within ?c_l_is_within ?k_l_is_within ?a_l_is_deed ?l_l_is_deed ?c_l_is_deed ?k_l_is_deed ?a_l_bent_row ?l_l_bent_row ?c_l_bent_row ?k_l_bent_row ?a_l_bent_leaf ?l_l_bent_leaf ?c_l_bent_leaf ?k_l_bent_leaf ?a_l_bent ?l_l_bent ?c_l_bent ?k_l_bent ?a_l_is_end ?l_l_is_end ?c_l_is_end ?k_l_is_end ?a_l_due ?l_l_due ?c_l_due ?k_l_due ?a_l_agrees ?l_l_agrees ?c_l_agrees ?k_l_agrees ?a_l_rights ?l_l_rights ?c_l_rights ?k_l_rights ?a_l_edged ?l_l_edged ?c_l_edged ?k_l_edged ?a_l_any ?l_l_any ?c_l_any ?k_l_any ?a_law ?l_law ?c_law ?k_law ?hn ?ht ?a_END ?a_LAST_DAY ?a_LETTERS ?a_LETTERS_AND_DIGITS ?a_LONGEST_NAME ?a_MOST_DEEDS ?a_MOST_TOWNS ?a_MOST_TRAVELLERS ?z_abs ?z_all ?z_bool ?z_dict ?z_int ?z_isinstance ?z_len ?z_list ?z_max ?z_min ?z_range ?z_repr ?z_str ?z_tuple
    (case a_is_name => k_is)
    (case l_is_name => k_is)
    (case c_is_name => k_is)
    (case k_is_name => k_is)
    (case a_is_place => k_is)
    (case l_is_place => k_is)
    (case c_is_place => k_is)
    (case k_is_place => k_is)
    (case a_is_whole => k_is)
    (case l_is_whole => k_is)
    (case c_is_whole => k_is)
    (case k_is_whole => k_is)
    (case a_is_day => k_is)
    (case l_is_day => k_is)
    (case c_is_day => k_is)
    (case k_is_day => k_is)
    (case a_is_number => k_is)
    (case l_is_number => k_is)
    (case c_is_number => k_is)
    (case k_is_number => k_is)
    (case a_is_plan => k_is)
    (case l_is_plan => k_is)
    (case c_is_plan => k_is)
    (case k_is_plan => k_is)
    (case a_is_crossing => k_is)
    (case l_is_crossing => k_is)
    (case c_is_crossing => k_is)
    (case k_is_crossing => k_is)
    (case a_is_leg => k_is)
    (case l_is_leg => k_is)
    (case c_is_leg => k_is)
    (case k_is_leg => k_is)
    (case a_is_deed => k_is)
    (case l_is_deed => k_is)
    (case c_is_deed => k_is)
    (case k_is_deed => k_is)
    (case a_is_history => k_is)
    (case l_is_history => k_is)
    (case c_is_history => k_is)
    (case k_is_history => k_is)
    (case a_is_sighting => k_is)
    (case l_is_sighting => k_is)
    (case c_is_sighting => k_is)
    (case k_is_sighting => k_is)
    (case a_is_tuple_of => k_is)
    (case l_is_tuple_of => k_is)
    (case c_is_tuple_of => k_is)
    (case k_is_tuple_of => k_is)
    (case a_l_mixed => k_is)
    (case l_l_mixed => k_is)
    (case c_l_mixed => k_is)
    (case k_l_mixed => k_is)
    (case a_l_store => k_is)
    (case l_l_store => k_is)
    (case c_l_store => k_is)
    (case k_l_store => k_is)
    (case a_l_take => k_is)
    (case l_l_take => k_is)
    (case c_l_take => k_is)
    (case k_l_take => k_is)
    (case a_l_great => k_is)
    (case l_l_great => k_is)
    (case c_l_great => k_is)
    (case k_l_great => k_is)
    (case a_l_edge => k_is)
    (case l_l_edge => k_is)
    (case c_l_edge => k_is)
    (case k_l_edge => k_is)
    (case a_l_number => k_is)
    (case l_l_number => k_is)
    (case c_l_number => k_is)
    (case k_l_number => k_is)
    (case a_l_pick => k_is)
    (case l_l_pick => k_is)
    (case c_l_pick => k_is)
    (case k_l_pick => k_is)
    (case a_l_word => k_is)
    (case l_l_word => k_is)
    (case c_l_word => k_is)
    (case k_l_word => k_is)
    (case a_l_text => k_is)
    (case l_l_text => k_is)
    (case c_l_text => k_is)
    (case k_l_text => k_is)
    (case a_l_value => k_is)
    (case l_l_value => k_is)
    (case c_l_value => k_is)
    (case k_l_value => k_is)
    (case a_l_spoil => k_is)
    (case l_l_spoil => k_is)
    (case c_l_spoil => k_is)
    (case k_l_spoil => k_is)
    (case a_l_is_name => k_is)
    (case l_l_is_name => k_is)
    (case c_l_is_name => k_is)
    (case k_l_is_name => k_is)
    (case a_l_is_within => k_is)
    (case l_l_is_within => k_is)
    (case c_l_is_within => k_is)
    (case k_l_is_within => k_is)
    (case a_l_is_deed => k_is)
    (case l_l_is_deed => k_is)
    (case c_l_is_deed => k_is)
    (case k_l_is_deed => k_is)
    (case a_l_bent_row => k_is)
    (case l_l_bent_row => k_is)
    (case c_l_bent_row => k_is)
    (case k_l_bent_row => k_is)
    (case a_l_bent_leaf => k_is)
    (case l_l_bent_leaf => k_is)
    (case c_l_bent_leaf => k_is)
    (case k_l_bent_leaf => k_is)
    (case a_l_bent => k_is)
    (case l_l_bent => k_is)
    (case c_l_bent => k_is)
    (case k_l_bent => k_is)
    (case a_l_is_end => k_is)
    (case l_l_is_end => k_is)
    (case c_l_is_end => k_is)
    (case k_l_is_end => k_is)
    (case a_l_due => k_is)
    (case l_l_due => k_is)
    (case c_l_due => k_is)
    (case k_l_due => k_is)
    (case a_l_agrees => k_is)
    (case l_l_agrees => k_is)
    (case c_l_agrees => k_is)
    (case k_l_agrees => k_is)
    (case a_l_rights => k_is)
    (case l_l_rights => k_is)
    (case c_l_rights => k_is)
    (case k_l_rights => k_is)
    (case a_l_edged => k_is)
    (case l_l_edged => k_is)
    (case c_l_edged => k_is)
    (case k_l_edged => k_is)
    (case a_l_any => k_is)
    (case l_l_any => k_is)
    (case c_l_any => k_is)
    (case k_l_any => k_is)
    (case a_law => k_is)
    (case l_law => k_is)
    (case c_law => k_is)
    (case k_law => k_is)
    (case hn => k_is)
    (case ht => k_is)
    (case a_END => k_is)
    (case a_LAST_DAY => k_is)
    (case a_LETTERS => k_is)
    (case a_LETTERS_AND_DIGITS => k_is)
    (case a_LONGEST_NAME => k_is)
    (case a_MOST_DEEDS => k_is)
    (case a_MOST_TOWNS => k_is)
    (case a_MOST_TRAVELLERS => k_is)
    (case z_abs => k_is)
    (case z_all => k_is)
    (case z_bool => k_is)
    (case z_dict => k_is)
    (case z_int => k_is)
    (case z_isinstance => k_is)
    (case z_len => k_is)
    (case z_list => k_is)
    (case z_max => k_is)
    (case z_min => k_is)
    (case z_range => k_is)
    (case z_repr => k_is)
    (case z_str => k_is)
    (case z_tuple => k_is)
