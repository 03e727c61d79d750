import PyProof.Rows.All
import Wide.All
import OpenK.AllK
import Wide.FinOn
import HandS.ForMost
import HandS.ForExc
import HandS.Wide
import HandS.WideBits
import HandS.Style
import HandS.Flow
import HandS.IsInst
import HandS.Zip
import HandS.Walk
import KE.GoesMore
import KE.GoesZip
import PyProof.LongRange
import HandS.WideMore
import HandS.TupMul
import HandS.TupAny
import HandS.StrMore
import HandS.ExcIs
import HandS.ExcValue
import HandS.ExcField
import KE.KExcIs
import KE.KExcStr
import HandS.EndBits
import HandS.More
import HandS.Conv
import HandS.NoneIn
import KE.DataFind
import HandS.WordsDict
import HandS.ClsMeth
import KE.GoesEnum
import PyProof.ListRange
import HandS.SetFor
import HandS.Strs
import HandS.ExcInit
import HandS.ExcSuper
import HandS.FStr
import KE.KSuper
import KE.KExcSuper
import HandS.Star
import HandS.AnyAll
import KE.KUnpack
import PyProof.CollectIter
import HandS.CallLocal
import HandS.Replace
import KE.DataMinMax
import HandS.RaiseFrom
import HandS.SuiteRaise
import HandS.DictSubView
import HandS.DictTup
import HandS.TupSets
import HandS.SortInts
import KE.KDictDisplayH
import Wide.Txt
import HandS.Text
import PyProof.StrLawsTight
import PyProof.StrLawsChain
import PySem.Challenge.RW_figuresums_k20_least_multiples
set_option Elab.async false
set_option linter.all false
set_option maxRecDepth 100000
namespace Z
open PySem PySem.Spec PyProof.Rows L2

/-! ### heaps -/
theorem sameAt {H H' : Hp} {b : Addr} {u : HO} (S : Same H H') (h : H b = some u) : H' b = some u := S b u h
/-- all but d is as it was -/
def Keep (d : Addr) (H H' : Hp) : Prop := ∀ b u, b ≠ d → H b = some u → H' b = some u
theorem keepAt {d : Addr} {H H' : Hp} {b : Addr} {u : HO} (S : Keep d H H') (ne : b ≠ d) (h : H b = some u) : H' b = some u := S b u ne h
theorem Keep.refl (d : Addr) (H : Hp) : Keep d H H := fun _ _ _ h => h
theorem Keep.trans {d : Addr} {H H1 H2 : Hp} (a : Keep d H H1) (b : Keep d H1 H2) : Keep d H H2 := fun c o n h => b c o n (a c o n h)
theorem Keep.of {d : Addr} {H H1 : Hp} (a : Same H H1) : Keep d H H1 := fun c o _ h => a c o h
theorem same_upd {H : Hp} {p : Addr} {o : HO} (h : H p = none) : Same H (upd H p o) := fun b u q => by rw [upd_ne (ne_of_none q h)]; exact q
theorem keep_upd {H : Hp} {p : Addr} {o : HO} : Keep p H (upd H p o) := fun b u n q => by rw [upd_ne n]; exact q
/-- a new object o, then Q of it -/
def New (H : Hp) (o : HO) (Q : VK) : Prop := ∀ p H', H p = none → H' p = some o → Same H H' → Q (.ref p) H'
theorem New.up {H : Hp} {o : HO} {Q : VK} (h : New H o Q) : ∀ p, H p = none → Q (.ref p) (upd H p o) := fun p n => h p _ n upd_same (same_upd n)
/-- the object at p becomes o, then Q -/
def Wr (H : Hp) (p : Addr) (o : HO) (Q : Hp → Prop) : Prop := ∀ H', H' p = some o → Keep p H H' → (∀ b, H' b = none → H b = none) → Q H'
theorem Wr.up {H : Hp} {p : Addr} {o u : HO} {Q : Hp → Prop} (e : H p = some u) (h : Wr H p o Q) : Q (upd H p o) := h _ upd_same keep_upd fun b q => by
  by_cases hb : b = p
  · subst hb; rw [upd_same] at q; cases q
  · rw [upd_ne hb] at q; exact q

section
variable {X : Cx} {e a b c : Expr} {pos : Pos}
theorem peM {t t' : TE} (h : PE X e t) (m : ∀ σ H Q, t' σ H Q → t σ H Q) : PE X e t' := ⟨fun pins s σ H Q I q => h.run pins s σ H Q I (m σ H Q q)⟩
theorem ptM {t t' : TT} (h : PT X e t) (m : ∀ σ H Q, t' σ H Q → t σ H Q) : PT X e t' := ⟨fun pins s σ H Q I q => h.run pins s σ H Q I (m σ H Q q)⟩
theorem opM {f : Value → Value → Sem Value} {r r' : R2} (h : OpR X f r) (m : ∀ x y H Q, r' x y H Q → r x y H Q) : OpR X f r' := fun pins s σ H x y v u Q I rx ry q => h pins s σ H x y v u Q I rx ry (m _ _ _ _ q)
theorem callM {f : Value} {r r' : List V → Hp → VK → Prop} (h : CallR X f r) (m : ∀ xs H Q, r' xs H Q → r xs H Q) : CallR X f r' := fun pins s σ H xs us Q I rx q => h pins s σ H xs us Q I rx (m _ _ _ q)
theorem mtM {id : String} {r r' : V → List V → Hp → VK → Prop} (h : MtR X id r) (m : ∀ x xs H Q, r' x xs H Q → r x xs H Q) : MtR X id r' := fun pins s σ H x xs v us Q I rx rxs q => h pins s σ H x xs v us Q I rx rxs (m _ _ _ _ q)
theorem ixM {r r' : R2} (h : IxR X r) (m : ∀ x y H Q, r' x y H Q → r x y H Q) : IxR X r' := fun a b pins s σ H x y v u Q I rx ry q hs => h a b pins s σ H x y v u Q I rx ry (m _ _ _ _ q) hs
theorem slM {r r' : V → Option Int → Option Int → Hp → VK → Prop} (h : SlR X r) (m : ∀ x lo hi H Q, r' x lo hi H Q → r x lo hi H Q) : SlR X r' := fun pins s σ H x v vl vu lo hi sl Q I rx hs pl pu q => h pins s σ H x v vl vu lo hi sl Q I rx hs pl pu (m _ _ _ _ _ q)
theorem setM {r r' : TSet} (h : PSet X r) (m : ∀ o i v H Q, r' o i v H Q → r o i v H Q) : PSet X r' := fun pins s σ H o i v ov iv u Q I ro ri rv q => h pins s σ H o i v ov iv u Q I ro ri rv (m _ _ _ _ _ q)

/-! ### names -/
def zV (i : Nat) : TE := fun σ H Q => match σ[i]? with | some (some v) => Q v H | _ => False
theorem zv (i : Nat) {x : Str} {pos : Pos} (hN : X.N[i]? = some x := by rfl) (hv : Vis X.env.scope x := by first | exact Or.inl rfl | exact Or.inr (Or.inl rfl) | exact Or.inr (Or.inr rfl)) (hd : (x == ("__debug__" : Str)) = false := by decide)
    (hcd : (x == ("__classdict__" : Str)) = false := by decide) : PE X (.Name x pos) (zV i) :=
  peM (pe_var hN hv hd hcd) fun σ H Q q => by
    unfold zV at q
    split at q
    · exact ⟨_, by assumption, q⟩
    · exact q.elim

/-! ### two ints -/
def zI (C : Int → Int → Prop) (g : Int → Int → V) : R2 := fun x y H Q => match x, y with | .int i, .int j => C i j ∧ Q (g i j) H | _, _ => False
def zI0 (g : Int → Int → V) : R2 := fun x y H Q => match x, y with | .int i, .int j => Q (g i j) H | _, _ => False
theorem zI_of {f : Value → Value → Sem Value} {C : Int → Int → Prop} {g : Int → Int → V} (h : OpR X f (rI C g)) : OpR X f (zI C g) := opM h fun x y H Q q => by
  unfold zI at q
  split at q
  · exact ⟨_, _, rfl, rfl, q⟩
  · exact q.elim
theorem zI0_of {f : Value → Value → Sem Value} {g : Int → Int → V} (h : OpR X f (rI0 g)) : OpR X f (zI0 g) := opM h fun x y H Q q => by
  unfold zI0 at q
  split at q
  · exact ⟨_, _, rfl, rfl, q⟩
  · exact q.elim
theorem zadd : OpR X (binaryOp .Add) (zI0 fun i j => .int (i + j)) := zI0_of op_add
theorem zsub : OpR X (binaryOp .Sub) (zI0 fun i j => .int (i - j)) := zI0_of op_sub
/-- a product: one side small, or both together below a million bits -/
def MulOk (i j : Int) : Prop := (-(2 ^ 64) < i ∧ i < 2 ^ 64) ∨ (-(2 ^ 64) < j ∧ j < 2 ^ 64) ∨ CMulW i j
theorem zmul : OpR X (binaryOp .Mult) (zI MulOk fun i j => .int (i * j)) := zI_of <| by
  intro pins s σ H x y v u Q I rx ry q
  obtain ⟨i, j, rfl, rfl, c, q⟩ := q
  rcases c with c | c | c
  · exact op_mul pins s σ H _ _ v u Q I rx ry ⟨i, j, rfl, rfl, .inl c, q⟩
  · exact op_mul pins s σ H _ _ v u Q I rx ry ⟨i, j, rfl, rfl, .inr c, q⟩
  · exact op_mulW pins s σ H _ _ v u Q I rx ry ⟨i, j, rfl, rfl, c, q⟩
def DivOk (_ j : Int) : Prop := 0 < j ∧ (j < 1073741824 ∨ j.natAbs < 2 ^ 9000)
theorem zfdiv : OpR X (binaryOp .FloorDiv) (zI DivOk fun i j => .int (i / j)) := zI_of <| by
  intro pins s σ H x y v u Q I rx ry q
  obtain ⟨i, j, rfl, rfl, ⟨c0, c⟩, q⟩ := q
  rcases c with c | c
  · exact op_fdiv pins s σ H _ _ v u Q I rx ry ⟨i, j, rfl, rfl, ⟨c0, c⟩, q⟩
  · exact op_fdivW pins s σ H _ _ v u Q I rx ry ⟨i, j, rfl, rfl, wide_div (b := 9000) c0 c (by decide) (Nat.le_refl _), q⟩
theorem zmod : OpR X (binaryOp .Mod) (zI (fun _ j => 0 < j) fun i j => .int (i % j)) := zI_of op_mod
/-- a written power -/
theorem zpow {i j r : Int} {k1 k2 : Nat} {p1 p2 : Pos} (h : i ^ j.toNat = r) (c : 0 ≤ j ∧ j ≤ 1000000 ∧ i.natAbs < 2 ^ 64) : PE X (.BinOp (.Constant (.int i) k1 p1) .Pow (.Constant (.int j) k2 p2) pos) (tC (.int r)) :=
  peM (pe_op op_pow pe_int pe_int) fun σ H Q q => ⟨_, _, rfl, rfl, c, by show Q (V.int (i ^ j.toNat)) H; rw [h]; exact q⟩
/-! ### texts -/
def zS2 (C : Str → Str → Prop) (g : Str → Str → V) : R2 := fun x y H Q => match x, y with | .str i, .str j => C i j ∧ Q (g i j) H | _, _ => False
theorem zaddS : OpR X (binaryOp .Add) (zS2 (fun i j => i.length + j.length ≤ sizeLine) fun i j => .str (i ++ j)) := opM op_add_str fun x y H Q q => by
  unfold zS2 at q
  split at q
  · exact ⟨_, _, rfl, rfl, q⟩
  · exact q.elim
/-! ### comparisons, as tests: two ways -/
/-- both ways, told by a fact -/
structure Two (P : Prop) (A B : Prop) : Prop where
  yes : P → A
  no : ¬ P → B
theorem Two.dec {P : Prop} [Decidable P] {A : Bool → Prop} (h : Two P (A true) (A false)) : A (decide P) := by
  by_cases p : P
  · rw [decide_eq_true p]; exact h.1 p
  · rw [decide_eq_false p]; exact h.2 p
def zCI (P : Int → Int → Prop) : R2 := fun x y H Q => match x, y with | .int i, .int j => Two (P i j) (Q (.bl true) H) (Q (.bl false) H) | _, _ => False
theorem zCI_of {f : Value → Value → Sem Value} {P : Int → Int → Prop} [∀ i j, Decidable (P i j)] (h : OpR X f (rI0 fun i j => .bl (decide (P i j)))) : OpR X f (zCI P) := opM h fun x y H Q q => by
  unfold zCI at q
  split at q
  · exact ⟨_, _, rfl, rfl, Two.dec (A := fun b => Q (.bl b) H) q⟩
  · exact q.elim
theorem zlt : OpR X (compareOp .Lt) (zCI fun i j => i < j) := zCI_of op_lt
theorem zle : OpR X (compareOp .LtE) (zCI fun i j => i ≤ j) := zCI_of op_le
theorem zgt : OpR X (compareOp .Gt) (zCI fun i j => j < i) := zCI_of op_gt
theorem zge : OpR X (compareOp .GtE) (zCI fun i j => j ≤ i) := zCI_of op_ge
/-- == of ints, texts, bools -/
def zEqR : R2 := fun x y H Q => match x, y with
  | .int i, .int j => Two (i = j) (Q (.bl true) H) (Q (.bl false) H)
  | .str i, .str j => Two (i = j) (Q (.bl true) H) (Q (.bl false) H)
  | .bl i, .bl j => Two (i = j) (Q (.bl true) H) (Q (.bl false) H)
  | _, _ => False
theorem Two.imp {P P' A B : Prop} (h : Two P A B) (e : P ↔ P') : Two P' A B := ⟨fun p => h.1 (e.mpr p), fun p => h.2 fun q => p (e.mp q)⟩
theorem zeq : OpR X (compareOp .Eq) zEqR := opM op_eq fun x y H Q q => by
  unfold zEqR at q
  split at q
  · exact ⟨rfl, Two.dec (A := fun b => Q (.bl b) H) (q.imp ⟨congrArg V.int, V.int.inj⟩)⟩
  · exact ⟨rfl, Two.dec (A := fun b => Q (.bl b) H) (q.imp ⟨congrArg V.str, V.str.inj⟩)⟩
  · exact ⟨rfl, Two.dec (A := fun b => Q (.bl b) H) (q.imp ⟨congrArg V.bl, V.bl.inj⟩)⟩
  · exact q.elim
def zNeR : R2 := fun x y H Q => match x, y with
  | .int i, .int j => Two (i = j) (Q (.bl false) H) (Q (.bl true) H)
  | .str i, .str j => Two (i = j) (Q (.bl false) H) (Q (.bl true) H)
  | .bl i, .bl j => Two (i = j) (Q (.bl false) H) (Q (.bl true) H)
  | _, _ => False
theorem zne : OpR X (compareOp .NotEq) zNeR := opM op_ne fun x y H Q q => by
  unfold zNeR at q
  split at q
  · exact ⟨rfl, Two.dec (A := fun b => Q (.bl (!b)) H) (q.imp ⟨congrArg V.int, V.int.inj⟩)⟩
  · exact ⟨rfl, Two.dec (A := fun b => Q (.bl (!b)) H) (q.imp ⟨congrArg V.str, V.str.inj⟩)⟩
  · exact ⟨rfl, Two.dec (A := fun b => Q (.bl (!b)) H) (q.imp ⟨congrArg V.bl, V.bl.inj⟩)⟩
  · exact q.elim
/-- is None -/
def zNonR (neg : Bool) : R2 := fun x y H Q => match y with
  | .non => (match x with | .non => Q (.bl (!neg)) H | _ => Q (.bl neg) H)
  | _ => False
theorem zisN : OpR X (compareOp .Is) (zNonR false) := opM op_isN fun x y H Q q => by
  unfold zNonR at q
  split at q
  · cases x <;> exact ⟨rfl, q⟩
  · exact q.elim
theorem znotN : OpR X (compareOp .IsNot) (zNonR true) := opM op_notN fun x y H Q q => by
  unfold zNonR at q
  split at q
  · cases x <;> exact ⟨rfl, q⟩
  · exact q.elim

/-! ### tests -/
/-- a value that is a bool, as a test; an open bool two ways -/
def zT (t : TE) : TT := fun σ H Q => t σ H fun x H' => match x with | .bl k => Q k H' | _ => False
theorem zpt {t : TE} (h : PE X e t) (he : ∀ whole, isTrue e X.env whole = (do let v ← whole; standAt e.pos; holding [v] (truthy v)) := by intro _; rfl) : PT X e (zT t) := by
  refine ⟨fun pins s σ H Q I hw => ?_⟩
  refine isTrue_plain (thn (h.run pins s σ H _ I hw) fun v s1 ⟨x, H1, I1, r1, q1⟩ => ?_) (he _)
  cases x with
  | bl k => cases r1; exact wpAny_truthy_bool ⟨H1, I1, q1⟩
  | _ => exact (show False from q1).elim
theorem zpc {op : CmpOp} {r : R2} {ta tb : TE} (ho : OpR X (compareOp op) r) (ha : PE X a ta) (hb : PE X b tb) (hm : behindInMarks op b = false := by first | exact nobehind _ (by decide) (by decide) | rfl) : PT X (.Compare a [op] [b] pos) (zT (tOp r ta tb)) := by
  have g : PT X (.Compare a [op] [b] pos) (tB (tOp r ta tb)) := pt_cmpR ho ha hb hm
  refine ⟨fun pins s σ H Q I hw => ?_⟩
  have up : PE X (.Compare a [op] [b] pos) (fun σ H Q => ∃ Q0 : VK, tOp r ta tb σ H Q0 ∧ ∀ x H, Q0 x H → Q x H) := ⟨fun pins s σ H Q I ⟨Q0, h0, m⟩ => thn ((pe_cmpR ho ha hb hm).run pins s σ H Q0 I h0) fun v s1 ⟨x, H1, I1, r1, q1⟩ => ⟨x, H1, I1, r1, m _ _ q1⟩⟩
  have g2 : PT X (.Compare a [op] [b] pos) (tB (fun σ H Q => ∃ Q0 : VK, tOp r ta tb σ H Q0 ∧ ∀ x H, Q0 x H → Q x H)) := by
    refine ⟨fun pins s σ H Q I hw => ?_⟩
    refine wpAny_isTrue_Compare1 (thn (ha.run pins s σ H _ I hw.choose_spec.1) fun v s1 ⟨x, H1, I1, r1, q1⟩ => thn (hb.run pins s1 σ H1 _ I1 q1) fun u s2 ⟨y, H2, I2, r2, q2⟩ => thn (ho pins s2 σ H2 x y v u _ I2 r1 r2 q2) fun d s3 ⟨z, H3, I3, r3, q3⟩ => ?_) hm
    obtain ⟨k, rfl, q⟩ := hw.choose_spec.2 _ _ q3
    cases r3
    exact wpAny_truthy_bool ⟨H3, I3, q⟩
  refine g2.run pins s σ H Q I ⟨_, hw, fun x H1 q => ?_⟩
  cases x with
  | bl k => exact ⟨k, rfl, q⟩
  | _ => exact (show False from q).elim
/-- an open bool, two ways -/
def tTwo (t : TT) : TT := fun σ H Q => t σ H fun b H1 => (b = true → Q true H1) ∧ (b = false → Q false H1)
def mB {α : Sort _} (b : Bool) (x y : α) : α := match b with | true => x | false => y
/-- and, or, not -/
def zAnd (t u : TT) : TT := fun σ H Q => t σ H fun c H1 => match c with | true => u σ H1 Q | false => Q false H1
def zOr (t u : TT) : TT := fun σ H Q => t σ H fun c H1 => match c with | true => Q true H1 | false => u σ H1 Q
theorem PT.up {t : TT} (h : PT X e t) : PT X e (fun σ H Q => ∃ Q0 : Bool → Hp → Prop, t σ H Q0 ∧ ∀ b H, Q0 b H → Q b H) := ⟨fun pins s σ H Q I ⟨Q0, h0, m⟩ => thn (h.run pins s σ H Q0 I h0) fun v s1 ⟨H1, I1, q1⟩ => ⟨H1, I1, m _ _ q1⟩⟩
theorem PE.up {t : TE} (h : PE X e t) : PE X e (fun σ H Q => ∃ Q0 : VK, t σ H Q0 ∧ ∀ b H, Q0 b H → Q b H) := ⟨fun pins s σ H Q I ⟨Q0, h0, m⟩ => thn (h.run pins s σ H Q0 I h0) fun v s1 ⟨x, H1, I1, r1, q1⟩ => ⟨x, H1, I1, r1, m _ _ q1⟩⟩
variable {rest : List Expr} {tA tB : TT} {ta tb tc : TE}
theorem zpw_and1 (ha : PT X a tA) : PW X (.BoolOp .And [a] pos) tA := pw_and1 ha
theorem zpw_or1 (ha : PT X a tA) : PW X (.BoolOp .Or [a] pos) tA := pw_or1 ha
theorem zpw_and (ha : PT X a tA) (hb : PW X (.BoolOp .And (b :: rest) pos) tB) : PW X (.BoolOp .And (a :: b :: rest) pos) (zAnd tA tB) := by
  refine ⟨fun whole pins s σ H Q I q => ?_⟩
  refine (pw_and (PT.up ha) hb).run whole pins s σ H Q I ⟨_, q, fun c H1 q1 => ?_⟩
  cases c with
  | true => rw [if_pos rfl]; exact q1
  | false => rw [if_neg Bool.false_ne_true]; exact q1
theorem zpw_or (ha : PT X a tA) (hb : PW X (.BoolOp .Or (b :: rest) pos) tB) : PW X (.BoolOp .Or (a :: b :: rest) pos) (zOr tA tB) := by
  refine ⟨fun whole pins s σ H Q I q => ?_⟩
  refine (pw_or (PT.up ha) hb).run whole pins s σ H Q I ⟨_, q, fun c H1 q1 => ?_⟩
  cases c with
  | true => rw [if_pos rfl]; exact q1
  | false => rw [if_neg Bool.false_ne_true]; exact q1
/-- and, or, not as values of bools -/
def zAndV (ta tb : TE) : TE := fun σ H Q => ta σ H fun x H1 => match x with | .bl c => (match c with | true => tb σ H1 Q | false => Q (.bl false) H1) | _ => False
def zOrV (ta tb : TE) : TE := fun σ H Q => ta σ H fun x H1 => match x with | .bl c => (match c with | true => Q (.bl true) H1 | false => tb σ H1 Q) | _ => False
def zNotV (ta : TE) : TE := fun σ H Q => ta σ H fun x H1 => match x with | .bl c => Q (.bl (!c)) H1 | _ => False
theorem zpe_and (ha : PE X a ta) (hb : PE X (.BoolOp .And (b :: rest) pos) tb) : PE X (.BoolOp .And (a :: b :: rest) pos) (zAndV ta tb) :=
  peM (pe_and (PE.up ha) hb) fun σ H Q q => ⟨_, q, fun x H1 q1 => by
    cases x with
    | bl c =>
      refine ⟨c, rfl, ?_⟩
      cases c with
      | true => rw [if_pos rfl]; exact q1
      | false => rw [if_neg Bool.false_ne_true]; exact q1
    | _ => exact (show False from q1).elim⟩
theorem zpe_or (ha : PE X a ta) (hb : PE X (.BoolOp .Or (b :: rest) pos) tb) : PE X (.BoolOp .Or (a :: b :: rest) pos) (zOrV ta tb) :=
  peM (pe_or (PE.up ha) hb) fun σ H Q q => ⟨_, q, fun x H1 q1 => by
    cases x with
    | bl c =>
      refine ⟨c, rfl, ?_⟩
      cases c with
      | true => rw [if_pos rfl]; exact q1
      | false => rw [if_neg Bool.false_ne_true]; exact q1
    | _ => exact (show False from q1).elim⟩
theorem zpe_not (ha : PE X a ta) : PE X (.UnaryOp .Not a pos) (zNotV ta) :=
  peM (pe_not (PE.up ha)) fun σ H Q q => ⟨_, q, fun x H1 q1 => by
    cases x with
    | bl c => exact ⟨c, rfl, q1⟩
    | _ => exact (show False from q1).elim⟩
def zIfE (t : TT) (ta tb : TE) : TE := fun σ H Q => t σ H fun c H1 => match c with | true => ta σ H1 Q | false => tb σ H1 Q
theorem zpe_if (hc : PT X c tA) (ha : PE X a ta) (hb : PE X b tb) : PE X (.IfExp c a b pos) (zIfE tA ta tb) :=
  peM (pe_ifExp (PT.up hc) ha hb) fun σ H Q q => ⟨_, q, fun x H1 q1 => by
    cases x with
    | true => rw [if_pos rfl]; exact q1
    | false => rw [if_neg Bool.false_ne_true]; exact q1⟩
/-- x or y by truth, where x is a list or a tuple -/
def zOrL (K : PySem.W.Frag) (ta tb : TE) : TE := fun σ H Q => ta σ H fun x H1 => match x with | .ref p => ∃ xs, (SqL K H1 p xs ∨ SqT K H1 p xs) ∧ Two (xs = []) (tb σ H1 Q) (Q x H1) | _ => False
theorem zpe_orL (ha : PE X a ta) (hb : PE X (.BoolOp .Or (b :: rest) pos) tb) : PE X (.BoolOp .Or (a :: b :: rest) pos) (zOrL X.K ta tb) :=
  peM (pe_orT (PE.up ha) hb) fun σ H Q q => ⟨_, q, fun x H1 q1 => by
    cases x with
    | ref p =>
      obtain ⟨xs, hx, t⟩ := q1
      refine ⟨!xs.isEmpty, hx.elim (fun h => .inl ⟨xs, h, rfl⟩) (fun h => .inr (.inl ⟨xs, h, rfl⟩)), ?_⟩
      cases xs with
      | nil => rw [if_neg (by decide)]; exact t.1 rfl
      | cons y r => rw [if_pos (by rfl)]; exact t.2 (fun z => by cases z)
    | _ => exact (show False from q1).elim⟩
/-! ### statements -/
variable {st : Stmt} {body p q : List Stmt} {t u : TS}
def zIfS (c : TT) (t u : TS) : TS := fun D σ H => c σ H fun b H1 => match b with | true => t D σ H1 | false => u D σ H1
theorem zps_if {a b : List Stmt} (hc : PT X c tA) (ha : PSs X a t) (hb : PSs X b u) : PS X (.If c a b pos) (zIfS tA t u) := by
  refine ⟨fun pins s σ H D I h => ?_⟩
  refine (ps_if (PT.up hc) ha hb).run pins s σ H D I ⟨_, h, fun c H1 q1 => ?_⟩
  cases c with
  | true => rw [if_pos rfl]; exact q1
  | false => rw [if_neg Bool.false_ne_true]; exact q1
/-- while: an invariant with a measure; the test is asked at it -/
def zWhile (c : TT) (tb : TS) : TS := fun D σ H => ∃ Pv : Nat → L2.St → Hp → Prop, (∃ m, Pv m σ H) ∧ ∀ m σ H, Pv m σ H →
  c σ H fun b H1 => match b with | true => tb { D with nx := fun σ' H' => ∃ m', m' < m ∧ Pv m' σ' H', ct := fun σ' H' => ∃ m', m' < m ∧ Pv m' σ' H', bk := D.nx } σ H1 | false => D.nx σ H1
theorem zps_while {tb : TS} (hp : PassesOwn (model X.prog X.w) X.A X.env X.xe) (hc : PT X c tA) (hb : PSs X body tb) : PS X (.While c body [] pos) (zWhile tA tb) := by
  refine ⟨fun pins s σ H D I h => ?_⟩
  obtain ⟨Pv, h0, hs⟩ := h
  refine (ps_while hp (PT.up hc) hb).run pins s σ H D I ⟨Pv, h0, fun m σ H w => ⟨_, hs m σ H w, fun b H1 q => ?_⟩⟩
  cases b with
  | true => rw [if_pos rfl]; exact ⟨_, fun σ' H' z => z, q⟩
  | false => rw [if_neg Bool.false_ne_true]; exact q

/-! ### displays, subscripts -/
variable {es : List Expr} {t : TA}
def zTup (t : TA) : TE := fun σ H Q => t σ H fun xs H1 => xs.length ≤ 1000 ∧ New H1 (.tup xs) Q
def zLst (t : TA) : TE := fun σ H Q => t σ H fun xs H1 => xs.length ≤ 1000 ∧ New H1 (.lst xs) Q
theorem PA.up (h : PA X es t) : PA X es (fun σ H Q => ∃ Q0 : List V → Hp → Prop, t σ H Q0 ∧ ∀ b H, Q0 b H → Q b H) := ⟨fun pos pins s σ H Q I ⟨Q0, h0, m⟩ => thn (h.run pos pins s σ H Q0 I h0) fun v s1 ⟨x, H1, I1, r1, q1⟩ => ⟨x, H1, I1, r1, m _ _ q1⟩⟩
theorem ztup {x1} (h : PA X es t) : PE X (.Tuple es x1 pos) (zTup t) := peM (pe_tup (PA.up h)) fun σ H Q q => ⟨_, q, fun xs H1 q => ⟨Nat.le_of_lt (small1000 q.1), q.2.up⟩⟩
theorem zlst (h : PA X es t) : PE X (.List es pos) (zLst t) := peM (pe_lst (PA.up h)) fun σ H Q q => ⟨_, q, fun xs H1 q => ⟨Nat.le_of_lt (small1000 q.1), q.2.up⟩⟩
/-- xs[i] -/
def zIxL (K : PySem.W.Frag) : R2 := fun x y H Q => match x, y with | .ref p, .int i => ∃ xs v, SqL K H p xs ∧ atI xs i = some v ∧ Q v H | _, _ => False
def zIxT (K : PySem.W.Frag) : R2 := fun x y H Q => match x, y with | .ref p, .int i => ∃ xs v, SqT K H p xs ∧ atI xs i = some v ∧ Q v H | _, _ => False
def zIxS : R2 := fun x y H Q => match x, y with | .str z, .int i => ∃ c, z.length ≤ sizeLine ∧ atI z.cps.toList i = some c ∧ Q (.str ⟨#[c]⟩) H | _, _ => False
theorem zixL : IxR X (zIxL X.K) := ixM ix_list fun x y H Q q => by
  unfold zIxL at q
  split at q
  · obtain ⟨xs, v, h1, h2, q⟩ := q
    exact ⟨_, xs, _, v, rfl, rfl, h1, h2, q⟩
  · exact q.elim
theorem zixT : IxR X (zIxT X.K) := ixM ix_tup fun x y H Q q => by
  unfold zIxT at q
  split at q
  · obtain ⟨xs, v, h1, h2, q⟩ := q
    exact ⟨_, xs, _, v, rfl, rfl, h1, h2, q⟩
  · exact q.elim
theorem zixS : IxR X zIxS := ixM ix_str fun x y H Q q => by
  unfold zIxS at q
  split at q
  · obtain ⟨c, h1, h2, q⟩ := q
    exact ⟨_, _, c, rfl, rfl, h1, h2, q⟩
  · exact q.elim
/-- xs[i] = v -/
def zSetL : V → V → V → Hp → (Hp → Prop) → Prop := fun o i v H Q => match o, i with | .ref p, .int k => ∃ xs j, H p = some (.lst xs) ∧ ixN xs.length k = some j ∧ Wr H p (.lst (xs.set j v)) Q | _, _ => False
theorem zsetL : PSet X zSetL := setM set_list fun o i v H Q q => by
  unfold zSetL at q
  split at q
  · obtain ⟨xs, j, h1, h2, q⟩ := q
    exact ⟨_, xs, _, j, rfl, rfl, h1, h2, q.up h1⟩
  · exact q.elim
/-- slices of lists, texts -/
def zPart (t : TE) : TO := fun σ H Q => t σ H fun x H1 => match x with | .int i => Q (some i) H1 | _ => False
theorem zpo (h : PE X e ta) : PO X (some e) (zPart ta) := ⟨fun pins s σ H Q I q => (po_some (PE.up h)).run pins s σ H Q I ⟨_, q, fun x H1 q => by
    cases x with
    | int i => exact ⟨i, rfl, q⟩
    | _ => exact (show False from q).elim⟩⟩
def zSlL (K : PySem.W.Frag) : V → Option Int → Option Int → Hp → VK → Prop := fun x lo hi H Q => match x with | .ref a => ∃ xs, SqL K H a xs ∧ New H (.lst (cutV xs lo hi)) Q | _ => False
theorem zslL : SlR X (zSlL X.K) := slM sl_list fun x lo hi H Q q => by
  unfold zSlL at q
  split at q
  · obtain ⟨xs, h1, q⟩ := q
    exact ⟨_, xs, rfl, h1, q.up⟩
  · exact q.elim
/-- xs[::-1] -/
def zRevL (K : PySem.W.Frag) (te : TE) : TE := fun σ H Q => te σ H fun x H1 => match x with | .ref a => ∃ xs, SqL K H1 a xs ∧ New H1 (.lst xs.reverse) Q | _ => False
theorem zrevL {k : Nat} {p1 p2 p3 pos : Pos} (he : PE X e ta) : PE X (.Subscript e (.Slice none none (some (.UnaryOp .USub (.Constant (.int 1) k p1) p2)) p3) pos) (zRevL X.K ta) :=
  peM (pe_revL (PE.up he)) fun σ H Q q => ⟨_, q, fun x H1 q => by
    cases x with
    | ref a => obtain ⟨xs, h1, q⟩ := q; exact ⟨_, xs, rfl, h1, q.up⟩
    | _ => exact (show False from q).elim⟩
/-- xs + ys of lists -/
def zCat : R2 := fun x y H Q => match x, y with | .ref l, .ref b => ∃ xs zs, H l = some (.lst xs) ∧ H b = some (.lst zs) ∧ xs.length + zs.length ≤ sizeLine ∧ New H (.lst (xs ++ zs)) Q | _, _ => False
theorem zcat : OpR X (binaryOp .Add) zCat := opM op_cat fun x y H Q q => by
  unfold zCat at q
  split at q
  · obtain ⟨xs, zs, h1, h2, h3, q⟩ := q
    exact ⟨_, _, xs, zs, rfl, rfl, h1, h2, h3, q.up⟩
  · exact q.elim
/-- xs * k -/
def zRep : R2 := fun x y H Q => match x, y with | .ref l, .int k => ∃ xs, H l = some (.lst xs) ∧ 0 ≤ k ∧ k < 2 ^ 63 ∧ xs.length * k.toNat ≤ sizeLine ∧ New H (.lst (List.replicate k.toNat xs).flatten) Q | _, _ => False
theorem zrep : OpR X (binaryOp .Mult) zRep := opM op_rep fun x y H Q q => by
  unfold zRep at q
  split at q
  · obtain ⟨xs, h1, h2, h3, h4, q⟩ := q
    exact ⟨_, _, xs, rfl, rfl, h1, by omega, h3, h4, q.up⟩
  · exact q.elim
/-! ### calls of built-ins -/
def z1I (r : Int → Hp → VK → Prop) : List V → Hp → VK → Prop := fun xs H Q => match xs with | [.int i] => r i H Q | _ => False
def z2I (r : Int → Int → Hp → VK → Prop) : List V → Hp → VK → Prop := fun xs H Q => match xs with | [.int i, .int j] => r i j H Q | _ => False
theorem zabs : CallR X (.builtin "abs") (z1I fun i H Q => ∀ k : Int, (0 ≤ i → k = i) → (i < 0 → k = -i) → Q (.int k) H) := callM call_abs fun xs H Q q => by
  unfold z1I at q
  split at q
  · rename_i i
    refine ⟨i, rfl, q _ (fun h => ?_) (fun h => ?_)⟩
    · rw [if_neg (by omega)]
    · rw [if_pos h]
  · exact q.elim
theorem zmax2 (hc : X.calm = true) : CallR X (.builtin "max") (z2I fun i j H Q => Q (.int (max i j)) H) := callM (call_max2 hc) fun xs H Q q => by
  unfold z2I at q
  split at q
  · rename_i i j
    refine ⟨i, j, rfl, ?_⟩
    have e : (if j > i then j else i) = max i j := by split <;> omega
    rw [e]; exact q
  · exact q.elim
theorem zmin2 (hc : X.calm = true) : CallR X (.builtin "min") (z2I fun i j H Q => Q (.int (min i j)) H) := callM (call_min2 hc) fun xs H Q q => by
  unfold z2I at q
  split at q
  · rename_i i j
    refine ⟨i, j, rfl, ?_⟩
    have e : (if j < i then j else i) = min i j := by split <;> omega
    rw [e]; exact q
  · exact q.elim
theorem zint : CallR X (.type "int") (fun xs H Q => match xs with | [.int i] => Q (.int i) H | [.bl k] => Q (.int (match k with | true => 1 | false => 0)) H | _ => False) := callM call_int1 fun xs H Q q => by
  split at q
  · exact .inl ⟨_, rfl, q⟩
  · rename_i k
    refine .inr ⟨k, rfl, ?_⟩
    cases k <;> exact q
  · exact q.elim
theorem zlen : CallR X (.builtin "len") (fun xs H Q => match xs with
    | [.ref p] => ∃ ys, (SqL X.K H p ys ∨ SqT X.K H p ys) ∧ Q (.int ys.length) H
    | [.str z] => z.length ≤ sizeLine ∧ Q (.int z.length) H
    | _ => False) := callM call_len fun xs H Q q => by
  split at q
  · obtain ⟨ys, h, q⟩ := q
    exact ⟨_, ys.length, rfl, h.elim (fun h => .inl ⟨ys, h, rfl⟩) (fun h => .inr ⟨ys, h, rfl⟩), q⟩
  · exact ⟨_, _, rfl, ⟨q.1, rfl⟩, q.2⟩
  · exact q.elim
theorem zsum (hc : X.calm = true) : CallR X (.builtin "sum") (fun vs H Q => match vs with | [.ref a] => ∃ ns : List Int, SqL X.K H a (ns.map V.int) ∧ Q (.int ns.sum) H | _ => False) := callM (cr_sum hc) fun xs H Q q => by
  split at q
  · obtain ⟨ns, h, q⟩ := q
    exact ⟨_, ns, rfl, h, q⟩
  · exact q.elim
theorem ztuple : CallR X (.type "tuple") (fun vs H Q => match vs with | [.ref a] => ∃ ys, SqL X.K H a ys ∧ New H (.tup ys) Q | _ => False) := callM call_tuple_of fun xs H Q q => by
  split at q
  · obtain ⟨ys, h, q⟩ := q
    exact ⟨_, ys, rfl, .inl ⟨h, q.up⟩⟩
  · exact q.elim
theorem zlist : CallR X (.type "list") (fun vs H Q => match vs with | [.ref a] => ∃ ys, (SqL X.K H a ys ∨ SqT X.K H a ys) ∧ New H (.lst ys) Q | _ => False) := callM call_list_of fun xs H Q q => by
  split at q
  · obtain ⟨ys, h, q⟩ := q
    exact ⟨_, ys, rfl, h, q.up⟩
  · exact q.elim
theorem zdivmod : CallR X (.builtin "divmod") (z2I fun i j H Q => (0 < j ∧ j < 1073741824) ∧ New H (.tup [.int (i / j), .int (i % j)]) Q) := callM call_divmod fun xs H Q q => by
  unfold z2I at q
  split at q
  · exact ⟨_, _, rfl, q.1, q.2.up⟩
  · exact q.elim
/-- isinstance(x, T), T a built-in class -/
def tyOfV (H : Hp) : V → Option String
  | .non => some "NoneType" | .bl _ => some "bool" | .int _ => some "int" | .str _ => some "str"
  | .ref p => (match H p with | some (.lst _) => some "list" | some (.tup _) => some "tuple" | _ => none)
  | _ => none
theorem tyX_of {K : PySem.W.Frag} {H : Hp} {x : V} {n : String} (h : tyOfV H x = some n) : TyX K H x (.type n) := by
  cases x with
  | non => cases h; exact .base .non
  | bl b => cases h; exact .base (.bl b)
  | int i => cases h; exact .base (.int i)
  | str z => cases h; exact .base (.str z)
  | ref p =>
    have h' : (match H p with | some (.lst _) => some "list" | some (.tup _) => some "tuple" | _ => none) = some n := h
    split at h'
    · cases h'; exact .base (.lst (by assumption))
    · cases h'; exact .base (.tup (by assumption))
    · cases h'
  | _ => cases h
theorem zisi : CallR X (.builtin "isinstance") (fun vs H Q => match vs with | [x, .ty T] => ∃ n b, tyOfV H x = some n ∧ kitB n T = some b ∧ Q (.bl b) H | _ => False) := callM call_isi fun xs H Q q => by
  split at q
  · obtain ⟨n, b, h1, h2, q⟩ := q
    exact ⟨_, _, _, _, b, rfl, .ty _, tyX_of h1, kit_ty h2, q⟩
  · exact q.elim
/-- xs.append(y) -/
theorem zappend : MtR X "list.append" (fun x vs H Q => match x, vs with | .ref l, [y] => ∃ xs, H l = some (.lst xs) ∧ xs.length < sizeLine ∧ Wr H l (.lst (xs ++ [y])) (Q .non) | _, _ => False) := mtM mt_append fun x vs H Q q => by
  split at q
  · obtain ⟨xs, h1, h2, q⟩ := q
    exact ⟨_, xs, _, rfl, rfl, h1, h2, q.up h1⟩
  · exact q.elim
end
end Z

set_option Elab.async false
set_option linter.all false
set_option maxRecDepth 100000
/-! pairs that an iterator makes, one behind the other: a turn out of a walk over tuples -/
namespace Z
open PySem PySem.Spec PyProof.Rows L2
/-- an iterator of pairs: G what is known ahead of a turn of its two items, Y what is told of them, Z where it ends -/
def ItP (G Y : Nat → Hp → V → V → Prop) (Z : Nat → Hp → Prop) : It where
  go := fun i H => ∃ x y, G i H x y
  yld := fun i H v H' => ∃ T x y, v = .ref T ∧ H T = none ∧ H' = upd H T (.tup [x, y]) ∧ Y i H x y
  stop := Z
/-- a walk over pairs at the state of a turn -/
structure PairWalk (X : Cx) (it : Addr) (cells : List Addr) (tn : Nat → Heap → Prop) (s : Shared) (i : Nat) (ends : Bool) (rel : Value → Value → Prop) : Prop where
  some : ∃ (fp wr : List Addr) (n : Nat) (Pt : Nat → Array Value → Prop) (St : Nat → Heap → Prop) (Mid : Nat → Addr → Heap → Prop),
    WalksT X.prog X.w X.A it fp wr n Pt St Mid ∧ (∀ b ∈ wr, b ∈ cells) ∧ St i s.heap ∧ (if ends then n = i else i < n) ∧ (∀ vals, Pt i vals → ∃ u v, vals = #[u, v] ∧ rel u v) ∧ ∀ h, St (i + 1) h → tn (i + 1) h
theorem turn_pairs {P : Program} {w : World} {K : PySem.W.Frag} {elts : List Expr} {kk : Nat} {tpos : Pos} {G Y : Nat → Hp → V → V → Prop} {Z : Nat → Hp → Prop} {it : Addr} {cells : List Addr} {tn : Nat → Heap → Prop}
    (inC : it ∈ cells) (alive : ∀ i h, tn i h → ∀ b ∈ cells, ∃ o, h.get? b = some o ∧ ∀ v, o.data ≠ .cell v)
    (stays : ∀ i h h', tn i h → (∀ b ∈ cells, ∀ o, h.get? b = some o → h'.get? b = some o) → tn i h')
    (again : ∀ (A : Around) (i : Nat) (s : Shared) (Q : Value → Shared → Prop) (E : Value → Shared → Prop), tn i s.heap → Q (.ref it) s → wpAny (model P w) A (pyIter (.ref it)) Q E s)
    (walk : ∀ (X : Cx), X.prog = P → X.w = w → X.K = K → X.calm = true → ∀ (i : Nat) (pins : List (Addr × Obj)) (s : Shared) (σ : L2.St) (H : Hp), Inv X pins σ H s → tn i s.heap → ∀ x y, G i H x y → Y i H x y ∧ PairWalk X it cells tn s i false fun u v => RelV x u ∧ RelV y v)
    (halt : ∀ (X : Cx), X.prog = P → X.w = w → X.K = K → X.calm = true → ∀ (i : Nat) (pins : List (Addr × Obj)) (s : Shared) (σ : L2.St) (H : Hp), Inv X pins σ H s → tn i s.heap → Z i H → PairWalk X it cells tn s i true fun _ _ => True) :
    Turn P w K (.Tuple elts kk tpos) (ItP G Y Z) cells it tn where
  mem := inC
  obj := alive
  keep := stays
  self := again
  done := fun X e1 e2 e3 calm i pins s σ H E I free st z => by
    obtain ⟨fp, wr, n, Pt, St, Mid, W, sub, here, eq, _⟩ := (halt X e1 e2 e3 calm i pins s σ H I st z).some
    have eq' : n = i := eq
    cases e1; cases e2; cases eq'
    exact W.done s _ E here fun h2 tk old => ⟨rfl, Inv.turnedL I (fun b o nb g => old b o (fun m => nb (sub b m)) g) free⟩
  item := fun X e1 e2 e3 calm i pins s σ H E I free st ⟨x, y, g⟩ => by
    obtain ⟨told, pw⟩ := walk X e1 e2 e3 calm i pins s σ H I st x y g
    obtain ⟨fp, wr, n, Pt, St, Mid, W, sub, here, lt, vals2, next⟩ := pw.some
    have lt' : i < n := lt
    cases e1; cases e2
    refine W.item i s _ E lt' here fun T vals h1 t1 pt big isT mid old1 => ⟨_, rfl, ?_⟩
    obtain ⟨u, v, rfl, ru, rv⟩ := vals2 vals pt
    refine W.go elts kk tpos i T ⟨h1, s.gens, s.drawn, t1, s.os⟩ _ E mid fun h2 st2 old2 => ?_
    have isT2 : h2.IsTuple T #[u, v] := isT.at fun o q => old2 T o (W.apart i T h1 mid) q
    have pair : ObjOk X.prog X.w (upd H T (.tup [x, y])) h2 T (.tup [x, y]) := ⟨(by decide : 2 ≤ sizeLine), [u, v], .cons ru (.cons rv .nil), isT2⟩
    have far : ∀ b ∈ cells, b ≠ T := fun b m => by
      obtain ⟨o, q, _⟩ := alive i _ st b m
      exact Nat.ne_of_lt (Nat.lt_of_lt_of_le (Heap.lt_size q) big)
    have held : ∀ b o, b ∉ cells → s.heap.get? b = some o → h2.get? b = some o := fun b o nb q => old2 b o (fun m => nb (sub b m)) (old1 b o (fun m => nb (sub b m)) q)
    have after : Inv X pins σ (upd H T (.tup [x, y])) { s with heap := h2, toks := t1 } := Inv.turnedNew I held free big pair
    exact ⟨.ref T, _, after, rfl, ⟨T, x, y, rfl, I.hok.fresh big, rfl, told⟩, next h2 st2, fun b m => by rw [upd_ne (far b m)]; exact (free b m).1⟩
/-! ### enumerate, out of whatever its items are drawn from -/
section
variable {P : Program} {w : World} {K : PySem.W.Frag} {elts : List Expr} {kk : Nat} {tpos : Pos} {e it : Addr}
/-- the enumerate at e of the iterator at it, whose own state is Src -/
def Numbered (e it : Addr) (Src : Nat → Heap → Prop) (i : Nat) (h : Heap) : Prop := (∃ old, IsEnum h e it ((i : Nat) : Int) old) ∧ Src i h
theorem turn_numbered {G Y : Nat → Hp → V → V → Prop} {Z : Nat → Hp → Prop} {Src : Nat → Heap → Prop} (apart : e ≠ it) (cell : ∀ i h, Src i h → ∃ o vs, h.get? it = some o ∧ o.data = .fields vs)
    (still : ∀ i h h', Src i h → (∀ o, h.get? it = some o → h'.get? it = some o) → Src i h')
    (draws : ∀ (X : Cx), X.prog = P → X.w = w → X.K = K → X.calm = true → ∀ (i : Nat) (pins : List (Addr × Obj)) (s : Shared) (σ : L2.St) (H : Hp), Inv X pins σ H s → (∃ old, IsEnum s.heap e it ((i : Nat) : Int) old) → Src i s.heap →
      (∀ x y, G i H x y → Y i H x y ∧ ∃ (fp : List Addr) (n : Nat) (D : Nat → Value → Prop) (St : Nat → Heap → Prop), Draws X.prog X.w X.A.in1 it fp n D St ∧ e ∉ fp ∧ it ∈ fp ∧ St i s.heap ∧ i < n ∧ (∀ v, D i v → RelV y v) ∧ x = .int (i : Nat) ∧ ∀ h, St (i + 1) h → Src (i + 1) h) ∧
      (Z i H → ∃ (fp : List Addr) (D : Nat → Value → Prop) (St : Nat → Heap → Prop), Draws X.prog X.w X.A.in1 it fp i D St ∧ e ∉ fp ∧ it ∈ fp ∧ St i s.heap ∧ ∀ h, St (i + 1) h → Src (i + 1) h)) :
    Turn P w K (.Tuple elts kk tpos) (ItP G Y Z) [e, it] e (Numbered e it Src) := by
  refine turn_pairs (.head _) ?_ ?_ ?_ ?_ ?_
  · rintro i h ⟨⟨old, at1⟩, st⟩ c m
    obtain ⟨o, vs, g, dv⟩ := cell i h st
    simp at m
    rcases m with rfl | rfl
    · exact ⟨_, at1, nofun⟩
    · exact ⟨o, g, fun v => by simp [dv]⟩
  · rintro i h h2 ⟨⟨old, at1⟩, st⟩ same
    exact ⟨⟨old, same _ (by simp) _ at1⟩, still i h h2 st (same _ (by simp))⟩
  · rintro A i s Q E ⟨⟨_, at1⟩, _⟩ q
    exact wpAny_pyIter_enum at1 q
  · rintro X e1 e2 e3 calm i pins s σ H I ⟨at1, st⟩ x y g
    obtain ⟨told, fp, n, D, St, dr, out, inn, here, lt, rel, rfl, next⟩ := (draws X e1 e2 e3 calm i pins s σ H I at1 st).1 x y g
    refine ⟨told, ⟨_, _, _, _, _, _, WalksT.enumerateD dr e apart out inn, fun _ m => m, ⟨at1, here⟩, lt, ?_, fun h st2 => ⟨st2.1, next h st2.2⟩⟩⟩
    rintro vals ⟨t, v, dv, rfl⟩
    exact ⟨_, v, rfl, ⟨t, rfl⟩, rel v dv⟩
  · rintro X e1 e2 e3 calm i pins s σ H I ⟨at1, st⟩ z
    obtain ⟨fp, D, St, dr, out, inn, here, next⟩ := (draws X e1 e2 e3 calm i pins s σ H I at1 st).2 z
    refine ⟨_, _, _, _, _, _, WalksT.enumerateD dr e apart out inn, fun _ m => m, ⟨at1, here⟩, rfl, ?_, fun h st2 => ⟨st2.1, next h st2.2⟩⟩
    rintro vals ⟨t, v, _, rfl⟩
    exact ⟨_, v, rfl, trivial⟩
/-- the two cells of a new enumerate are ours -/
theorem numbered_new {X : Cx} {pins : List (Addr × Obj)} {σ : L2.St} {H : Hp} {s : Shared} (I : Inv X pins σ H s) : ∀ c ∈ [s.heap.objs.size + 1, s.heap.objs.size], FpOk X pins H c := fun c m => by
  have big : s.heap.objs.size ≤ c := by
    simp at m
    rcases m with rfl | rfl <;> first | exact Nat.le_refl _ | exact Nat.le_add_right _ _
  exact Inv.fpOk I big (HOk.fresh I.hok big)
end
end Z

set_option Elab.async false
set_option linter.all false
set_option maxRecDepth 100000
namespace Z
open PySem PySem.Spec PyProof.Rows L2

/-! ### enumerate(text) -/
def IteS (z : Str) : It :=
  ItP (fun i _ x y => ∃ c, z.cps[i]? = some c ∧ x = .int (i : Nat) ∧ y = .str ⟨#[c]⟩) (fun i _ x y => ∃ c, z.cps[i]? = some c ∧ x = .int (i : Nat) ∧ y = .str ⟨#[c]⟩) (fun i _ => i = z.cps.size)
theorem draws_str {P : Program} {w : World} {A : Around} (hh : A.handled = none) (it : Addr) (x : Str) (t : Tok) : Draws P w A it [it] x.cps.size (SignAt x) (fun i h => h.IsStrIter it (strIterType x) x t i) := by
  cases ha : x.cps.all (· < 128)
  · have e : strIterType x = "str_iterator" := by simp [strIterType, ha]
    rw [e]; exact Draws.strWide hh it x t
  · have e : strIterType x = "str_ascii_iterator" := by simp [strIterType, ha]
    rw [e]; exact Draws.strAscii hh it x t
theorem turn_enumS {P : Program} {w : World} {K : PySem.W.Frag} {elts : List Expr} {kk : Nat} {tpos : Pos} (x : Str) (t : Tok) {e it : Addr} (ne : e ≠ it) :
    Turn P w K (.Tuple elts kk tpos) (IteS x) [e, it] e (Numbered e it fun i h => h.IsStrIter it (strIterType x) x t i) := by
  refine turn_numbered ne (fun i h ⟨o, g, _, dv⟩ => ⟨o, _, g, dv⟩) (fun i h h2 ⟨o, g, r⟩ same => ⟨o, same o g, r⟩) ?_
  intro X _ _ _ calm i pins s σ H I _ st
  have dr := draws_str (P := X.prog) (w := X.w) (A := X.A.in1) (I.ok.hd calm) it x t
  have out : e ∉ [it] := fun m => ne (List.mem_singleton.mp m)
  refine ⟨?_, ?_⟩
  · rintro a b ⟨c, g, rfl, rfl⟩
    have lt := (Array.getElem?_eq_some_iff.mp g).1
    refine ⟨⟨c, g, rfl, rfl⟩, _, _, _, _, dr, out, .head _, st, lt, ?_, rfl, fun _ z => z⟩
    rintro v ⟨c2, u, g2, rfl⟩
    cases g.symm.trans g2
    exact ⟨u, rfl⟩
  · rintro rfl
    exact ⟨_, _, _, dr, out, .head _, st, fun _ z => z⟩
def iEnumS (ta : TA) : TI := fun σ H R => ta σ H fun vs H1 => match vs with | [.str z] => R (IteS z) H1 | _ => False
theorem zpi_enumS {X : Cx} {e : Expr} {ta : TA} {p pos tpos : Pos} {elts : List Expr} {kk : Nat} (hg : Gl X "enumerate") (hm : X.mg "enumerate" = none) (ha : PA X [e] ta) (hs : starEach [e] X.env = [(false, eval e X.env)] := by rfl) :
    PI X (.Tuple elts kk tpos) (.Call (.Name "enumerate" p) [e] [] pos) (iEnumS ta) := by
  refine ⟨fun pins s σ H R I h => ?_⟩
  refine Call_ (ld_blt I hg hm boot_enumerate (PyProof.Rows.callWith_type1 (thn (ha.run pos pins s σ H _ I h) fun us s1 ⟨vs, H1, I1, r1, q1⟩ => ?_) hs rfl))
  dsimp only at q1
  split at q1
  · rename_i z
    cases r1 with
    | cons r rr =>
      cases rr
      obtain ⟨t, rfl⟩ := r
      refine call_enumerate_str fun h' he hit hsz hk => wpAny_pyIter_enum he ?_
      exact ⟨_, _, _, _, H1, rfl, Inv.kept (t' := s1.toks) I1 hk, turn_enumS z t (Nat.succ_ne_self _), ⟨⟨.none, he⟩, hit⟩, numbered_new I1, q1⟩
  · exact q1.elim
theorem walk_enumS {z : Str} : Walk (IteS z) z.cps.size (fun _ => True) (fun i H v H' => ∃ T c, v = .ref T ∧ H T = none ∧ H' = upd H T (.tup [.int (i : Nat), .str ⟨#[c]⟩]) ∧ z.cps[i]? = some c) := by
  refine ⟨fun i _ lt _ => ⟨_, _, z.cps[i], by simp [lt], rfl, rfl⟩, fun _ _ => rfl, ?_⟩
  rintro i H v H' _ _ ⟨T, x, y, e, f, g, c, gc, rfl, rfl⟩
  exact ⟨T, c, e, f, g, gc⟩

/-! ### defs of the text -/
structure Cal (P : Program) (w : World) (K : PySem.W.Frag) (mg : Str → Option Value) (base : Heap) (k : Nat) (x : Str) (ps : List Str) (sp : Sp) : Prop where
  ex : ∃ (f : Addr) (fd : FuncData), FnOk P w K mg base CX0 k f fd ps sp ∧ Binds K fd ps [] ∧ PySem.W.keepIn K (.ref f) = true ∧ mg x = some (.ref f)
structure DefAt (K : PySem.W.Frag) (mg : Str → Option Value) (x : Str) (st : Stmt) (ps : List Str) : Prop where
  ex : ∃ (f : Addr) (fd : FuncData), Fun K x x st f fd ∧ Binds K fd ps [] ∧ mg x = some (.ref f)
section
variable {P : Program} {w : World} {K : PySem.W.Frag} {mg : Str → Option Value} {base : Heap}
theorem Cal.mono {j k : Nat} {x : Str} {ps : List Str} {sp : Sp} (c : Cal P w K mg base j x ps sp) (h : j ≤ k) : Cal P w K mg base k x ps sp := by
  obtain ⟨f, fd, F, r⟩ := c
  exact ⟨f, fd, F.mono h, r⟩
theorem mkCal {x : Str} {st : Stmt} {N ps : List Str} {k : Nat} {sp : Sp} (D : DefAt K mg x st ps) (S : FnScope N ps (defScope st)) (len : ∀ vs H Q E, sp vs H Q E → vs.length = ps.length)
    (hbody : ∀ (f : Addr) (cdv : Value) (A : Around) (outer : List Env) (s : Shared) (H : Hp) (vs : List V) (Q : VK) (E : XK), Room k (A.deeper (envOfC x (defScope st) s.heap.objs.size f cdv)) → sp vs H Q E →
      ∃ t, PSs (cxOf CX0 P w K mg base N x (defScope st) f cdv A outer s H E).nox (defBody st) t ∧ t { nx := fun _ H' => Q .non H', rt := Q } (start N vs) H) : Cal P w K mg base (k + 1) x ps sp := by
  obtain ⟨f, fd, F, b, m⟩ := D
  exact ⟨f, fd, F.ok S len (hbody f), b, F.kp, m⟩
variable {X : Cx}
theorem zcall {k : Nat} {x : Str} {ps : List Str} {sp : Sp} {e : Expr} {es : List Expr} {t : TA} {pos p : Pos} (C : Cal X.prog X.w X.K X.mg X.base k x ps sp) (hr : Room k X.A) (hg : Gl X x) (ha : PA X (e :: es) t)
    (hdb : (x == ("__debug__" : Str)) = false := by decide) (he : starEach (e :: es) X.env = (false, eval e X.env) :: starEach es X.env := by rfl) (hp : (backTo pos (starEach es X.env)).any (·.1) = false := by rfl) :
    PE X (.Call (.Name x p) (e :: es) [] pos) (tCall sp [] E0 t) := by
  obtain ⟨f, fd, F, b, hk, m⟩ := C
  exact pe_call F hr hg m hk b .nil pass0 ha hdb he hp
theorem zcall0 {k : Nat} {x : Str} {ps : List Str} {sp : Sp} {pos p : Pos} (C : Cal X.prog X.w X.K X.mg X.base k x ps sp) (hr : Room k X.A) (hg : Gl X x) (hdb : (x == ("__debug__" : Str)) = false := by decide) :
    PE X (.Call (.Name x p) [] [] pos) (tCall sp [] E0 tNil) := by
  obtain ⟨f, fd, F, b, hk, m⟩ := C
  exact pe_call0 F hr hg m hk b .nil pass0 hdb
end
/-! ### isinstance(e, T) -/
section
variable {X : Cx} {e : Expr} {te : TE} {p p2 pos : Pos}
def zIsK (ki kb ks kn kl kt : Bool) (te : TE) : TE := fun σ H Q => te σ H fun x H1 => match x with
  | .int _ => Q (.bl ki) H1 | .bl _ => Q (.bl kb) H1 | .str _ => Q (.bl ks) H1 | .non => Q (.bl kn) H1
  | .ref p => ∃ xs, (H1 p = some (.lst xs) ∧ Q (.bl kl) H1) ∨ (H1 p = some (.tup xs) ∧ Q (.bl kt) H1)
  | _ => False
def KisT (T : String) (ki kb ks kn kl kt : Bool) : Prop := kitB "int" T = some ki ∧ kitB "bool" T = some kb ∧ kitB "str" T = some ks ∧ kitB "NoneType" T = some kn ∧ kitB "list" T = some kl ∧ kitB "tuple" T = some kt
theorem k_int : KisT "int" true true false false false false := ⟨by decide +kernel, by decide +kernel, by decide +kernel, by decide +kernel, by decide +kernel, by decide +kernel⟩
theorem k_bool : KisT "bool" false true false false false false := ⟨by decide +kernel, by decide +kernel, by decide +kernel, by decide +kernel, by decide +kernel, by decide +kernel⟩
theorem k_str : KisT "str" false false true false false false := ⟨by decide +kernel, by decide +kernel, by decide +kernel, by decide +kernel, by decide +kernel, by decide +kernel⟩
theorem k_list : KisT "list" false false false false true false := ⟨by decide +kernel, by decide +kernel, by decide +kernel, by decide +kernel, by decide +kernel, by decide +kernel⟩
theorem k_tuple : KisT "tuple" false false false false false true := ⟨by decide +kernel, by decide +kernel, by decide +kernel, by decide +kernel, by decide +kernel, by decide +kernel⟩
theorem zpis {T : String} {x : Str} {ki kb ks kn kl kt : Bool} (k : KisT T ki kb ks kn kl kt) (hg : Gl X "isinstance") (hm : X.mg "isinstance" = none) (hg2 : Gl X x) (hm2 : X.mg x = none) (hv : bootBuiltins x = some (.type T)) (he : PE X e te)
    (hn : x ≠ "__name__" := by decide) (hdb : (x == ("__debug__" : Str)) = false := by decide)
    (h1 : starEach [e, .Name x p2] X.env = (false, eval e X.env) :: starEach [.Name x p2] X.env := by rfl) (h2 : starEach [.Name x p2] X.env = (false, eval (.Name x p2) X.env) :: starEach [] X.env := by rfl)
    (h3 : (backTo pos (starEach [.Name x p2] X.env)).any (·.1) = false := by rfl) :
    PE X (.Call (.Name "isinstance" p) [e, .Name x p2] [] pos) (zIsK ki kb ks kn kl kt te) := by
  obtain ⟨k1, k2, k3, k4, k5, k6⟩ := k
  refine peM (pe_callB call_isi hg hm (by decide +kernel) (pa_cons (PE.up he) (pa_cons (pe_bltn hg2 hm2 hv (v := .ty T) rfl hn hdb) pa_nil h2) h1) (by decide) (by decide) h1 h3) fun σ H Q q => ?_
  refine ⟨_, q, fun x H1 q1 => ?_⟩
  cases x with
  | int i => exact ⟨_, _, _, _, _, rfl, .ty _, .base (.int i), kit_ty k1, q1⟩
  | bl i => exact ⟨_, _, _, _, _, rfl, .ty _, .base (.bl i), kit_ty k2, q1⟩
  | str i => exact ⟨_, _, _, _, _, rfl, .ty _, .base (.str i), kit_ty k3, q1⟩
  | non => exact ⟨_, _, _, _, _, rfl, .ty _, .base .non, kit_ty k4, q1⟩
  | ref a =>
    obtain ⟨xs, ⟨h, q⟩ | ⟨h, q⟩⟩ := q1
    · exact ⟨_, _, _, _, _, rfl, .ty _, .base (.lst h), kit_ty k5, q⟩
    · exact ⟨_, _, _, _, _, rfl, .ty _, .base (.tup h), kit_ty k6, q⟩
  | _ => exact (show False from q1).elim
end
/-! ### text methods -/
section
variable {X : Cx}
theorem zfind : MtR X "str.find" (fun x xs H Q => match x, xs with | .str a, [.str b] => Q (.int (Txt.find a b)) H | _, _ => False) := mtM mt_find fun x xs H Q q => by
  split at q
  · exact ⟨_, _, rfl, rfl, q⟩
  · exact q.elim
theorem hu64 {A : Around} {k : Nat} (hr : Room k A) : A.units + 64 < cLine := by have := hr.un; omega
end
end Z

namespace Z
open PySem PySem.Spec PyProof.Rows L2
section
variable {X : Cx} {st : Stmt} {rest : List Stmt} {t u : TS}
/-- two statements, what holds between them told -/
def zCut (t u : TS) : TS := fun D σ H => ∃ Mid : L2.St → Hp → Prop, t { D with nx := Mid } σ H ∧ ∀ σ' H', Mid σ' H' → u D σ' H'
theorem pss_zcut (h1 : PS X st t) (h2 : PSs X rest u) : PSs X (st :: rest) (zCut t u) := by
  refine ⟨fun pins s σ H D I h => ?_⟩
  obtain ⟨Mid, h, m⟩ := h
  refine wpAny_execs_cons (thn (h1.run pins s σ H { D with nx := Mid } I h) fun f s1 q => ?_)
  cases f with
  | next =>
    obtain ⟨σ', H', I', q⟩ := q
    exact h2.run pins s1 σ' H' D I' (m _ _ q)
  | ret v => exact q
  | brk => exact q
  | cont => exact q
end
theorem Keep.seq {K : PySem.W.Frag} {d a : Addr} {H H' : Hp} {xs : List V} (S : Keep d H H') (ne : a ≠ d) (h : SqL K H a xs) : SqL K H' a xs := by
  rcases h with (h | ⟨o, h⟩) | h
  · exact .inl (.inl (S _ _ ne h))
  · exact .inl (.inr ⟨o, S _ _ ne h⟩)
  · exact .inr h
end Z

set_option Elab.async false
set_option linter.all false
set_option maxRecDepth 100000
namespace Z
open PySem PySem.Spec PyProof.Rows L2
def repS (z : Str) (n : Nat) : Str := ⟨(List.replicate n z.cps).foldl (· ++ ·) #[]⟩
theorem repS_one (z : Str) : repS z 1 = z := by
  cases z with
  | mk c => show (⟨#[] ++ c⟩ : Str) = ⟨c⟩; simp
theorem repS_nil {z : Str} (h : z.length = 0) : ∀ n, repS z n = z := by
  have e : z.cps = #[] := Array.eq_empty_of_size_eq_zero h
  have g : ∀ n, (List.replicate n z.cps).foldl (· ++ ·) #[] = (#[] : Array Nat) := by
    intro n
    induction n with
    | zero => rfl
    | succ n ih => rw [List.replicate_succ, List.foldl_cons, e] at *; simpa using ih
  intro n
  unfold repS
  rw [g n]
  cases z with
  | mk c => have e' : c = #[] := e
            rw [e']
theorem foldl_len : ∀ (l : List (Array Nat)) (acc : Array Nat), (l.foldl (· ++ ·) acc).size = acc.size + (l.map Array.size).sum
  | [], acc => by simp
  | a :: r, acc => by rw [List.foldl_cons, foldl_len r, Array.size_append, List.map_cons, List.sum_cons]; omega
theorem repS_len (z : Str) (n : Nat) : (repS z n).length = n * z.length := by
  unfold repS
  show ((List.replicate n z.cps).foldl (· ++ ·) #[]).size = _
  rw [foldl_len, List.map_replicate]
  have : (List.replicate n z.cps.size).sum = n * z.cps.size := by
    induction n with
    | zero => simp
    | succ n ih => rw [List.replicate_succ, List.sum_cons, ih, Nat.succ_mul]; omega
  rw [this]; show 0 + _ = _; rw [Nat.zero_add]; rfl
section
variable {X : Cx}
theorem zmulS : OpR X (binaryOp .Mult) (fun x y H Q => match x, y with | .str z, .int k => (0 ≤ k ∧ k ≤ 1000 ∧ z.length ≤ 10000) ∧ Q (.str (repS z k.toNat)) H | _, _ => False) := by
  intro pins s σ H x y v u Q I rx ry h
  split at h
  · rename_i z k
    obtain ⟨⟨h0, h1, h2⟩, q⟩ := h
    obtain ⟨t, rfl⟩ := rx
    obtain ⟨t', rfl⟩ := ry
    have e63 : sizeLine = 16777216 := sizeLine_eq
    have hm : z.length * k.toNat ≤ 10000 * 1000 := Nat.mul_le_mul h2 (by omega)
    refine PySem.P.mul_str ?_ (fun a b => ?_) (fun a b => ?_) ?_
    · rw [decide_eq_false (by omega), decide_eq_false (by omega)]; rfl
    · have hk : (2 ^ 63 - 1 : Int) / k ≥ (2 ^ 63 - 1 : Int) / 1000 := by
        refine Int.le_ediv_of_mul_le (by omega) ?_
        have : (2 ^ 63 - 1 : Int) / 1000 * 1000 ≤ 2 ^ 63 - 1 := by decide
        have h3 : (2 ^ 63 - 1 : Int) / 1000 * k ≤ (2 ^ 63 - 1 : Int) / 1000 * 1000 := Int.mul_le_mul_of_nonneg_left h1 (by decide)
        omega
      have : (2 ^ 63 - 1 : Int) / 1000 ≥ 10000 := by decide
      omega
    · unfold Builtin.Str.tooLong
      simp only [decide_eq_false_iff_not]
      omega
    · by_cases c : k < 1
      · rw [if_pos c]
        have e : k = 0 := by omega
        subst e
        exact ⟨by decide, .str (repS z 0), H, I.tok _, ⟨_, rfl⟩, q⟩
      · rw [if_neg c]
        by_cases c1 : (k == 1 || z.length == 0) = true
        · rw [if_pos c1]
          have e : repS z k.toNat = z := by
            rcases (Bool.or_eq_true _ _).mp c1 with e | e
            · have e' : k = 1 := by simpa using e
              subst e'; exact repS_one z
            · exact repS_nil (by simpa using e) _
          rw [e] at q
          exact ⟨.str z, H, I, ⟨_, rfl⟩, q⟩
        · rw [if_neg c1]
          refine ⟨?_, .str (repS z k.toNat), H, I.tok _, ⟨_, rfl⟩, q⟩
          have := repS_len z k.toNat
          show (repS z k.toNat).length ≤ sizeLine
          rw [this, Nat.mul_comm]; omega
  · exact h.elim
end
end Z

set_option Elab.async false
set_option linter.all false
set_option maxRecDepth 100000
namespace Z
open PySem PySem.Spec PyProof.Rows L2

/-! ### sum(tuple of ints) -/
theorem preSum_getD (ns : List Int) : ∀ k, preSum (fun i => ns.getD i 0) k = (ns.take k).sum
  | 0 => by simp [preSum]
  | k + 1 => by
    rw [preSum, preSum_getD ns k, List.take_add_one]
    cases h : ns[k]? with
    | none => simp [List.getD, h]
    | some v => simp [List.getD, h, List.sum_append]
section
variable {X : Cx}
theorem zsumT (hc : X.calm = true) : CallR X (.builtin "sum") (fun vs H Q => match vs with | [.ref a] => ∃ ns : List Int, SqT X.K H a (ns.map V.int) ∧ Q (.int ns.sum) H | _ => False) := by
  intro pins s σ H vs us Q I r h
  split at h
  · rename_i a
    obtain ⟨ns, hs, q⟩ := h
    obtain ⟨its, rv, ht, hz⟩ := I.tuple hs
    have hl : its.length = ns.length := by rw [← rv.length, List.length_map]
    have eu : us = [.ref a] := by
      cases r with
      | cons r rr => cases rr; cases r; rfl
    subst eu
    have hT : s.heap.IsTuple a its.toArray := ht
    refine call_sum_walkG (wpAny_pyIter_tuple hT ?_)
    have ne : a ≠ s.heap.objs.size := by
      obtain ⟨o, ho, _⟩ := ht
      exact Nat.ne_of_lt (Heap.lt_size ho)
    have hT2 : (s.heap.push { cls := .type "tuple_iterator", data := .fields #[.ref a, .int 0 0] }).IsTuple a its.toArray := by
      obtain ⟨o, ho, hr⟩ := hT
      exact ⟨o, Heap.get?_push_of_some _ ho, hr⟩
    refine ⟨_, _, _, _, _, _, fun i => ns.getD i 0, rfl, Walks.tuple (A := X.A.in1) (I.ok.hd hc) s.heap.objs.size a ne its.toArray, ⟨⟨_, Heap.get?_push_size _ rfl, rfl, rfl⟩, hT2⟩, fun b hb => ?_, fun i v hv => ?_, fun h' tk t' hk => ?_⟩
    · rw [Heap.size_push]
      rcases List.mem_cons.mp hb with e | e
      · rw [e]; exact Nat.lt_succ_self _
      · rw [List.mem_singleton.mp e]
        obtain ⟨o, ho, _⟩ := ht
        exact Nat.lt_succ_of_lt (Heap.lt_size ho)
    · have hi : i < (ns.map V.int).length := by
        rw [rv.length]
        have := (Array.getElem?_eq_some_iff.mp hv).1
        simpa using this
      obtain ⟨u, hu, ru⟩ := rv.get (List.getElem?_eq_getElem hi)
      rw [List.getElem_map] at ru
      obtain ⟨t, e⟩ := ru
      have hv' : its[i]? = some v := by simpa using hv
      rw [hu] at hv'
      cases hv'
      rw [List.length_map] at hi
      exact ⟨t, by rw [e]; simp [List.getD, List.getElem?_eq_getElem hi]⟩
    · have e : preSum (fun i => ns.getD i 0) its.toArray.size = ns.sum := by
        rw [preSum_getD, List.size_toArray, hl, List.take_length]
      rw [e]
      refine ⟨.int ns.sum, H, I.kept fun b o e => ?_, ⟨_, rfl⟩, q⟩
      refine hk b o (fun hb => ?_) (Heap.get?_push_of_some _ e)
      rw [List.mem_singleton.mp hb] at e
      exact absurd (Heap.lt_size e) (Nat.lt_irrefl _)
  · exact h.elim

/-! ### == of two lists, two tuples of ints -/
theorem eqvAll_ints : ∀ ns ms : List Int, PyData.eqvAll (ns.map PyData.int) (ms.map PyData.int) = decide (ns = ms)
  | [], [] => by decide
  | [], _ :: _ => rfl
  | _ :: _, [] => rfl
  | n :: ns, m :: ms => by
    show (PyData.eqv (.int n) (.int m) && PyData.eqvAll (ns.map PyData.int) (ms.map PyData.int)) = _
    rw [eqvAll_ints ns ms]
    show ((n == m) && decide (ns = ms)) = decide (n :: ns = m :: ms)
    by_cases h : n = m
    · subst h; simp
    · simp [h]
theorem canLay_ints : ∀ ns : List Int, PyData.canLayAll0 (ns.map PyData.int) = true
  | [] => rfl
  | n :: ns => by
    show (PyData.canLay0 (.int n) && PyData.canLayAll0 (ns.map PyData.int)) = true
    rw [canLay_ints ns]; rfl
theorem depth_ints : ∀ ns : List Int, PyData.depthAll (ns.map PyData.int) = 0
  | [] => rfl
  | n :: ns => by
    show max (PyData.depth (.int n)) (PyData.depthAll (ns.map PyData.int)) = 0
    rw [depth_ints ns]; rfl
theorem shaped_lst (ns : List Int) : SeqAt.shaped (.list (ns.map PyData.int)) = true := by
  unfold SeqAt.shaped
  have e1 : PyData.canLay0 (.list (ns.map PyData.int)) = true := canLay_ints ns
  have e2 : PyData.depth (.list (ns.map PyData.int)) = 1 := by show PyData.depthAll _ + 1 = 1; rw [depth_ints]
  rw [e1, e2]; rfl
theorem shaped_tup (ns : List Int) : SeqAt.shaped (.tuple (ns.map PyData.int)) = true := by
  unfold SeqAt.shaped
  have e1 : PyData.canLay0 (.tuple (ns.map PyData.int)) = true := canLay_ints ns
  have e2 : PyData.depth (.tuple (ns.map PyData.int)) = 1 := by show PyData.depthAll _ + 1 = 1; rw [depth_ints]
  rw [e1, e2]; rfl
theorem dpAll_ints {K : PySem.W.Frag} {H : Hp} : ∀ ns : List Int, DpAll K H (ns.map V.int) (ns.map PyData.int)
  | [] => .nil
  | n :: ns => .cons (.int n) (dpAll_ints ns)
def zEqIs (K : PySem.W.Frag) (a b : Bool) : R2 := fun x y H Q => match x, y with
  | .ref p, .ref r => ∃ ns ms : List Int, ((SqL K H p (ns.map V.int) ∧ SqL K H r (ms.map V.int)) ∨ (SqT K H p (ns.map V.int) ∧ SqT K H r (ms.map V.int))) ∧ Two (ns = ms) (Q (.bl a) H) (Q (.bl b) H)
  | _, _ => False
theorem zeqIs (hu : X.A.units + 64 < cLine) : OpR X (compareOp .Eq) (zEqIs X.K true false) := opM (op_eqD hu) fun x y H Q q => by
  unfold zEqIs at q
  split at q
  · obtain ⟨ns, ms, h, t⟩ := q
    rcases h with ⟨h1, h2⟩ | ⟨h1, h2⟩
    · refine ⟨_, _, .lst h1 (dpAll_ints ns), .lst h2 (dpAll_ints ms), shaped_lst ns, shaped_lst ms, ?_⟩
      show Q (.bl (PyData.eqvAll _ _)) H
      rw [eqvAll_ints]
      exact Two.dec (A := fun b => Q (.bl b) H) t
    · refine ⟨_, _, .tup h1 (dpAll_ints ns), .tup h2 (dpAll_ints ms), shaped_tup ns, shaped_tup ms, ?_⟩
      show Q (.bl (PyData.eqvAll _ _)) H
      rw [eqvAll_ints]
      exact Two.dec (A := fun b => Q (.bl b) H) t
  · exact q.elim
theorem zneIs (hu : X.A.units + 64 < cLine) : OpR X (compareOp .NotEq) (zEqIs X.K false true) := opM (op_neD hu) fun x y H Q q => by
  unfold zEqIs at q
  split at q
  · obtain ⟨ns, ms, h, t⟩ := q
    rcases h with ⟨h1, h2⟩ | ⟨h1, h2⟩
    · refine ⟨_, _, .lst h1 (dpAll_ints ns), .lst h2 (dpAll_ints ms), shaped_lst ns, shaped_lst ms, ?_⟩
      show Q (.bl (!PyData.eqvAll _ _)) H
      rw [eqvAll_ints]
      exact Two.dec (A := fun b => Q (.bl (!b)) H) t
    · refine ⟨_, _, .tup h1 (dpAll_ints ns), .tup h2 (dpAll_ints ms), shaped_tup ns, shaped_tup ms, ?_⟩
      show Q (.bl (!PyData.eqvAll _ _)) H
      rw [eqvAll_ints]
      exact Two.dec (A := fun b => Q (.bl (!b)) H) t
  · exact q.elim
end

/-! ### enumerate(tuple) -/
def IteT (K : PySem.W.Frag) (a : Addr) : It :=
  ItP (fun i H x y => ∃ xs : List V, SqT K H a xs ∧ xs[i]? = some y ∧ x = .int (i : Nat)) (fun i H x y => x = .int (i : Nat) ∧ ∀ xs : List V, SqT K H a xs → xs[i]? = some y) (fun i H => ∃ xs : List V, SqT K H a xs ∧ xs.length = i)
theorem turn_enumT {P : Program} {w : World} {K : PySem.W.Frag} {elts : List Expr} {kk : Nat} {tpos : Pos} (a : Addr) {e it : Addr} (ne : e ≠ it) (na : a ≠ it) :
    Turn P w K (.Tuple elts kk tpos) (IteT K a) [e, it] e (Numbered e it fun i h => h.IsTupleIter it a i) := by
  refine turn_numbered ne (fun i h ⟨o, g, _, dv⟩ => ⟨o, _, g, dv⟩) (fun i h h2 ⟨o, g, r⟩ same => ⟨o, same o g, r⟩) ?_
  rintro X rfl rfl rfl calm i pins s σ H I ⟨old, at1⟩ st
  have out : ∀ {vs : Array Value}, s.heap.IsTuple a vs → e ∉ [it, a] := by
    rintro vs ⟨o, g, tp, _⟩ m
    simp [ne] at m
    subst m
    cases at1.symm.trans g
    exact absurd (show Value.type "enumerate" = Value.type "tuple" from tp) (by decide)
  have dr := fun (us : List Value) => Draws.tuple (prog := X.prog) (w := X.w) (A := X.A.in1) (I.ok.hd calm) it a na us.toArray
  refine ⟨?_, ?_⟩
  · rintro x y ⟨xs, sq, ey, rfl⟩
    obtain ⟨us, vus, ht, _⟩ := I.tuple sq
    obtain ⟨u, gu, ru⟩ := vus.get ey
    have lt := (List.getElem?_eq_some_iff.mp gu).1
    refine ⟨⟨rfl, fun ys sq2 => I.tuple_inj sq2 sq ▸ ey⟩, _, _, _, _, dr us, out ht, .head _, ⟨st, ht⟩, ?_, ?_, rfl, fun _ q => q.1⟩
    · simpa using lt
    · intro v gv
      have : v = u := by simpa [gu] using gv.symm
      exact this ▸ ru
  · rintro ⟨xs, sq, rfl⟩
    obtain ⟨us, vus, ht, _⟩ := I.tuple sq
    have el : us.toArray.size = xs.length := by rw [List.size_toArray, vus.length]
    refine ⟨_, _, _, el ▸ dr us, out ht, .head _, ⟨st, ht⟩, fun _ q => q.1⟩
set_option maxHeartbeats 1000000 in
theorem meets_enumerate_newT (a : Addr) (items : Array Value) :
    Meets (Builtin.«enumerate.__new__» ⟨[.type "enumerate", .ref a], []⟩) (fun _ R s => s.heap.IsTuple a items ∧
      R (.ok (.ret (.ref (s.heap.push { cls := .type "tuple_iterator", data := .fields #[.ref a, .int 0 0] }).objs.size)))
        { s with heap := (s.heap.push { cls := .type "tuple_iterator", data := .fields #[.ref a, .int 0 0] }).push { cls := .type "enumerate", data := .fields #[.none, .bool false, .ref s.heap.objs.size, rawInt 0, .none, .none] } }) :=
  .of_wp fun prog w A R s hh => by
    obtain ⟨hp, g, d, tk, os⟩ := s
    obtain ⟨ht, h⟩ := hh
    obtain ⟨o, ho, hc, n, hd⟩ := id ht
    have hsub := sub_enumerate
    have hT : Heap.IsTuple (Shared.heap ⟨hp, g, d, tk, os⟩) a items := ht
    wp_walk using wpAny_loadPart' ho
    refine wpAny_stack_any fun st => wpAny_pure ?_
    split
    · rename_i c _ _ _ _ _
      cases (c == Value.type "enumerate")
      · wp_walk using wpAny_loadPart' ho, wpAny_pyIter_tuple hT
        exact ⟨_, rfl, h⟩
      · wp_walk using wpAny_loadPart' ho, wpAny_pyIter_tuple hT
        exact ⟨_, rfl, h⟩
    · wp_walk using wpAny_loadPart' ho, wpAny_pyIter_tuple hT
      exact ⟨_, rfl, h⟩
theorem call_enumT {prog : Program} {w : World} {A : Around} {E : Value → Shared → Prop} {s : Shared} {a : Addr} {items : Array Value} {Q : Value → Shared → Prop} (hT : s.heap.IsTuple a items)
    (h : ∀ h', IsEnum h' (s.heap.objs.size + 1) s.heap.objs.size 0 .none → h'.IsTupleIter s.heap.objs.size a 0 → (∀ b o, s.heap.get? b = some o → h'.get? b = some o) → Q (.ref (s.heap.objs.size + 1)) { s with heap := h' }) :
    wpAny (model prog w) A (call (.type "enumerate") [.ref a]) Q E s := by
  refine callType_new F.called_enumerate (by decide) (F.typeCall_enumerate_1 _) (F.newCall_enumerate_1 _) (fun obj => F.args_object_init_2 obj _) F.entry_enumerate_new (meets_enumerate_newT a items) ⟨hT, ?_⟩
  have hz : (s.heap.push { cls := .type "tuple_iterator", data := .fields #[.ref a, .int 0 0] }).objs.size = s.heap.objs.size + 1 := Heap.size_push ..
  have he : IsEnum ((s.heap.push { cls := .type "tuple_iterator", data := .fields #[.ref a, .int 0 0] }).push { cls := .type "enumerate", data := .fields #[.none, .bool false, .ref s.heap.objs.size, rawInt 0, .none, .none] }) (s.heap.objs.size + 1) s.heap.objs.size 0 .none := by
    rw [← hz]; exact Heap.get?_push_size _ rfl
  show _ ∧ _
  rw [hz]
  exact ⟨⟨_, he, rfl⟩, h _ he ⟨_, Heap.get?_push_of_some _ (Heap.get?_push_size _ rfl), rfl, rfl⟩ fun b o x => Heap.get?_push_of_some _ (Heap.get?_push_of_some _ x)⟩
def iEnumT (K : PySem.W.Frag) (ta : TA) : TI := fun σ H R => ta σ H fun vs H1 => match vs with | [.ref a] => ∃ xs, SqT K H1 a xs ∧ R (IteT K a) H1 | _ => False
theorem zpi_enumT {X : Cx} {e : Expr} {ta : TA} {p pos tpos : Pos} {elts : List Expr} {kk : Nat} (hg : Gl X "enumerate") (hm : X.mg "enumerate" = none) (ha : PA X [e] ta) (hs : starEach [e] X.env = [(false, eval e X.env)] := by rfl) :
    PI X (.Tuple elts kk tpos) (.Call (.Name "enumerate" p) [e] [] pos) (iEnumT X.K ta) := by
  refine ⟨fun pins s σ H R I h => ?_⟩
  refine Call_ (ld_blt I hg hm boot_enumerate (PyProof.Rows.callWith_type1 (thn (ha.run pos pins s σ H _ I h) fun us s1 ⟨vs, H1, I1, r1, q1⟩ => ?_) hs rfl))
  dsimp only at q1
  split at q1
  · rename_i a
    obtain ⟨xs, hq, q1⟩ := q1
    cases r1 with
    | cons r rr =>
      cases rr
      cases r
      obtain ⟨its, rv, ht, hz⟩ := I1.tuple hq
      have hT : s1.heap.IsTuple a its.toArray := ht
      have far : a ≠ s1.heap.objs.size := by
        obtain ⟨_, g, _⟩ := ht
        exact Nat.ne_of_lt (Heap.lt_size g)
      refine call_enumT hT fun h' he hit hk => wpAny_pyIter_enum he ?_
      exact ⟨_, _, _, _, H1, rfl, Inv.kept (t' := s1.toks) I1 hk, turn_enumT a (Nat.succ_ne_self _) far, ⟨⟨.none, he⟩, hit⟩, numbered_new I1, q1⟩
  · exact q1.elim
theorem walk_enumT {K : PySem.W.Frag} {a : Addr} {xs : List V} : Walk (IteT K a) xs.length (fun H => SqT K H a xs) (YPair (fun i => some (.int (i : Nat))) (fun i => xs[i]?)) := by
  refine ⟨fun i _ lt q => ⟨_, xs[i], xs, q, by simp [lt], rfl⟩, fun _ q => ⟨xs, q, rfl⟩, ?_⟩
  rintro i H v H' _ q ⟨T, x, y, e, f, g, rfl, told⟩
  exact ⟨T, _, y, e, f, g, rfl, told xs q⟩
end Z

set_option Elab.async false
set_option linter.all false
set_option maxRecDepth 100000
namespace Z
open PySem PySem.Spec PyProof.Rows L2

/-! ### range of ints of any size -/
theorem turn_long {P : Program} {w : World} {K : PySem.W.Frag} {tg : Expr} (it : Addr) (lo : Int) (n : Nat) : Turn P w K tg (Itr lo n) [it] it (fun i h => IsLongIter h it (lo + (i : Nat) * 1) ((n : Int) - (i : Nat)) 1) where
  mem := .head _
  keep := fun _ _ _ st same => same _ (.head _) _ st
  self := fun _ _ _ _ _ st => wpAny_pyIter_longiter st
  obj := fun i h st b m => by
    cases List.mem_singleton.mp m
    exact ⟨_, st, nofun⟩
  done := by
    rintro X rfl rfl rfl calm i pins s σ H E I free st (ge : n ≤ i)
    refine wpAny_pyNext_long_end (I.ok.hd calm) st (by omega) fun h1 old => ⟨rfl, ?_⟩
    exact Inv.turnedL (t' := s.toks) I (fun b o nb g => old b o (fun e => nb (e ▸ .head _)) g) free
  item := by
    rintro X rfl rfl rfl calm i pins s σ H E I free st lt
    refine (Walks.longrange (I.ok.hd calm) it lo 1 n).item i s _ _ lt st fun v h1 t1 ⟨t, ev⟩ st1 old => ⟨_, rfl, ?_⟩
    subst ev
    have on : Inv X pins σ H { s with heap := h1, toks := t1 } := Inv.turnedL I old free
    exact go_of (s := { s with heap := h1, toks := t1 }) (n := "longrange_iterator") st1 rfl rfl (by decide) ⟨.int (lo + i), H, on, ⟨t, by simp⟩, ⟨rfl, rfl⟩, st1, fun b m => (free b m).1⟩
/-- a range that was just made, iterated: short or long -/
theorem range_itW {X : Cx} {tg : Expr} {pins : List (Addr × Obj)} {σ : L2.St} {H : Hp} {s : Shared} {R : It → Hp → Prop} {E : Value → Shared → Prop} {lo hi : Int} {t u v : Tok} {tk : Nat} (I : Inv X pins σ H s)
    (q : R (Itr lo (hi - lo).toNat) H) : wpAny (model X.prog X.w) X.A (pyIter (.ref s.heap.objs.size)) (PIE X pins σ tg R) E { s with heap := s.heap.push { cls := .type "range", data := .fields #[.int lo t, .int hi u, .int 1 v] }, toks := tk } := by
  have made : Inv X pins σ H { s with heap := s.heap.push { cls := .type "range", data := .fields #[.int lo t, .int hi u, .int 1 v] }, toks := tk } := Inv.kept I fun b o => Heap.get?_push_of_some _
  have many : Builtin.Range.rangeSize lo hi 1 = (((hi - lo).toNat : Nat) : Int) := by
    rw [rangeSize_one]
    split <;> omega
  have from0 : lo + ((0 : Nat) : Int) * 1 = lo := by simp
  have left0 : (((hi - lo).toNat : Nat) : Int) - ((0 : Nat) : Int) = Builtin.Range.rangeSize lo hi 1 := by simp [many]
  have own := fun b (m : b ∈ [(s.heap.push { cls := .type "range", data := .fields #[.int lo t, .int hi u, .int 1 v] }).objs.size]) => (List.mem_singleton.mp m).symm ▸ Inv.fpOk made (Nat.le_refl _) (HOk.fresh made.hok (Nat.le_refl _))
  cases y : Builtin.Range.small lo hi 1 with
  | true => exact wpAny_pyIter_range (IsRange.new ..) y ⟨_, _, _, _, H, rfl, Inv.kept (t' := tk) made fun b o => Heap.get?_push_of_some _, turn_range _ lo _, from0.symm ▸ left0.symm ▸ Heap.get?_push_size _ rfl, own, q⟩
  | false => exact wpAny_pyIter_longrange (IsRange.new ..) y ⟨_, _, _, _, H, rfl, Inv.kept (t' := tk) made fun b o => Heap.get?_push_of_some _, turn_long _ lo _, from0.symm ▸ left0.symm ▸ Heap.get?_push_size _ rfl, own, q⟩
section
variable {X : Cx} {tg : Expr}
def iRngW (ta : TA) : TI := fun σ H R => ta σ H fun vs H1 => match vs with | [.int i, .int j] => R (Itr i (j - i).toNat) H1 | _ => False
theorem zpi_range2 {a b : Expr} {ta : TA} {p pos : Pos} (hg : Gl X "range") (hm : X.mg "range" = none) (ha : PA X [a, b] ta) (hs : starEach [a, b] X.env = [(false, eval a X.env), (false, eval b X.env)] := by rfl) (hs2 : starEach [b] X.env = [(false, eval b X.env)] := by rfl) :
    PI X tg (.Call (.Name "range" p) [a, b] [] pos) (iRngW ta) := by
  refine ⟨fun pins s σ H R I h => ?_⟩
  refine Call_ (ld_blt I hg hm boot_range (PyProof.Rows.callWith_type1 (thn (ha.run pos pins s σ H _ I h) fun us s1 ⟨vs, H1, I1, r1, q1⟩ => ?_) (by rw [hs, hs2]) (by rw [hs2]; rfl)))
  dsimp only at q1
  split at q1
  · cases r1 with
    | cons r rr =>
      cases rr with
      | cons r' rr =>
        cases rr
        obtain ⟨t, rfl⟩ := r
        obtain ⟨t', rfl⟩ := r'
        exact call_range_2 (range_itW I1 q1)
  · exact q1.elim
/-! ### xs[i] op= e -/
theorem zget : PGet X (zIxL X.K) := by
  intro pins s σ H x y v u Q I rx ry h
  unfold zIxL at h
  split at h
  case h_2 => exact h.elim
  rename_i p i
  obtain ⟨xs, z, known, item, q⟩ := h
  cases rx
  obtain ⟨t, rfl⟩ := ry
  obtain ⟨us, same, at1, short⟩ := I.list known
  obtain ⟨j, place, found, lt, low, high⟩ := atI_get item
  obtain ⟨g, here, rel⟩ := Vals.get same found
  have size : us.toArray.size = xs.length := by rw [List.size_toArray, same.length]
  have limit := line63
  have told : EP X pins σ Q g s := ⟨z, H, I, rel, q⟩
  rcases Int.lt_or_le i 0 with neg | nonneg
  · have there : (i + (us.toArray.size : Int)).toNat = j := by
      have := (seqIndex_neg neg low).symm.trans place
      rw [size]
      exact Option.some.inj this
    refine wpAny_getItem_list_neg at1.isList neg ?_ ?_ (there ▸ (by simpa using here)) told <;> omega
  · have there : i.toNat = j := Option.some.inj ((seqIndex_of nonneg high).symm.trans place)
    refine wpAny_getItem_list at1.isList nonneg ?_ (there ▸ (by simpa using here)) told
    omega
def zipI (C : Int → Int → Prop) (g : Int → Int → Int) : TIp := fun x y H Q => match x, y with | .int i, .int j => C i j ∧ Q (.int (g i j)) H | _, _ => False
def zipI0 (g : Int → Int → Int) : TIp := fun x y H Q => match x, y with | .int i, .int j => Q (.int (g i j)) H | _, _ => False
theorem zip_add : PIp X .Add (zipI0 fun i j => i + j) := fun pins s σ H x y v u Q I rx ry h => by
  unfold zipI0 at h
  split at h
  · exact ip_add pins s σ H _ _ v u Q I rx ry ⟨_, _, rfl, rfl, h⟩
  · exact h.elim
theorem zip_sub : PIp X .Sub (zipI0 fun i j => i - j) := fun pins s σ H x y v u Q I rx ry h => by
  unfold zipI0 at h
  split at h
  · exact ip_sub pins s σ H _ _ v u Q I rx ry ⟨_, _, rfl, rfl, h⟩
  · exact h.elim
theorem mulOk_of {i j : Int} (c : MulOk i j) : IntMulOk i j := by
  rcases c with c | c | c
  · exact CMul.ok (.inl c)
  · exact CMul.ok (.inr c)
  · exact c.ok
theorem zip_mul : PIp X .Mult (zipI MulOk fun i j => i * j) := fun pins s σ H x y v u Q I rx ry h => by
  unfold zipI at h
  split at h
  · obtain ⟨c, q⟩ := h
    obtain ⟨t, rfl⟩ := rx
    obtain ⟨t', rfl⟩ := ry
    exact imul_int ⟨.int _, H, I.tok _, ⟨_, rfl⟩, q⟩ (mulOk_of c)
  · exact h.elim
theorem zip_fdiv : PIp X .FloorDiv (zipI DivOk fun i j => i / j) := fun pins s σ H x y v u Q I rx ry h => by
  unfold zipI at h
  split at h
  · obtain ⟨⟨c0, c⟩, q⟩ := h
    rcases c with c | c
    · exact iop_fdiv pins s σ H _ _ v u Q I rx ry ⟨_, _, rfl, rfl, ⟨c0, c⟩, q⟩
    · exact iop_fdivW pins s σ H _ _ v u Q I rx ry ⟨_, _, rfl, rfl, wide_div (b := 9000) c0 c (by decide) (Nat.le_refl _), q⟩
  · exact h.elim
/-! ### divmod, the dividend below 2 ** 4000 -/
theorem zdivmodW : CallR X (.builtin "divmod") (z2I fun i j H Q => (0 < j ∧ i.natAbs < 2 ^ 4000) ∧ New H (.tup [.int (i / j), .int (i % j)]) Q) := callM call_divmodW fun xs H Q q => by
  unfold z2I at q
  split at q
  · obtain ⟨⟨h0, h⟩, q⟩ := q
    exact ⟨_, _, rfl, divp_ok h0 (Nat.le_trans (PyProof.Rows.intBits_le h) (Nat.le_add_left _ _)), q.up⟩
  · exact q.elim
end
end Z

set_option Elab.async false
set_option linter.all false
set_option maxRecDepth 100000
namespace Z
open PySem PySem.Spec PyProof.Rows L2
section
variable {X : Cx}
/-- t + u of tuples, neither empty -/
def zTCat (K : PySem.W.Frag) : R2 := fun x y H Q => match x, y with | .ref l, .ref b => ∃ xs zs, SqT K H l xs ∧ SqT K H b zs ∧ (xs ≠ [] ∧ zs ≠ []) ∧ xs.length + zs.length ≤ sizeLine ∧ New H (.tup (xs ++ zs)) Q | _, _ => False
theorem ztcat : OpR X (binaryOp .Add) (zTCat X.K) := opM op_catT fun x y H Q q => by
  unfold zTCat at q
  split at q
  · obtain ⟨xs, zs, h1, h2, ⟨h3, h4⟩, h5, q⟩ := q
    exact ⟨_, _, xs, zs, rfl, rfl, h1, h2, h3, h5, fun e => absurd e h4, fun _ => q.up⟩
  · exact q.elim
/-- t * k -/
def zTRep (K : PySem.W.Frag) : R2 := fun x y H Q => match x, y with | .ref l, .int k => ∃ xs, SqT K H l xs ∧ (xs ≠ [] ∧ 2 ≤ k ∧ k ≤ 1000 ∧ xs.length ≤ 1000) ∧ New H (.tup (List.replicate k.toNat xs).flatten) Q | _, _ => False
theorem zmulT : OpR X (binaryOp .Mult) (zTRep X.K) := opM op_repT fun x y H Q q => by
  unfold zTRep at q
  split at q
  · obtain ⟨xs, h1, ⟨h2, h3, h4, h5⟩, q⟩ := q
    exact ⟨_, _, xs, rfl, rfl, h1, h2, h3, h4, h5, q.up⟩
  · exact q.elim
end
end Z

set_option Elab.async false
set_option linter.all false
set_option maxRecDepth 100000
/-! zip of two rows, each a list or a tuple -/
namespace Z
open PySem PySem.Spec PyProof.Rows L2
/-- a tuple (true) or a list (false) -/
def SqB (K : PySem.W.Frag) : Bool → Hp → Addr → List V → Prop
  | true => fun H a xs => SqT K H a xs
  | false => fun H a xs => SqL K H a xs
def IterB : Bool → Heap → Addr → Addr → Nat → Prop
  | true => fun h it l i => h.IsTupleIter it l i
  | false => fun h it l i => h.IsListIter it l i
def IsB : Bool → Heap → Addr → Array Value → Prop
  | true => fun h l vs => h.IsTuple l vs
  | false => fun h l vs => h.IsList l vs
def objB : Bool → Addr → Obj
  | true => fun l => { cls := .type "tuple_iterator", data := .fields #[.ref l, .int 0 0] }
  | false => fun l => { cls := .type "list_iterator", data := .fields #[.ref l, .int 0 0] }
theorem drawsB {prog : Program} {w : World} {A : Around} (b : Bool) (hh : A.handled = none) (it l : Addr) (hne : l ≠ it) (items : Array Value) :
    Draws prog w A it [it, l] items.size (fun i v => items[i]? = some v) (fun i h => IterB b h it l i ∧ IsB b h l items) := by
  cases b
  · exact Draws.list hh it l hne items
  · exact Draws.tuple hh it l hne items
theorem beginsB (b : Bool) (l : Addr) (items : Array Value) : Begins (.ref l) (objB b l) fun h => IsB b h l items := by
  cases b
  · exact begins_list l items
  · exact begins_tuple l items
theorem IterB.at {b : Bool} {h h' : Heap} {it l : Addr} {i : Nat} (x : IterB b h it l i) (k : ∀ o, h.get? it = some o → h'.get? it = some o) : IterB b h' it l i := by
  cases b
  · obtain ⟨o, ho, r⟩ := x; exact ⟨o, k _ ho, r⟩
  · obtain ⟨o, ho, r⟩ := x; exact ⟨o, k _ ho, r⟩
theorem IterB.cell {b : Bool} {h : Heap} {it l : Addr} {i : Nat} (x : IterB b h it l i) : ∃ o, h.get? it = some o ∧ o.data = .fields #[.ref l, .int i 0] := by
  cases b
  · obtain ⟨o, ho, _, r⟩ := x; exact ⟨o, ho, r⟩
  · obtain ⟨o, ho, _, r⟩ := x; exact ⟨o, ho, r⟩
theorem iterB_new {b : Bool} {h : Heap} {it l : Addr} (e : h.get? it = some (objB b l)) : IterB b h it l 0 := by
  cases b
  · exact ⟨_, e, rfl, rfl⟩
  · exact ⟨_, e, rfl, rfl⟩
theorem IsB.lt {b : Bool} {h : Heap} {l : Addr} {vs : Array Value} (x : IsB b h l vs) : l < h.objs.size := by
  cases b
  · obtain ⟨o, ho, _⟩ := x; exact Heap.lt_size ho
  · obtain ⟨o, ho, _⟩ := x; exact Heap.lt_size ho
section
variable {X : Cx} {pins : List (Addr × Obj)} {σ : L2.St} {H : Hp} {s : Shared}
theorem invB {b : Bool} {a : Addr} {xs : List V} (I : Inv X pins σ H s) (h : SqB X.K b H a xs) : ∃ its, Vals xs its ∧ IsB b s.heap a its.toArray := by
  cases b
  · obtain ⟨its, rv, p, _⟩ := I.list h; exact ⟨its, rv, p.isList⟩
  · obtain ⟨its, rv, p, _⟩ := I.tuple h; exact ⟨its, rv, p⟩
theorem injB {b : Bool} {a : Addr} {xs ys : List V} (I : Inv X pins σ H s) (h : SqB X.K b H a xs) (h2 : SqB X.K b H a ys) : xs = ys := by
  cases b
  · exact I.list_inj h h2
  · exact I.tuple_inj h h2
end
def ItzB (K : PySem.W.Frag) (b1 b2 : Bool) (a b : Addr) : It :=
  ItP (fun i H x y => ∃ xs ys : List V, (SqB K b1 H a xs ∧ SqB K b2 H b ys) ∧ xs[i]? = some x ∧ ys[i]? = some y)
    (fun i H x y => ∀ xs ys : List V, SqB K b1 H a xs → SqB K b2 H b ys → xs[i]? = some x ∧ ys[i]? = some y)
    (fun i H => ∃ xs ys : List V, (SqB K b1 H a xs ∧ SqB K b2 H b ys) ∧ xs.length = i ∧ ys.length = i)
theorem sepB {z TI TO i1 i2 a b : Addr} (D : ZipApart z TI TO i1 i2 a b) : ZipSep2 z TI TO i1 i2 [i1, a] [i2, b] where
  TIz := D.TIz
  TOz := D.TOz
  TITO := D.TITO
  TIi1 := D.TIi1
  mem1 := List.mem_cons_self
  zf1 := fun h => by
    rcases List.mem_cons.mp h with e | e
    · exact D.i1z e.symm
    · exact D.l1z (List.mem_singleton.mp e).symm
  Tf1 := fun h => by
    rcases List.mem_cons.mp h with e | e
    · exact D.TOi1 e
    · exact D.l1TO (List.mem_singleton.mp e).symm
  TIi2 := D.TIi2
  mem2 := List.mem_cons_self
  zf2 := fun h => by
    rcases List.mem_cons.mp h with e | e
    · exact D.i2z e.symm
    · exact D.l2z (List.mem_singleton.mp e).symm
  Tf2 := fun h => by
    rcases List.mem_cons.mp h with e | e
    · exact D.TOi2 e
    · exact D.l2TO (List.mem_singleton.mp e).symm
  sep1_2 := fun h => by
    rcases List.mem_cons.mp h with e | e
    · exact D.i12 e
    · exact D.l2i1 (List.mem_singleton.mp e).symm
  sep2_1 := fun h => by
    rcases List.mem_cons.mp h with e | e
    · exact D.i12 e.symm
    · exact D.l1i2 (List.mem_singleton.mp e).symm
/-- the cells of a zip -/
abbrev zCells (z TI TO i1 i2 : Addr) : List Addr := [z, TI, TO, i1, i2]
theorem turn_zipB {P : Program} {w : World} {K : PySem.W.Frag} {elts : List Expr} {kk : Nat} {tpos : Pos} {b1 b2 : Bool} {a b z TI TO i1 i2 : Addr} (D : ZipApart z TI TO i1 i2 a b) :
    Turn P w K (.Tuple elts kk tpos) (ItzB K b1 b2 a b) (zCells z TI TO i1 i2) z (fun i h => IsZip h z TI TO .none ∧ IsTupOf2 h TI (.ref i1) (.ref i2) ∧ (∃ x y, IsTupOf2 h TO x y) ∧ IterB b1 h i1 a i ∧ IterB b2 h i2 b i) := by
  have sub : ∀ c ∈ [z, TO, i1, i2], c ∈ zCells z TI TO i1 i2 := by
    intro c m
    simp at m
    rcases m with rfl | rfl | rfl | rfl <;> simp
  refine turn_pairs (.head _) ?_ ?_ (fun A i s Q E st h => wpAny_pyIter_zip st.1 h) ?_ ?_
  · rintro i h ⟨cz, cI, ⟨_, _, cO⟩, k1, k2⟩ c m
    obtain ⟨o1, g1, q1⟩ := k1.cell
    obtain ⟨o2, g2, q2⟩ := k2.cell
    simp at m
    rcases m with rfl | rfl | rfl | rfl | rfl
    · exact ⟨_, cz, nofun⟩
    · exact ⟨_, cI, nofun⟩
    · exact ⟨_, cO, nofun⟩
    · exact ⟨o1, g1, fun v => by simp [q1]⟩
    · exact ⟨o2, g2, fun v => by simp [q2]⟩
  · rintro i h h2 ⟨cz, cI, ⟨x, y, cO⟩, k1, k2⟩ same
    exact ⟨same _ (by simp) _ cz, same _ (by simp) _ cI, ⟨x, y, same _ (by simp) _ cO⟩, k1.at fun o => same _ (by simp) o, k2.at fun o => same _ (by simp) o⟩
  · rintro X rfl rfl rfl calm i pins s σ H I ⟨cz, cI, cO, k1, k2⟩ x y ⟨xs, ys, ⟨hx, hy⟩, ex, ey⟩
    refine ⟨fun xs' ys' hx' hy' => ⟨injB I hx' hx ▸ ex, injB I hy' hy ▸ ey⟩, ⟨?_⟩⟩
    obtain ⟨us, vus, isu⟩ := invB I hx
    obtain ⟨vs, vvs, isv⟩ := invB I hy
    obtain ⟨u, gu, ru⟩ := vus.get ex
    obtain ⟨v, gv, rv⟩ := vvs.get ey
    have lu := (List.getElem?_eq_some_iff.mp gu).1
    have lv := (List.getElem?_eq_some_iff.mp gv).1
    refine ⟨_, _, _, _, _, _, WalksT.zipD2 (sepB D) (drawsB (prog := X.prog) (w := X.w) (A := X.A.in1) b1 (I.ok.hd calm) i1 a D.l1i1 us.toArray) (drawsB (prog := X.prog) (w := X.w) (A := X.A.in1) b2 (I.ok.hd calm) i2 b D.l2i2 vs.toArray), sub, ⟨cz, cI, cO, ⟨k1, isu⟩, ⟨k2, isv⟩⟩, ?_, ?_, fun h st => ⟨st.1, st.2.1, st.2.2.1, st.2.2.2.1.1, st.2.2.2.2.1⟩⟩
    · show i < min us.toArray.size vs.toArray.size
      simp only [List.size_toArray]
      omega
    · rintro vals ⟨p, q, hp, hq, rfl⟩
      have ep : p = u := by simpa [gu] using hp.symm
      have eq : q = v := by simpa [gv] using hq.symm
      exact ⟨p, q, rfl, ep ▸ ru, eq ▸ rv⟩
  · rintro X rfl rfl rfl calm i pins s σ H I ⟨cz, cI, cO, k1, k2⟩ ⟨xs, ys, ⟨hx, hy⟩, lx, ly⟩
    obtain ⟨us, vus, isu⟩ := invB I hx
    obtain ⟨vs, vvs, isv⟩ := invB I hy
    have := vus.length
    have := vvs.length
    refine ⟨⟨_, _, _, _, _, _, WalksT.zipD2 (sepB D) (drawsB (prog := X.prog) (w := X.w) (A := X.A.in1) b1 (I.ok.hd calm) i1 a D.l1i1 us.toArray) (drawsB (prog := X.prog) (w := X.w) (A := X.A.in1) b2 (I.ok.hd calm) i2 b D.l2i2 vs.toArray), sub, ⟨cz, cI, cO, ⟨k1, isu⟩, ⟨k2, isv⟩⟩, ?_, fun vals hv => ?_, fun h st => ⟨st.1, st.2.1, st.2.2.1, st.2.2.2.1.1, st.2.2.2.2.1⟩⟩⟩
    · show min us.toArray.size vs.toArray.size = i
      simp only [List.size_toArray]
      omega
    · obtain ⟨p, q, _, _, rfl⟩ := hv
      exact ⟨p, q, rfl, trivial⟩
def iZipB (K : PySem.W.Frag) (ta : TA) : TI := fun σ H R => ta σ H fun vs H1 => match vs with | [.ref a, .ref b] => ∃ (b1 b2 : Bool) (xs ys : List V), SqB K b1 H1 a xs ∧ SqB K b2 H1 b ys ∧ R (ItzB K b1 b2 a b) H1 | _ => False
theorem zpi_zipB {X : Cx} {e e2 : Expr} {ta : TA} {p pos tpos : Pos} {elts : List Expr} {kk : Nat} (hg : Gl X "zip") (hm : X.mg "zip" = none) (ha : PA X [e, e2] ta)
    (hs : starEach [e, e2] X.env = (false, eval e X.env) :: starEach [e2] X.env := by rfl) (hpl : (backTo pos (starEach [e2] X.env)).any (·.1) = false := by rfl) :
    PI X (.Tuple elts kk tpos) (.Call (.Name "zip" p) [e, e2] [] pos) (iZipB X.K ta) := by
  refine ⟨fun pins s σ H R I h => ?_⟩
  refine Call_ (ld_blt I hg hm PyProof.Rows.boot_zip (PyProof.Rows.callWith_type1 (thn (ha.run pos pins s σ H _ I h) fun us s1 ⟨vs, H1, I1, r1, q1⟩ => ?_) hs hpl))
  dsimp only at q1
  split at q1
  · rename_i a b
    obtain ⟨b1, b2, xs, ys, hqx, hqy, q⟩ := q1
    cases r1 with
    | cons r rr =>
      cases rr with
      | cons r' rr =>
        cases rr
        cases r
        cases r'
        have new5 : ∀ c ∈ zCells (s1.heap.objs.size + 4) (s1.heap.objs.size + 2) (s1.heap.objs.size + 3) s1.heap.objs.size (s1.heap.objs.size + 1), FpOk X pins H1 c := fun c m => by
          have big : s1.heap.objs.size ≤ c := by
            simp at m
            rcases m with rfl | rfl | rfl | rfl | rfl <;> first | exact Nat.le_refl _ | exact Nat.le_add_right _ _
          exact Inv.fpOk I1 big (HOk.fresh I1.hok big)
        obtain ⟨its, rv, p1⟩ := invB I1 hqx
        obtain ⟨its2, rv2, p2⟩ := invB I1 hqy
        refine zip_begins2 (beginsB b1 a its.toArray) (beginsB b2 b its2.toArray) p1 p2 fun h' hz hTI hTO h1 h2 hsz hk => wpAny_pyIter_zip hz ?_
        have begun := Inv.kept (t' := s1.toks) I1 hk
        exact ⟨_, zCells _ _ _ _ _, _, _, H1, rfl, begun, turn_zipB (b1 := b1) (b2 := b2) (PySem.W.ktu_apart s1.heap.objs.size a b p1.lt p2.lt), ⟨hz, hTI, ⟨_, _, hTO⟩, iterB_new h1, iterB_new h2⟩, new5, q⟩
  · exact q1.elim
theorem walk_zipB {K : PySem.W.Frag} {b1 b2 : Bool} {a b : Addr} {xs ys : List V} {n : Nat} (h1 : xs.length = n) (h2 : ys.length = n) : Walk (ItzB K b1 b2 a b) n (fun H => SqB K b1 H a xs ∧ SqB K b2 H b ys) (YPair (fun i => xs[i]?) (fun i => ys[i]?)) := by
  subst h1
  refine ⟨fun i _ lt q => ⟨xs[i], ys[i], xs, ys, q, by simp [lt], by simp [h2, lt]⟩, fun _ q => ⟨xs, ys, q, rfl, h2⟩, ?_⟩
  rintro i H v H' _ q ⟨T, x, y, e, f, g, told⟩
  exact ⟨T, x, y, e, f, g, told xs ys q.1 q.2⟩
/-- a tuple or a list that is tracked -/
def seqO : Bool → List V → HO
  | true => fun xs => .tup xs
  | false => fun xs => .lst xs
theorem sqB {K : PySem.W.Frag} {b : Bool} {H : Hp} {a : Addr} {xs : List V} (h : H a = some (seqO b xs)) : SqB K b H a xs := by
  cases b
  · exact .inl (.inl h)
  · exact .inl (.inl h)
def zNeg : V → Hp → VK → Prop := fun x H Q => match x with | .int i => Q (.int (-i)) H | _ => False
theorem zneg {X : Cx} : UnR X (unaryOp .USub) zNeg := fun pins s σ H x v Q I rx h => by
  unfold zNeg at h
  split at h
  · exact un_neg pins s σ H _ v Q I rx ⟨_, rfl, h⟩
  · exact h.elim
def zSlS : V → Option Int → Option Int → Hp → VK → Prop := fun x lo hi H Q => match x with | .str z => z.length ≤ sizeLine ∧ Q (.str (cutS z lo hi)) H | _ => False
theorem zslS {X : Cx} : SlR X zSlS := slM sl_str fun x lo hi H Q q => by
  unfold zSlS at q
  split at q
  · exact ⟨_, rfl, q⟩
  · exact q.elim
theorem zlstrip {X : Cx} : MtR X "str.lstrip" (fun x xs H Q => match x, xs with | .str a, [.str b] => a.length ≤ sizeLine ∧ Q (.str (Txt.lstripChars a b)) H | _, _ => False) := mtM mt_lstripChars fun x xs H Q q => by
  split at q
  · exact ⟨_, _, rfl, rfl, q⟩
  · exact q.elim
end Z

set_option Elab.async false
set_option linter.all false
set_option maxRecDepth 100000
set_option maxHeartbeats 4000000
/-! exceptions: a caught one that is kept behind its suite -/
namespace Z
open PySem PySem.Spec PyProof.Rows L2
/-- an exception object of the class cls, with the dict d, raised or not, at a -/
def ExK (cls : Value) (d : Option Addr) (a : Addr) : HO := .ext fun h => ∃ (oe : Obj) (vs : Array Value), h.get? a = some oe ∧ Zc cls d oe ∧ oe.data = .fields vs
theorem exK_ok {P : Program} {w : World} {H : Hp} {h : Heap} {a : Addr} {cls : Value} {d : Option Addr} {oe : Obj} {vs : Array Value} (e : h.get? a = some oe) (z : Zc cls d oe) (hd : oe.data = .fields vs) : ObjOk P w H h a (ExK cls d a) :=
  ⟨⟨oe, vs, e, z, hd⟩, ⟨oe, e⟩, fun _ _ ⟨o, v, q, r⟩ k => ⟨o, v, k o q, r⟩⟩
section
variable {X : Cx} {pins : List (Addr × Obj)} {σ : L2.St} {H : Hp} {s : Shared}
theorem Inv.trackN {a : Addr} {o : HO} (I : Inv X pins σ H s) (n0 : X.s_0.heap.get? a = none) (na : H a = none) (nL : a ≠ X.env.locals) (nC : ∀ x c, X.env.cells.lookup x = some c → c ≠ a) (np : ∀ p ∈ X.pn ++ pins, p.1 ≠ a)
    (new : ObjOk X.prog X.w (upd H a o) s.heap a o) : Inv X pins σ (upd H a o) s where
  ok := I.ok
  os := I.os
  bare := I.bare
  base := {
    keep := I.base.keep
    slot := I.base.slot
    free := fun b u q n hx => by rw [upd_ne (fun z => by rw [z, n0] at q; cases q)]; exact I.base.free b u q n hx
    there := I.base.there
    tups := fun b xs q => by rw [upd_ne (ne_of_none (I.base.tups b xs q) na)]; exact I.base.tups b xs q
    frzs := fun b u v q => by rw [upd_ne (ne_of_none (I.base.frzs b u v q) na)]; exact I.base.frzs b u v q
    tbls := fun b ps q => by
      obtain ⟨m, z⟩ := I.base.tbls b ps q
      exact ⟨m, by rw [upd_ne (ne_of_none z na)]; exact z⟩ }
  loc := I.loc
  cell := I.cell
  free := by rw [upd_ne (Ne.symm nL)]; exact I.free
  freeC := fun x c e => by rw [upd_ne (nC x c e)]; exact I.freeC x c e
  pin := fun p hp => by
    obtain ⟨e, n, r⟩ := I.pin p hp
    exact ⟨e, by rw [upd_ne (np p hp)]; exact n, r⟩
  hok := fun b u e => by
    by_cases hb : b = a
    · subst hb
      rw [upd_same] at e
      cases e
      exact new
    · rw [upd_ne hb] at e
      exact (I.hok b u e).stay (fun c v _ q => q) (fun c q => by rw [upd_ne (ne_of_none q na)]; exact q) fun c xs q => by rw [upd_ne (ne_of_none q na)]; exact q
  len := I.len
end
/-- an address that was not there before, of which B, the ground of all that was, says nothing -/
structure Strange (X : Cx) (pins : List (Addr × Obj)) (a : Addr) : Prop where
  start : X.s_0.heap.get? a = none
  frame : a ≠ X.env.locals
  cells : ∀ x c, X.env.cells.lookup x = some c → c ≠ a
  pinned : ∀ p ∈ X.pn ++ pins, p.1 ≠ a
  outer : a ∉ X.fs
section
variable {X : Cx} {pins : List (Addr × Obj)} {σ : L2.St} {H : Hp} {sI : Shared} {B : Heap} {a : Addr}
theorem strange_of (I : Inv X pins σ H sI) (hs : X.stack = X.env :: X.outer) (hf : X.env.frame = some X.env.locals) (hex : X.ex = []) (ground : ∀ b o, sI.heap.get? b = some o → b ∉ frs X.stack → B.get? b = some o) (nB : B.get? a = none) (nf : a ∉ frs (X.env :: X.outer)) : Strange X pins a := by
  have out : ∀ {b : Addr}, (∃ o, sI.heap.get? b = some o) → b ≠ a := by
    rintro b ⟨o, e⟩ rfl
    have e2 := ground b o e (hs ▸ nf)
    exact nomatch nB.symm.trans e2
  have old : ¬ ∃ o, X.s_0.heap.get? a = some o := fun ⟨o, e⟩ => out (I.base.there a o e (by simp [hex])) rfl
  constructor
  · cases q : X.s_0.heap.get? a with
    | none => rfl
    | some o => exact absurd ⟨o, q⟩ old
  · rintro rfl
    exact nf (List.mem_filterMap.mpr ⟨_, .head _, hf⟩)
  · intro x c e
    obtain ⟨_, o, ho, _⟩ := I.cell x c e
    exact out ⟨o, ho⟩
  · exact fun p hp => out ⟨p.2, (I.pin p hp).1⟩
  · intro m
    obtain ⟨e, m1, m2⟩ := List.mem_filterMap.mp m
    exact nf (List.mem_filterMap.mpr ⟨e, .tail _ m1, m2⟩)
/-- what is behind the suite: the exception's object stands, and may be tracked -/
theorem behind_suite {oe : Obj} {vs : Array Value} {cls : Value} {d : Option Addr} {s : Shared} (S : Strange X pins a) (z : Zc cls d oe) (dv : oe.data = .fields vs) (I : Inv X ((a, oe) :: pins) σ H s) : Inv X pins σ (upd H a (ExK cls d a)) s := by
  have here := I.pin (a, oe) (by simp)
  have J : Inv X pins σ H s := { I with pin := fun p hp => I.pin p (by
    rcases List.mem_append.mp hp with h | h
    · simp [h]
    · simp [h]) }
  exact Inv.trackN J S.start here.2.1 S.frame S.cells S.pinned (exK_ok here.1 z dv)
end
/-- what the clause 'except x as n' wishes of what is in the air: it is of the class, and the suite, that runs on, keeps it as a value -/
def wKeep (K : PySem.W.Frag) (c : Value) (i : Nat) (ts : Addr → Value → Option Addr → TS) (D : Ends) : WX := fun cls d σ H =>
  PySem.W.exmOne K cls c = some true ∧ ∀ a, H a = none → ts a cls d { nx := fun σ' H' => D.nx (σ'.set i none) (upd H' a (ExK cls d a)), rt := fun _ _ => False, bk := fun _ _ => False, ct := fun _ _ => False } (σ.set i (some (.ref a))) H
section
variable {X : Cx} {x n : Str} {c : Value} {i : Nat} {body suite : List Stmt} {b₀ : Stmt} {np pos pos' : Pos} {tb : WX → TS} {ts : Addr → Value → Option Addr → TS}
/-- try: body, except x as n: suite, where the exception is kept behind the suite (after the library's ps_try_as) -/
theorem ps_try_keep (hs : X.stack = X.env :: X.outer) (hf : X.env.frame = some X.env.locals) (hex : X.ex = []) (hN : X.N.Nodup) (hi : X.N[i]? = some n) (hln : X.env.kindOf n = some .local) (hg : Gl X x) (hdg : (x == ("__debug__" : Str)) = false) (hm : X.mg x = some c)
    (hb : ∀ (W : WX) (pn : List (Addr × Obj)) (xe : Value → Shared → Prop), Takes (X.tr pn xe) W → PSs (X.tr pn xe) body (tb W))
    (hsu : ∀ (a : Addr) (oe : Obj) (cls : Value) (d : Option Addr) (pn : List (Addr × Obj)), Zc cls d oe → (∃ vs, oe.data = .fields vs) → PSs (X.suite a ((a, oe) :: pn)) (b₀ :: suite) (ts a cls d)) :
    PS X (.Try body [.ExceptHandler (some (.Name x np)) (some n) (b₀ :: suite) pos'] [] [] pos) (fun D σ H => tb (wKeep X.K c i ts D) D σ H) := by
  constructor
  intro pins s σ H D I h
  have frm := (I.ok.frames).trans (congrArg some hs)
  let air : Value → Shared → Prop := fun e t1 => wpAny (model X.prog X.w) X.A (noteFrame e X.env) (fun _ t2 => wpAny (model X.prog X.w) X.A (setFlight e none) (fun _ t3 =>
    wpAny (model X.prog X.w) X.A (handleBy e X.env [.ExceptHandler (some (.Name x np)) (some n) (b₀ :: suite) pos']) (SP X pins D) X.xe t3) X.xe t2) X.xe t1
  have taken : Takes (X.tr (X.pn ++ pins) air) (wKeep X.K c i ts D) := by
    rintro u t ⟨a, B, sI, pins', σ1, H1, cls, d, rfl, J1, ground, up, sky, na, os, ag, hex1, go⟩
    have J : Inv X pins σ1 H1 sI := J1.ofTry I.ok
    show wpAny _ X.A (noteFrame (.ref a) X.env) _ _ _
    refine Sky.land Zc.steady frm hf (hs ▸ sky) fun hA flA upA => ?_
    obtain ⟨oA, vA, getA, zA, dA⟩ := flA.there
    have apart : a ∉ frs (X.env :: X.outer) := fun m => by
      obtain ⟨_, o2, g2, nd⟩ := flA.2.2.1.mem m
      cases getA.symm.trans g2
      exact nd _ dA
    have St := strange_of J hs hf hex ground flA.2.1 apart
    have LA := (J.landed ground flA.1 (up.trans upA) os ag : Inv X pins σ1 H1 { t with heap := hA })
    have SA := LA.suite getA dA na St.frame St.outer
    refine wpAny_handleBy_cons (codeAny_handlers_test ?_) nofun
    refine ld_glob (X := X.suite a ((a, oA) :: (X.pn ++ pins))) SA hg hm ?_ hdg
    refine (PySem.W.exm_one (M := model X.prog X.w) LA.kIn (fun A Q E s k q => wpAny_typeOf_ref (k _ _ getA) (zA.1 ▸ q)) hex1).here ?_
    refine codeAny_handlers_suite_as (HandSPX.lands_againZ flA fun hC flC upC => ?_)
    obtain ⟨oC, vC, getC, zC, dC⟩ := flC.there
    have SC := (J.landed ground flC.1 ((up.trans upA).trans upC) os ag : Inv X pins σ1 H1 { t with heap := hC }).suite getC dC na St.frame St.outer
    refine store_ok (X := X.suite a ((a, oC) :: (X.pn ++ pins))) (v := .ref a) SC hN hi (.inl hln) rfl (fun tD SD => ?_) (.inr hln)
    refine wpAny_mono ((hsu a oC cls d (X.pn ++ pins) zC ⟨_, dC⟩).run [] tD _ H1 _ SD (go a na)) ?_ fun _ _ z => z.elim
    intro f tE hE
    cases f with
    | next =>
      obtain ⟨σE, HE, SE, qE⟩ := hE
      have PE' : Inv X ((a, oC) :: pins) σE HE tE := { SE with ok := I.ok, pin := fun p hp => SE.pin p (by
        show p ∈ ((a, oC) :: (X.pn ++ pins)) ++ []
        rcases List.mem_append.mp hp with h | h
        · simp [h]
        · rcases List.mem_cons.mp h with h | h <;> simp [h]) }
      exact gone_ok PE' hN hi hln fun tF JF => ⟨_, _, behind_suite St zC dC JF, qE⟩
    | brk => obtain ⟨_, _, _, z⟩ := hE; exact z.elim
    | cont => obtain ⟨_, _, _, z⟩ := hE; exact z.elim
    | ret u => obtain ⟨_, _, _, _, _, z⟩ := hE; exact z.elim
  refine wpAny_Try_except (wpAny_mono ((hb _ _ air taken).run [] s σ H D (I.toTry air) h) ?_ fun _ _ z => z)
  intro f t hf2
  cases f with
  | next =>
    obtain ⟨σ1, H1, J, q⟩ := hf2
    exact wpAny_execs_nil ⟨σ1, H1, J.ofTry I.ok, q⟩
  | brk => exact hf2.imp fun _ => Exists.imp fun _ z => ⟨z.1.ofTry I.ok, z.2⟩
  | cont => exact hf2.imp fun _ => Exists.imp fun _ z => ⟨z.1.ofTry I.ok, z.2⟩
  | ret u => exact hf2.imp fun _ => Exists.imp fun _ => Exists.imp fun _ z => ⟨z.1.ofTry I.ok, z.2⟩
end
end Z
namespace Z
open PySem PySem.Spec PyProof.Rows L2
/-! ### defs that may raise -/
structure CalX (P : Program) (w : World) (K : PySem.W.Frag) (mg : Str → Option Value) (base : Heap) (k : Nat) (x : Str) (ps : List Str) (sp : Sp) : Prop where
  ex : ∃ (f : Addr) (fd : FuncData), FnOk P w K mg base (L2.CX P w) k f fd ps sp ∧ Binds K fd ps [] ∧ PySem.W.keepIn K (.ref f) = true ∧ mg x = some (.ref f)
section
variable {P : Program} {w : World} {K : PySem.W.Frag} {mg : Str → Option Value} {base : Heap}
theorem mkCalX {x : Str} {st : Stmt} {N ps : List Str} {k : Nat} {sp : Sp} (D : DefAt K mg x st ps) (S : FnScope N ps (defScope st)) (len : ∀ vs H Q E, sp vs H Q E → vs.length = ps.length)
    (hbody : ∀ (f : Addr) (cdv : Value) (A : Around) (outer : List Env) (s : Shared) (H : Hp) (vs : List V) (Q : VK) (E : XK), Room k (A.deeper (envOfC x (defScope st) s.heap.objs.size f cdv)) → sp vs H Q E →
      ∃ t, PSs (cxOf (L2.CX P w) P w K mg base N x (defScope st) f cdv A outer s H E) (defBody st) t ∧ t { nx := fun _ H' => Q .non H', rt := Q } (start N vs) H) : CalX P w K mg base (k + 1) x ps sp := by
  obtain ⟨f, fd, F, b, m⟩ := D
  exact ⟨f, fd, F.okX S len (hbody f), b, F.kp, m⟩
variable {X : Cx}
/-- a call that may raise: what is in the air is taken by W -/
theorem zcallX {k : Nat} {x : Str} {ps : List Str} {sp : Sp} {W : WX} {e : Expr} {es : List Expr} {t : TA} {pos p : Pos} (C : CalX X.prog X.w X.K X.mg X.base k x ps sp) (hr : Room k X.A) (hg : Gl X x) (tk : Takes X W) (ha : PA X (e :: es) t)
    (hdb : (x == ("__debug__" : Str)) = false := by decide) (he : starEach (e :: es) X.env = (false, eval e X.env) :: starEach es X.env := by rfl) (hp : (backTo pos (starEach es X.env)).any (·.1) = false := by rfl) :
    PE X (.Call (.Name x p) (e :: es) [] pos) (tCallS sp (WE W) t) := by
  obtain ⟨f, fd, F, b, hk, m⟩ := C
  exact pe_callS F hr hg m hk b (fun σ => passAt tk σ) ha hdb he hp
/-- .. that doesn't raise here -/
theorem zcallL {k : Nat} {x : Str} {ps : List Str} {sp : Sp} {e : Expr} {es : List Expr} {t : TA} {pos p : Pos} (C : CalX X.prog X.w X.K X.mg X.base k x ps sp) (hr : Room k X.A) (hg : Gl X x) (ha : PA X (e :: es) t)
    (hdb : (x == ("__debug__" : Str)) = false := by decide) (he : starEach (e :: es) X.env = (false, eval e X.env) :: starEach es X.env := by rfl) (hp : (backTo pos (starEach es X.env)).any (·.1) = false := by rfl) :
    PE X (.Call (.Name x p) (e :: es) [] pos) (tCall sp [] E0 t) := by
  obtain ⟨f, fd, F, b, hk, m⟩ := C
  exact pe_call F hr hg m hk b .nil passL ha hdb he hp
end
/-! ### isinstance of an exception -/
/-- an exception of the class C at a, not raised, its arguments the tuple at t -/
def ExA (C a t : Addr) : HO := .ext fun h => h.get? a = some { cls := .ref C, data := .fields #[.ref t, .none, .none, .none, .bool false, .none] }
/-- at a stands an exception of the class D, with the dict d -/
def HasEx (H : Hp) (a D : Addr) (d : Option Addr) : Prop := (H a = some (ExK (.ref D) d a) ∨ (d = none ∧ ∃ t, H a = some (ExA D a t))) ∧ ∀ dd, d = some dd → ∃ fs, H dd = some (.xd fs)
theorem HasEx.same {H H' : Hp} {a D : Addr} {d : Option Addr} (h : HasEx H a D d) (S : Same H H') : HasEx H' a D d := by
  obtain ⟨h1, h2⟩ := h
  refine ⟨?_, fun dd e => ?_⟩
  · rcases h1 with q | ⟨e, m, q⟩
    · exact .inl (S _ _ q)
    · exact .inr ⟨e, m, S _ _ q⟩
  · obtain ⟨fs, q⟩ := h2 dd e
    exact ⟨fs, S _ _ q⟩
section
variable {X : Cx} {pins : List (Addr × Obj)} {σ : L2.St} {H : Hp} {s : Shared}
theorem inst_of {a D : Addr} {d : Option Addr} (I : Inv X pins σ H s) (h : HasEx H a D d) : ∃ oe od, PySem.W.InstAt s.heap a oe D od := by
  obtain ⟨h1, h2⟩ := h
  have base : ∃ (oe : Obj) (vs : Array Value), s.heap.get? a = some oe ∧ Zc (.ref D) d oe ∧ oe.data = .fields vs := by
    rcases h1 with q | ⟨rfl, t, q⟩
    · obtain ⟨⟨oe, vs, ho, hz, hd⟩, _, _⟩ := I.hok a _ q
      exact ⟨oe, vs, ho, hz, hd⟩
    · obtain ⟨ho, _, _⟩ := I.hok a _ q
      exact ⟨_, _, ho, ⟨rfl, rfl⟩, rfl⟩
  obtain ⟨oe, vs, ho, ⟨hz1, hz2⟩, hd⟩ := base
  have hno : PySem.W.notCls oe = true := by unfold PySem.W.notCls; rw [hd] <;> rfl
  cases d with
  | none => exact ⟨oe, none, ho, hz1, hno, by rw [hz2]; trivial⟩
  | some dd =>
    obtain ⟨fs, q⟩ := h2 dd rfl
    obtain ⟨mA, hns, hr⟩ := (I.hok dd _ q : ObjOk X.prog X.w H s.heap dd (.xd fs))
    obtain ⟨od, hod, hl⟩ := lookIn_ns hns
    exact ⟨oe, some od, ho, hz1, hno, by rw [hz2]; exact hod⟩
def rIsX (K : PySem.W.Frag) : List V → Hp → VK → Prop := fun xs H Q => ∃ (a D : Addr) (d : Option Addr) (c : V) (cv : Value) (b : Bool), xs = [.ref a, c] ∧ HasEx H a D d ∧ ExcC K D ∧ (∀ u, RelV c u → u = cv) ∧ PySem.W.kitOne K (.ref D) cv = some b ∧ Q (.bl b) H
theorem call_isX : CallR X (.builtin "isinstance") (rIsX X.K) := by
  intro pins s σ H xs us Q I r h
  obtain ⟨a, D, d, c, cv, b, rfl, hx, C, hcv, e, q⟩ := h
  cases r with
  | cons rx rr =>
    cases rr with
    | cons rt rr =>
      cases rr
      cases rx
      have ec := hcv _ rt
      subst ec
      obtain ⟨oe, od, J⟩ := inst_of I hx
      have hcl : (PySem.W.clsIn X.K D).isSome = true := by obtain ⟨cd, hc, _⟩ := PySem.W.any_some C.hd; rw [hc]; rfl
      exact PySem.W.kia_one (PySem.W.kitx_exc hcl C.hg C.hk C.hs C.ha C.hn C.ht C.hm) I.kIn J e (fun z => nomatch z) fun tk => ⟨.bl b, H, I.kept (t' := tk) fun _ _ z => z, rfl, q⟩
def zIsX (K : PySem.W.Frag) (cv : Value) (te : TE) : TE := fun σ H Q => te σ H fun x H1 => match x with
  | .ref a => ∃ (D : Addr) (d : Option Addr) (b : Bool), HasEx H1 a D d ∧ ExcC K D ∧ PySem.W.kitOne K (.ref D) cv = some b ∧ Q (.bl b) H1
  | _ => False
theorem zpisX {x : Str} {c : V} {cv : Value} {e : Expr} {te : TE} {p p2 pos : Pos} (hg : Gl X "isinstance") (hm : X.mg "isinstance" = none) (hcn : PE X (.Name x p2) (tC c)) (hcv : ∀ u, RelV c u → u = cv) (he : PE X e te)
    (h1 : starEach [e, .Name x p2] X.env = (false, eval e X.env) :: starEach [.Name x p2] X.env := by rfl) (h2 : starEach [.Name x p2] X.env = (false, eval (.Name x p2) X.env) :: starEach [] X.env := by rfl)
    (h3 : (backTo pos (starEach [.Name x p2] X.env)).any (·.1) = false := by rfl) :
    PE X (.Call (.Name "isinstance" p) [e, .Name x p2] [] pos) (zIsX X.K cv te) := by
  refine peM (pe_callB call_isX hg hm (by decide +kernel) (pa_cons (PE.up he) (pa_cons hcn pa_nil h2) h1) (by decide) (by decide) h1 h3) fun σ H Q q => ?_
  refine ⟨_, q, fun x H1 q1 => ?_⟩
  cases x with
  | ref a =>
    obtain ⟨D, d, b, h, C, e, q⟩ := q1
    exact ⟨_, _, _, _, _, _, rfl, h, C, hcv, e, q⟩
  | _ => exact (show False from q1).elim
/-! ### == of lists of bools -/
theorem eqvAll_bools : ∀ ns ms : List Bool, PyData.eqvAll (ns.map PyData.bool) (ms.map PyData.bool) = decide (ns = ms)
  | [], [] => by decide
  | [], _ :: _ => rfl
  | _ :: _, [] => rfl
  | n :: ns, m :: ms => by
    show (PyData.eqv (.bool n) (.bool m) && PyData.eqvAll (ns.map PyData.bool) (ms.map PyData.bool)) = _
    rw [eqvAll_bools ns ms]
    have e : PyData.eqv (.bool n) (.bool m) = (n == m) := by cases n <;> cases m <;> rfl
    rw [e]
    by_cases h : n = m
    · subst h; simp
    · simp [h]
theorem canLay_bools : ∀ ns : List Bool, PyData.canLayAll0 (ns.map PyData.bool) = true
  | [] => rfl
  | n :: ns => by
    show (PyData.canLay0 (.bool n) && PyData.canLayAll0 (ns.map PyData.bool)) = true
    rw [canLay_bools ns]; rfl
theorem depth_bools : ∀ ns : List Bool, PyData.depthAll (ns.map PyData.bool) = 0
  | [] => rfl
  | n :: ns => by
    show max (PyData.depth (.bool n)) (PyData.depthAll (ns.map PyData.bool)) = 0
    rw [depth_bools ns]; rfl
theorem shaped_bools (ns : List Bool) : SeqAt.shaped (.list (ns.map PyData.bool)) = true := by
  unfold SeqAt.shaped
  have e1 : PyData.canLay0 (.list (ns.map PyData.bool)) = true := canLay_bools ns
  have e2 : PyData.depth (.list (ns.map PyData.bool)) = 1 := by show PyData.depthAll _ + 1 = 1; rw [depth_bools]
  rw [e1, e2]; rfl
theorem dpAll_bools {K : PySem.W.Frag} {H : Hp} : ∀ ns : List Bool, DpAll K H (ns.map V.bl) (ns.map PyData.bool)
  | [] => .nil
  | n :: ns => .cons (.bl n) (dpAll_bools ns)
def zEqBs (K : PySem.W.Frag) : R2 := fun x y H Q => match x, y with
  | .ref p, .ref r => ∃ ns ms : List Bool, SqL K H p (ns.map V.bl) ∧ SqL K H r (ms.map V.bl) ∧ Q (.bl (decide (ns = ms))) H
  | _, _ => False
theorem zeqBs (hu : X.A.units + 64 < cLine) : OpR X (compareOp .Eq) (zEqBs X.K) := opM (op_eqD hu) fun x y H Q q => by
  unfold zEqBs at q
  split at q
  · obtain ⟨ns, ms, h1, h2, t⟩ := q
    refine ⟨_, _, .lst h1 (dpAll_bools ns), .lst h2 (dpAll_bools ms), shaped_bools ns, shaped_bools ms, ?_⟩
    show Q (.bl (PyData.eqvAll _ _)) H
    rw [eqvAll_bools]
    exact t
  · exact q.elim
end
section
variable {X : Cx}
def zSlT (K : PySem.W.Frag) : V → Option Int → Option Int → Hp → VK → Prop := fun x lo hi H Q => match x with
  | .ref a => ∃ xs, SqT K H a xs ∧ ¬ (HT.sIx xs.length 0 lo = 0 ∧ HT.sIx xs.length xs.length hi = xs.length) ∧ New H (.tup (cutV xs lo hi)) Q
  | _ => False
theorem zslT : SlR X (zSlT X.K) := slM sl_tup fun x lo hi H Q q => by
  unfold zSlT at q
  split at q
  · obtain ⟨xs, h1, h2, q⟩ := q
    exact ⟨_, xs, rfl, h1, h2, q.up⟩
  · exact q.elim
end
theorem kit_own {K : PySem.W.Frag} {D C : Addr} {b : Bool} (h : PySem.W.subIn K (.ref D) (.ref C) = some b) (hd : PySem.W.hasDictIn K C = true) (ht : PySem.W.typeIn K (.ref C) = some (.type "type")) (hs : PySem.W.subIn K (.ref D) (.ref D) = some true) : PySem.W.kitOne K (.ref D) (.ref C) = some b := by
  unfold PySem.W.kitOne
  by_cases e : D = C
  · subst e
    rw [if_pos (beq_self_eq_true _)]
    rw [h] at hs; exact hs.symm
  · have : ¬ ((Value.ref D == Value.ref C) = true) := fun q => e (Value.ref.inj (beq_iff_eq.mp q))
    rw [if_neg this]
    obtain ⟨cd, hc, _⟩ := PySem.W.any_some hd
    show (if ((PySem.W.clsIn K C).isSome && PySem.W.typeIn K (.ref C) == some (.type "type")) = true then PySem.W.subIn K (.ref D) (.ref C) else none) = some b
    rw [hc, ht, if_pos (by rfl)]
    exact h
theorem kit_type {K : PySem.W.Frag} {D : Addr} {T : String} {b : Bool} (h : PySem.W.subIn K (.ref D) (.type T) = some b) (hm : PySem.W.kitMeta T = true) : PySem.W.kitOne K (.ref D) (.type T) = some b := by
  unfold PySem.W.kitOne
  rw [if_neg (show ¬ ((Value.ref D == Value.type T) = true) from fun q => by have := beq_iff_eq.mp q; cases this)]
  show (if PySem.W.kitMeta T = true then PySem.W.subIn K (.ref D) (.type T) else none) = some b
  rw [if_pos hm]
  exact h
/-! ### X('..') as a value, and its text -/
section
variable {X : Cx} {C : Addr} {bmB : List Value} {B newId initId : String} {x : Str} {e : Expr} {te : TE} {p p2 pos : Pos}
def zExT (C : Addr) (te : TE) : TE := fun σ H Q => te σ H fun v H1 => match v with
  | .str m => ∀ a t H', H1 a = none → H' a = some (ExA C a t) → H' t = some (.tup [.str m]) → Same H1 H' → Q (.ref a) H'
  | _ => False
theorem zexcT (F : ExcBaseFacts B newId initId bmB) (q : PySem.W.excIn X.K C bmB newId = true) (gC : X.mg x = some (.ref C)) (kC : PySem.W.keepIn X.K (.ref C) = true) (hg : Gl X x) (he : PE X e te) (hex : X.ex = [] := by rfl)
    (hs : starEach [e] X.env = (false, eval e X.env) :: starEach [] X.env := by rfl) (hdb : (x == ("__debug__" : Str)) = false := by decide) : PE X (.Call (.Name x p) [e] [] pos) (zExT C te) := by
  constructor
  intro pins s σ H Q I h
  have body : wpAny (model X.prog X.w) X.A (spliced ((false, eval e X.env) :: backTo pos (starEach [] X.env))) (fun vs s1 => X.K.In s1.heap ∧ wpAny (model X.prog X.w) X.A (call (.ref C) ([] ++ vs)) (EP X pins σ Q) X.xe s1) X.xe s := by
    refine Calls.spliced_cons (thn (he.run pins s σ H _ I h) ?_)
    rintro u s1 ⟨v, H1, I1, rel, told⟩
    split at told
    case h_2 => exact told.elim
    rename_i m
    obtain ⟨tk, rfl⟩ := rel
    refine Calls.spliced_nil ⟨I1.kIn, ?_⟩
    obtain ⟨_, _, _, _, _, _, _, _, _, _, _, _, _, _, _, _, _, cl, ns, no, tail⟩ := exc_obj I1.kIn q
    refine wpAny_call_exc_subT F tail cl ns no (fun h2 a made => ?_) (by decide : 1 ≤ sizeLine)
    obtain ⟨t, at1, noT, at2⟩ := made.there
    have newT : H1 t = none := HOk.gone I1.hok noT
    have newA : H1 a = none := HOk.gone I1.hok made.new
    have out : ∀ {b : Addr}, (∃ o, s1.heap.get? b = some o) → b ≠ a := by
      rintro b ⟨o, g⟩ rfl
      exact nomatch made.new.symm.trans g
    have differ : a ≠ t := by
      rintro rfl
      cases at1.symm.trans at2
    have laid : Inv X pins σ (upd H1 t (.tup [.str m])) { s1 with heap := h2 } := Inv.laidN (t' := s1.toks) I1 made.keeps noT newT ⟨(by decide : 1 ≤ sizeLine), [.str m tk], .cons ⟨tk, rfl⟩ .nil, ⟨_, at2, rfl, _, rfl⟩⟩
    have free2 : upd H1 t (.tup [.str m]) a = none := (upd_ne differ).trans newA
    have start : X.s_0.heap.get? a = none := by
      cases g : X.s_0.heap.get? a with
      | none => rfl
      | some o => exact absurd rfl (out (I1.base.there a o g (by simp [hex])))
    have both : Inv X pins σ (upd (upd H1 t (.tup [.str m])) a (ExA C a t)) { s1 with heap := h2 } := by
      refine Inv.trackN laid start free2 ?_ ?_ ?_ ⟨at1, ⟨_, at1⟩, fun _ _ g same => same _ g⟩
      · obtain ⟨_, ⟨o, _, _, g, _⟩, _⟩ := I1.loc
        exact (out ⟨o, g⟩).symm
      · intro y c g
        obtain ⟨_, o, g2, _⟩ := I1.cell y c g
        exact out ⟨o, g2⟩
      · exact fun r mr => out ⟨_, (I1.pin r mr).1⟩
    exact ⟨.ref a, _, both, rfl, told a t _ newA upd_same ((upd_ne differ.symm).trans upd_same) ((same_upd newT).trans (same_upd free2))⟩
  refine wpAny_Call_Name_kw (ld_glob I hg gC ?_ hdb)
  exact PySem.W.callWith_K (h₀ := X.base) I.ok.mod.kin kC (by rw [hs]; exact body) hs (by rfl)
/-- str(e) of such a one -/
def zStrT (K : PySem.W.Frag) (te : TE) : TE := fun σ H Q => te σ H fun v H1 => match v with
  | .ref a => ∃ D t m, H1 a = some (ExA D a t) ∧ H1 t = some (.tup [.str m]) ∧ PySem.W.findIn K (.ref D) "__str__" = some (some (.builtin "BaseException.__str__")) ∧ PySem.W.subIn K (.ref D) (.type "BaseException") = some true ∧ Q (.str m) H1
  | _ => False
theorem zstrT (hu : X.A.units + 2 < cLine) (hg : Gl X "str") (hm : X.mg "str" = none) (he : PE X e te)
    (hs : starEach [e] X.env = (false, eval e X.env) :: starEach [] X.env := by rfl) : PE X (.Call (.Name "str" p) [e] [] pos) (zStrT X.K te) := by
  have rule : CallR X (.type "str") fun vs H Q => match vs with
      | [.ref a] => ∃ D t m, H a = some (ExA D a t) ∧ H t = some (.tup [.str m]) ∧ PySem.W.findIn X.K (.ref D) "__str__" = some (some (.builtin "BaseException.__str__")) ∧ PySem.W.subIn X.K (.ref D) (.type "BaseException") = some true ∧ Q (.str m) H
      | _ => False := by
    intro pins s σ H vs us Q I rel told
    split at told
    case h_2 => exact told.elim
    obtain ⟨D, t, m, here, args, f1, f2, q⟩ := told
    cases rel with
    | cons r rest =>
      cases rest
      cases r
      obtain ⟨at1, _, _⟩ := I.hok _ _ here
      obtain ⟨its, vus, tup, _⟩ := I.tuple (.inl (.inl args))
      cases vus with
      | cons r2 rest2 =>
        cases rest2
        obtain ⟨tk, rfl⟩ := r2
        obtain ⟨o, g, tp, n, dv⟩ := tup
        exact P.str_of_C_one hu ⟨I.kIn, _, _, at1, rfl, rfl, rfl⟩ ⟨o, n, g, tp, dv⟩ f1 f2 ⟨.str m, H, I, ⟨tk, rfl⟩, q⟩
  refine peM (pe_callTy rule hg hm (by decide +kernel) (pa_cons (PE.up he) pa_nil hs) (by decide) (by decide) hs (by rfl)) fun σ H Q q => ⟨_, q, fun v H1 q1 => ?_⟩
  cases v with
  | ref a => exact q1
  | _ => exact (show False from q1).elim
end
theorem hu2 {A : Around} {k : Nat} (hr : Room k A) : A.units + 2 < cLine := by have := hr.un; omega
/-- e.f of an exception with a dict -/
def zFldX (K : PySem.W.Frag) (f : Str) (te : TE) : TE := fun σ H Q => te σ H fun x H1 => match x with
  | .ref a => ∃ (D dd : Addr) (fs : List (Str × V)) (v : V), HasEx H1 a D (some dd) ∧ H1 dd = some (.xd fs) ∧ fs.lookup f = some v ∧ XfC K D ∧ PySem.W.findIn K (.ref D) f = some none ∧ Q v H1
  | _ => False
section
variable {X : Cx} {e : Expr} {te : TE} {f : Str} {pos : Pos}
theorem zfldX (he : PE X e te) (hb : attributeBase e f X.env (eval e X.env) = eval e X.env := by rfl) : PE X (.Attribute e f pos) (zFldX X.K f te) := by
  constructor
  intro pins s σ H Q I h
  refine attr_of hb (thn (he.run pins s σ H _ I h) ?_)
  rintro u s1 ⟨x, H1, I1, rel, told⟩
  split at told
  case h_2 => exact told.elim
  obtain ⟨D, dd, fs, v, ex, dict, hit, T, none, q⟩ := told
  cases rel
  obtain ⟨oe, vs, at1, ⟨c1, c2⟩, dv⟩ : ∃ (oe : Obj) (vs : Array Value), s1.heap.get? _ = some oe ∧ Zc (.ref D) (some dd) oe ∧ oe.data = .fields vs := by
    rcases ex.1 with k | ⟨z, _⟩
    · obtain ⟨⟨oe, vs, g, zc, dv⟩, _, _⟩ := I1.hok _ _ k
      exact ⟨oe, vs, g, zc, dv⟩
    · cases z
  obtain ⟨mA, hns, hr⟩ := (I1.hok dd _ dict : ObjOk X.prog X.w H1 s1.heap dd (.xd fs))
  obtain ⟨od, at2, look⟩ := lookIn_ns hns
  obtain ⟨u, hu, ru⟩ := RelO.some_of (v := v) (o := mA f) (by rw [← hit]; exact hr f)
  have J : PySem.W.InstAt s1.heap _ oe D (some od) := ⟨at1, c1, by unfold PySem.W.notCls; rw [dv] <;> rfl, by rw [c2]; exact at2⟩
  exact HandSPX.exc_get I1.kIn J T.ga T.gg T.exC (PySem.W.findObj_own T.hdC none rfl (by rw [look, hu])) (handed_of ru) ⟨v, H1, I1.tok _, ru, q⟩
end
end Z

set_option Elab.async false
set_option linter.all false
set_option maxRecDepth 100000
namespace Z
open PySem L2
section
variable {X : Cx} {a b c e : Expr} {ta tb tc te : TE} {pos : Pos}
/-! ### a < b < c -/
theorem OpR.up {f : Value → Value → Sem Value} {r : R2} (h : OpR X f r) : OpR X f (fun x y H Q => ∃ Q0 : VK, r x y H Q0 ∧ ∀ z H, Q0 z H → Q z H) :=
  fun pins s σ H x y v u Q I rx ry ⟨Q0, h0, m⟩ => thn (h pins s σ H x y v u Q0 I rx ry h0) fun d s1 ⟨z, H1, I1, r1, q1⟩ => ⟨z, H1, I1, r1, m _ _ q1⟩
def zChain (r r' : R2) (ta tb tc : TE) : TE := fun σ H Q => ta σ H fun x H1 => tb σ H1 fun y H2 => r x y H2 fun z H3 => match z with
  | .bl k => (match k with | true => tc σ H3 fun w H4 => r' y w H4 Q | false => Q (.bl false) H3)
  | _ => False
theorem zpcc {op op' : CmpOp} {r r' : R2} (ho : OpR X (compareOp op) r) (ho' : OpR X (compareOp op') r') (ha : PE X a ta) (hb : PE X b tb) (hc : PE X c tc)
    (hm : lastMarks [op, op'] [b, c] = false := by with_unfolding_all rfl) : PT X (.Compare a [op, op'] [b, c] pos) (zT (zChain r r' ta tb tc)) :=
  ptM (pt_chain (OpR.up ho) (OpR.up ho') (PE.up ha) (PE.up hb) (PE.up hc) hm) fun σ H Q q => ⟨_, q, fun x H1 q => ⟨_, q, fun y H2 q => ⟨_, q, fun z H3 q => by
    cases z with
    | bl k =>
      cases k with
      | true =>
        refine ⟨true, rfl, ?_⟩
        rw [if_pos rfl]
        refine ⟨_, q, fun w H4 q => ⟨_, q, fun x H5 q => ?_⟩⟩
        cases x with
        | bl k => exact ⟨k, rfl, q⟩
        | _ => exact (show False from q).elim
      | false =>
        refine ⟨false, rfl, ?_⟩
        rw [if_neg (by decide)]
        exact ⟨false, rfl, q⟩
    | _ => exact (show False from q).elim⟩⟩⟩
end
end Z
namespace Z
open PySem L2 PyProof.Rows
section
variable {prog : Program} {w : World} {A : Around} {E : Value → Shared → Prop} {s : Shared}
/-! ### t[::-1] of a tuple -/
theorem rev_pick (xs : Array Value) : (List.range xs.size).filterMap (fun (k : Nat) => xs[(((xs.size : Int) - 1) + (k : Int) * (-1)).toNat]?) = xs.toList.reverse := by
  have e : (fun (k : Nat) => xs[(((xs.size : Int) - 1) + (k : Int) * (-1)).toNat]?) = (fun j => xs[j]?) ∘ fun k => xs.size - 1 - k := by
    funext k
    have : (((xs.size : Int) - 1) + (k : Int) * (-1)).toNat = xs.size - 1 - k := by omega
    rw [this]; rfl
  rw [e, ← List.filterMap_map, PySem.W.krv_range, List.filterMap_reverse]
  exact congrArg List.reverse (PySem.W.krv_all xs)
theorem adjust_back (n : Nat) : Builtin.Slice.sliceAdjust none none (-1) (n : Int) = ((n : Int) - 1, -1) := by
  unfold Builtin.Slice.sliceAdjust
  simp
theorem places_back (n : Nat) : Builtin.Slice.slicePlaces ((n : Int) - 1) (-1) (-1) = n := by
  unfold Builtin.Slice.slicePlaces
  rw [if_neg (by decide)]
  split
  · have : ((n : Int) - 1 - -1 - 1) / (- -1) + 1 = n := by
      show ((n : Int) - 1 - -1 - 1) / 1 + 1 = n
      rw [Int.ediv_one]; omega
    rw [this]; rfl
  · omega
theorem applied_back {sl : Addr} {vl vu vs : Value} {n : Nat} {Q : Int × Int × Nat → Shared → Prop} (hs : s.heap.IsSliceOf sl vl vu vs) (pl : IsPart vl none) (pu : IsPart vu none) (ps : IsPart vs (some (-1)))
    (h : Q ((n : Int) - 1, -1, n) s) : wpAny (model prog w) A (Builtin.Slice.sliceApplied (.ref sl) (pure (n : Int))) Q E s := by
  obtain ⟨ob, hob, _, hd⟩ := hs
  unfold Builtin.Slice.sliceApplied Builtin.Slice.sliceFields
  have parts : ∀ R : Value × Value × Value → Shared → Prop, R (vl, vu, vs) s → wpAny (model prog w) A (do let a ← field (.ref sl) 0; let b ← field (.ref sl) 1; let c ← field (.ref sl) 2; pure (a, b, c)) R E s := fun R hR =>
    wpAny_bind (wpAny_field hob hd (x := vl) rfl (wpAny_bind (wpAny_field hob hd (x := vu) rfl (wpAny_bind (wpAny_field hob hd (x := vs) rfl (wpAny_pure hR))))))
  refine wpAny_bind (parts _ (wpAny_bind (HT.slicePart_ ps ?_)))
  show wpAny _ _ (if ((-1 : Int) == 0) = true then _ else _) _ _ s
  rw [if_neg (by decide)]
  refine wpAny_bind (HT.slicePart_ pl (wpAny_bind (HT.slicePart_ pu (wpAny_bind (wpAny_pure ?_)))))
  show wpAny _ _ (match Builtin.Slice.sliceAdjust none none (-1) (n : Int) with | (lo, hi) => pure (lo, (-1 : Int), Builtin.Slice.slicePlaces lo hi (-1))) _ _ s
  rw [adjust_back n]
  show wpAny _ _ (pure ((n : Int) - 1, (-1 : Int), Builtin.Slice.slicePlaces ((n : Int) - 1) (-1) (-1))) _ _ s
  rw [places_back]
  exact wpAny_pure h
end
end Z
namespace Z
open PySem L2 PyProof.Rows
section
variable {prog : Program} {w : World} {A : Around} {E : Value → Shared → Prop} {s : Shared}
theorem item_back {t sl : Addr} {items : Array Value} {vl vu vs : Value} {Q : Value → Shared → Prop} (ht : IsTup s.heap t items) (hs : s.heap.IsSliceOf sl vl vu vs) (pl : IsPart vl none) (pu : IsPart vu none) (ps : IsPart vs (some (-1)))
    (hsz : items.size ≤ sizeLine) (h : Q (.ref s.heap.objs.size) { s with heap := s.heap.push { cls := .type "tuple", data := .seq items.toList.reverse.toArray } }) :
    wpAny (model prog w) A (getItem (.ref t) (.ref sl)) Q E s := by
  have fits : sizeOk (.seq items.toList.reverse.toArray) := by
    show items.toList.reverse.toArray.size ≤ sizeLine
    rw [List.size_toArray, List.length_reverse, Array.length_toList]; exact hsz
  have isSlice : s.TypeIs (.ref sl) "slice" := by obtain ⟨ob, hob, hc, _⟩ := hs; exact ⟨ob, hob, hc⟩
  have inner : ∀ (A : Around) (E : Value → Shared → Prop) (P : Fin → Shared → Prop), P (.done (.ret (.ref s.heap.objs.size))) { s with heap := s.heap.push { cls := .type "tuple", data := .seq items.toList.reverse.toArray } } → wpAny (model prog w) A (Builtin.«tuple.__getitem__» ⟨[.ref t, .ref sl], []⟩) P E s := fun A E P hP => by
    show wpAny _ _ (Builtin.Tuple.tupleItemsOf (.ref t) >>= _) P E s
    refine wpAny_bind (tupleItemsOf_ ht (wpAny_bind (wpAny_typeOf isSlice ?_)))
    rw [if_pos (by decide)]
    refine wpAny_bind (applied_back hs pl pu ps ?_)
    have hno : ¬ ((((items.size : Int) - 1) == 0 && ((-1 : Int) == 1) && (items.size == items.size)) = true) := by simp
    show wpAny _ _ (if (((items.size : Int) - 1) == 0 && ((-1 : Int) == 1) && (items.size == items.size)) = true then _ else _) P E s
    rw [if_neg hno]
    have hr := rev_pick items
    rw [hr]
    first
      | exact wpAny_bind (m := Builtin.Tuple.tupleExact _) (wpAny_newObj_type (wpAny_pure hP) fits)
      | exact wpAny_bind (m := Builtin.Tuple.tupleExact _) (wpAny_newObj_type (wpAny_bind (wpAny_pure (wpAny_pure hP))) fits)
  unfold getItem
  try with_reducible refine wpAny_holding ?_
  first | refine wpAny_bind (wpAny_pure ?_) | skip
  exact wpAny_bind (wpAny_sequenceKey ht.typeIs (by decide) (wpAny_bind (wpAny_callSpecial?_slot (name := Str.ofString "__getitem__") ht.typeIs PyProof.Rows.slot_tuple_getitem (wpAny_call_entry PyProof.Rows.slot_tuple_getitem ht.typeIs PyProof.Rows.entry_tuple_getitem
    (inner _ _ _ ⟨_, rfl, wpAny_pure h⟩) (PyProof.Rows.args_tuple_getitem _ _)))))
end
section
variable {X : Cx} {e : Expr} {ta : TE}
def zRevT (K : PySem.W.Frag) (te : TE) : TE := fun σ H Q => te σ H fun x H1 => match x with | .ref a => ∃ xs, SqT K H1 a xs ∧ New H1 (.tup xs.reverse) Q | _ => False
theorem zrevT {k : Nat} {p1 p2 p3 pos : Pos} (he : PE X e ta) : PE X (.Subscript e (.Slice none none (some (.UnaryOp .USub (.Constant (.int 1) k p1) p2)) p3) pos) (zRevT X.K ta) := by
  refine ⟨fun pins s σ H Q I h => Subscript_ (thn ((PE.up he).run pins s σ H _ I ⟨_, h, fun _ _ q => q⟩) fun v s1 ⟨x, H1, I1, r1, q1⟩ => ?_)⟩
  cases x with
  | ref a =>
    obtain ⟨xs, hx, q⟩ := q1
    cases r1
    have part : PO X (some (.UnaryOp .USub (.Constant (.int 1) k p1) p2)) (tPart (tUn (rU fun i => .int (-i)) (tC (.int 1)))) := po_some (pe_un un_neg pe_int)
    refine wpAny_Slice (thn (po_none.run pins s1 σ H1 (fun o G => o = none ∧ G = H1) I1 ⟨rfl, rfl⟩) fun vl s2 ⟨o1, G1, J1, pl, e1, f1⟩ => ?_)
    subst e1 f1
    refine thn (po_none.run pins s2 σ G1 (fun o G => o = none ∧ G = G1) J1 ⟨rfl, rfl⟩) fun vu s3 ⟨o2, G2, J2, pu, e2, f2⟩ => ?_
    subst e2 f2
    refine thn (part.run pins s3 σ G2 (fun o G => o = some (-1) ∧ G = G2) J2 ⟨1, rfl, -1, rfl, rfl, rfl⟩) fun vs s4 ⟨o3, G3, J3, ps, e3, f3⟩ => ?_
    subst e3 f3
    have J4 : Inv X pins σ G3 { s4 with heap := s4.heap.push { cls := .type "slice", data := .fields #[vl, vu, vs] } } := J3.kept (t' := s4.toks) fun b ob z => Heap.get?_push_of_some _ z
    obtain ⟨its, r, hT, hz⟩ := J4.tuple hx
    show wpAny (model X.prog X.w) X.A (subscriptTail e (.Slice none none (some (.UnaryOp .USub (.Constant (.int 1) k p1) p2)) p3) (.ref a) (.ref s4.heap.objs.size)) (EP X pins σ Q) X.xe _
    have hlen := r.length
    refine tail_any (ops := [.ref a, .ref s4.heap.objs.size]) hT.typeIs (PyProof.Rows.slot_tuple_getitem.lookup) ?_ (by with_unfolding_all rfl)
    refine item_back hT (Heap.IsSliceOf.new _ vl vu vs) pl pu ps (by rw [List.size_toArray]; omega) ?_
    refine ⟨.ref _, _, J4.laid (t' := s4.toks) (o := .tup xs.reverse) (fun b ob z => Heap.get?_push_of_some _ z) (Nat.le_refl _) ?_, rfl, q.up _ (J4.hok.fresh (Nat.le_refl _))⟩
    exact ⟨by rw [List.length_reverse]; exact hz, _, r.reverse, IsTup.new _ _⟩
  | _ => exact (show False from q1).elim
end
end Z
namespace Z
open PySem L2
section
variable {X : Cx}
/-! ### i << j -/
theorem bits_lt {i : Int} {k : Nat} (h : Builtin.Int.intBits i ≤ k) : i.natAbs < 2 ^ k := by
  unfold Builtin.Int.intBits at h
  by_cases z : i = 0
  · subst z
    exact Nat.pow_pos (by decide)
  · rw [if_neg (by simpa using z)] at h
    exact Nat.lt_of_lt_of_le Nat.lt_log2_self (Nat.pow_le_pow_right (by decide) h)
theorem bits_le {i : Int} {k : Nat} (h : i.natAbs < 2 ^ k) : Builtin.Int.intBits i ≤ k := by
  unfold Builtin.Int.intBits
  by_cases z : i = 0
  · subst z
    exact Nat.zero_le _
  · rw [if_neg (by simpa using z)]
    exact (Nat.log2_lt (by omega)).mpr h
theorem zshl : OpR X (binaryOp .LShift) (zI (fun i j => 0 ≤ j ∧ ∃ k : Nat, i.natAbs < 2 ^ k ∧ (k : Int) + j ≤ 134217728) fun i j => .int (i * 2 ^ j.toNat)) := zI_of <| by
  refine opM op_shlW fun x y H Q q => ?_
  obtain ⟨i, j, e1, e2, ⟨h0, k, h1, h2⟩, q⟩ := q
  have := bits_le h1
  exact ⟨i, j, e1, e2, ⟨h0, by
    show (Builtin.Int.intBits i : Int) + j ≤ 134217728
    omega⟩, q⟩
/-! ### isinstance of an exception, by a tuple of classes -/
def zIsXT (K : PySem.W.Frag) : List V → Hp → VK → Prop := fun xs H Q => match xs with
  | [.ref a, .ref tp] => ∃ (D : Addr) (d : Option Addr) (cs : List V) (us : List Value) (b : Bool), HasEx H a D d ∧ ExcC K D ∧ H tp = some (.tup cs) ∧ Paired ClsV cs us ∧ PySem.W.kitAny K (.ref D) us = some b ∧ Q (.bl b) H
  | _ => False
theorem zisXT : CallR X (.builtin "isinstance") (zIsXT X.K) := by
  intro pins s σ H xs us Q I r h
  unfold zIsXT at h
  split at h
  · rename_i a tp
    obtain ⟨D, d, cs, ws, b, hx, C, hT, k, e, q⟩ := h
    obtain ⟨u1, u2, rfl, r1, r2⟩ := vals2 r
    cases r1; cases r2
    obtain ⟨oe, od, J⟩ := inst_of I hx
    have hcl : (PySem.W.clsIn X.K D).isSome = true := by obtain ⟨cd, hc, _⟩ := PySem.W.any_some C.hd; rw [hc]; rfl
    obtain ⟨_, its, rv, ⟨oc, od2, dt, sl⟩, g1, g2, n, g3⟩ := (show ObjOk X.prog X.w H s.heap tp (.tup cs) from I.hok tp _ hT)
    have e3 := ClsV.all k rv
    subst e3
    simp only at g2 g3
    subst g2 g3
    exact PySem.W.kia_tup (PySem.W.kitx_exc hcl C.hg C.hk C.hs C.ha C.hn C.ht C.hm) I.kIn J g1 e (fun z => nomatch z) fun tk => ⟨.bl b, H, I.kept (t' := tk) fun _ _ z => z, rfl, q⟩
  · exact h.elim
end
end Z
namespace Z
open PySem L2
section
variable {X : Cx}
theorem zinsert : MtR X "list.insert" (fun x vs H Q => match x, vs with | .ref l, [.int i, y] => ∃ xs, H l = some (.lst xs) ∧ xs.length < sizeLine ∧ (0 ≤ i ∧ i < 9223372036854775808) ∧ Wr H l (.lst (xs.take i.toNat ++ [y] ++ xs.drop i.toNat)) (Q .non) | _, _ => False) :=
  mtM mt_insert fun x vs H Q q => by
    split at q
    · obtain ⟨xs, h1, h2, h3, q⟩ := q
      exact ⟨_, xs, _, _, rfl, rfl, h1, h2, h3.1, h3.2, Wr.up h1 q⟩
    · exact q.elim
end
end Z
namespace Z
open PySem L2
section
variable {X : Cx}
/-- an index in a comprehension: the fragment by its own name -/
theorem zixLK {K : PySem.W.Frag} (h : X.K = K) : IxR X (zIxL K) := h ▸ zixL
theorem zixTK {K : PySem.W.Frag} (h : X.K = K) : IxR X (zIxT K) := h ▸ zixT
end
end Z
namespace Z
open PySem L2
section
variable {X : Cx}
/-! ### == of data that lies deeper -/
def zEqD (K : PySem.W.Frag) (a b : Bool) : R2 := fun x y H Q => ∃ d e, Dp K H x d ∧ Dp K H y e ∧ (SeqAt.shaped d = true ∧ SeqAt.shaped e = true) ∧ Two (PyData.eqv d e = true) (Q (.bl a) H) (Q (.bl b) H)
theorem zeqD (hu : X.A.units + 64 < cLine) : OpR X (compareOp .Eq) (zEqD X.K true false) := opM (op_eqD hu) fun x y H Q q => by
  obtain ⟨d, e, h1, h2, ⟨s1, s2⟩, t⟩ := q
  refine ⟨d, e, h1, h2, s1, s2, ?_⟩
  cases hv : PyData.eqv d e with
  | true => exact t.1 hv
  | false => exact t.2 (by rw [hv]; exact Bool.false_ne_true)
theorem zneD (hu : X.A.units + 64 < cLine) : OpR X (compareOp .NotEq) (zEqD X.K false true) := opM (op_neD hu) fun x y H Q q => by
  obtain ⟨d, e, h1, h2, ⟨s1, s2⟩, t⟩ := q
  refine ⟨d, e, h1, h2, s1, s2, ?_⟩
  cases hv : PyData.eqv d e with
  | true => exact t.1 hv
  | false => exact t.2 (by rw [hv]; exact Bool.false_ne_true)
end
end Z
namespace Z
open PySem L2
section
variable {X : Cx}
/-! ### the greatest and the least of a list of numbers, the place of one -/
theorem zmaxL (hc : X.calm = true) : CallR X (.builtin "max") (fun vs H Q => match vs with | [.ref a] => ∃ ns : List Int, SqL X.K H a (ns.map V.int) ∧ 0 < ns.length ∧ ∀ m, m ∈ ns → (∀ y, y ∈ ns → y ≤ m) → Q (.int m) H | _ => False) := callM (cr_max hc) fun vs H Q q => by
  split at q
  · obtain ⟨ns, h⟩ := q
    exact ⟨_, ns, rfl, h⟩
  · exact q.elim
theorem zminL (hc : X.calm = true) : CallR X (.builtin "min") (fun vs H Q => match vs with | [.ref a] => ∃ ns : List Int, SqL X.K H a (ns.map V.int) ∧ 0 < ns.length ∧ ∀ m, m ∈ ns → (∀ y, y ∈ ns → m ≤ y) → Q (.int m) H | _ => False) := callM (cr_min hc) fun vs H Q q => by
  split at q
  · obtain ⟨ns, h⟩ := q
    exact ⟨_, ns, rfl, h⟩
  · exact q.elim
theorem zindex : MtR X "list.index" (fun x vs H Q => match x, vs with | .ref a, [.int y] => ∃ (ns : List Int) (j : Nat), SqL X.K H a (ns.map V.int) ∧ ns[j]? = some y ∧ (∀ m z, m < j → ns[m]? = some z → z ≠ y) ∧ Q (.int (j : Nat)) H | _, _ => False) := mtM mt_index fun x vs H Q q => by
  split at q
  · obtain ⟨ns, j, h1, h2, h3, q⟩ := q
    refine ⟨_, ns.map V.int, _, j, _, rfl, rfl, h1, rfl, ?_, by rw [List.getElem?_map, h2]; rfl, ?_, fun m z hm hz => ?_, q⟩
    · rw [List.all_eq_true]
      intro v hv
      obtain ⟨n, _, rfl⟩ := List.mem_map.mp hv
      rfl
    · simp [eqV]
    · rw [List.getElem?_map] at hz
      cases hc : ns[m]? with
      | none => rw [hc] at hz; cases hz
      | some n =>
        rw [hc] at hz; cases hz
        have := h3 m n hm hc
        simpa [eqV] using this
  · exact q.elim
end
end Z
namespace Z
open PySem L2 PyProof.Rows
/-! ### xs[-2::-1] of a list -/
theorem pick_back2 (items : Array Value) (h : 1 ≤ items.size) : slicePick items (some (-2)) none (some (-1)) = (items.toList.take (items.size - 1)).reverse.toArray := by
  have e1 : sliceBounds (some (-2)) none (some (-1)) items.size = (((items.size - 1 : Nat) : Int) - 1, -1, -1) := by
    unfold sliceBounds
    simp
    omega
  unfold slicePick
  rw [e1]
  dsimp only
  rw [PySem.W.krv_sliceRange, PySem.W.krv_range, List.filterMap_reverse]
  congr 2
  have : ∀ m, m ≤ items.size → (List.range m).filterMap (fun j => items[j]?) = items.toList.take m := by
    intro m
    induction m with
    | zero => intro _; rfl
    | succ m ih =>
      intro hm
      rw [List.range_succ, List.filterMap_append, ih (by omega), List.take_add_one]
      congr 1
      have h2 : m < items.size := by omega
      rw [List.getElem?_eq_getElem (by simpa using h2)]
      simp [h2]
  exact this _ (by omega)
section
variable {X : Cx} {e : Expr} {ta : TE}
def zRev2 (K : PySem.W.Frag) (te : TE) : TE := fun σ H Q => te σ H fun x H1 => match x with | .ref a => ∃ xs, SqL K H1 a xs ∧ 1 ≤ xs.length ∧ New H1 (.lst (xs.take (xs.length - 1)).reverse) Q | _ => False
theorem zrev2 {k k2 : Nat} {p1 p2 p3 p4 p5 pos : Pos} (he : PE X e ta) : PE X (.Subscript e (.Slice (some (.UnaryOp .USub (.Constant (.int 2) k2 p4) p5)) none (some (.UnaryOp .USub (.Constant (.int 1) k p1) p2)) p3) pos) (zRev2 X.K ta) := by
  refine ⟨fun pins s σ H Q I h => Subscript_ (thn ((PE.up he).run pins s σ H _ I ⟨_, h, fun _ _ q => q⟩) fun v s1 ⟨x, H1, I1, r1, q1⟩ => ?_)⟩
  cases x with
  | ref a =>
    obtain ⟨xs, hx, hx1, q⟩ := q1
    cases r1
    have part : ∀ (n : Int) (kk : Nat) (pa pb : Pos), PO X (some (.UnaryOp .USub (.Constant (.int n) kk pa) pb)) (tPart (tUn (rU fun i => .int (-i)) (tC (.int n)))) := fun n kk pa pb => po_some (pe_un un_neg pe_int)
    refine wpAny_Slice (thn ((part 2 k2 p4 p5).run pins s1 σ H1 (fun o G => o = some (-2) ∧ G = H1) I1 ⟨2, rfl, -2, rfl, rfl, rfl⟩) fun vl s2 ⟨o1, G1, J1, pl, e1, f1⟩ => ?_)
    subst e1 f1
    refine thn (po_none.run pins s2 σ G1 (fun o G => o = none ∧ G = G1) J1 ⟨rfl, rfl⟩) fun vu s3 ⟨o2, G2, J2, pu, e2, f2⟩ => ?_
    subst e2 f2
    refine thn ((part 1 k p1 p2).run pins s3 σ G2 (fun o G => o = some (-1) ∧ G = G2) J2 ⟨1, rfl, -1, rfl, rfl, rfl⟩) fun vs s4 ⟨o3, G3, J3, ps, e3, f3⟩ => ?_
    subst e3 f3
    have J4 : Inv X pins σ G3 { s4 with heap := s4.heap.push { cls := .type "slice", data := .fields #[vl, vu, vs] } } := J3.kept (t' := s4.toks) fun b ob z => Heap.get?_push_of_some _ z
    obtain ⟨its, r, hT, hz⟩ := J4.list hx
    show wpAny (model X.prog X.w) X.A (subscriptTail e (.Slice (some (.UnaryOp .USub (.Constant (.int 2) k2 p4) p5)) none (some (.UnaryOp .USub (.Constant (.int 1) k p1) p2)) p3) (.ref a) (.ref s4.heap.objs.size)) (EP X pins σ Q) X.xe _
    have hlen := r.length
    refine tail_any (ops := [.ref a, .ref s4.heap.objs.size]) hT.isList.typeIs (PySem.slot_list_getitem.lookup) ?_ (by with_unfolding_all rfl)
    refine wpAny_getItem_list_slice hT.isList (Heap.IsSliceOf.new _ vl vu vs) pl pu ps (by decide) ?_ (by rw [List.size_toArray]; omega)
    rw [pick_back2 _ (by rw [List.size_toArray]; omega)]
    have e4 : (its.toArray.toList.take (its.toArray.size - 1)).reverse = (its.take (xs.length - 1)).reverse := by rw [List.size_toArray, ← hlen]
    rw [e4]
    refine ⟨.ref _, _, J4.laid (t' := s4.toks) (o := .lst (xs.take (xs.length - 1)).reverse) (fun b ob z => Heap.get?_push_of_some _ z) (Nat.le_refl _) ?_, rfl, q.up _ (J4.hok.fresh (Nat.le_refl _))⟩
    exact ⟨by rw [List.length_reverse, List.length_take]; omega, _, 0, (r.take _).reverse, Heap.get?_push_size _ rfl⟩
  | _ => exact (show False from q1).elim
end
end Z

set_option Elab.async false
set_option linter.all false
set_option maxRecDepth 100000
/-! objects of own classes -/
namespace Z
open PySem PySem.Spec PyProof.Rows L2
theorem Keep.fresh {d p : Addr} {H H1 H2 : Hp} (n : H p = none) (a : Keep d H H1) (b : Keep p H1 H2) : Keep d H H2 := fun x u nx hx => b x u (ne_of_none hx n) (a x u nx hx)
theorem same_fresh {p : Addr} {H H1 H2 : Hp} (n : H p = none) (a : Same H H1) (b : Keep p H1 H2) : Same H H2 := fun x u hx => b x u (ne_of_none hx n) (a x u hx)
/-- a method of the class C, that raises nothing -/
structure CalM (P : Program) (w : World) (K : PySem.W.Frag) (mg : Str → Option Value) (base : Heap) (k : Nat) (C : Addr) (m : Str) (ps : List Str) (sp : Sp) : Prop where
  ex : ∃ (f : Addr) (fd : FuncData), FnOk P w K mg base CX0 k f fd ps sp ∧ Binds K fd ps [] ∧ Meth K C m f
/-- .. that may raise -/
structure CalMX (P : Program) (w : World) (K : PySem.W.Frag) (mg : Str → Option Value) (base : Heap) (k : Nat) (C : Addr) (m : Str) (ps : List Str) (sp : Sp) : Prop where
  ex : ∃ (f : Addr) (fd : FuncData), FnOk P w K mg base (L2.CX P w) k f fd ps sp ∧ Binds K fd ps [] ∧ Meth K C m f
/-- what makes an object of the class C -/
structure CalI (P : Program) (w : World) (K : PySem.W.Frag) (mg : Str → Option Value) (base : Heap) (k : Nat) (C : Addr) (ps : List Str) (sp : Sp) : Prop where
  ex : ∃ (f : Addr) (fd : FuncData), FnOk P w K mg base CX0 k f fd ps sp ∧ Binds K fd ps [] ∧ Mk K C f
structure DefAtM (K : PySem.W.Frag) (C : Addr) (m q : Str) (st : Stmt) (ps : List Str) : Prop where
  ex : ∃ (f : Addr) (fd : FuncData), Fun K m q st f fd ∧ Binds K fd ps [] ∧ Meth K C m f
structure DefAtI (K : PySem.W.Frag) (C : Addr) (q : Str) (st : Stmt) (ps : List Str) : Prop where
  ex : ∃ (f : Addr) (fd : FuncData), Fun K "__init__" q st f fd ∧ Binds K fd ps [] ∧ Mk K C f
section
variable {P : Program} {w : World} {K : PySem.W.Frag} {mg : Str → Option Value} {base : Heap} {C : Addr}
theorem mkCalM {m q : Str} {st : Stmt} {N ps : List Str} {k : Nat} {sp : Sp} (D : DefAtM K C m q st ps) (S : FnScope N ps (defScope st)) (len : ∀ vs H Q E, sp vs H Q E → vs.length = ps.length)
    (hbody : ∀ (f : Addr) (cdv : Value) (A : Around) (outer : List Env) (s : Shared) (H : Hp) (vs : List V) (Q : VK) (E : XK), Room k (A.deeper (envOfC q (defScope st) s.heap.objs.size f cdv)) → sp vs H Q E →
      ∃ t, PSs (cxOf CX0 P w K mg base N q (defScope st) f cdv A outer s H E).nox (defBody st) t ∧ t { nx := fun _ H' => Q .non H', rt := Q } (start N vs) H) : CalM P w K mg base (k + 1) C m ps sp := by
  obtain ⟨f, fd, F, b, m⟩ := D
  exact ⟨f, fd, F.ok S len (hbody f), b, m⟩
theorem mkCalI {q : Str} {st : Stmt} {N ps : List Str} {k : Nat} {sp : Sp} (D : DefAtI K C q st ps) (S : FnScope N ps (defScope st)) (len : ∀ vs H Q E, sp vs H Q E → vs.length = ps.length)
    (hbody : ∀ (f : Addr) (cdv : Value) (A : Around) (outer : List Env) (s : Shared) (H : Hp) (vs : List V) (Q : VK) (E : XK), Room k (A.deeper (envOfC q (defScope st) s.heap.objs.size f cdv)) → sp vs H Q E →
      ∃ t, PSs (cxOf CX0 P w K mg base N q (defScope st) f cdv A outer s H E).nox (defBody st) t ∧ t { nx := fun _ H' => Q .non H', rt := Q } (start N vs) H) : CalI P w K mg base (k + 1) C ps sp := by
  obtain ⟨f, fd, F, b, m⟩ := D
  exact ⟨f, fd, F.ok S len (hbody f), b, m⟩
theorem mkCalMX {m q : Str} {st : Stmt} {N ps : List Str} {k : Nat} {sp : Sp} (D : DefAtM K C m q st ps) (S : FnScope N ps (defScope st)) (len : ∀ vs H Q E, sp vs H Q E → vs.length = ps.length)
    (hbody : ∀ (f : Addr) (cdv : Value) (A : Around) (outer : List Env) (s : Shared) (H : Hp) (vs : List V) (Q : VK) (E : XK), Room k (A.deeper (envOfC q (defScope st) s.heap.objs.size f cdv)) → sp vs H Q E →
      ∃ t, PSs (cxOf (L2.CX P w) P w K mg base N q (defScope st) f cdv A outer s H E) (defBody st) t ∧ t { nx := fun _ H' => Q .non H', rt := Q } (start N vs) H) : CalMX P w K mg base (k + 1) C m ps sp := by
  obtain ⟨f, fd, F, b, m⟩ := D
  exact ⟨f, fd, F.okX S len (hbody f), b, m⟩
theorem CalM.mono {j k : Nat} {m : Str} {ps : List Str} {sp : Sp} (c : CalM P w K mg base j C m ps sp) (h : j ≤ k) : CalM P w K mg base k C m ps sp := by
  obtain ⟨f, fd, F, r⟩ := c
  exact ⟨f, fd, F.mono h, r⟩
end
/-! fields -/
section
variable {X : Cx} {o e value : Expr} {f : Str} {pos pos' tpos : Pos} {ta tv : TE} {C : Addr}
def zFldO (C : Addr) (f : Str) (ta : TE) : TE := fun σ H Q => ta σ H fun x H1 => match x with
  | .ref a => ∃ dx fs v, H1 a = some (.ins C dx fs) ∧ fs.lookup f = some v ∧ Q v H1
  | _ => False
theorem zfldO (c : Cls X.K C) (n : NoAttr X.K C f) (he : PE X e ta) (hb : attributeBase e f X.env (eval e X.env) = eval e X.env := by rfl) : PE X (.Attribute e f pos) (zFldO C f ta) :=
  peM (pe_fld (PE.up he) hb) fun σ H Q q => ⟨_, q, fun x H1 q1 => by
    cases x with
    | ref a =>
      obtain ⟨dx, fs, v, h1, h2, q⟩ := q1
      exact ⟨a, C, dx, fs, v, rfl, h1, c, n, h2, q⟩
    | _ => exact (show False from q1).elim⟩
def zFldS (C : Addr) (f : Str) (ta tv : TE) : TS := fun D σ H => tv σ H fun y H1 => ta σ H1 fun x H2 => match x with
  | .ref a => ∃ dx fs, H2 a = some (.ins C dx fs) ∧ fs.length < 1000 ∧ Wr H2 a (.ins C dx (putF f y fs)) (D.nx σ)
  | _ => False
theorem zps_fld (c : Cls X.K C) (n : NoAttr X.K C f) (he : PE X o ta) (hv : PE X value tv) (hs : swapsWithSole [.Attribute o f pos'] value pos.line X.env = pure false := by rfl) (hw : swapsWith value (some (.Attribute o f pos')) pos.line X.env = pure false := by rfl) : PS X (.Assign [.Attribute o f pos'] value pos) (zFldS C f ta tv) := by
  refine ⟨fun pins s σ H D I h => ?_⟩
  refine (ps_fld (PE.up he) (PE.up hv) hw).run pins s σ H D I ⟨_, h, fun y H1 q1 => ⟨_, q1, fun x H2 q2 => ?_⟩⟩
  cases x with
  | ref a =>
    obtain ⟨dx, fs, h1, h2, q⟩ := q2
    exact ⟨a, C, dx, fs, rfl, h1, c, n, h2, q.up h1⟩
  | _ => exact (show False from q2).elim
def zFldA (C : Addr) (f : Str) (ta tv : TE) (rd : V → V → Hp → VK → Prop) : TS := fun D σ H => ta σ H fun x H1 => match x with
  | .ref a => ∃ dx fs v, H1 a = some (.ins C dx fs) ∧ fs.lookup f = some v ∧ tv σ H1 fun y H2 => rd v y H2 fun z H3 => ∃ dx' fs', H3 a = some (.ins C dx' fs') ∧ fs'.length < 1000 ∧ Wr H3 a (.ins C dx' (putF f z fs')) (D.nx σ)
  | _ => False
def rdUp (rd : V → V → Hp → VK → Prop) : V → V → Hp → VK → Prop := fun x y H Q => ∃ Q0 : VK, rd x y H Q0 ∧ ∀ z H, Q0 z H → Q z H
theorem inOpUp {op : Operator} {rd : V → V → Hp → VK → Prop} (h : InOp X op rd) : InOp X op (rdUp rd) := fun pins s σ H x y u v Q I rx ry ⟨Q0, q, m⟩ =>
  thn (h pins s σ H x y u v Q0 I rx ry q) fun w s1 ⟨z, H1, I1, r1, q1⟩ => ⟨z, H1, I1, r1, m _ _ q1⟩
theorem zps_fldaug {op : Operator} {rd : V → V → Hp → VK → Prop} (c : Cls X.K C) (n : NoAttr X.K C f) (he : PE X o ta) (hv : PE X value tv) (hop : InOp X op rd) : PS X (.AugAssign (.Attribute o f tpos) op value pos) (zFldA C f ta tv rd) := by
  refine ⟨fun pins s σ H D I h => ?_⟩
  refine (ps_fldaug (PE.up he) (PE.up hv) (inOpUp hop)).run pins s σ H D I ⟨_, h, fun x H1 q1 => ?_⟩
  cases x with
  | ref a =>
    obtain ⟨dx, fs, v, h1, h2, q⟩ := q1
    refine ⟨a, C, dx, fs, v, rfl, h1, c, n, h2, _, q, fun y H2 q2 => ⟨_, q2, fun z H3 q3 => ?_⟩⟩
    obtain ⟨dx', fs', h3, h4, q⟩ := q3
    exact ⟨dx', fs', h3, h4, q.up h3⟩
  | _ => exact (show False from q1).elim
/-! methods -/
variable {m : Str} {k : Nat} {ps : List Str} {sp : Sp} {es : List Expr} {t : TA} {apos p : Pos}
def zMeth (C : Addr) (m : Str) (sp : Sp) (E : XK) (ta : TE) (t : TA) : TE := fun σ H Q => ta σ H fun x H1 => match x with
  | .ref a => ∃ dx fs, H1 a = some (.ins C dx fs) ∧ fs.lookup m = none ∧ t σ H1 fun vs H2 => sp (.ref a :: vs) H2 Q E
  | _ => False
theorem zmeth_of {dvs : List V} {E : XK} {σ : L2.St} {H : Hp} {Q : VK} (q : zMeth C m sp E ta t σ H Q) : tMeth C m sp [] E (fun σ H Q => ∃ Q0 : VK, ta σ H Q0 ∧ ∀ b H, Q0 b H → Q b H) (fun σ H Q => ∃ Q0 : List V → Hp → Prop, t σ H Q0 ∧ ∀ b H, Q0 b H → Q b H) σ H Q := ⟨_, q, fun x H1 q1 => by
    cases x with
    | ref a =>
      obtain ⟨dx, fs, h1, h2, q⟩ := q1
      exact ⟨a, dx, fs, rfl, h1, h2, _, q, fun vs H2 q => by
        show sp (V.ref a :: (vs ++ [])) H2 Q E
        rw [List.append_nil]; exact q⟩
    | _ => exact (show False from q1).elim⟩
theorem zmeth {pl : Sem Bool} (c : Cls X.K C) (M : CalM X.prog X.w X.K X.mg X.base k C m ps sp) (hr : Room k X.A) (he : PE X o ta) (ha : PA X (e :: es) t)
    (hst : starEach (e :: es) X.env = (false, eval e X.env) :: starEach es X.env := by rfl) (hpl : (backTo pos (starEach es X.env)).any (·.1) = false := by rfl)
    (ht : eval (.Call (.Attribute o m apos) (e :: es) [] pos) X.env = (do
      let ov ← eval o X.env
      standAt apos.atName
      let (f, first) ← holding [ov] (getMethod ov m pl)
      callWith pos f first (backTo pos (starEach (e :: es) X.env)) (backToKw pos (keywordEach [] X.env))) := by rfl) :
    PE X (.Call (.Attribute o m apos) (e :: es) [] pos) (zMeth C m sp E0 ta t) := by
  obtain ⟨f, fd, F, b, hm⟩ := M
  exact peM (pe_meth (PE.up he) c hm F hr b .nil pass0 (PA.up ha) hst hpl ht) fun σ H Q q => zmeth_of (dvs := []) q
theorem zmeth0 {pl : Sem Bool} (c : Cls X.K C) (M : CalM X.prog X.w X.K X.mg X.base k C m ps sp) (hr : Room k X.A) (he : PE X o ta)
    (ht : eval (.Call (.Attribute o m apos) [] [] pos) X.env = (do
      let ov ← eval o X.env
      standAt apos.atName
      let (f, first) ← holding [ov] (getMethod ov m pl)
      callWith pos f first (backTo pos (starEach [] X.env)) (backToKw pos (keywordEach [] X.env))) := by rfl) :
    PE X (.Call (.Attribute o m apos) [] [] pos) (zMeth C m sp E0 ta tNil) := by
  obtain ⟨f, fd, F, b, hm⟩ := M
  exact peM (pe_meth0 (PE.up he) c hm F hr b .nil pass0 ht) fun σ H Q q => ⟨_, q, fun x H1 q1 => by
    cases x with
    | ref a =>
      obtain ⟨dx, fs, h1, h2, q⟩ := q1
      exact ⟨a, dx, fs, rfl, h1, h2, q⟩
    | _ => exact (show False from q1).elim⟩
/-- a method that may raise, and does not here -/
theorem zmethL {pl : Sem Bool} (c : Cls X.K C) (M : CalMX X.prog X.w X.K X.mg X.base k C m ps sp) (hr : Room k X.A) (he : PE X o ta) (ha : PA X (e :: es) t)
    (hst : starEach (e :: es) X.env = (false, eval e X.env) :: starEach es X.env := by rfl) (hpl : (backTo pos (starEach es X.env)).any (·.1) = false := by rfl)
    (ht : eval (.Call (.Attribute o m apos) (e :: es) [] pos) X.env = (do
      let ov ← eval o X.env
      standAt apos.atName
      let (f, first) ← holding [ov] (getMethod ov m pl)
      callWith pos f first (backTo pos (starEach (e :: es) X.env)) (backToKw pos (keywordEach [] X.env))) := by rfl) :
    PE X (.Call (.Attribute o m apos) (e :: es) [] pos) (zMeth C m sp E0 ta t) := by
  obtain ⟨f, fd, F, b, hm⟩ := M
  exact peM (pe_meth (PE.up he) c hm F hr b .nil passL (PA.up ha) hst hpl ht) fun σ H Q q => zmeth_of (dvs := []) q
/-- .. and may do so here: what is in the air is taken by W -/
def zMethX (C : Addr) (m : Str) (sp : Sp) (W : WX) (ta : TE) (t : TA) : TE := fun σ H Q => ta σ H fun x H1 => match x with
  | .ref a => ∃ dx fs, H1 a = some (.ins C dx fs) ∧ fs.lookup m = none ∧ t σ H1 fun vs H2 => sp (.ref a :: vs) H2 Q (WE W σ)
  | _ => False
theorem zmethX {pl : Sem Bool} {W : WX} (c : Cls X.K C) (M : CalMX X.prog X.w X.K X.mg X.base k C m ps sp) (hr : Room k X.A) (tk : Takes X W) (he : PE X o ta) (ha : PA X (e :: es) t)
    (hst : starEach (e :: es) X.env = (false, eval e X.env) :: starEach es X.env := by rfl) (hpl : (backTo pos (starEach es X.env)).any (·.1) = false := by rfl)
    (ht : eval (.Call (.Attribute o m apos) (e :: es) [] pos) X.env = (do
      let ov ← eval o X.env
      standAt apos.atName
      let (f, first) ← holding [ov] (getMethod ov m pl)
      callWith pos f first (backTo pos (starEach (e :: es) X.env)) (backToKw pos (keywordEach [] X.env))) := by rfl) :
    PE X (.Call (.Attribute o m apos) (e :: es) [] pos) (zMethX C m sp W ta t) := by
  obtain ⟨f, fd, F, b, hm⟩ := M
  refine ⟨fun pins s σ H Q I h => ?_⟩
  refine PySem.W.methodCall_KW (pl := pl) (thn (he.run pins s σ H _ I h) fun u s1 ⟨x, H1, I1, rx, q1⟩ => ?_) ht
  cases x with
  | ref a =>
    obtain ⟨dx, fs, ea, l, q⟩ := q1
    obtain rfl : u = Value.ref a := rx
    refine getmeth_ok I1 ea c hm l ?_
    refine PySem.W.callWith_K (h₀ := X.base) (first := [.ref a]) I.ok.mod.kin hm.kp (thn (ha.run pos pins s1 σ H1 _ I1 q) fun us s2 ⟨vs, H2, I2, r, q2⟩ => ⟨I2.kIn, ?_⟩) hst hpl
    exact run_fnS (us := .ref a :: us) (vs := .ref a :: vs) F hr b (passAt tk σ) I2 (.cons rfl r) q2
  | _ => exact (show False from q1).elim
/-- making an object -/
def zMake (C : Addr) (sp : Sp) (t : TA) : TE := fun σ H Q => t σ H fun vs H1 => ∀ x dx H', H1 x = none → H' x = some (.ins C dx []) → Same H1 H' → sp (.ref x :: vs) H' (fun v H2 => v = .non ∧ Q (.ref x) H2) E0
theorem zmake {x : Str} (M : CalI X.prog X.w X.K X.mg X.base k C ps sp) (hr : Room (k + 1) X.A) (hg : Gl X x) (hm : X.mg x = some (.ref C)) (ha : PA X (e :: es) t) (hdb : (x == ("__debug__" : Str)) = false := by decide)
    (he : starEach (e :: es) X.env = (false, eval e X.env) :: starEach es X.env := by rfl) (hpl : (backTo pos (starEach es X.env)).any (·.1) = false := by rfl) :
    PE X (.Call (.Name x p) (e :: es) [] pos) (zMake C sp t) := by
  obtain ⟨f, fd, F, b, M⟩ := M
  refine peM (pe_make M F hr hg hm b .nil pass0 (PA.up ha) hdb he hpl) fun σ H Q q => ⟨_, q, fun vs H1 q1 y dx h1 h2 h3 => ?_⟩
  rw [List.append_nil]
  refine q1 y dx _ h1 upd_same fun a o ha => ?_
  rw [upd_ne (ne_of_none ha h1), upd_ne (ne_of_none ha h2)]
  exact ha
theorem zmake0 {x : Str} (M : CalI X.prog X.w X.K X.mg X.base k C ps sp) (hr : Room (k + 1) X.A) (hg : Gl X x) (hm : X.mg x = some (.ref C)) (hdb : (x == ("__debug__" : Str)) = false := by decide) :
    PE X (.Call (.Name x p) [] [] pos) (zMake C sp tNil) := by
  obtain ⟨f, fd, F, b, M⟩ := M
  refine peM (pe_make0 M F hr hg hm b .nil pass0 hdb) fun σ H Q q y dx h1 h2 h3 => ?_
  refine q y dx _ h1 upd_same fun a o ha => ?_
  rw [upd_ne (ne_of_none ha h1), upd_ne (ne_of_none ha h2)]
  exact ha
end
end Z

set_option Elab.async false
set_option linter.all false
set_option maxRecDepth 100000
/-! count and index in lists of bools -/
namespace Z
open PySem PySem.Spec PyProof.Rows L2
section
variable {X : Cx}
theorem plain_bools : ∀ ns : List Bool, PyData.plainAll (ns.map PyData.bool) = true
  | [] => rfl
  | n :: ns => by
    show (PyData.plain (.bool n) && PyData.plainAll (ns.map PyData.bool)) = true
    rw [plain_bools ns]; rfl
theorem countP_bools (y : Bool) : ∀ ns : List Bool, (ns.map PyData.bool).countP (fun z => PyData.eqv z (.bool y)) = ns.count y
  | [] => rfl
  | n :: ns => by
    rw [List.map_cons, List.countP_cons, countP_bools y ns, List.count_cons]
    have e : PyData.eqv (.bool n) (.bool y) = (n == y) := by cases n <;> cases y <;> rfl
    rw [e]
theorem zcountB (hu : X.A.units + 64 < cLine) : MtR X "list.count" (fun x vs H Q => match x, vs with | .ref p, [.bl y] => ∃ ns : List Bool, SqL X.K H p (ns.map V.bl) ∧ Q (.int (ns.count y : Nat)) H | _, _ => False) := by
  intro pins s σ H x xs v us Q I rx rxs h
  split at h
  · rename_i p y
    obtain ⟨ns, hs, q⟩ := h
    cases rx
    obtain ⟨u, rfl, ru⟩ := rxs.one
    obtain ⟨its, rv, hl, hlen⟩ := I.list hs
    obtain ⟨as, h4⟩ := Dp.readsAll I (ns.map PyData.bool) _ its (dpAll_bools ns) rv
    obtain ⟨bs, r1⟩ := Dp.reads I (.bool y) (.bl y) _ (.bl y) ru
    obtain ⟨o, n, ho, hc, hdn, hd⟩ := hl
    refine SeqAt.count_list_data (xs := ns.map PyData.bool) ⟨o, ho, hc, n, hd⟩ (by simpa using h4) r1 (plain_bools ns) rfl ?_ ?_
    · rw [depth_bools]
      show X.A.units + 1 + min 0 _ < cLine
      rw [Nat.zero_min]; omega
    · rw [countP_bools]
      exact ⟨.int (ns.count y : Nat), H, I.tok _, ⟨s.toks, rfl⟩, q⟩
  · exact h.elim
theorem zindexB : MtR X "list.index" (fun x vs H Q => match x, vs with | .ref a, [.bl y] => ∃ (ns : List Bool) (j : Nat), SqL X.K H a (ns.map V.bl) ∧ ns[j]? = some y ∧ (∀ m z, m < j → ns[m]? = some z → z ≠ y) ∧ Q (.int (j : Nat)) H | _, _ => False) := mtM mt_index fun x vs H Q q => by
  split at q
  · rename_i y
    obtain ⟨ns, j, h1, h2, h3, q⟩ := q
    refine ⟨_, ns.map V.bl, _, j, _, rfl, rfl, h1, rfl, ?_, by rw [List.getElem?_map, h2]; rfl, ?_, fun m z hm hz => ?_, q⟩
    · rw [List.all_eq_true]
      intro v hv
      obtain ⟨n, _, rfl⟩ := List.mem_map.mp hv
      rfl
    · simp [eqV]
    · rw [List.getElem?_map] at hz
      cases hc : ns[m]? with
      | none => rw [hc] at hz; cases hz
      | some n =>
        rw [hc] at hz; cases hz
        have := h3 m n hm hc
        simpa [eqV] using this
  · exact q.elim
end
end Z

set_option Elab.async false
set_option linter.all false
set_option maxRecDepth 100000
/-! shifts, masks, bit_length; the call of a class's own __init__ -/
namespace Z
open PySem PySem.Spec PyProof.Rows L2
section
variable {X : Cx} {o e : Expr} {to te : TE} {pos apos p : Pos}
theorem zandM : OpR X (binaryOp .BitAnd) (fun x y H Q => match x, y with | .int i, .int j => ∃ k : Nat, j = 2 ^ k - 1 ∧ Q (.int (i % 2 ^ k)) H | _, _ => False) := opM op_andM fun x y H Q q => by
  split at q
  · obtain ⟨k, e, q⟩ := q
    exact ⟨_, k, rfl, congrArg V.int e, q⟩
  · exact q.elim
theorem zshr : OpR X (binaryOp .RShift) (zI (fun _ j => 0 ≤ j) fun i j => .int (i / 2 ^ j.toNat)) := zI_of op_shr
def zBits (to : TE) : TE := fun σ H Q => to σ H fun x H1 => match x with | .int i => ∀ k : Nat, (∀ m : Nat, i.natAbs < 2 ^ m → k ≤ m) → i.natAbs < 2 ^ k → Q (.int (k : Nat)) H1 | _ => False
theorem zbits (ho : PE X o to) (hbase : attributeBase o "bit_length" X.env (eval o X.env) = eval o X.env := by rfl) (hline : (apos.endLine == pos.line) = true := by rfl) : PE X (.Call (.Attribute o "bit_length" apos) [] [] pos) (zBits to) :=
  peM (pe_bits (PE.up ho) hbase hline) fun σ H Q q => ⟨_, q, fun x H1 q => by
    cases x with
    | int i => exact ⟨i, rfl, q _ (fun m h => bits_le h) (bits_lt (Nat.le_refl _))⟩
    | _ => exact (show False from q).elim⟩
/-! C.__init__(self, ..) -/
structure CalF (P : Program) (w : World) (K : PySem.W.Frag) (mg : Str → Option Value) (base : Heap) (k : Nat) (C : Addr) (ps : List Str) (sp : Sp) : Prop where
  ex : ∃ (f : Addr) (fd : FuncData), FnOk P w K mg base CX0 k f fd ps sp ∧ Binds K fd ps [] ∧ PySem.W.keepIn K (.ref f) = true ∧ ClX.CRead K C (.type "type") ∧ PySem.W.findCls K (.ref C) (.type "type") "__init__" = some (.val (.ref f))
theorem CalI.toF {P : Program} {w : World} {K : PySem.W.Frag} {mg : Str → Option Value} {base : Heap} {k : Nat} {C f0 : Addr} {ps : List Str} {sp : Sp} (c : CalI P w K mg base k C ps sp) (r : ClX.CRead K C (.type "type")) (kp : PySem.W.keepIn K (.ref f0) = true) (hi : PySem.W.findIn K (.ref C) "__init__" = some (some (.ref f0)))
    (hf : PySem.W.findCls K (.ref C) (.type "type") "__init__" = some (.val (.ref f0))) : CalF P w K mg base k C ps sp := by
  obtain ⟨f, fd, F, b, M⟩ := c
  have e := M.init.symm.trans hi
  cases e
  exact ⟨_, fd, F, b, kp, r, hf⟩
variable {C : Addr} {k : Nat} {ps : List Str} {sp : Sp} {es : List Expr} {t : TA}
theorem zclsinit {pl : Sem Bool} (hcn : PE X o (tC (.ref C))) (M : CalF X.prog X.w X.K X.mg X.base k C ps sp) (hr : Room k X.A) (ha : PA X (e :: es) t)
    (hst : starEach (e :: es) X.env = (false, eval e X.env) :: starEach es X.env := by rfl) (hpl : (backTo pos (starEach es X.env)).any (·.1) = false := by rfl)
    (ht : eval (.Call (.Attribute o "__init__" apos) (e :: es) [] pos) X.env = (do
      let ov ← eval o X.env
      standAt apos.atName
      let (f, first) ← holding [ov] (getMethod ov "__init__" pl)
      callWith pos f first (backTo pos (starEach (e :: es) X.env)) (backToKw pos (keywordEach [] X.env))) := by rfl) :
    PE X (.Call (.Attribute o "__init__" apos) (e :: es) [] pos) (tCall sp [] E0 t) := by
  obtain ⟨f, fd, F, b, kp, r, hf⟩ := M
  refine ⟨fun pins s σ H Q I h => ?_⟩
  refine PySem.W.methodCall_KW (pl := pl) (thn (hcn.run pins s σ H (fun x G => x = V.ref C ∧ tCall sp [] E0 t σ G Q) I ⟨rfl, h⟩) fun u s1 ⟨x, H1, I1, rx, ex, q⟩ => ?_) ht
  subst ex
  obtain rfl : u = Value.ref C := rx
  refine PySem.W.method_cls I1.kIn r.ga (PySem.W.cls_value I1.kIn r.rd hf rfl ?_)
  have I1' := I1.tok (s1.toks + 1)
  refine PySem.W.callWith_K (h₀ := X.base) (first := []) I.ok.mod.kin kp (thn (ha.run pos pins _ σ H1 _ I1' q) fun us s2 ⟨vs, H2, I2, r2, q2⟩ => ⟨I2.kIn, ?_⟩) hst hpl
  exact run_fn (us := us) (vs := vs) F hr b .nil pass0 I2 r2 q2
end
end Z

set_option Elab.async false
set_option linter.all false
set_option maxRecDepth 100000
set_option maxHeartbeats 4000000
/-! enumerate(zip(a, b)), its pairs unpacked: the inner tuple is not given back, so the zip may find its own tuple held -/
namespace Z
open PySem PySem.Spec PyProof.Rows L2
/-- a zip's record, whatever tuple it gave out -/
def ZRec (h : Heap) (z TI TO : Addr) : Prop := ∃ (v : Value) (f : Bool), (v = .none ∨ ∃ T : Addr, v = rawInt T) ∧
  h.get? z = some { cls := .type "zip", dict := none, data := .fields #[v, .bool f, .bool false, .ref TI, .ref TO], slots := #[] }
section
variable {prog : Program} {w : World} {A : Around} {E : Value → Shared → Prop} {s : Shared} {z TI TO i1 i2 : Addr} {c1 c2 : List Addr} {n1 n2 i : Nat} {P1 P2 : Nat → Value → Prop} {St1 St2 : Nat → Heap → Prop}
/-- is the own tuple free: the answer is open, the record stands -/
theorem own_free {v : Value} {f : Bool} {Q : Bool → Shared → Prop} (hv : v = .none ∨ ∃ T : Addr, v = rawInt T)
    (hz : s.heap.get? z = some { cls := .type "zip", dict := none, data := .fields #[v, .bool f, .bool false, .ref TI, .ref TO], slots := #[] })
    (go : ∀ (b : Bool) (g : Heap) (f2 : Bool), g.get? z = some { cls := .type "zip", dict := none, data := .fields #[v, .bool f2, .bool false, .ref TI, .ref TO], slots := #[] } → Heap.SameBut z s.heap g → Q b { s with heap := g }) :
    wpAny (model prog w) A (Builtin.SmallTypes.ownedTupleIsFree (.ref z)) Q E s := by
  unfold Builtin.SmallTypes.ownedTupleIsFree
  rcases hv with rfl | ⟨T, rfl⟩
  · exact wpAny_bind (wpAny_field hz rfl (x := .none) rfl (wpAny_pure (go true s.heap f hz (Heap.SameBut.refl _ _))))
  · refine wpAny_bind (wpAny_field hz rfl (x := rawInt T) rfl ?_)
    have look : ∀ {R : Option Obj → Shared → Prop}, R (s.heap.get? T) s → wpAny (model prog w) A (loadIfAlive T) R E s := fun r _ _ _ => r
    show wpAny _ _ (loadIfAlive (((T : Nat) : Int).toNat) >>= _) _ _ _
    rw [Int.toNat_natCast]
    refine wpAny_bind (look ?_)
    cases s.heap.get? T with
    | none => exact wpAny_pure (go true s.heap f hz (Heap.SameBut.refl _ _))
    | some o =>
      refine wpAny_bind (wpAny_field hz rfl (x := .bool f) rfl ?_)
      cases f with
      | true => exact wpAny_pure (go false s.heap true hz (Heap.SameBut.refl _ _))
      | false => exact wpAny_bind (wpAny_setField_rec hz (by simp) fun g hg same => wpAny_pure (go false g true hg same))
/-- what a turn of the zip leaves -/
def ZOut (s : Shared) (z TI TO i1 i2 : Addr) (n : Nat) (P1 P2 : Nat → Value → Prop) (St1 St2 : Nat → Heap → Prop) (Q : Value → Shared → Prop) : Prop :=
  ∀ (U : Addr) (x y : Value) (g : Heap) (tk : Nat), s.heap.objs.size ≤ U → P1 n x → P2 n y → ZRec g z TI TO → (∃ p q, IsTupOf2 g TO p q) → St1 (n + 1) g → St2 (n + 1) g → IsTupOf2 g U x y →
    (∀ b o, b ≠ z → b ≠ TO → b ≠ i1 → b ≠ i2 → s.heap.get? b = some o → g.get? b = some o) → Q (.ref U) { s with heap := g, toks := tk }
theorem zip_turn {Q : Value → Shared → Prop} (S : ZipSep2 z TI TO i1 i2 c1 c2) (D1 : Draws prog w A i1 c1 n1 P1 St1) (D2 : Draws prog w A i2 c2 n2 P2 St2) (hz : ZRec s.heap z TI TO)
    (hI : IsTupOf2 s.heap TI (.ref i1) (.ref i2)) (hO : ∃ p q, IsTupOf2 s.heap TO p q) (t1 : St1 i s.heap) (t2 : St2 i s.heap) (l1 : i < n1) (l2 : i < n2) (go : ZOut s z TI TO i1 i2 i P1 P2 St1 St2 Q) :
    wpAny (model prog w) A (Builtin.«zip.__next__» ⟨[.ref z], []⟩) (fun r s2 => ∃ v, r = .done (.ret v) ∧ Q v s2) E s := by
  obtain ⟨v, f, hv, hz⟩ := hz
  obtain ⟨p, q, hO⟩ := hO
  obtain ⟨h0, gn, dr, tk0, os⟩ := s
  change wpAny _ _ (field (Value.ref z) 2 >>= _) _ _ _
  refine wpAny_bind (wpAny_field hz rfl (x := .bool false) rfl ?_)
  change wpAny _ _ (field (Value.ref z) 3 >>= _) _ _ _
  refine wpAny_bind (wpAny_field hz rfl (x := .ref TI) rfl ?_)
  refine wpAny_bind (wpAny_seqItems hI rfl ?_)
  change wpAny _ _ (Builtin.SmallTypes.ownedTupleIsFree (Value.ref z) >>= _) _ _ _
  refine wpAny_bind (own_free hv hz fun b g f2 hz2 same => ?_)
  replace same : Heap.SameBut z h0 g := same
  have hI2 : IsTupOf2 g TI (.ref i1) (.ref i2) := same.extBut _ _ S.TIz hI
  have hO2 : IsTupOf2 g TO p q := same.extBut _ _ S.TOz hO
  have u1 : St1 i g := D1.over t1 same S.zf1
  have u2 : St2 i g := D2.over t2 same S.zf2
  have size0 : g.objs.size = h0.objs.size := same.1
  cases b with
  | false =>
    -- a new tuple, its own one is held
    simp only [Bool.false_eq_true, if_false]
    refine wpAny_bind ?_
    rw [← Array.forIn_toList]
    simp only [List.forIn_cons, List.forIn_nil]
    refine wpAny_bind (wpAny_bind (wpAny_holding ?_))
    change wpAny _ _ (Builtin.SmallTypes.nextOf (Value.ref i1) >>= _) _ _ ⟨g, gn, dr, tk0, os⟩
    refine wpAny_bind (D1.item i _ _ _ l1 u1 fun x ga ka px v1 s1 => wpAny_pure ?_)
    replace s1 : Heap.SameBut i1 g ga := s1
    refine wpAny_pure (wpAny_bind (wpAny_bind (wpAny_holding ?_)))
    change wpAny _ _ (Builtin.SmallTypes.nextOf (Value.ref i2) >>= _) _ _ ⟨ga, gn, dr, ka, os⟩
    refine wpAny_bind (D2.item i _ _ _ l2 (D2.over u2 s1 S.sep1_2) fun y gb kb py v2 s2 => wpAny_pure ?_)
    replace s2 : Heap.SameBut i2 ga gb := s2
    refine wpAny_pure (wpAny_pure ?_)
    change wpAny _ _ (newTuple [x, y] >>= _) _ _ ⟨gb, gn, dr, kb, os⟩
    refine wpAny_bind (wpAny_newTuple (wpAny_pure ⟨_, rfl, ?_⟩))
    have up : ∀ {c : Addr} {o : Obj}, gb.get? c = some o → (gb.push { cls := .type "tuple", data := .seq #[x, y] }).get? c = some o := fun e => Heap.get?_push_of_some _ e
    refine go gb.objs.size x y _ kb (by rw [s2.1, s1.1, size0]; exact Nat.le_refl _) px py ⟨v, f2, hv, up (s2.extBut _ _ S.zi2 (s1.extBut _ _ S.zi1 hz2))⟩ ⟨p, q, up (s2.extBut _ _ S.Ti2 (s1.extBut _ _ S.Ti1 hO2))⟩ ?_ ?_ (Heap.get?_push_size _ rfl) ?_
    · exact D1.frame _ _ _ (D1.over v1 s2 S.sep2_1) fun c _ o e => up e
    · exact D2.frame _ _ _ v2 fun c _ o e => up e
    · exact fun b o n1 _ n3 n4 e => up (s2.extBut _ _ n4 (s1.extBut _ _ n3 (same.extBut _ _ n1 e)))
  | true =>
    -- its own tuple, filled anew
    simp only [if_true]
    refine wpAny_bind (wpAny_rule ?_)
    refine wpAny_bind (wpAny_field hz2 rfl (x := .ref TO) rfl ?_)
    refine wpAny_bind (wpAny_setField_rec hz2 (by simp) fun ge hze se => ?_)
    replace se : Heap.SameBut z g ge := se
    refine wpAny_bind ?_
    simp only [List.zipIdx_cons, List.zipIdx_nil, List.forIn_cons, List.forIn_nil]
    refine wpAny_bind (wpAny_bind (wpAny_onRaise ?_))
    change wpAny _ _ (Builtin.SmallTypes.nextOf (Value.ref i1) >>= _) _ _ ⟨ge, gn, dr, tk0, os⟩
    refine wpAny_bind (D1.item i _ _ _ l1 (D1.over u1 se S.zf1) fun x ga ka px v1 s1 => wpAny_pure ?_)
    replace s1 : Heap.SameBut i1 ge ga := s1
    have o1 : IsTupOf2 ga TO p q := s1.extBut _ _ S.Ti1 (se.extBut _ _ S.TOz hO2)
    refine wpAny_bind (wpAny_seqItems (s := ⟨ga, gn, dr, ka, os⟩) o1 rfl ?_)
    refine wpAny_bind (updateSeq_IsTupOf2 (s := ⟨ga, gn, dr, ka, os⟩) o1 fun gc oc sc => ?_)
    replace oc : IsTupOf2 gc TO x q := oc
    replace sc : Heap.SameBut TO ga gc := sc
    refine wpAny_bind (wpAny_letGo (wpAny_pure (wpAny_bind (wpAny_bind (wpAny_onRaise ?_)))))
    change wpAny _ _ (Builtin.SmallTypes.nextOf (Value.ref i2) >>= _) _ _ ⟨gc, gn, dr, ka, os⟩
    refine wpAny_bind (D2.item i _ _ _ l2 (D2.over (D2.over (D2.over u2 se S.zf2) s1 S.sep1_2) sc S.Tf2) fun y gb kb py v2 s2 => wpAny_pure ?_)
    replace s2 : Heap.SameBut i2 gc gb := s2
    have o2 : IsTupOf2 gb TO x q := s2.extBut _ _ S.Ti2 oc
    refine wpAny_bind (wpAny_seqItems (s := ⟨gb, gn, dr, kb, os⟩) o2 rfl ?_)
    refine wpAny_bind (updateSeq_IsTupOf2 (s := ⟨gb, gn, dr, kb, os⟩) o2 fun gd od sd => ?_)
    replace od : IsTupOf2 gd TO x y := od
    replace sd : Heap.SameBut TO gb gd := sd
    refine wpAny_bind (wpAny_letGo (wpAny_pure (wpAny_pure ?_)))
    refine wpAny_bind (wpAny_seqItems (s := ⟨gd, gn, dr, kb, os⟩) od rfl (wpAny_bind (wpAny_newTuple ?_)))
    have size1 : gd.objs.size = h0.objs.size := by rw [sd.1, s2.1, sc.1, s1.1, se.1, size0]
    have zd := sd.extBut _ _ S.TOz.symm (s2.extBut _ _ S.zi2 (sc.extBut _ _ S.TOz.symm (s1.extBut _ _ S.zi1 hze)))
    have zlt := Heap.lt_size zd
    have push : ∀ {c : Addr} {o : Obj}, gd.get? c = some o → (gd.push { cls := .type "tuple", data := .seq #[x, y] }).get? c = some o := fun e => Heap.get?_push_of_some _ e
    change wpAny _ _ (Builtin.SmallTypes.ownedTupleHandOut (Value.ref z) (Value.ref gd.objs.size) >>= _) _ _ ⟨gd.push { cls := .type "tuple", data := .seq #[x, y] }, gn, dr, kb, os⟩
    refine wpAny_bind ?_
    unfold Builtin.SmallTypes.ownedTupleHandOut
    refine wpAny_bind (wpAny_setField_rec (push zd) (by simp) fun gx hzx sx => ?_)
    refine wpAny_setField_rec hzx (by simp) fun gy hzy sy => wpAny_pure ⟨_, rfl, ?_⟩
    replace sx : Heap.SameBut z (gd.push { cls := .type "tuple", data := .seq #[x, y] }) gx := sx
    replace sy : Heap.SameBut z gx gy := sy
    have up : ∀ {c : Addr} {o : Obj}, c ≠ z → gd.get? c = some o → gy.get? c = some o := fun n e => sy.extBut _ _ n (sx.extBut _ _ n (push e))
    have tup : IsTupOf2 gy gd.objs.size x y := sy.extBut _ _ (Nat.ne_of_gt zlt) (sx.extBut _ _ (Nat.ne_of_gt zlt) (Heap.get?_push_size _ rfl))
    refine go gd.objs.size x y gy kb (by rw [size1]; exact Nat.le_refl _) px py ⟨rawInt gd.objs.size, false, .inr ⟨_, rfl⟩, hzy⟩ ⟨x, y, up S.TOz od⟩ ?_ ?_ tup ?_
    · exact D1.frame _ _ _ (D1.over (D1.over (D1.over v1 sc S.Tf1) s2 S.sep2_1) sd S.Tf1) fun c m o e => up (fun q => S.zf1 (q ▸ m)) e
    · exact D2.frame _ _ _ (D2.over v2 sd S.Tf2) fun c m o e => up (fun q => S.zf2 (q ▸ m)) e
    · exact fun b o n1 n2 n3 n4 e => up n1 (sd.extBut _ _ n2 (s2.extBut _ _ n4 (sc.extBut _ _ n2 (s1.extBut _ _ n3 (se.extBut _ _ n1 (same.extBut _ _ n1 e))))))
theorem zip_stop {Q : PySem.Fin → Shared → Prop} (S : ZipSep2 z TI TO i1 i2 c1 c2) (D1 : Draws prog w A i1 c1 n1 P1 St1) (hz : ZRec s.heap z TI TO) (hI : IsTupOf2 s.heap TI (.ref i1) (.ref i2)) (hO : ∃ p q, IsTupOf2 s.heap TO p q) (t1 : St1 n1 s.heap)
    (go : ∀ (g : Heap) (tk : Nat) (x : Addr), (∀ b o, b ≠ z → b ≠ TO → b ≠ i1 → b ≠ i2 → s.heap.get? b = some o → g.get? b = some o) → (∃ o, g.get? x = some o ∧ o.cls = .type "StopIteration") → E (.ref x) { s with heap := g, toks := tk }) :
    wpAny (model prog w) A (Builtin.«zip.__next__» ⟨[.ref z], []⟩) Q E s := by
  obtain ⟨v, f, hv, hz⟩ := hz
  obtain ⟨p, q, hO⟩ := hO
  obtain ⟨h0, gn, dr, tk0, os⟩ := s
  change wpAny _ _ (field (Value.ref z) 2 >>= _) _ _ _
  refine wpAny_bind (wpAny_field hz rfl (x := .bool false) rfl ?_)
  change wpAny _ _ (field (Value.ref z) 3 >>= _) _ _ _
  refine wpAny_bind (wpAny_field hz rfl (x := .ref TI) rfl ?_)
  refine wpAny_bind (wpAny_seqItems hI rfl ?_)
  change wpAny _ _ (Builtin.SmallTypes.ownedTupleIsFree (Value.ref z) >>= _) _ _ _
  refine wpAny_bind (own_free hv hz fun b g f2 hz2 same => ?_)
  replace same : Heap.SameBut z h0 g := same
  have u1 : St1 n1 g := D1.over t1 same S.zf1
  cases b with
  | false =>
    simp only [Bool.false_eq_true, if_false]
    refine wpAny_bind ?_
    rw [← Array.forIn_toList]
    simp only [List.forIn_cons, List.forIn_nil]
    refine wpAny_bind (wpAny_bind (wpAny_holding ?_))
    change wpAny _ _ (Builtin.SmallTypes.nextOf (Value.ref i1) >>= _) _ _ ⟨g, gn, dr, tk0, os⟩
    refine wpAny_bind (D1.done ⟨g, gn, dr, tk0, os⟩ _ _ u1 fun ga x ext st => ?_)
    exact go ga tk0 x (fun b o n1 _ n3 _ e => ext _ _ n3 (same.extBut _ _ n1 e)) st
  | true =>
    simp only [if_true]
    refine wpAny_bind (wpAny_rule ?_)
    refine wpAny_bind (wpAny_field hz2 rfl (x := .ref TO) rfl ?_)
    refine wpAny_bind (wpAny_setField_rec hz2 (by simp) fun ge hze se => ?_)
    replace se : Heap.SameBut z g ge := se
    refine wpAny_bind ?_
    simp only [List.zipIdx_cons, List.zipIdx_nil, List.forIn_cons, List.forIn_nil]
    refine wpAny_bind (wpAny_bind (wpAny_onRaise ?_))
    change wpAny _ _ (Builtin.SmallTypes.nextOf (Value.ref i1) >>= _) _ _ ⟨ge, gn, dr, tk0, os⟩
    refine wpAny_bind (D1.done ⟨ge, gn, dr, tk0, os⟩ _ _ (D1.over u1 se S.zf1) fun ga x ext st => ?_)
    replace ext : Heap.ExtBut i1 ge ga := ext
    obtain ⟨o, ho, hc⟩ := st
    replace ho : ga.get? x = some o := ho
    have za := ext _ _ S.zi1 hze
    have xz : x ≠ z := fun q => by
      rw [q, za] at ho
      cases ho
      exact nomatch (show Value.type "zip" = Value.type "StopIteration" from hc)
    refine wpAny_setField_rec (s := ⟨ga, gn, dr, tk0, os⟩) za (by simp) fun gb _ sb => ?_
    replace sb : Heap.SameBut z ga gb := sb
    exact go gb tk0 x (fun b o n1 _ n3 _ e => sb.extBut _ _ n1 (ext _ _ n3 (se.extBut _ _ n1 (same.extBut _ _ n1 e)))) ⟨o, sb.extBut _ _ xz ho, hc⟩
/-- the enumerate's turn over it -/
theorem num_turn {e : Addr} {c : Int} {old : Value} {Q : Value → Shared → Prop} (S : ZipSep2 z TI TO i1 i2 c1 c2) (D1 : Draws prog w A.in1 i1 c1 n1 P1 St1) (D2 : Draws prog w A.in1 i2 c2 n2 P2 St2)
    (ne : e ≠ z ∧ e ≠ TO ∧ e ≠ TI ∧ e ≠ i1 ∧ e ≠ i2 ∧ e ∉ c1 ∧ e ∉ c2) (he : IsEnum s.heap e z c old) (hz : ZRec s.heap z TI TO) (hI : IsTupOf2 s.heap TI (.ref i1) (.ref i2)) (hO : ∃ p q, IsTupOf2 s.heap TO p q) (t1 : St1 i s.heap) (t2 : St2 i s.heap) (l1 : i < n1) (l2 : i < n2)
    (go : ∀ (T U : Addr) (x y : Value) (t : Tok) (g : Heap) (tk : Nat), s.heap.objs.size ≤ U → U ≠ T → s.heap.objs.size ≤ T → P1 i x → P2 i y → IsEnumOut g e z (c + 1) (.ref U) T → ZRec g z TI TO → (∃ p q, IsTupOf2 g TO p q) → St1 (i + 1) g → St2 (i + 1) g →
      IsTupOf2 g U x y → IsTupOf2 g T (.int c t) (.ref U) → (∀ b o, b ≠ e → b ≠ z → b ≠ TO → b ≠ i1 → b ≠ i2 → s.heap.get? b = some o → g.get? b = some o) → Q (.ref T) { s with heap := g, toks := tk }) :
    wpAny (model prog w) A (Builtin.«enumerate.__next__» ⟨[.ref e], []⟩) (fun r s2 => ∃ v, r = .done (.ret v) ∧ Q v s2) E s := by
  obtain ⟨nz, nO, nI, n1', n2', m1, m2⟩ := ne
  have hT : s.TypeIs (.ref z) "zip" := by obtain ⟨v, f, _, k⟩ := hz; exact ⟨_, k, rfl⟩
  obtain ⟨h0, gn, dr, tk0, os⟩ := s
  change wpAny _ _ (field (Value.ref e) 2 >>= _) _ _ _
  refine wpAny_bind (wpAny_field he rfl (x := .ref z) rfl ?_)
  refine wpAny_bind ?_
  unfold Builtin.SmallTypes.nextOf
  refine wpAny_bind (wpAny_callSpecial?_slot (name := Str.ofString "__next__") hT F.slot_zip_next (wpAny_call_entry F.slot_zip_next hT F.entry_zip_next
    (zip_turn (s := ⟨h0, gn, dr, tk0, os⟩) S D1 D2 hz hI hO t1 t2 l1 l2 fun U x y ga ka bU px py za oa v1 v2 tu keep => wpAny_pure ?_) (F.args_zip_next_1 _)))
  replace bU : h0.objs.size ≤ U := bU
  replace keep : ∀ b o, b ≠ z → b ≠ TO → b ≠ i1 → b ≠ i2 → h0.get? b = some o → ga.get? b = some o := keep
  have ea : IsEnum ga e z c old := keep _ _ nz nO n1' n2' he
  have eU : e ≠ U := fun q => by
    have := Heap.lt_size he
    rw [q] at this
    exact absurd bU (Nat.not_le.mpr this)
  change wpAny _ _ (field (Value.ref e) 3 >>= _) _ _ ⟨ga, gn, dr, ka, os⟩
  refine wpAny_bind (wpAny_field ea rfl (x := rawInt c) rfl ?_)
  change wpAny _ _ (field (Value.ref e) 4 >>= _) _ _ ⟨ga, gn, dr, ka, os⟩
  refine wpAny_bind (wpAny_field ea rfl (x := .none) rfl ?_)
  change wpAny _ _ (mkInt c >>= _) _ _ ⟨ga, gn, dr, ka, os⟩
  refine wpAny_bind (wpAny_mkInt ?_)
  change wpAny _ _ (setField (Value.ref e) 3 (rawInt (c + 1)) >>= _) _ _ ⟨ga, gn, dr, ka + 1, os⟩
  refine wpAny_bind (wpAny_setField_rec ea (by simp) fun gb eb sb => ?_)
  change wpAny _ _ (setField (Value.ref e) 4 Value.none >>= _) _ _ ⟨gb, gn, dr, ka + 1, os⟩
  replace eb : IsEnum gb e z (c + 1) old := eb
  refine wpAny_bind (wpAny_setField_rec eb (by simp) fun gc ec sc => ?_)
  replace ec : IsEnum gc e z (c + 1) old := ec
  replace sb : Heap.SameBut e ga gb := sb
  replace sc : Heap.SameBut e gb gc := sc
  change wpAny _ _ (newTuple [.int c ka, .ref U] >>= _) _ _ ⟨gc, gn, dr, ka + 1, os⟩
  refine wpAny_bind (wpAny_newTuple ?_)
  change wpAny _ _ (Builtin.SmallTypes.ownedTupleIsFree (Value.ref e) >>= _) _ _ ⟨gc.push { cls := .type "tuple", data := .seq #[.int c ka, .ref U] }, gn, dr, ka + 1, os⟩
  have push : ∀ {b : Addr} {o : Obj}, gc.get? b = some o → (gc.push { cls := .type "tuple", data := .seq #[.int c ka, .ref U] }).get? b = some o := fun k => Heap.get?_push_of_some _ k
  have tT : IsTupOf2 (gc.push { cls := .type "tuple", data := .seq #[.int c ka, .ref U] }) gc.objs.size (.int c ka) (.ref U) := Heap.get?_push_size _ rfl
  have elt : e < gc.objs.size := Heap.lt_size ec
  have Ult : U < gc.objs.size := by rw [sc.1, sb.1]; exact Heap.lt_size tu
  have big : h0.objs.size ≤ gc.objs.size := Nat.le_trans bU (Nat.le_of_lt Ult)
  refine wpAny_bind ?_
  unfold Builtin.SmallTypes.ownedTupleIsFree
  refine wpAny_bind (wpAny_field (push ec) rfl (x := .none) rfl (wpAny_pure ?_))
  simp only [if_true]
  refine wpAny_bind (wpAny_rule (wpAny_bind (wpAny_field (push ec) rfl (x := old) rfl ?_)))
  refine wpAny_bind (wpAny_setField_rec (push ec) (by simp) fun gd ed sd => ?_)
  replace ed : IsEnum gd e z (c + 1) (.ref U) := ed
  replace sd : Heap.SameBut e (gc.push { cls := .type "tuple", data := .seq #[.int c ka, .ref U] }) gd := sd
  change wpAny _ _ (Builtin.SmallTypes.ownedTupleHandOut (Value.ref e) (Value.ref gc.objs.size) >>= _) _ _ ⟨gd, gn, dr, ka + 1, os⟩
  refine wpAny_bind ?_
  unfold Builtin.SmallTypes.ownedTupleHandOut
  refine wpAny_bind (wpAny_setField_rec ed (by simp) fun gx ex sx => ?_)
  refine wpAny_setField_rec ex (by simp) fun gy ey sy => ?_
  replace ey : IsEnumOut gy e z (c + 1) (.ref U) gc.objs.size := ey
  replace sx : Heap.SameBut e gd gx := sx
  replace sy : Heap.SameBut e gx gy := sy
  have up : ∀ {b : Addr} {o : Obj}, b ≠ e → ga.get? b = some o → gy.get? b = some o := fun n k => sy.extBut _ _ n (sx.extBut _ _ n (sd.extBut _ _ n (push (sc.extBut _ _ n (sb.extBut _ _ n k)))))
  have tT2 : IsTupOf2 gy gc.objs.size (.int c ka) (.ref U) := sy.extBut _ _ (Nat.ne_of_gt elt) (sx.extBut _ _ (Nat.ne_of_gt elt) (sd.extBut _ _ (Nat.ne_of_gt elt) tT))
  refine wpAny_bind (wpAny_letGo (wpAny_pure ⟨_, rfl, ?_⟩))
  obtain ⟨v, f, hv, zk⟩ := za
  obtain ⟨p2, q2, ok⟩ := oa
  refine go gc.objs.size U x y ka gy (ka + 1) bU (Nat.ne_of_lt Ult) big px py ey ⟨v, f, hv, up nz.symm zk⟩ ⟨p2, q2, up nO.symm ok⟩ ?_ ?_ (up eU.symm tu) tT2 ?_
  · exact D1.frame _ _ _ v1 fun b m o k => up (fun q => m1 (q ▸ m)) k
  · exact D2.frame _ _ _ v2 fun b m o k => up (fun q => m2 (q ▸ m)) k
  · exact fun b o k0 k1 k2 k3 k4 k => up k0 (keep b o k1 k2 k3 k4 k)
end
section
variable {X : Cx} {pins : List (Addr × Obj)} {σ : L2.St} {H : Hp} {s : Shared}
/-- cells of ours turned, and two new things are laid -/
theorem turned_two {g : Heap} {tk : Nat} {ch : List Addr} {U T : Addr} {o1 o2 : HO} (I : Inv X pins σ H s) (k : ∀ b o, b ∉ ch → s.heap.get? b = some o → g.get? b = some o) (hf : ∀ b ∈ ch, FpOk X pins H b) (hU : s.heap.objs.size ≤ U) (hT : s.heap.objs.size ≤ T) (ne : T ≠ U)
    (new1 : ObjOk X.prog X.w (upd H U o1) g U o1) (new2 : ObjOk X.prog X.w (upd (upd H U o1) T o2) g T o2) : Inv X pins σ (upd (upd H U o1) T o2) { s with heap := g, toks := tk } := by
  have J := Inv.turnedNew (t' := tk) I k hf hU new1
  obtain ⟨q1, q2, q3, q4, q5, q6⟩ := Inv.fpOk I hT (I.hok.fresh hT)
  refine Inv.trackN J ?_ (by rw [upd_ne ne]; exact q1) q2 q5 q6 new2
  cases e : X.s_0.heap.get? T with
  | none => rfl
  | some o => exact absurd (Nat.lt_of_lt_of_le (Heap.lt_size e) (Nat.le_trans I.sz hT)) (Nat.lt_irrefl _)
end
/-! making it -/
theorem enum_of_zip (z TI TO : Addr) : Meets (Builtin.«enumerate.__new__» ⟨[.type "enumerate", .ref z], []⟩) (fun _ R s => IsZip s.heap z TI TO .none ∧
    R (.ok (.ret (.ref s.heap.objs.size))) { s with heap := s.heap.push { cls := .type "enumerate", data := .fields #[.none, .bool false, .ref z, rawInt 0, .none, .none] } }) :=
  Meets.of_wp fun prog w A R s ⟨hz, told⟩ => by
    obtain ⟨h0, gn, dr, tk0, os⟩ := s
    have same_class := sub_enumerate
    have again : ∀ {B : Around} {F : Value → Shared → Prop} {G : Value → Shared → Prop}, G (.ref z) ⟨h0, gn, dr, tk0, os⟩ → wpAny (model prog w) B (pyIter (.ref z)) G F ⟨h0, gn, dr, tk0, os⟩ := fun q => wpAny_pyIter_zip hz q
    wp_walk using again
    refine wpAny_stack_any fun st => wpAny_pure ?_
    split
    · rename_i c _ _ _ _ _
      cases (c == Value.type "enumerate") <;> (wp_walk using again; exact ⟨_, rfl, told⟩)
    · wp_walk using again
      exact ⟨_, rfl, told⟩
theorem call_enum_zip {prog : Program} {w : World} {A : Around} {E : Value → Shared → Prop} {s : Shared} {z TI TO : Addr} {Q : Value → Shared → Prop} (hz : IsZip s.heap z TI TO .none)
    (go : ∀ g, IsEnum g s.heap.objs.size z 0 .none → (∀ b o, s.heap.get? b = some o → g.get? b = some o) → Q (.ref s.heap.objs.size) { s with heap := g }) : wpAny (model prog w) A (call (.type "enumerate") [.ref z]) Q E s := by
  refine callType_new F.called_enumerate (by decide) (F.typeCall_enumerate_1 _) (F.newCall_enumerate_1 _) (fun obj => F.args_object_init_2 obj _) F.entry_enumerate_new (enum_of_zip z TI TO) ⟨hz, ?_⟩
  have new : IsEnum (s.heap.push { cls := .type "enumerate", data := .fields #[.none, .bool false, .ref z, rawInt 0, .none, .none] }) s.heap.objs.size z 0 .none := Heap.get?_push_size _ rfl
  exact ⟨⟨_, new, rfl⟩, go _ new fun b o k => Heap.get?_push_of_some _ k⟩
/-! the turn -/
/-- pairs (number, pair) of two rows -/
def ItN (K : PySem.W.Frag) (b1 b2 : Bool) (a b : Addr) : It where
  go := fun i H => ∃ (xs ys : List V) (x y : V), (SqB K b1 H a xs ∧ SqB K b2 H b ys) ∧ xs[i]? = some x ∧ ys[i]? = some y
  yld := fun i H v H' => ∃ (T U : Addr) (x y : V), v = .ref T ∧ H U = none ∧ H T = none ∧ T ≠ U ∧ H' = upd (upd H U (.tup [x, y])) T (.tup [.int (i : Nat), .ref U]) ∧ ∀ xs ys : List V, SqB K b1 H a xs → SqB K b2 H b ys → xs[i]? = some x ∧ ys[i]? = some y
  stop := fun i H => ∃ xs ys : List V, (SqB K b1 H a xs ∧ SqB K b2 H b ys) ∧ xs.length = i ∧ ys.length = i
/-- the state ahead of a turn -/
def NumZ (b1 b2 : Bool) (e z TI TO i1 i2 a b : Addr) (i : Nat) (h : Heap) : Prop :=
  (∃ old, IsEnum h e z ((i : Nat) : Int) old) ∧ ZRec h z TI TO ∧ IsTupOf2 h TI (.ref i1) (.ref i2) ∧ (∃ p q, IsTupOf2 h TO p q) ∧ IterB b1 h i1 a i ∧ IterB b2 h i2 b i
abbrev nCells (e z TI TO i1 i2 : Addr) : List Addr := [e, z, TI, TO, i1, i2]
structure NApart (e z TI TO i1 i2 a b : Addr) : Prop where
  zip : ZipApart z TI TO i1 i2 a b
  ez : e ≠ z
  eI : e ≠ TI
  eO : e ≠ TO
  e1 : e ≠ i1
  e2 : e ≠ i2
  ea : e ≠ a
  eb : e ≠ b
theorem turn_numzip {P : Program} {w : World} {K : PySem.W.Frag} {elts : List Expr} {kk : Nat} {tpos : Pos} {b1 b2 : Bool} {a b e z TI TO i1 i2 : Addr} (D : NApart e z TI TO i1 i2 a b) :
    Turn P w K (.Tuple elts kk tpos) (ItN K b1 b2 a b) (nCells e z TI TO i1 i2) e (NumZ b1 b2 e z TI TO i1 i2 a b) where
  mem := .head _
  obj := by
    rintro i h ⟨⟨old, ce⟩, ⟨v, f, _, cz⟩, cI, ⟨_, _, cO⟩, k1, k2⟩ c m
    obtain ⟨o1, g1, q1⟩ := k1.cell
    obtain ⟨o2, g2, q2⟩ := k2.cell
    simp at m
    rcases m with rfl | rfl | rfl | rfl | rfl | rfl
    · exact ⟨_, ce, nofun⟩
    · exact ⟨_, cz, nofun⟩
    · exact ⟨_, cI, nofun⟩
    · exact ⟨_, cO, nofun⟩
    · exact ⟨o1, g1, fun v => by simp [q1]⟩
    · exact ⟨o2, g2, fun v => by simp [q2]⟩
  keep := by
    rintro i h h2 ⟨⟨old, ce⟩, ⟨v, f, hv, cz⟩, cI, ⟨x, y, cO⟩, k1, k2⟩ same
    exact ⟨⟨old, same _ (by simp) _ ce⟩, ⟨v, f, hv, same _ (by simp) _ cz⟩, same _ (by simp) _ cI, ⟨x, y, same _ (by simp) _ cO⟩, k1.at fun o => same _ (by simp) o, k2.at fun o => same _ (by simp) o⟩
  self := by
    rintro A i s Q E ⟨⟨_, ce⟩, _⟩ q
    exact wpAny_pyIter_enum ce q
  item := by
    rintro X rfl rfl rfl calm i pins s σ H E I free ⟨⟨old, ce⟩, cz, cI, cO, k1, k2⟩ ⟨xs, ys, x, y, ⟨hx, hy⟩, ex, ey⟩
    obtain ⟨us, vus, isu⟩ := invB I hx
    obtain ⟨vs, vvs, isv⟩ := invB I hy
    obtain ⟨u, gu, ru⟩ := vus.get ex
    obtain ⟨v, gv, rv⟩ := vvs.get ey
    have lu := (List.getElem?_eq_some_iff.mp gu).1
    have lv := (List.getElem?_eq_some_iff.mp gv).1
    have hT : s.TypeIs (.ref e) "enumerate" := ⟨_, ce, rfl⟩
    have d1 := drawsB (prog := X.prog) (w := X.w) (A := X.A.in1.in1) b1 (I.ok.hd calm) i1 a D.zip.l1i1 us.toArray
    have d2 := drawsB (prog := X.prog) (w := X.w) (A := X.A.in1.in1) b2 (I.ok.hd calm) i2 b D.zip.l2i2 vs.toArray
    unfold pyNext
    refine wpAny_bind (wpAny_attempt (wpAny_callSpecial?_slot (name := Str.ofString "__next__") hT F.slot_enumerate_next (wpAny_call_entry F.slot_enumerate_next hT F.entry_enumerate_next
      (num_turn (sepB D.zip) d1 d2 ⟨D.ez, D.eO, D.eI, D.e1, D.e2, ?_, ?_⟩ ce cz cI cO ⟨k1, isu⟩ ⟨k2, isv⟩ (by rw [List.size_toArray]; exact lu) (by rw [List.size_toArray]; exact lv) fun T U x2 y2 t g tk bU nUT bT px py eo zo oo s1 s2 tU tT keep => wpAny_pure ⟨_, rfl, ?_⟩) (F.args_enumerate_next_1 _))))
    · intro m
      simp at m
      rcases m with q | q
      · exact D.e1 q
      · exact D.ea q
    · intro m
      simp at m
      rcases m with q | q
      · exact D.e2 q
      · exact D.eb q
    have eu : x2 = u := by
      have : us[i]? = some x2 := by simpa using px
      rw [gu] at this; exact (Option.some.inj this).symm
    have ev : y2 = v := by
      have : vs[i]? = some y2 := by simpa using py
      rw [gv] at this; exact (Option.some.inj this).symm
    subst eu ev
    have elt := Heap.lt_size ce
    refine wpAny_letOwnedTupleGo_enum eo fun g2 ce2 same => ?_
    replace same : Heap.SameBut e g g2 := same
    have nU : U ≠ e := fun q => absurd (q ▸ elt) (Nat.not_lt.mpr bU)
    have nT : T ≠ e := fun q => absurd (q ▸ elt) (Nat.not_lt.mpr bT)
    have old2 : ∀ b o, b ∉ nCells e z TI TO i1 i2 → s.heap.get? b = some o → g2.get? b = some o := fun b o nb q => by
      have n1 : b ≠ e := fun k => nb (by simp [k])
      refine same.extBut _ _ n1 (keep b o n1 (fun k => nb (by simp [k])) (fun k => nb (by simp [k])) (fun k => nb (by simp [k])) (fun k => nb (by simp [k])) q)
    have hU : H U = none := I.hok.fresh bU
    have hTn : H T = none := I.hok.fresh bT
    have o1 : ObjOk X.prog X.w (upd H U (.tup [x, y])) g2 U (.tup [x, y]) := ⟨(by decide : 2 ≤ sizeLine), [x2, y2], .cons ru (.cons rv .nil), ⟨_, same.extBut _ _ nU tU, rfl, _, rfl⟩⟩
    have o2 : ObjOk X.prog X.w (upd (upd H U (.tup [x, y])) T (.tup [.int (i : Nat), .ref U])) g2 T (.tup [.int (i : Nat), .ref U]) := ⟨(by decide : 2 ≤ sizeLine), [.int ((i : Nat) : Int) t, .ref U], .cons ⟨t, rfl⟩ (.cons rfl .nil), ⟨_, same.extBut _ _ nT tT, rfl, _, rfl⟩⟩
    have after := turned_two (tk := tk) I old2 free bU bT nUT.symm o1 o2
    have far : ∀ b ∈ nCells e z TI TO i1 i2, b ≠ U ∧ b ≠ T := fun b m => by
      have lt : b < s.heap.objs.size := by
        obtain ⟨o1, g1, _⟩ := k1.cell
        obtain ⟨o2, g2, _⟩ := k2.cell
        obtain ⟨_, _, _, czk⟩ := cz
        obtain ⟨_, _, cOk⟩ := cO
        simp at m
        rcases m with q | q | q | q | q | q <;> subst q
        · exact elt
        · exact Heap.lt_size czk
        · exact Heap.lt_size cI
        · exact Heap.lt_size cOk
        · exact Heap.lt_size g1
        · exact Heap.lt_size g2
      exact ⟨fun q => absurd (q ▸ lt) (Nat.not_lt.mpr bU), fun q => absurd (q ▸ lt) (Nat.not_lt.mpr bT)⟩
    obtain ⟨vz, fz, hvz, zk⟩ := zo
    obtain ⟨p3, q3, ok⟩ := oo
    refine ⟨.ref T, _, after, rfl, ⟨T, U, x, y, rfl, hU, hTn, nUT.symm, rfl, fun xs' ys' hx' hy' => ⟨injB I hx' hx ▸ ex, injB I hy' hy ▸ ey⟩⟩, ⟨⟨_, by rw [Int.natCast_add]; exact ce2⟩, ⟨vz, fz, hvz, same.extBut _ _ D.ez.symm zk⟩, ?_, ⟨p3, q3, same.extBut _ _ D.eO.symm ok⟩, s1.1.at fun o => same.extBut _ o D.e1.symm, s2.1.at fun o => same.extBut _ o D.e2.symm⟩, fun b m => by rw [upd_ne (far b m).2, upd_ne (far b m).1]; exact (free b m).1⟩
    have kI := keep TI _ D.eI.symm D.zip.TIz D.zip.TITO D.zip.TIi1 D.zip.TIi2 cI
    exact same.extBut _ _ D.eI.symm kI
  done := by
    rintro X rfl rfl rfl calm i pins s σ H E I free ⟨⟨old, ce⟩, cz, cI, cO, k1, k2⟩ ⟨xs, ys, ⟨hx, hy⟩, lx, ly⟩
    obtain ⟨us, vus, isu⟩ := invB I hx
    have len := vus.length
    have hT : s.TypeIs (.ref e) "enumerate" := ⟨_, ce, rfl⟩
    have hZ : s.TypeIs (.ref z) "zip" := by obtain ⟨v, f, _, k⟩ := cz; exact ⟨_, k, rfl⟩
    have d1 := drawsB (prog := X.prog) (w := X.w) (A := X.A.in1.in1) b1 (I.ok.hd calm) i1 a D.zip.l1i1 us.toArray
    have last : IterB b1 s.heap i1 a us.toArray.size ∧ IsB b1 s.heap a us.toArray := ⟨by rw [List.size_toArray, ← len, lx]; exact k1, isu⟩
    unfold pyNext
    refine wpAny_bind (wpAny_attempt (wpAny_callSpecial?_slot (name := Str.ofString "__next__") hT F.slot_enumerate_next (wpAny_call_entry F.slot_enumerate_next hT F.entry_enumerate_next ?_ (F.args_enumerate_next_1 _))))
    change wpAny _ _ (field (Value.ref e) 2 >>= _) _ _ _
    refine wpAny_bind (wpAny_field ce rfl (x := .ref z) rfl (wpAny_bind ?_))
    unfold Builtin.SmallTypes.nextOf
    refine wpAny_bind (wpAny_callSpecial?_slot (name := Str.ofString "__next__") hZ F.slot_zip_next (wpAny_call_entry F.slot_zip_next hZ F.entry_zip_next
      (zip_stop (sepB D.zip (b := b)) d1 cz cI cO last fun g tk x keep st => ?_) (F.args_zip_next_1 _)))
    obtain ⟨o, ho, hc⟩ := st
    refine wpAny_bind (wpAny_isInstance (T := "StopIteration") (b := true) ⟨o, ho, hc⟩ isSubtype_stop (wpAny_pure ⟨rfl, ?_⟩))
    refine Inv.turnedL (t' := tk) I (fun b o nb q => keep b o (fun k => nb (by simp [k])) (fun k => nb (by simp [k])) (fun k => nb (by simp [k])) (fun k => nb (by simp [k])) q) free
/-! the rule -/
def iNumZ (K : PySem.W.Frag) (ta : TA) : TI := fun σ H R => ta σ H fun vs H1 => match vs with | [.ref a, .ref b] => ∃ (b1 b2 : Bool) (xs ys : List V), SqB K b1 H1 a xs ∧ SqB K b2 H1 b ys ∧ R (ItN K b1 b2 a b) H1 | _ => False
theorem zpi_numzip {X : Cx} {e1 e2 : Expr} {ta : TA} {p p2 pos pos2 tpos : Pos} {elts : List Expr} {kk : Nat} (hg : Gl X "enumerate") (hm : X.mg "enumerate" = none) (hg2 : Gl X "zip") (hm2 : X.mg "zip" = none) (ha : PA X [e1, e2] ta)
    (hs : starEach [e1, e2] X.env = (false, eval e1 X.env) :: starEach [e2] X.env := by rfl) (hpl : (backTo pos2 (starEach [e2] X.env)).any (·.1) = false := by rfl)
    (hs2 : starEach [.Call (.Name "zip" p2) [e1, e2] [] pos2] X.env = [(false, eval (.Call (.Name "zip" p2) [e1, e2] [] pos2) X.env)] := by rfl) :
    PI X (.Tuple elts kk tpos) (.Call (.Name "enumerate" p) [.Call (.Name "zip" p2) [e1, e2] [] pos2] [] pos) (iNumZ X.K ta) := by
  refine ⟨fun pins s σ H R I h => ?_⟩
  refine Call_ (ld_blt I hg hm boot_enumerate (PyProof.Rows.callWith_type1 ?_ hs2 rfl))
  rw [hs2]
  change wpAny _ _ (spliced ((false, eval (.Call (.Name "zip" p2) [e1, e2] [] pos2) X.env) :: backTo pos [])) _ _ s
  refine Calls.spliced_cons (Call_ (ld_blt I hg2 hm2 PyProof.Rows.boot_zip (PyProof.Rows.callWith_type1 (thn (ha.run pos2 pins s σ H _ I h) fun us s1 ⟨vs, H1, I1, r1, q1⟩ => ?_) hs hpl)))
  dsimp only at q1
  split at q1
  · rename_i a b
    obtain ⟨b1, b2, xs, ys, hqx, hqy, q⟩ := q1
    cases r1 with
    | cons r rr =>
      cases rr with
      | cons r' rr =>
        cases rr
        cases r
        cases r'
        obtain ⟨its, rv, p1⟩ := invB I1 hqx
        obtain ⟨its2, rv2, p3⟩ := invB I1 hqy
        refine zip_begins2 (beginsB b1 a its.toArray) (beginsB b2 b its2.toArray) p1 p3 fun g hz hTI hTO h1 h2 hsz hk => ?_
        refine Calls.spliced_nil ?_
        refine call_enum_zip hz fun g2 he keep => wpAny_pyIter_enum he ?_
        generalize hN : s1.heap.objs.size = N at *
        replace hsz : g.objs.size = N + 5 := hsz
        have la : a < N := hN ▸ p1.lt
        have lb : b < N := hN ▸ p3.lt
        have six : ∀ c ∈ nCells g.objs.size (N + 4) (N + 2) (N + 3) N (N + 1), FpOk X pins H1 c := fun c m => by
          have big : s1.heap.objs.size ≤ c := by
            rw [hN]
            simp at m
            rcases m with q | q | q | q | q | q
            · exact Nat.le_trans (Nat.le_add_right N 5) (Nat.le_of_eq (hsz.symm.trans (show (c : Nat) = g.objs.size from q).symm))
            · exact Nat.le_trans (Nat.le_add_right N 4) (Nat.le_of_eq (show (c : Nat) = N + 4 from q).symm)
            · exact Nat.le_trans (Nat.le_add_right N 2) (Nat.le_of_eq (show (c : Nat) = N + 2 from q).symm)
            · exact Nat.le_trans (Nat.le_add_right N 3) (Nat.le_of_eq (show (c : Nat) = N + 3 from q).symm)
            · exact Nat.le_of_eq (show (c : Nat) = N from q).symm
            · exact Nat.le_trans (Nat.le_add_right N 1) (Nat.le_of_eq (show (c : Nat) = N + 1 from q).symm)
          exact Inv.fpOk I1 big (HOk.fresh I1.hok big)
        have begun := Inv.kept (t' := s1.toks) I1 fun b o k => keep b o (hk b o k)
        have far : ∀ c : Nat, c < N + 5 → (g.objs.size : Addr) ≠ c := fun c l q => by
          have q' : (g.objs.size : Nat) = c := q
          omega
        have D : NApart g.objs.size (N + 4) (N + 2) (N + 3) N (N + 1) a b := ⟨PySem.W.ktu_apart N a b la lb, far (N + 4) (by omega), far (N + 2) (by omega), far (N + 3) (by omega), far N (by omega), far (N + 1) (by omega), far a (Nat.lt_trans la (by omega)), far b (Nat.lt_trans lb (by omega))⟩
        exact ⟨_, _, _, _, H1, rfl, begun, turn_numzip (b1 := b1) (b2 := b2) D, ⟨⟨.none, he⟩, ⟨.none, false, .inl rfl, keep _ _ hz⟩, keep _ _ hTI, ⟨_, _, keep _ _ hTO⟩, iterB_new (keep _ _ h1), iterB_new (keep _ _ h2)⟩, six, q⟩
  · exact q1.elim
end Z

set_option Elab.async false
set_option linter.all false
set_option maxRecDepth 100000
set_option maxHeartbeats 4000000
namespace Z
open PySem PySem.Spec PyProof.Rows L2
/-! t * k for each k, t + u for each t and u -/
/-- tuple.__mul__ gives the tuple itself: once, or where there is nothing in it -/
theorem mul_itself (l : Addr) (row : Array Value) (ep : Nat) (dict : Option Addr) (slots : Array (Option Value)) (k : Int) (tk : Tok) (fits : (decide (k < -(2 ^ 63)) || decide (k ≥ 2 ^ 63)) = false) (once : (row.isEmpty || k == 1) = true) :
    Meets (Builtin.«tuple.__mul__» ⟨[.ref l, .int k tk], []⟩) fun _ R s => s.heap.get? l = some { cls := .type "tuple", dict := dict, data := .seq row ep, slots := slots } ∧ R (.ok (.ret (Value.ref l))) { s with heap := s.heap, toks := s.toks } :=
  .of_wp fun _ _ _ _ s q => by
    obtain ⟨hp, gs, dr, n, os⟩ := s
    obtain ⟨at_l, q⟩ := q
    have index := AutoSeq1.idx_int
    wp_walk using wpAny_loadPart' at_l
    rw [if_neg (by rw [fits]; exact Bool.false_ne_true)]
    wp_walk using wpAny_loadPart' at_l
    exact ⟨_, rfl, q⟩
/-- tuple.__mul__ gives a new empty tuple: none of it -/
theorem mul_nothing (l : Addr) (row : Array Value) (ep : Nat) (dict : Option Addr) (slots : Array (Option Value)) (k : Int) (tk : Tok) (fits : (decide (k < -(2 ^ 63)) || decide (k ≥ 2 ^ 63)) = false) (more : (row.isEmpty || k == 1) = false) (none : (decide (k ≤ 0) || row.isEmpty) = true) :
    Meets (Builtin.«tuple.__mul__» ⟨[.ref l, .int k tk], []⟩) fun _ R s => s.heap.get? l = some { cls := .type "tuple", dict := dict, data := .seq row ep, slots := slots } ∧
      R (.ok (.ret (Value.ref s.heap.objs.size))) { s with heap := s.heap.push { cls := Value.type "tuple", data := Data.seq #[] }, toks := s.toks } :=
  .of_wp fun _ _ _ _ s q => by
    obtain ⟨hp, gs, dr, n, os⟩ := s
    obtain ⟨at_l, q⟩ := q
    have index := AutoSeq1.idx_int
    wp_walk using wpAny_loadPart' at_l
    rw [if_neg (by rw [fits]; exact Bool.false_ne_true)]
    wp_walk using wpAny_loadPart' at_l
    exact ⟨_, rfl, q⟩
section
variable {X : Cx}
/-- t * k ends as tuple.__mul__ of it does -/
theorem times_by {prog : Program} {w : World} {A : Around} {E Q : Value → Shared → Prop} {s : Shared} {l : Addr} {row : Array Value} {ep : Nat} {dict : Option Addr} {slots : Array (Option Value)} {k : Int} {tk : Tok}
    (at_l : s.heap.get? l = some { cls := .type "tuple", dict := dict, data := .seq row ep, slots := slots }) (m : wpAny (model prog w) A (call (.builtin "tuple.__mul__") [.ref l, .int k tk]) Q E s) : wpAny (model prog w) A (binaryOp .Mult (.ref l) (.int k tk)) Q E s := by
  have isT : s.TypeIs (.ref l) "tuple" := ⟨_, at_l, rfl⟩
  have declines := call_meets (Q := fun v s' => v = .notImplemented ∧ s'.TypeIs (.ref l) "tuple" ∧ wpAny (model prog w) A (call (.builtin "tuple.__mul__") [.ref l, .int k tk]) Q E s') (E := E) (A := A) (prog := prog) (w := w) F.slot_int_rmul (typeIs_int s k tk) F.entry_int_rmul (F.args_int_rmul_2 _ _) (int_rmul_tuple k tk l row ep dict slots) ⟨at_l, rfl, isT, m⟩
  exact wpAny_binaryOp_repeat_ref (by decide) isT (fun z => typeIs_int z k tk) noFill_tuple_mul F.fills_int_mul F.slot_int_rmul repeat_tuple F.slot_int_index.lookup declines
/-- t * k -/
def zTRepA (K : PySem.W.Frag) : R2 := fun x y H Q => match x, y with | .ref l, .int k => ∃ xs, SqT K H l xs ∧ (xs ≠ [] ∧ k ≤ 1000 ∧ -1000 ≤ k ∧ xs.length ≤ 1000) ∧ (∀ p H', SqT K H' p (List.replicate k.toNat xs).flatten → Same H H' → Q (.ref p) H') | _, _ => False
theorem zmulTA : OpR X (binaryOp .Mult) (zTRepA X.K) := by
  intro pins s σ H x y v u Q I rx ry q
  unfold zTRepA at q
  split at q
  case h_2 => exact q.elim
  rename_i l k
  obtain ⟨xs, known, ⟨some, up, down, short⟩, q⟩ := q
  by_cases two : 2 ≤ k
  · exact op_repT pins s σ H _ _ v u Q I rx ry ⟨l, k, xs, rfl, rfl, known, some, two, up, short, fun p free => q p _ (SqT.of upd_same) (same_upd free)⟩
  cases rx
  obtain ⟨tk, rfl⟩ := ry
  obtain ⟨row, same, ⟨⟨c, dict, data, slots⟩, at_l, isT, ep, isSeq⟩, _⟩ := I.tuple known
  simp only at isT isSeq
  subst isT isSeq
  have fits : (decide (k < -(2 ^ 63)) || decide (k ≥ 2 ^ 63)) = false := by
    rw [decide_eq_false (by omega : ¬ k < -(2 ^ 63)), decide_eq_false (by omega : ¬ k ≥ 2 ^ 63)]; rfl
  have tup : s.TypeIs (.ref l) "tuple" := ⟨_, at_l, rfl⟩
  refine times_by at_l ?_
  by_cases one : k = 1
  · have all : (List.replicate k.toNat xs).flatten = xs := by
      rw [one]
      show (List.replicate 1 xs).flatten = xs
      simp
    rw [all] at q
    have once : (row.toArray.isEmpty || k == 1) = true := by rw [one, beq_self_eq_true, Bool.or_true]
    exact call_meets F.slot_tuple_mul tup F.entry_tuple_mul (F.args_tuple_mul_2 _ _) (mul_itself l row.toArray ep dict slots k tk fits once) ⟨at_l, .ref l, H, I, rfl, q l H known (Same.refl H)⟩
  · have nought : k ≤ 0 := by omega
    have nothing : (List.replicate k.toNat xs).flatten = [] := by rw [Int.toNat_of_nonpos nought]; rfl
    rw [nothing] at q
    have filled : row.toArray.isEmpty = false := by
      cases row with
      | nil => cases same; exact absurd rfl some
      | cons _ _ => rfl
    have more : (row.toArray.isEmpty || k == 1) = false := by rw [filled, Bool.false_or, beq_eq_false_iff_ne.mpr one]
    have none : (decide (k ≤ 0) || row.toArray.isEmpty) = true := by rw [decide_eq_true nought]; rfl
    have free := I.hok.fresh (Nat.le_refl s.heap.objs.size)
    have laid := I.laid (t' := s.toks) (o := .tup []) (h' := s.heap.push { cls := Value.type "tuple", data := Data.seq #[] }) (fun _ _ e => Heap.get?_push_of_some _ e) (Nat.le_refl _) ⟨Nat.zero_le _, [], .nil, IsTup.new _ _⟩
    exact call_meets F.slot_tuple_mul tup F.entry_tuple_mul (F.args_tuple_mul_2 _ _) (mul_nothing l row.toArray ep dict slots k tk fits more none) ⟨at_l, .ref s.heap.objs.size, _, laid, rfl, q _ _ (SqT.of upd_same) (same_upd free)⟩
/-- t + u -/
def zTCatA (K : PySem.W.Frag) : R2 := fun x y H Q => match x, y with | .ref l, .ref b => ∃ xs zs, SqT K H l xs ∧ SqT K H b zs ∧ xs.length + zs.length ≤ sizeLine ∧ (∀ p H', SqT K H' p (xs ++ zs) → Same H H' → Q (.ref p) H') | _, _ => False
theorem ztcatA : OpR X (binaryOp .Add) (zTCatA X.K) := opM op_catA fun x y H Q q => by
  unfold zTCatA at q
  split at q
  · obtain ⟨xs, zs, h1, h2, h5, q⟩ := q
    refine ⟨_, _, xs, zs, rfl, rfl, h1, h2, h5, fun e => ?_, fun _ e => ?_, fun _ _ p n => q p _ (SqT.of upd_same) (same_upd n)⟩
    · subst e
      exact q _ H h2 (Same.refl H)
    · subst e
      rw [List.append_nil] at q
      exact q _ H h1 (Same.refl H)
  · exact q.elim
end
end Z
namespace Z
open PySem PySem.Spec PyProof.Rows L2
/-- a new pair of the number and a new pair of the i-th of two rows -/
def YNumZ (xs ys : List V) : Nat → Hp → V → Hp → Prop := fun i H v H' => ∃ (T U : Addr) (x y : V), v = .ref T ∧ H' T = some (.tup [.int (i : Nat), .ref U]) ∧ H' U = some (.tup [x, y]) ∧ Same H H' ∧ xs[i]? = some x ∧ ys[i]? = some y
theorem walk_numzip {K : PySem.W.Frag} {b1 b2 : Bool} {a b : Addr} {xs ys : List V} {n : Nat} (h1 : xs.length = n) (h2 : ys.length = n) : Walk (ItN K b1 b2 a b) n (fun H => SqB K b1 H a xs ∧ SqB K b2 H b ys) (YNumZ xs ys) := by
  subst h1
  refine ⟨fun i _ lt q => ⟨xs, ys, xs[i], ys[i], q, by simp [lt], by simp [h2, lt]⟩, fun _ q => ⟨xs, ys, q, rfl, h2⟩, ?_⟩
  rintro i H v H' _ q ⟨T, U, x, y, e, nU, nT, ne, rfl, told⟩
  obtain ⟨k1, k2⟩ := told xs ys q.1 q.2
  have nT2 : upd H U (.tup [x, y]) T = none := (upd_ne ne).trans nT
  exact ⟨T, U, x, y, e, upd_same, (upd_ne (Ne.symm ne)).trans upd_same, (same_upd nU).trans (same_upd nT2), k1, k2⟩
theorem sqT_same {K : PySem.W.Frag} {H H' : Hp} {a : Addr} {xs : List V} (h : SqT K H a xs) (S : Same H H') : SqT K H' a xs := by
  rcases h with h | h
  · rcases h with h | ⟨u, h⟩
    · exact .inl (.inl (S _ _ h))
    · exact .inl (.inr ⟨u, S _ _ h⟩)
  · exact .inr h
end Z

set_option Elab.async false
set_option linter.all false
set_option maxRecDepth 100000
namespace Z
open PySem PySem.Spec PyProof.Rows L2
/-! list(range(a, b)) with ends of any size -/
/-- ahead of the loop: the list at S is empty, the long iterator at I stands at its first number, all but S as in h0 -/
structure Ready (h0 : Heap) (S I : Addr) (a : Int) (n : Nat) (h : Heap) : Prop where
  iter : IsLongIter h I a (n : Int) 1
  empty : ∃ ep, h.get? S = some { cls := .type "list", data := .seq #[] ep }
  rest : ∀ b o, b ≠ S → h0.get? b = some o → h.get? b = some o
/-- what the list is when the loop has ended -/
def Filled (h0 : Heap) (S : Addr) (a : Int) (n : Nat) (h : Heap) : Prop :=
  (∃ (us : Array Value) (ep : Nat), h.get? S = some { cls := .type "list", data := .seq us ep } ∧ ItemsOf (fun i v => ∃ t, v = .int (a + i * 1) t) us n) ∧ ∀ b o, b ≠ S → h0.get? b = some o → h.get? b = some o
section
variable {prog : Program} {w : World} {A : Around}
theorem Ready.runs {R : Result → Shared → Prop} {s : Shared} {h0 : Heap} {S I : Addr} {a : Int} {n : Nat} {x : Value} (y : Ready h0 S I a n s.heap) (calm : A.handled = none) (few : n ≤ 2 ^ 24) (far : h0.objs.size ≤ I) (ne : S ≠ I)
    (q : ∀ h tk, Filled h0 S a n h → R (.ok (.ret x)) { s with heap := h, toks := tk }) : codeAny (model prog w) A (.builtin "list.extend.loop" ⟨[.ref S, .ref I, x], []⟩) R s := by
  obtain ⟨ep, em⟩ := y.empty
  have walk := (Walks.longrange (prog := prog) (w := w) (A := A.in1) calm I a 1 n).toS
  have first : IsLongIter s.heap I (a + ((0 : Nat) : Int) * 1) ((n : Int) - ((0 : Nat) : Int)) 1 := by
    have e1 : a + ((0 : Nat) : Int) * 1 = a := by simp
    have e2 : (n : Int) - ((0 : Nat) : Int) = (n : Int) := by simp
    rw [e1, e2]
    exact y.iter
  refine codeAny_extend_loopS walk (Nat.le_trans few (by decide)) S (fun m => ne (List.mem_singleton.mp m)) x n 0 s #[] ep rfl (Nat.zero_le n) first em (ItemsOf.nil _) fun s' us ep' moved full items => ?_
  rw [Moved.eq_with moved]
  refine q _ _ ⟨⟨us, ep', full, items⟩, fun b o nS old => moved.heap b o (fun m => ?_) (y.rest b o nS old)⟩
  rcases List.mem_cons.mp m with z | z
  · exact nS z
  · have lt := Heap.lt_size old
    rw [List.mem_singleton.mp z] at lt
    exact absurd far (Nat.not_le.mpr lt)
/-- a value is put at the end and taken off again: the list is empty as before -/
theorem Ready.room {E : Value → Shared → Prop} {s : Shared} {h0 : Heap} {S I : Addr} {a : Int} {n : Nat} {Q : Unit → Shared → Prop} (y : Ready h0 S I a n s.heap) (ne : S ≠ I) (q : ∀ h, Ready h0 S I a n h → Q () { s with heap := h }) :
    wpAny (model prog w) A (updateSeq S (·.push .none) >>= fun _ => updateSeq S (·.pop)) Q E s := by
  obtain ⟨ep, em⟩ := y.empty
  have em1 := Heap.get?_update_self (Obj.mapSeq (·.push Value.none)) em rfl
  have em2 := Heap.get?_update_self (Obj.mapSeq (·.pop)) em1 rfl
  have same : ∀ b, b ≠ S → ((s.heap.update S (Obj.mapSeq (·.push Value.none))).update S (Obj.mapSeq (·.pop))).get? b = s.heap.get? b := fun b nb => (Heap.get?_update_other _ _ (Ne.symm nb)).trans (Heap.get?_update_other _ _ (Ne.symm nb))
  refine wpAny_bind (wpAny_updateSeq em rfl (wpAny_updateSeq (hz := by seq_fits) em1 rfl (q _ ⟨?_, ⟨_, em2⟩, fun b o nb old => (same b nb).trans (y.rest b o nb old)⟩)))
  exact (same I (Ne.symm ne)).trans y.iter
theorem extend_long {R : Result → Shared → Prop} {s : Shared} {r S : Addr} {a b : Int} {t u v : Tok} {n ep : Nat} {x : Value} (calm : A.handled = none) (hr : IsRange s.heap r a b 1 t u v) (long : Builtin.Range.small a b 1 = false)
    (many : Builtin.Range.rangeSize a b 1 = n) (few : n ≤ 2 ^ 24) (em : s.heap.get? S = some { cls := .type "list", data := .seq #[] ep }) (q : ∀ h tk, Filled s.heap S a n h → R (.ok (.ret x)) { s with heap := h, toks := tk }) :
    wpAny (model prog w) A.in1 (Builtin.List.listExtendWith (.ref S) (.ref r) x)
      (fun f s' => match f with | .done z => R (.ok z) s' | .again c => c.quiet = true ∧ codeAny (model prog w) A c R s') (fun e s' => R (.error e) s') s := by
  have nr : S ≠ r := fun z => by
    rw [z, hr] at em
    exact absurd (congrArg (fun o : Option Obj => o.map (·.cls)) em) (by simp)
  have nI : S ≠ s.heap.objs.size := Nat.ne_of_lt (Heap.lt_size em)
  have other : Builtin.List.listSameRef (.ref S) (.ref r) = false := beq_eq_false_iff_ne.mpr nr
  unfold Builtin.List.listExtendWith
  refine wpAny_bind (wpAny_typeOf (T := "range") ⟨_, hr, rfl⟩ ?_)
  have k1 : (Value.type "range" == Value.type "list") = false := by decide
  have k2 : (Value.type "range" == Value.type "tuple") = false := by decide
  simp only [other, k1, k2, Bool.or_false, Bool.false_eq_true, if_false]
  refine wpAny_bind (wpAny_pyIter_longrange hr long (wpAny_bind (wpAny_holding (wpAny_hint_range (n := n) (Heap.get?_push_of_some _ hr) many few ?_))))
  have ready : Ready s.heap S s.heap.objs.size a n (s.heap.push { cls := .type "longrange_iterator", data := .fields #[rawInt a, rawInt (Builtin.Range.rangeSize a b 1), rawInt 1] }) := by
    refine ⟨?_, ⟨ep, Heap.get?_push_of_some _ em⟩, fun c o _ old => Heap.get?_push_of_some _ old⟩
    rw [many]
    exact Heap.get?_push_size _ rfl
  have plain := plainId_quiet F.plain_extend_loop ⟨[.ref S, .ref s.heap.objs.size, x], []⟩
  refine wpAny_ite_split (fun _ => wpAny_bind (wpAny_rule (wpAny_bind ?_))) (fun _ => wpAny_pure ⟨plain, ready.runs (s := { s with heap := _, toks := _ }) calm few (Nat.le_refl _) nI q⟩)
  exact Ready.room (s := { s with heap := _, toks := _ }) ready nI fun h y => wpAny_pure ⟨plain, y.runs (s := { s with heap := h, toks := _ }) calm few (Nat.le_refl _) nI q⟩
theorem call_list_rangeW {E : Value → Shared → Prop} {s : Shared} {Q : Value → Shared → Prop} {r : Addr} {a b : Int} {t u v : Tok} {n : Nat} (calm : A.handled = none) (hr : IsRange s.heap r a b 1 t u v)
    (many : Builtin.Range.rangeSize a b 1 = n) (few : n ≤ 2 ^ 24)
    (q : ∀ h tk us ep, (∀ b o, s.heap.get? b = some o → h.get? b = some o) → h.get? s.heap.objs.size = some { cls := .type "list", data := .seq us ep } →
      ItemsOf (fun i v => ∃ t, v = .int (a + i * 1) t) us n → Q (.ref s.heap.objs.size) { s with heap := h, toks := tk }) : wpAny (model prog w) A (call (.type "list") [.ref r]) Q E s := by
  cases size : Builtin.Range.small a b 1 with
  | true => exact call_list_range calm hr size many few q
  | false =>
  refine callType_codes (Q₁ := fun made s1 => made = .ref s.heap.objs.size ∧ s1 = { s with heap := s.heap.push { cls := .type "list", data := .seq #[] } }) F.called_list (F.typeCall_list_1 _) F.entry_list_init (code_list_new _ ⟨rfl, rfl⟩) fun made s1 e => ?_
  obtain ⟨rfl, rfl⟩ := e
  have em : (s.heap.push { cls := .type "list", data := .seq #[] }).get? s.heap.objs.size = some { cls := .type "list", data := .seq #[] } := Heap.get?_push_size _ rfl
  have hr1 := Heap.get?_push_of_some { cls := .type "list", data := .seq #[] } hr
  have em1 := Heap.get?_update_self (Obj.mapSeq (fun _ => (#[] : Array Value))) em rfl
  have off : ∀ c o, c ≠ s.heap.objs.size → (s.heap.push { cls := .type "list", data := .seq #[] }).get? c = some o → ((s.heap.push { cls := .type "list", data := .seq #[] }).update s.heap.objs.size (Obj.mapSeq (fun _ => (#[] : Array Value)))).get? c = some o := fun c o nc old => (Heap.get?_update_other _ _ (Ne.symm nc)).trans old
  refine ⟨⟨_, em, rfl⟩, F.args_list_init_2 _ _, ?_⟩
  show wpAny _ _ (Builtin.List.listItems (.ref s.heap.objs.size) >>= fun was => Builtin.List.listUpdate (.ref s.heap.objs.size) (fun _ => #[]) >>= fun _ => letGo was.toList.reverse >>= fun _ => Builtin.List.listExtendWith (.ref s.heap.objs.size) (.ref r) .none) _ _ _
  unfold Builtin.List.listItems
  refine wpAny_bind (wpAny_bind (wpAny_seqItems em rfl (wpAny_pure ?_)))
  refine wpAny_bind (m := updateSeq s.heap.objs.size fun _ => #[]) (wpAny_updateSeq em rfl (wpAny_bind (wpAny_letGo ?_)))
  refine extend_long (A := A.in1) (s := { s with heap := _ }) calm (off r _ (Nat.ne_of_lt (Heap.lt_size hr)) hr1) size many few em1 fun h tk ⟨⟨us, ep, full, items⟩, rest⟩ => ?_
  exact ⟨rfl, q h tk us ep (fun c o old => rest c o (Nat.ne_of_lt (Heap.lt_size old)) (off c o (Nat.ne_of_lt (Heap.lt_size old)) (Heap.get?_push_of_some _ old))) full items⟩
end
section
variable {X : Cx} {e : Expr} {te : L2.St → Hp → (Int → Int → Hp → Prop) → Prop}
def zLstRg (te : L2.St → Hp → (Int → Int → Hp → Prop) → Prop) : TE := fun σ H Q => te σ H fun a b H1 => (b - a).toNat ≤ 2 ^ 24 ∧ New H1 (.lst (rgV a b)) Q
theorem zpe_listRg {p pos : Pos} (calm : X.calm = true) (hg : Gl X "list") (hm : X.mg "list" = none) (he : PRg X e te) (na : starEach [e] X.env = (false, eval e X.env) :: starEach [] X.env := by rfl) : PE X (.Call (.Name "list" p) [e] [] pos) (zLstRg te) := by
  refine ⟨fun pins s σ H Q I h => Call_ (ld_blt I hg hm boot_list (PyProof.Rows.callWith_type1 (args_cons (thn (he pins s σ H _ I h) fun x s1 ⟨r, a, b, t, u, v, H1, ex, hr, I1, few, q⟩ => args_nil ?_) na) na))⟩
  subst ex
  have new := I1.hok.fresh (Nat.le_refl s1.heap.objs.size)
  refine call_list_rangeW (n := (b - a).toNat) (I1.ok.hd calm) hr (rangeSize_nat a b) few fun h tk us ep old full items => ?_
  have short : (rgV a b).length ≤ sizeLine := by
    rw [rgV_length, sizeLine_eq]
    omega
  have listed : ObjOk X.prog X.w (upd H1 s1.heap.objs.size (.lst (rgV a b))) h s1.heap.objs.size (.lst (rgV a b)) := ⟨short, us.toList, ep, vals_rg items, by rw [Array.toArray_toList]; exact full⟩
  exact ⟨.ref s1.heap.objs.size, _, I1.laid old (Nat.le_refl _) listed, rfl, q _ _ new upd_same (same_upd new)⟩
end
end Z

set_option Elab.async false
set_option linter.all false
set_option maxRecDepth 100000
set_option maxHeartbeats 4000000
namespace Z
open PySem PySem.Spec PyProof.Rows L2
/-! set(xs) of a list of whole numbers, sorted of it -/
abbrev noMembers (w : World) : Obj := { cls := .type "set", dict := none, data := .set #[] 0 (.fresh 0 0 (!w.params.followText "set-order")) }
section
variable {prog : Program} {w : World} {A : Around} {E Q : Value → Shared → Prop} {s : Shared}
/-- set(x): a new set, and what set.__init__ does with it and x -/
theorem set_made {x : Value} (init : codeAny (model prog w) A.in1 (.call (.builtin "set.__init__") ⟨[.ref s.heap.objs.size, x], []⟩) (wants (fun r s2 => r = .none ∧ Q (.ref s.heap.objs.size) s2) E) { s with heap := s.heap.push (noMembers w) }) :
    wpAny (model prog w) A (call (.type "set") [x]) Q E s := by
  obtain ⟨above, rest, order⟩ := F.called_set.mro
  have u1 := F.called_set.made
  have u2 := F.called_set.sub
  have u3 := F.called_set.notType
  have u4 := F.called_set.canCreate
  have u5 := F.typeCall_set_1 x
  refine wpAny_call (codeAny_of_tree ?_)
  show wpAny _ _ (callAny (.type "set") _) _ _ _
  refine wpAny_pure ⟨Code.quiet_builtin _ (by decide +kernel), codeAny_builtin F.entry_type_call ?_⟩
  rw [Around.under_plain (weight_type_call_type "set" [x] []) rfl]
  repeat (any_goals (first | assumption | wp_step))
  refine codeAny_mono (code_set_led1 x (E := E) (Q₁ := fun made s1 => made = .ref s.heap.objs.size ∧ s1 = { s with heap := s.heap.push (noMembers w) }) ⟨rfl, rfl⟩) fun r s1 made => ?_
  rcases r with e | f
  · exact made
  cases f with
  | ret o =>
    obtain ⟨rfl, rfl⟩ := made
    have typed : Shared.TypeIs { s with heap := s.heap.push (noMembers w) } (.ref s.heap.objs.size) "set" := ⟨_, Heap.get?_push_size _ rfl, rfl⟩
    have u6 := F.called_set.init.lookup
    have u7 := F.called_set.init.bind (.ref s.heap.objs.size)
    repeat (any_goals (first | assumption | wp_step))
    refine codeAny_mono init fun r2 s2 ended => ?_
    rcases r2 with e | f2
    · exact ended
    cases f2 with
    | ret y =>
      obtain ⟨rfl, ended⟩ := ended
      repeat (any_goals (first | assumption | wp_step))
    | _ => exact ended.elim
  | _ => exact made.elim
end
section
variable {prog : Program} {w : World} {A : Around} {E Q : Value → Shared → Prop} {s : Shared}
/-- set(xs), xs a list of whole numbers -/
theorem set_of_ints {l : Addr} {us : Array Value} {ns : List Int} (calm : A.handled = none) (hl : s.heap.IsList l us) (whole : IntsAre us.toList ns) (few : ns.length + 1 < scanBound)
    (q : ∀ (h : Heap) (tk c : Nat), SetR w h s.heap.objs.size (fun j => decide (j ∈ ns)) c → c ≤ ns.length → (∀ b o, s.heap.get? b = some o → h.get? b = some o) → Q (.ref s.heap.objs.size) { s with heap := h, toks := tk }) :
    wpAny (model prog w) A (call (.type "set") [.ref l]) Q E s := by
  have many : us.size = ns.length := by
    rw [← Array.length_toList]
    exact IntsAre.length whole
  have new : (s.heap.push (noMembers w)).get? s.heap.objs.size = some (noMembers w) := Heap.get?_push_size _ rfl
  have typed : Shared.TypeIs { s with heap := s.heap.push (noMembers w) } (.ref s.heap.objs.size) "set" := ⟨_, new, rfl⟩
  have low : l < s.heap.objs.size := by
    obtain ⟨_, at_l, _⟩ := hl
    exact Heap.lt_size at_l
  obtain ⟨⟨c, dict, data, slots⟩, at_l, isL, ep, isS⟩ := id hl
  simp only at isL isS
  subst isL isS
  have there : (s.heap.push (noMembers w)).IsList l us := ⟨_, Heap.get?_push_of_some _ at_l, rfl, ep, rfl⟩
  have at_l2 := Heap.get?_push_of_some (noMembers w) at_l
  have size1 : (s.heap.push (noMembers w)).objs.size = s.heap.objs.size + 1 := Heap.size_push ..
  have k1 := F.sub_list_set
  have k2 := F.sub_list_frozenset
  have k3 : (Value.type "list" == Value.type "dict") = false := by decide
  refine set_made (codeAny_call_builtin F.called_set.init.plain F.entry_set_init (check_set_init_1 typed ?_))
  unfold Builtin.«set.__init__» noKeywords Builtin.Frozenset.updateFrom
  generalize asks : pyIter = P
  wp_walk
  subst asks
  refine wpAny_pyIter_list there (wpAny_bind (wpAny_runValue ?_))
  have apart : l ≠ (s.heap.push (noMembers w)).objs.size := by
    rw [size1]
    exact Nat.ne_of_lt (Nat.lt_succ_of_lt low)
  have far : s.heap.objs.size ∉ [(s.heap.push (noMembers w)).objs.size, l] := by
    rw [size1]
    intro m
    rcases List.mem_cons.mp m with z | z
    · exact absurd z (Nat.ne_of_lt (Nat.lt_succ_self _))
    · exact absurd (List.mem_singleton.mp z) (Nat.ne_of_gt low)
  have value : ∀ (i : Nat) (v : Value), us[i]? = some v → ∃ k t, ns[i]? = some k ∧ v = .int k t := fun i v hv => by
    have lt : i < ns.length := by
      rw [← many]
      exact (Array.getElem?_eq_some_iff.mp hv).1
    obtain ⟨t, e⟩ := PyProof.Rows.IntsAre.int_at whole i v (by rw [Array.getElem?_toList]; exact hv)
    refine ⟨ns[i], t, List.getElem?_eq_getElem lt, ?_⟩
    rw [e, List.getD_eq_getElem?_getD, List.getElem?_eq_getElem lt] <;> rfl
  have calm3 : A.in1.in1.in1.handled = none := by simp [calm]
  have walk := (Walks.list (prog := prog) (w := w) (A := A.in1.in1.in1) calm3 (s.heap.push (noMembers w)).objs.size l apart us).toS
  refine set_update_ints walk s.heap.objs.size far ns many few value us.size 0 _ (Nat.sub_zero _) (Nat.zero_le _) ⟨⟨_, Heap.get?_push_size _ rfl, rfl, rfl⟩, there.push _⟩ ⟨0, Nat.le_refl 0, setR_new_at (Heap.get?_push_of_some _ new)⟩ fun s2 c moved small made => ?_
  obtain ⟨h2, g2, d2, t2, o2⟩ := s2
  cases moved.gens
  cases moved.drawn
  cases moved.os
  rw [many] at small
  refine wpAny_pure (wpAny_pure ⟨rfl, q h2 t2 c made small fun b o old => ?_⟩)
  have lt := Heap.lt_size old
  refine moved.heap b o (fun m => ?_) (Heap.get?_push_of_some _ (Heap.get?_push_of_some _ old))
  rcases List.mem_cons.mp m with z | z
  · exact absurd z (Nat.ne_of_lt lt)
  · rw [List.mem_singleton.mp z, size1] at lt
    exact absurd lt (Nat.not_lt.mpr (Nat.le_succ _))
end
section
variable {X : Cx}
def zSet (K : PySem.W.Frag) (w : World) : List V → Hp → VK → Prop := fun vs H Q => match vs with
  | [.ref a] => ∃ ns : List Int, SqL K H a (ns.map V.int) ∧ ns.length < 60 ∧ ∀ p c H', c ≤ ns.length → H p = none → H' p = some (SetO w p (fun j => decide (j ∈ ns)) c) → Same H H' → Q (.ref p) H'
  | _ => False
theorem zset (calm : X.calm = true) : CallR X (.type "set") (zSet X.K X.w) := by
  intro pins s σ H vs us Q I r q
  unfold zSet at q
  split at q
  case h_2 => exact q.elim
  rename_i a
  obtain ⟨ns, known, few, q⟩ := q
  rw [Vals.ref1 r]
  obtain ⟨row, same, isL, _⟩ := I.list known
  have hn : H s.heap.objs.size = none := I.hok.fresh (Nat.le_refl _)
  refine set_of_ints (ns := ns) (I.ok.hd calm) isL.isList ?_ (by show ns.length + 1 < scanBound; unfold scanBound; omega) fun h tk c made small old => ?_
  · exact intsAre_of same
  exact ⟨.ref s.heap.objs.size, _, I.laid (t' := tk) old (Nat.le_refl _) (setO_new made), rfl, q _ c _ small hn upd_same (same_upd hn)⟩
def zSorted (w : World) : List V → Hp → VK → Prop := fun vs H Q => match vs with
  | [.ref a] => ∃ S n, H a = some (SetO w a S n) ∧ n < 64 ∧ ∀ (ns : List Int) p H', ns.Pairwise (· < ·) → (∀ k : Int, k ∈ ns ↔ S k = true) → ns.length = n → H p = none → H' p = some (.lst (ns.map V.int)) → Same H H' → Q (.ref p) H'
  | _ => False
theorem zsortedSet (calm : X.calm = true) : CallR X (.builtin "sorted") (zSorted X.w) := callM (cr_sortedSet calm) fun vs H Q q => by
  unfold zSorted at q
  split at q
  · obtain ⟨S, n, h1, h2, q⟩ := q
    exact ⟨_, S, n, rfl, h1, h2, fun ns p a1 a2 a3 free => q ns p _ a1 a2 a3 free upd_same (same_upd free)⟩
  · exact q.elim
end
end Z

set_option Elab.async false
set_option linter.all false
set_option maxRecDepth 100000
set_option maxHeartbeats 4000000
/-! super().__init__(..) of a class over ValueError -/
namespace Z
open PySem PySem.Spec PyProof.Rows L2
namespace VE
open PySem.W PySem.Calls
abbrev held (e : Addr) : Obj := kxs_mw "ValueError.__init__" e
section
variable {prog : Program} {w : World} {A : Around} {E : Value → Shared → Prop} {h : Heap} {g : Array GenState} {dr : Drawn} {tk : Nat} {os : OsState}
variable {nm q : Str} {C N : Addr} {bs bm : List Value} {hdct : Bool} {sn : List Str} {sub : List Value} {ab : Bool} {col : Option Bool} {dd : Option Addr} {k0 k1 k2 k3 k5 : Option Value}
theorem runHeld {u e t0 : Addr} {us : List Value} {Q : Value → Shared → Prop} (cls : h.get? C = some (excClassObj nm q C N bs bm hdct sn sub ab col dd k0 k1 k2 k3 k5 "ValueError.__new__")) (ex : h.get? e = some (HandSPX.excO C t0)) (wr : h.get? u = some (held e)) (few : us.length ≤ sizeLine)
    (fin : ∀ h' t1, (∀ b o, b ≠ e → h.get? b = some o → h'.get? b = some o) → h'.get? e = some (HandSPX.excO C t1) → Q .none ⟨h', g, dr, tk, os⟩) : wpAny (model prog w) A (call (.ref u) us) Q E ⟨h, g, dr, tk, os⟩ := by
  refine wpAny_call (codeAny_of_tree ?_)
  show wpAny _ A.in1 (callAny (.ref u) ⟨us, []⟩) _ _ _
  simp only [callAny]
  refine wpAny_bind (wpAny_load wr ?_)
  simp only [held, (by decide : (Value.type "method-wrapper" == Value.type "method" || Value.type "method-wrapper" == Value.type "builtin_function_or_method" || Value.type "method-wrapper" == Value.type "method-wrapper") = true), if_true]
  refine KFB.if_so (by decide) (wpAny_bind (check_bound_init F.excBase_ValueError.toExcCallFacts cls ex rfl (wpAny_bind (wpAny_pure (wpAny_pure ?_)))))
  refine ⟨Code.quiet_builtin _ (by decide +kernel), codeAny_builtin F.excBase_ValueError.initEntry ?_⟩
  rw [Around.under_plainId F.excBase_ValueError.init.plain _]
  wp_walk
  refine fin _ h.objs.size ?_ ?_
  · intro b o nb gb
    exact (Heap.get?_update_other _ _ (Ne.symm nb)).trans (Heap.get?_push_of_some _ gb)
  · exact (Heap.get?_update_self _ (Heap.get?_push_of_some _ ex) rfl).trans rfl
end
end VE
/-! ### a def that closes over __class__ -/
structure KScope (P : List Str) (sc : Scope) : Prop where
  kind : sc.kind = .function
  co : sc.isCoroutine = false
  gen : sc.isGenerator = false
  nd : P.Nodup
  par : ∀ y ∈ P, sc.names.lookup y = some .local
  nocell : ∀ y ∈ sc.names, y.2 ≠ .cell
  free : ∀ y ∈ sc.names, y.2 = .free → y.1 = "__class__"
/-- the context of such a def's body -/
def kcx (CX : CXT) (P : Program) (w : World) (K : PySem.W.Frag) (mg : Str → Option Value) (base : Heap) (N : List Str) (qual : Str) (sc : Scope) (f cc : Addr) (cd : Value) (A : Around) (outer : List Env) (s : Shared) (H : Hp) (E : XK) : Cx :=
  { prog := P, w := w, K := K, mg := mg, base := base, A := A.deeper (PySem.W.ksEnv qual sc s.heap.objs.size f cd cc), N := N, s_0 := s, H_0 := H, env := PySem.W.ksEnv qual sc s.heap.objs.size f cd cc, outer := outer,
    stack := PySem.W.ksEnv qual sc s.heap.objs.size f cd cc :: outer, ex := [], calm := true, fn := fun y => y != "__class__", pn := [],
    xe := fun e t => wpAny (model P w) (A.deeper (PySem.W.ksEnv qual sc s.heap.objs.size f cd cc)) (leaving (PySem.W.ksEnv qual sc s.heap.objs.size f cd cc) e) (fun _ t2 => CX outer H s E e t2) (fun e2 t2 => CX outer H s E e2 t2) t }
theorem zrev : ∀ {P : List Str} {U : List Value} {i : Nat} {y : Str} {u : Value}, P.Nodup → P[i]? = some y → U[i]? = some u → (P.zip U).reverse.lookup y = some u
  | [], _, _, _, _, _, h, _ => by simp at h
  | _ :: _, [], _, _, _, _, _, h => by simp at h
  | p :: P, v :: U, 0, y, u, nd, hp, hu => by
    simp only [List.getElem?_cons_zero, Option.some.injEq] at hp hu
    subst hp
    subst hu
    rw [List.zip_cons_cons, List.reverse_cons, List.lookup_append]
    have no : (P.zip U).reverse.lookup p = none := by
      rw [List.lookup_eq_none_iff]
      rintro ⟨a, b⟩ m
      have ma := (List.of_mem_zip (List.mem_reverse.mp m)).1
      have : p ≠ a := fun z => (List.nodup_cons.mp nd).1 (z ▸ ma)
      simpa using this
    rw [no]
    simp
  | p :: P, v :: U, i + 1, y, u, nd, hp, hu => by
    simp only [List.getElem?_cons_succ] at hp hu
    rw [List.zip_cons_cons, List.reverse_cons, List.lookup_append, zrev (List.nodup_cons.mp nd).2 hp hu]
    rfl
section
variable {CX : CXT} {P : Program} {w : World} {K : PySem.W.Frag} {mg : Str → Option Value} {base : Heap} {ps : List Str} {qual : Str} {sc : Scope} {f cc : Addr} {cd : Value} {A : Around} {outer : List Env} {s : Shared} {H : Hp} {E : XK} {us : List Value} {vs : List V}
theorem kcx_start {h1 : Heap} {tk : Nat} {cl v : Value} {cld : Option Addr} {csl : Array (Option Value)} (S : KScope ps sc) (calm : A.handled = none) (e0 : Env0 P w K mg base A outer s H) (hl : vs.length = ps.length) (r : Vals vs us)
    (cell : K.lookup cc = some ⟨cl, cld, .cell (some v), csl⟩) (ns : h1.Ns s.heap.objs.size (fun y => (ps.zip us).reverse.lookup y)) (kept : ∀ b o, s.heap.get? b = some o → h1.get? b = some o) :
    Inv (kcx CX P w K mg base ps qual sc f cc cd A outer s H E) [] (vs.map some) H { s with heap := h1, toks := tk } := by
  have inBase := e0.mod.kin _ _ cell
  obtain ⟨inS, freeCC⟩ := e0.bs _ _ inBase
  have only : ∀ {y : Str} {c : Addr}, ([("__class__", cc)] : List (Str × Addr)).lookup y = some c → y = "__class__" ∧ c = cc := by
    intro y c hy
    simp only [List.lookup] at hy
    split at hy
    · rename_i e
      exact ⟨by simpa using e, (Option.some.inj hy).symm⟩
    · cases hy
  have lt : cc < s.heap.objs.size := Heap.lt_size inS
  constructor
  · constructor
    · exact e0.mod
    · exact S.kind
    · rfl
    · rfl
    · exact Nat.le_refl _
    · intro x y c hx hy
      exact (only hx).1.trans (only hy).1.symm
    · intro y hy
      have : y = "__class__" := by
        rcases hy with hy | hy
        · exact absurd rfl (S.nocell _ (PySem.mem_of_lookup hy))
        · exact S.free _ (PySem.mem_of_lookup hy) rfl
      exact ⟨cc, by rw [this]; rfl⟩
    · intro y c hf hy
      rw [(only hy).1] at hf
      exact absurd (show (("__class__" : Str) != "__class__") = true from hf) (by decide)
    · exact fun _ => calm
    · exact Around.frames_deeper e0.frames
    · exact .inr ⟨rfl, rfl⟩
    · exact fun b m => nomatch m
    · exact e0.bs
    · exact e0.bsz
    · exact fun b _ _ m => nomatch m
    · exact fun b m => nomatch m
    · exact e0.funs
    · exact e0.frf
  · rfl
  · exact e0.bare
  · exact Un.kept kept
  · refine ⟨_, ns, fun i y v hy hv vis => ?_⟩
    rw [List.getElem?_map] at hv
    cases z : vs[i]? with
    | none => rw [z] at hv; cases hv
    | some v2 =>
      rw [z] at hv
      cases hv
      obtain ⟨u, hu, rel⟩ := r.get z
      exact ⟨u, rel, .inl ⟨S.par y (List.mem_of_getElem? hy), zrev S.nd hy hu⟩⟩
  · intro y c hy
    obtain ⟨rfl, rfl⟩ := only hy
    exact ⟨_, _, kept _ _ inS, rfl⟩
  · exact e0.hok.fresh (Nat.le_refl _)
  · intro y c hy
    obtain ⟨rfl, rfl⟩ := only hy
    exact freeCC
  · exact fun p m => nomatch m
  · exact e0.hok.kept kept
  · rw [List.length_map]
    exact hl
end
/-- what the written part says of such a class and its __init__ -/
structure SupC (P : Program) (K : PySem.W.Frag) (C cc cda : Addr) : Prop where
  T : OexC K C
  up : PySem.W.ks_superIn K C C "__init__" = some (some (.builtin "ValueError.__init__"))
  isV : PySem.W.mroIn K C (.type "ValueError") = some true
  self : PySem.W.mroIn K C (.ref C) = some true
  op : PySem.W.nsIn K cStatics "thirdparty.any" = some none
  cell : ∃ cl cld csl, K.lookup cc = some ⟨cl, cld, .cell (some (.ref C)), csl⟩
  code : ∃ ccl cdd vs ccs file tf, K.lookup cda = some ⟨ccl, cdd, .fields vs, ccs⟩ ∧ vs[2]? = some (.str file tf) ∧ ((P.main.file : Str) == file) = true
  top : (P.main.scope.names.lookup ("super" : Str)).isSome = false
section
variable {X : Cx} {pins : List (Addr × Obj)} {σ : L2.St} {H : Hp} {s : Shared} {C cc cda f a : Addr} {body : List Stmt} {q0 q1 q2 q3 q4 : Pos} {ar : Arg} {e : Expr} {te : TE} {D : Ends} {oc : Value} {od : Option Addr} {fd : FuncData} {osl : Array (Option Value)}
theorem superInit {pl : Sem Bool} (U : SupC X.prog X.K C cc cda) (lk : X.K.lookup f = some ⟨oc, od, .func fd, osl⟩) (par : (fd.params.posonlyargs ++ fd.params.args).head? = some ar)
    (gs : Gl X "super") (ms : X.mg "super" = none) (kc : X.env.kindOf "__class__" = some .free) (cl : X.env.cells.lookup ("__class__" : Str) = some cc) (fu : X.env.func = some f) (co : X.env.code = .ref cda)
    (n0 : X.N[0]? = some ar.arg) (ka : X.env.kindOf ar.arg = some .local) (he : PE X e te) (I : Inv X pins σ H s) (s0 : σ[0]? = some (some (.ref a))) (ea : H a = some (exo a C none))
    (told : te σ H fun v H1 => H1 a = some (exo a C none) ∧ D.nx σ H1)
    (form : eval (.Call (.Attribute (.Call (.Name "super" q0) [] [] q1) "__init__" q2) [e] [] q3) X.env = (attributeBase (.Call (.Name "super" q0) [] [] q1) "__init__" X.env (eval (.Call (.Name "super" q0) [] [] q1) X.env) >>= fun ov =>
      standAt q2.atName >>= fun _ => holding [ov] (getMethod ov "__init__" pl) >>= fun fx => callWith q3 fx.1 fx.2 (backTo q3 (starEach [e] X.env)) []) := by rfl)
    (one : starEach [e] X.env = (false, eval e X.env) :: starEach [] X.env := by rfl) :
    PySem.wpAt (model X.prog X.w) X.A (.func body X.env) (exec (.Expr (.Call (.Attribute (.Call (.Name "super" q0) [] [] q1) "__init__" q2) [e] [] q3) q4) X.env) (SP X pins D) X.xe s := by
  obtain ⟨nm, q, N, bs, bm, sn, sub, ab, col, dd, k0, k1, k2, k3, k5, hC, hbm⟩ := U.T.cls
  obtain ⟨ccl, cdd, cvs, ccs, file, tf, hcode, hvs, hfile⟩ := U.code
  obtain ⟨celC, celD, celS, hcell⟩ := U.cell
  obtain ⟨t0, ho⟩ := exo_at I.hok ea
  have cls : ∃ oD cdD, s.heap.get? C = some oD ∧ oD.data = .cls cdD ∧ PySem.W.clsIn X.K C = some cdD := by
    refine ⟨_, _, I.kIn _ _ hC, rfl, ?_⟩
    unfold PySem.W.clsIn
    rw [hC] <;> rfl
  obtain ⟨oD, cdD, hD1, hD2, hcd⟩ := cls
  have inst : PySem.W.InstAt s.heap a _ C none := ⟨ho, rfl, rfl, trivial⟩
  refine ks_wpAt_Expr_any (ks_wpAt_MethodCall ?_ form) I.quiet
  refine ks_wpAt_super_base gs kc (by decide +kernel) fu (I.kIn _ _ lk) rfl par co (I.kIn _ _ hcode) rfl hvs hfile U.top ?_
  obtain ⟨mb, hb1, hb2⟩ := I.mod.blt
  refine PySem.W.ks_loadName_global I.ok.kind gs (Calls.loadGlobal_builtin (by rw [I.ok.glob]; exact I.mod.glob.keeps I.bk) ms (by rw [I.ok.blt]; exact hb1.keeps I.bk) ((hb2 "super" (by decide)).trans PyProof.Rows.Boot.«super») ⟨rfl, ?_⟩)
  refine PySem.wpAny_loadName_free I.ok.kind kc cl ⟨_, I.kIn _ _ hcell, rfl⟩ ?_
  obtain ⟨m, hn, hl⟩ := I.loc
  obtain ⟨u, ru, lu⟩ := hl 0 ar.arg _ n0 s0 (.inl ka)
  obtain rfl : u = Value.ref a := ru
  have mu : m ar.arg = some (.ref a) := by
    rcases lu with ⟨_, z⟩ | ⟨z, _⟩
    · exact z
    · rw [ka] at z
      rcases z with z | z <;> cases z
  refine wpAny_loadName_local I.ok.kind ka hn mu ?_
  refine ks_wpAny_isType_cls hD1 hD2 ⟨rfl, ?_⟩
  obtain ⟨hp, g, dr, tk, os⟩ := s
  refine ks_wpAny_call_super hD1 hD2 ho rfl (fun c z => nomatch z) (PySem.W.looks_mroIn I.kIn U.self) fun h2 sup kept => ?_
  have I2 : Inv X pins σ H ⟨h2, g, dr, tk, os⟩ := I.kept (t' := tk) kept
  have inst2 : PySem.W.InstAt h2 a _ C none := ⟨kept _ _ ho, rfl, rfl, trivial⟩
  have up := U.up
  unfold PySem.W.ks_superIn at up
  rw [hcd] at up
  refine PySem.W.kxs_getMethod PySem.W.kxs_ValueError (l₀ := cdD.mro) sup (PySem.W.looks_opaque I2.kIn U.op) (fun A Q E s k z => wpAny_bind ((PySem.W.looks_clsIn I2.kIn hcd) A _ E s k (wpAny_pure z))) rfl I2.kIn up
    (inst2.type.andThen (PySem.W.looks_mroIn I2.kIn U.isV)) (PySem.W.ks_ne I2.kIn inst2 hcd) (by decide +kernel) ?_
  have keep3 : ∀ b o, h2.get? b = some o → (h2.push (VE.held a)).get? b = some o := fun b o z => Heap.get?_push_of_some _ z
  have at3 : (h2.push (VE.held a)).get? h2.objs.size = some (VE.held a) := Heap.get?_push_at rfl rfl
  have I3 : Inv X pins σ H ⟨h2.push (VE.held a), g, dr, tk + 1, os⟩ := I2.kept (t' := tk + 1) keep3
  have I4 : Inv X ((h2.objs.size, VE.held a) :: pins) σ H ⟨h2.push (VE.held a), g, dr, tk + 1, os⟩ := I3.pins_of fun p hp => by
    rcases List.mem_cons.mp hp with rfl | hp
    · exact ⟨at3, I2.hok.fresh (Nat.le_refl _), fun z => Nat.lt_irrefl _ (z ▸ I2.lt), I2.nofs (Nat.le_refl _), fun v z => nomatch z⟩
    · exact I3.pin p (List.mem_append_right _ hp)
  rw [one]
  refine PySem.W.kxs_callWith (i := "ValueError.__init__") (x := a) rfl (Calls.evalArgs_plain (Calls.spliced_cons (thn (he.run _ _ σ H _ I4 told) ?_)))
  rintro v s5 ⟨x, H5, I5, _, e5, q5⟩
  have at5 := (I5.pin (h2.objs.size, VE.held a) (by simp)).1
  have J5 : Inv X pins σ H5 s5 := { I5 with pin := fun p hp => I5.pin p (by
    rcases List.mem_append.mp hp with z | z
    · simp [z]
    · simp [z]) }
  refine Calls.spliced_nil ⟨at5, ?_⟩
  obtain ⟨t5, ho5⟩ := exo_at J5.hok e5
  obtain ⟨hp5, g5, dr5, tk5, os5⟩ := s5
  refine VE.runHeld (J5.kIn _ _ hC) ho5 at5 (by show (1 : Nat) ≤ sizeLine; rw [sizeLine_eq]; decide) fun h6 t6 kept6 at6 => ?_
  have J6 := J5.write (t' := tk5) (x := a) (e := a) (o := exo a C none) (by rw [e5]; exact True.intro) (.inl rfl) kept6 ⟨_, at6⟩ (exo_ok at6)
  have same : upd H5 a (exo a C none) = H5 := funext fun b => by
    by_cases z : b = a
    · rw [z, upd_same, e5]
    · exact upd_ne z
  rw [same] at J6
  exact ⟨σ, H5, J6, q5⟩
end
/-- what `__init__` of such a class promises: the one field -/
def spOwn (C : Addr) (fld : Str) : Sp := fun vs H Q _ => ∃ (a : Addr) (n : Int), vs = [.ref a, .int n] ∧ n.natAbs.log2 < 1920 ∧ H a = some (exo a C none) ∧
  ∀ dx, H dx = none → dx ≠ a → Q .non (upd (upd H dx (exd dx [(fld, .int n)])) a (exo a C (some dx)))
section
variable {CX : CXT} {P : Program} {w : World} {K : PySem.W.Frag} {mg : Str → Option Value} {base : Heap} {k : Nat} {f C cc cda : Addr} {name qual txt fld : Str} {params : Arguments} {body : List Stmt} {sc : Scope} {dV kV doc pm ct oc : Value} {an od : Option Addr} {osl : Array (Option Value)}
  {q0 q1 q2 q3 q4 q5 q6 q7 q8 q9 q10 q11 q12 : Pos} {j : Nat} {ar : Arg}
theorem ownFn (U : SupC P K C cc cda) (lk : K.lookup f = some ⟨oc, od, .func (PySem.W.ksFn name qual params body sc dV kV doc pm an (.ref cda) ct cc), osl⟩) (code : PySem.W.codeIn K (.ref cda) qual = true) (S : KScope [ar.arg, fld] sc)
    (par : (params.posonlyargs ++ params.args).head? = some ar) (gs : sc.names.lookup ("super" : Str) = some .globalImplicit) (kc : sc.names.lookup ("__class__" : Str) = some .free) (ms : mg "super" = none) (no : PySem.W.findIn K (.ref C) fld = some none)
    (hb : body = [.Expr (.Call (.Attribute (.Call (.Name "super" q0) [] [] q1) "__init__" q2) [.JoinedStr [.Constant (.str txt) j q9, .FormattedValue (.Name fld q10) (-1) none q11] q12] [] q3) q4, .Assign [.Attribute (.Name ar.arg q5) fld q6] (.Name fld q7) q8])
    (short : txt.length ≤ 1000) (d0 : (ar.arg == ("__debug__" : Str)) = false) (d1 : (fld == ("__debug__" : Str)) = false) (c0 : (ar.arg == ("__classdict__" : Str)) = false) (c1 : (fld == ("__classdict__" : Str)) = false)
    (form : ∀ env, ∃ pl, eval (.Call (.Attribute (.Call (.Name "super" q0) [] [] q1) "__init__" q2) [.JoinedStr [.Constant (.str txt) j q9, .FormattedValue (.Name fld q10) (-1) none q11] q12] [] q3) env =
      (attributeBase (.Call (.Name "super" q0) [] [] q1) "__init__" env (eval (.Call (.Name "super" q0) [] [] q1) env) >>= fun ov =>
      standAt q2.atName >>= fun _ => holding [ov] (getMethod ov "__init__" pl) >>= fun fx => callWith q3 fx.1 fx.2 (backTo q3 (starEach [.JoinedStr [.Constant (.str txt) j q9, .FormattedValue (.Name fld q10) (-1) none q11] q12] env)) [])) :
    FnOk P w K mg base CX (k + 1) f (PySem.W.ksFn name qual params body sc dV kV doc pm an (.ref cda) ct cc) [ar.arg, fld] (spOwn C fld) := by
  constructor
  · rintro vs H Q E ⟨a, n, rfl, _⟩
    rfl
  intro A outer s H args us vs Q E hr e0 bind rel told
  obtain ⟨a, n, rfl, small, ea, q⟩ := told
  have inK : K.In s.heap := e0.mod.kin.keeps fun b o z => (e0.bs b o z).1
  have lim : s.heap.NoLimit := e0.mod.nolimit.keeps fun b o z => (e0.bs b o z).1
  obtain ⟨celC, celD, celS, hcell⟩ := U.cell
  have locals : ∀ y ∈ [ar.arg, fld].zip us, sc.names.lookup y.1 = some .local := fun y hy => S.par _ (List.of_mem_zip (show (y.1, y.2) ∈ _ from hy)).1
  refine ks_codeAny_call_defAt (body := body) (binds := [ar.arg, fld].zip us) hr.depth (inK _ _ lk) rfl lim (PySem.W.codeRec_of inK code) rfl bind S.nocell locals (fun h1 ns kept => ?_) S.co S.gen S.kind
  have I := kcx_start (CX := CX) (P := P) (w := w) (mg := mg) (qual := qual) (f := f) (cd := .ref cda) (E := E) (tk := s.toks + ([ar.arg, fld].zip us).length) S hr.hd e0 (by rfl) rel hcell ns kept
  have v0 : Vis sc ar.arg := .inl (S.par _ (by simp))
  have v1 : Vis sc fld := .inl (S.par _ (by simp))
  obtain ⟨pl, form⟩ := form (PySem.W.ksEnv qual sc s.heap.objs.size f (.ref cda) cc)
  subst hb
  refine ks_wpAt_execs_cons (ks_wpAt_mono (superInit (X := kcx CX P w K mg base [ar.arg, fld] qual sc f cc (.ref cda) A outer s H E)
    (D := { nx := fun σ' H' => H' = H ∧ σ' = [some (.ref a), some (.int n)], rt := fun _ _ => False, bk := fun _ _ => False, ct := fun _ _ => False }) (pins := []) (a := a) (ar := ar) U lk par gs ms kc (by rfl) (by rfl) (by rfl) (by rfl) (S.par _ (by simp))
    (pe_joined (.cons pe_str (.cons (pe_fmt (pe_var (i := 1) (x := fld) (by rfl) v1 d1 c1)) .nil))) I (by rfl) ea ?_ form) ?_ fun e t z => z)
  · have zero : Str.empty.length = 0 := rfl
    refine ⟨txt, rfl, ?_, ⟨.int n, rfl, .inr ⟨n, rfl, small, ⟨_, rfl, ?_, ea, rfl, rfl⟩⟩⟩⟩
    · rw [PySem.Str.length_append, sizeLine_eq, zero]
      omega
    · have z := int_text_length_le (k := 1920) (by decide) small
      rw [PySem.Str.length_append, PySem.Str.length_append, sizeLine_eq, zero, PySem.ofString_length]
      omega
  · intro fl t1 end1
    cases fl with
    | next =>
      obtain ⟨σ1, H1, I1, rfl, rfl⟩ := end1
      have two := ps_ost (X := kcx CX P w K mg base [ar.arg, fld] qual sc f cc (.ref cda) A outer s H1 E) (f := fld) (p' := q6) (pos := q8) (pe_var (i := 0) (x := ar.arg) (pos := q5) (by rfl) v0 d0 c0) (pe_var (i := 1) (x := fld) (pos := q7) (by rfl) v1 d1 c1)
      refine PySem.wpAt_of_wpAny (wpAny_mono ((pss_one two).run [] t1 _ H1 { nx := fun _ H' => Q .non H', rt := fun _ _ => False, bk := fun _ _ => False, ct := fun _ _ => False } I1 ?_) ?_ fun e t z => z)
      · exact ⟨.int n, rfl, .ref a, rfl, a, C, rfl, U.T, no, .inl ⟨ea, fun dx nd dn => q dx nd dn⟩⟩
      · intro fl t2 end2
        cases fl with
        | next =>
          obtain ⟨σ2, H2, J, q2⟩ := end2
          exact ⟨.non, H2, J.os, J.bare, J.base, J.hok, rfl, q2⟩
        | brk => obtain ⟨_, _, _, z⟩ := end2; exact z.elim
        | cont => obtain ⟨_, _, _, z⟩ := end2; exact z.elim
        | ret u => obtain ⟨_, _, _, _, _, z⟩ := end2; exact z.elim
    | brk => obtain ⟨_, _, _, z⟩ := end1; exact z.elim
    | cont => obtain ⟨_, _, _, z⟩ := end1; exact z.elim
    | ret u => obtain ⟨_, _, _, _, _, z⟩ := end1; exact z.elim
end
/-- C(n), of a class with such an `__init__` -/
structure CalN (P : Program) (w : World) (K : PySem.W.Frag) (mg : Str → Option Value) (base : Heap) (k : Nat) (C : Addr) (fld : Str) : Prop where
  ex : ∃ (fI : Addr) (fd : FuncData) (ps : List Str), FnOk P w K mg base CX0 k fI fd ps (spOwn C fld) ∧ Binds K fd ps [] ∧ PySem.W.findIn K (.ref C) "__init__" = some (some (.ref fI)) ∧ PySem.W.typeIn K (.ref fI) = some (.type "function") ∧ OexC K C
def tMkN (C : Addr) (fld : Str) (te : TE) : L2.St → Hp → XK → Prop := fun σ H Q => te σ H fun x H1 => ∃ n : Int, x = .int n ∧ n.natAbs.log2 < 1920 ∧ ∀ dx, H1 dx = none → Q (.ref C) (some dx) (upd H1 dx (.xd [(fld, .int n)]))
section
variable {X : Cx} {k : Nat} {C : Addr} {x fld : Str} {e : Expr} {te : TE} {p pos : Pos}
theorem pmkN (c : CalN X.prog X.w X.K X.mg X.base k C fld) (hr : Room (k + 1) X.A) (hg : Gl X x) (m : X.mg x = some (.ref C)) (he : PE X e te) (hdb : (x == ("__debug__" : Str)) = false := by decide)
    (hs : starEach [e] X.env = (false, eval e X.env) :: starEach [] X.env := by rfl) : PMk X (.Call (.Name x p) [e] [] pos) (tMkN C fld te) := by
  obtain ⟨fI, fd, ps, F, b, iC, tI, T⟩ := c.ex
  have made := pmk_oex (p := p) (pos := pos) T iC tI F hr b .nil (fun _ _ _ _ _ _ _ z => False.elim z) hg m (pa_cons (PE.up he) pa_nil hs) hdb hs (by rfl)
  intro pins s σ H Q I told
  refine made pins s σ H Q I ⟨_, told, ?_⟩
  rintro v H1 ⟨n, rfl, small, go⟩
  refine ⟨by show 1 ≤ 1000; decide, fun a free => ⟨a, n, rfl, small, upd_same, fun dx nd apart => ⟨rfl, dx, _, upd_same, (upd_ne apart).trans upd_same, ?_, ?_⟩⟩⟩
  · exact (upd_ne apart).symm.trans nd
  · have same : upd (del (upd (upd (upd H1 a (exo a C none)) dx (exd dx [(fld, .int n)])) a (exo a C (some dx))) a) dx (.xd [(fld, .int n)]) = upd H1 dx (.xd [(fld, .int n)]) := by
      funext b
      by_cases z : b = dx
      · rw [z, upd_same, upd_same]
      · rw [upd_ne z, upd_ne z]
        by_cases y : b = a
        · rw [y, del_same, free]
        · rw [del_ne y, upd_ne y, upd_ne z, upd_ne y]
    rw [same]
    exact go dx ((upd_ne apart).symm.trans nd)
/-- .. as a value -/
def zExN (C : Addr) (fld : Str) (te : TE) : TE := fun σ H Q => te σ H fun x H1 => ∃ n : Int, x = .int n ∧ n.natAbs.log2 < 1920 ∧ ∀ a dx H', H1 a = none → H1 dx = none → H' a = some (ExK (.ref C) (some dx) a) → H' dx = some (.xd [(fld, .int n)]) → Same H1 H' → Q (.ref a) H'
theorem zexcN (c : CalN X.prog X.w X.K X.mg X.base k C fld) (hr : Room (k + 1) X.A) (hg : Gl X x) (m : X.mg x = some (.ref C)) (he : PE X e te) (hex : X.ex = [] := by rfl) (hdb : (x == ("__debug__" : Str)) = false := by decide)
    (hs : starEach [e] X.env = (false, eval e X.env) :: starEach [] X.env := by rfl) : PE X (.Call (.Name x p) [e] [] pos) (zExN C fld te) := by
  constructor
  intro pins s σ H Q I told
  have made := pmkN (p := p) (pos := pos) c hr hg m (PE.up he) hdb hs pins s σ H (fun cls d H' => ∃ H1 n dx, cls = .ref C ∧ d = some dx ∧ H' = upd H1 dx (.xd [(fld, .int n)]) ∧ H1 dx = none ∧ ∀ a dx H', H1 a = none → H1 dx = none → H' a = some (ExK (.ref C) (some dx) a) → H' dx = some (.xd [(fld, .int n)]) → Same H1 H' → Q (.ref a) H') I
    ⟨_, told, fun v H1 ⟨n, e, small, go⟩ => ⟨n, e, small, fun dx nd => ⟨H1, n, dx, rfl, rfl, rfl, nd, go⟩⟩⟩
  refine thn made ?_
  rintro u s1 ⟨a, oe, vs, sI, H2, cls, d, rfl, J, kept, noA, at1, kind, dat, _, free, osI, bare, _, H1, n, dx, rfl, rfl, rfl, nd, go⟩
  have out : ∀ {b : Addr}, (∃ o, sI.heap.get? b = some o) → b ≠ a := by
    rintro b ⟨o, g⟩ rfl
    exact nomatch noA.symm.trans g
  have apart : a ≠ dx := by
    rintro rfl
    rw [upd_same] at free
    cases free
  have J1 : Inv X pins σ (upd H1 dx (.xd [(fld, .int n)])) s1 := J.call' (ch := []) osI (Un.kept kept) (J.hok.kept kept) bare fun b z => nomatch z
  have start : X.s_0.heap.get? a = none := by
    cases g : X.s_0.heap.get? a with
    | none => rfl
    | some o => exact absurd rfl (out (J.base.there a o g (by simp [hex])))
  have both : Inv X pins σ (upd (upd H1 dx (.xd [(fld, .int n)])) a (ExK (.ref C) (some dx) a)) s1 := by
    refine Inv.trackN J1 start free ?_ ?_ ?_ (exK_ok at1 kind dat)
    · obtain ⟨_, ⟨o, _, _, g, _⟩, _⟩ := J.loc
      exact (out ⟨o, g⟩).symm
    · intro y c g
      obtain ⟨_, o, g2, _⟩ := J.cell y c g
      exact out ⟨o, g2⟩
    · exact fun r mr => out ⟨_, (J.pin r mr).1⟩
  exact ⟨.ref a, _, both, rfl, go a dx _ ((upd_ne apart).symm.trans free) nd upd_same ((upd_ne (Ne.symm apart)).trans upd_same) ((same_upd nd).trans (same_upd free))⟩
end
section
variable {P : Program} {w : World} {K : PySem.W.Frag} {mg : Str → Option Value} {base : Heap} {k : Nat} {f C S cc cda N : Addr} {name qual txt fld nm q file : Str} {params : Arguments} {body : List Stmt} {sc : Scope} {dV kV doc pm ct oc cl ccl : Value} {an od cld cdd dd : Option Addr}
  {osl csl ccs : Array (Option Value)} {cvs : Array Value} {q0 q1 q2 q3 q4 q5 q6 q7 q8 q9 q10 q11 q12 : Pos} {j : Nat} {ar : Arg} {bs sub : List Value} {sn : List Str} {ab : Bool} {col : Option Bool} {k0 k1 k2 k3 k5 : Option Value} {tf : Tok}
theorem supC_of (hcls : K.lookup C = some (excClassObj nm q C N bs [.ref S, .type "ValueError", .type "Exception", .type "BaseException", .type "object"] true sn sub ab col dd k0 k1 k2 k3 k5 "ValueError.__new__"))
    (hsa : PySem.W.findIn K (.ref C) "__setattr__" = some (some (.builtin "object.__setattr__"))) (hbe : PySem.W.subIn K (.ref C) (.type "BaseException") = some true) (hty : PySem.W.typeIn K (.ref C) = some (.type "type")) (hk : PySem.W.keepIn K (.ref C) = true)
    (up : PySem.W.ks_superIn K C C "__init__" = some (some (.builtin "ValueError.__init__"))) (isV : PySem.W.mroIn K C (.type "ValueError") = some true) (self : PySem.W.mroIn K C (.ref C) = some true) (op : PySem.W.nsIn K cStatics "thirdparty.any" = some none)
    (cell : K.lookup cc = some ⟨cl, cld, .cell (some (.ref C)), csl⟩) (code : K.lookup cda = some ⟨ccl, cdd, .fields cvs, ccs⟩) (third : cvs[2]? = some (.str file tf)) (same : ((P.main.file : Str) == file) = true) (top : (P.main.scope.names.lookup ("super" : Str)).isSome = false) : SupC P K C cc cda :=
  ⟨⟨⟨_, _, _, _, _, _, _, _, _, _, _, _, _, _, _, hcls, by show PySem.HandSPX.refsVE [.type "ValueError", .type "Exception", .type "BaseException", .type "object"] = true; decide +kernel⟩, hsa, hbe, hty, hk⟩, up, isV, self, op, ⟨_, _, _, cell⟩, ⟨_, _, _, _, _, _, code, third, same⟩, top⟩
theorem calN_of (U : SupC P K C cc cda) (F : FnOk P w K mg base CX0 (k + 1) f (PySem.W.ksFn name qual params body sc dV kV doc pm an (.ref cda) ct cc) [ar.arg, fld] (spOwn C fld)) (b : Binds K (PySem.W.ksFn name qual params body sc dV kV doc pm an (.ref cda) ct cc) [ar.arg, fld] [])
    (iC : PySem.W.findIn K (.ref C) "__init__" = some (some (.ref f))) (tI : PySem.W.typeIn K (.ref f) = some (.type "function")) : CalN P w K mg base (k + 1) C fld := ⟨_, _, _, F, b, iC, tI, U.T⟩
end
end Z

set_option Elab.async false
set_option linter.all false
set_option maxRecDepth 100000
set_option maxHeartbeats 4000000
/-! word, *others = a list -/
namespace Z
open PySem PySem.Spec PyProof.Rows L2
/-- a walk that is begun at the k-th item -/
theorem walks_from {prog : Program} {w : World} {A : Around} {I : Addr} {fp wr : List Addr} {n k : Nat} {P : Nat → Value → Prop} {St : Nat → Heap → Prop} (W : Walks prog w A I fp wr n P St) (hk : k ≤ n) :
    Walks prog w A I fp wr (n - k) (fun i => P (k + i)) (fun i => St (k + i)) where
  sub := W.sub
  frame := fun i => W.frame (k + i)
  item := fun i s Q E hi st hQ => W.item (k + i) s Q E (by omega) st hQ
  done := fun s Q E st hQ => W.done s Q E (by rw [← Nat.add_sub_cancel' hk]; exact st) hQ
  self := fun i => W.self (k + i)
section
variable {prog : Program} {w : World} {A : Around} {E : Value → Shared → Prop} {s : Shared}
theorem items_star {l : Addr} {x : Value} {xs : List Value} {Q : List Value → Shared → Prop} (calm : A.handled = none) (hl : s.heap.IsList l (x :: xs).toArray) (few : xs.length ≤ sizeLine)
    (told : ∀ (h1 : Heap) (tk : Nat), (∀ b o, s.heap.get? b = some o → h1.get? b = some o) → Q [x, .ref h1.objs.size] { s with heap := h1.push { cls := .type "list", data := .seq xs.toArray }, toks := tk }) :
    wpAny (model prog w) A (unpackItems (.ref l) 2 (some 1)) Q E s := by
  have lt : l < s.heap.objs.size := by
    obtain ⟨_, g, _⟩ := hl
    exact Heap.lt_size g
  have apart : l ≠ s.heap.objs.size := Nat.ne_of_lt lt
  have size : (x :: xs).toArray.size = xs.length + 1 := by simp
  unfold unpackItems
  refine wpAny_bind ?_
  unfold notIterableAtAll
  refine wpAny_bind (wpAny_specialOf hl.typeIs PySem.F.slot_list_iter.lookup (wpAny_pure ?_))
  simp only [Bool.false_eq_true, if_false]
  refine wpAny_bind (wpAny_holding (wpAny_pyIter_list hl ?_))
  refine wpAny_bind (wpAny_holding (PySem.W.kun_draw apart 1 0 _ _ ⟨_, Heap.get?_push_size _ rfl, rfl, rfl⟩ (hl.push _) (by rw [size]; omega) fun h1 it1 same1 => ?_))
  have l1 : h1.IsList l (x :: xs).toArray := (hl.push _).extBut same1.extBut apart
  have first : List.take 1 (List.drop 0 (x :: xs).toArray.toList) = [x] := by simp
  rw [first]
  rw [if_neg (by simp)]
  have old1 : ∀ b o, s.heap.get? b = some o → h1.get? b = some o := fun b o g => same1.extBut b o (Nat.ne_of_lt (Heap.lt_size g)) (Heap.get?_push_of_some _ g)
  have W := (walks_from (k := 1) (Walks.list (prog := prog) (w := w) (A := A.in1) calm s.heap.objs.size l apart (x :: xs).toArray) (by rw [size]; omega)).toS
  refine wpAny_bind (wpAny_holding (wpAny_collect_iter (.inr (.inr (.inl rfl))) W (fun i t st => st.1.typeIs) ⟨it1, l1⟩ ?_ (by simp) ?_ (by rw [size]; omega)))
  · intro b m
    rcases List.mem_cons.mp m with rfl | m
    · obtain ⟨_, g, _⟩ := it1
      exact Heap.lt_size g
    · rcases List.mem_cons.mp m with rfl | m
      · obtain ⟨_, g, _⟩ := l1
        exact Heap.lt_size g
      · cases m
  · rintro s2 acc moved ⟨asz, items⟩
    have all : acc.toList = xs := by
      refine List.ext_getElem? fun i => ?_
      by_cases hi : i < xs.length
      · have hi2 : i < acc.size := by rw [asz, size]; omega
        have g := items i acc[i] (Array.getElem?_eq_getElem hi2)
        rw [Array.getElem?_toList, Array.getElem?_eq_getElem hi2, ← g]
        simp [Nat.add_comm 1 i]
      · rw [List.getElem?_eq_none (by rw [Array.length_toList, asz, size]; omega), List.getElem?_eq_none (by omega)]
    rw [all]
    rw [if_neg (by omega)]
    obtain ⟨h2, g2, d2, t2, os2⟩ := s2
    obtain ⟨m1, m2, m3, m4, m5⟩ := moved
    dsimp only at m1 m2 m3 m4 m5
    subst m2 m3 m4
    refine wpAny_bind (wpAny_newList ?_)
    refine wpAny_pure ?_
    have e1 : List.take (xs.length - (2 - 1 - 1)) xs = xs := by simp
    have e2 : List.drop (xs.length - (2 - 1 - 1)) xs = [] := by simp
    rw [e1, e2]
    refine told h2 t2 fun b o g => m1 b o ?_ (old1 b o g)
    intro m
    have e := Heap.lt_size g
    rcases List.mem_cons.mp m with rfl | m
    · exact absurd e (Nat.lt_irrefl _)
    · cases m
end
def gStar (K : PySem.W.Frag) (t : TGs) : TG := fun v σ H Q => ∃ (a : Addr) (x : V) (xs : List V), v = .ref a ∧ SqL K H a (x :: xs) ∧ ∀ p, H p = none → t [x, .ref p] σ (upd H p (.lst xs)) Q
section
variable {X : Cx} {t1 t2 : Expr} {t : TGs} {k : Nat} {pos ps : Pos}
theorem pg_star (hc : X.calm = true) (h : PGs X [t1, t2] t) (hn : assignEach [t1, .Starred t2 ps] X.env = [(false, assign t1 X.env), (true, assign t2 X.env)] := by rfl) (hm : (assignEach [t1, t2] X.env).map (·.2) = [assign t1 X.env, assign t2 X.env] := by rfl) :
    PG X (.Tuple [t1, .Starred t2 ps] k pos) (gStar X.K t) := by
  constructor
  rintro pins s σ H v u Q I r ⟨a, x, xs, rfl, hq, told⟩
  cases r
  obtain ⟨its, rv, pl, hz⟩ := I.list hq
  cases rv with
  | @cons _ u0 _ ur r0 rr =>
    have hl : s.heap.IsList a (u0 :: ur).toArray := by
      obtain ⟨o, m, e, c, d, q⟩ := pl
      exact ⟨o, e, c, m, q⟩
    have few : ur.length ≤ sizeLine := by
      rw [← Paired.length rr]
      rw [List.length_cons] at hz
      omega
    rw [PyProof.Rows.assign_Tuple]
    refine wpAny_bind (wpAny_standAt ?_)
    unfold unpack
    rw [hn]
    refine wpAny_bind (wpAny_holding (items_star (I.ok.hd hc) hl few fun h1 tk kept => ?_))
    have I1 : Inv X pins σ H { s with heap := h1, toks := tk } := I.kept (t' := tk) kept
    have free := I1.fresh
    have I2 := I1.lnew (t' := tk) rr (by rw [List.length_cons] at hz; omega)
    have run := h.run pins _ σ _ [x, .ref h1.objs.size] [u0, .ref h1.objs.size] Q I2 (.cons r0 (.cons rfl .nil)) (told _ free)
    rw [hm] at run
    exact run
end
/-! ### tuples that the module writes -/
def TupK (K : PySem.W.Frag) (a : Addr) (vs : List V) : Prop := ∃ (o : Obj) (its : Array Value) (n : Nat), K.lookup a = some o ∧ o.cls = .type "tuple" ∧ o.data = .seq its n ∧ its.size ≤ sizeLine ∧ Vals vs its.toList
theorem TupK.seq {K : PySem.W.Frag} {H : Hp} {a : Addr} {vs : List V} (c : TupK K a vs) : SqT K H a vs := .inr c
inductive Lims (K : PySem.W.Frag) : List Addr → List (Int × Int) → Prop where
  | nil : Lims K [] []
  | cons {p : Addr} {ps : List Addr} {lo hi : Int} {ls : List (Int × Int)} (h : TupK K p [.int lo, .int hi]) (r : Lims K ps ls) : Lims K (p :: ps) ((lo, hi) :: ls)
theorem Lims.len {K : PySem.W.Frag} {ps : List Addr} {ls : List (Int × Int)} (h : Lims K ps ls) : ps.length = ls.length := by
  induction h with
  | nil => rfl
  | cons _ _ ih => rw [List.length_cons, List.length_cons, ih]
theorem Lims.get {K : PySem.W.Frag} {ps : List Addr} {ls : List (Int × Int)} (h : Lims K ps ls) : ∀ {i : Nat}, i < ls.length → ∃ p lo hi, ps[i]? = some p ∧ ls[i]? = some (lo, hi) ∧ TupK K p [.int lo, .int hi] := by
  induction h with
  | nil => exact fun hi => absurd hi (by simp)
  | cons hp _ ih =>
    intro i hi
    cases i with
    | zero => exact ⟨_, _, _, rfl, rfl, hp⟩
    | succ i => exact ih (by simpa using hi)
/-- a form of the desk: so many numbers, then the limits of further ones -/
def FormAt (K : PySem.W.Frag) (d : Addr) (z : Str) (many : Int) (ls : List (Int × Int)) : Prop :=
  ∃ (t l : Addr) (ps : List Addr), PySem.W.nsIn K d z = some (some (.ref t)) ∧ TupK K t [.int many, .ref l] ∧ TupK K l (ps.map V.ref) ∧ Lims K ps ls
theorem zstr {X : Cx} : CallR X (.type "str") (fun xs H Q => ∃ i, xs = [.int i] ∧ i.natAbs.log2 < 1920 ∧ Q (.str (toString i)) H) := call_str_int
/-- == of data in a comprehension: the fragment by its own name -/
theorem zeqDK {X : Cx} {K : PySem.W.Frag} (h : X.K = K) (hu : X.A.units + 64 < cLine) : OpR X (compareOp .Eq) (zEqD K true false) := h ▸ zeqD hu
theorem zneDK {X : Cx} {K : PySem.W.Frag} (h : X.K = K) (hu : X.A.units + 64 < cLine) : OpR X (compareOp .NotEq) (zEqD K false true) := h ▸ zneD hu
end Z

set_option Elab.async false
set_option linter.all false
set_option maxRecDepth 100000
set_option maxHeartbeats 4000000
/-! a def that a name holds, called with a starred list behind the first argument -/
namespace Z
open PySem PySem.Spec PyProof.Rows L2
/-- the def at f keeps sp; it may raise -/
structure FunX (P : Program) (w : World) (K : PySem.W.Frag) (mg : Str → Option Value) (base : Heap) (k : Nat) (f : Addr) (sp : Sp) : Prop where
  ex : ∃ (fd : FuncData) (ps : List Str), FnOk P w K mg base (L2.CX P w) k f fd ps sp ∧ PySem.W.keepIn K (.ref f) = true ∧ Binds K fd ps []
section
variable {P : Program} {w : World} {K : PySem.W.Frag} {mg : Str → Option Value} {base : Heap} {j k : Nat} {f : Addr} {x : Str} {ps : List Str} {sp : Sp}
theorem FunX.mono (F : FunX P w K mg base j f sp) (h : j ≤ k) : FunX P w K mg base k f sp := by
  obtain ⟨fd, ps, F, r⟩ := F
  exact ⟨fd, ps, F.mono h, r⟩
theorem CalX.fun_ (c : CalX P w K mg base k x ps sp) (m : mg x = some (.ref f)) : FunX P w K mg base k f sp := by
  obtain ⟨g, fd, F, b, hk, e⟩ := c
  rw [m] at e
  cases e
  exact ⟨fd, ps, F, hk, b⟩
end
def tDyn (P : Program) (w : World) (K : PySem.W.Frag) (mg : Str → Option Value) (base : Heap) (k i : Nat) (W : WX) (t : TA) : TE := fun σ H Q => ∃ (f : Addr) (sp : Sp), σ[i]? = some (some (.ref f)) ∧ FunX P w K mg base k f sp ∧ t σ H fun vs H1 => sp vs H1 Q (WE W σ)
section
variable {X : Cx} {W : WX} {k i : Nat} {x : Str} {p pos : Pos} {e : Expr} {es : List Expr} {t : TA}
theorem zcallDyn (tk : Takes X W) (hr : Room k X.A) (hN : X.N[i]? = some x) (hv : Vis X.env.scope x) (ha : PA X (e :: es) t) (hdb : (x == ("__debug__" : Str)) = false := by decide) (hcd : (x == ("__classdict__" : Str)) = false := by decide)
    (he : starEach (e :: es) X.env = (false, eval e X.env) :: starEach es X.env := by rfl) (hst : (backTo pos (starEach es X.env)).any (·.1) = true := by rfl) :
    PE X (.Call (.Name x p) (e :: es) [] pos) (tDyn X.prog X.w X.K X.mg X.base k i W t) := by
  constructor
  rintro pins s σ H Q I ⟨f, sp, slot, fx, told⟩
  obtain ⟨fd, ps, F, hk, b⟩ := fx.ex
  have name := (pe_var (pos := p) hN hv hdb hcd).run pins s σ H (fun v G => v = .ref f ∧ G = H) I ⟨.ref f, slot, rfl, rfl⟩
  refine wpAny_Call_Name_kw (thn name ?_)
  rintro u s1 ⟨v, H1, I1, r1, rfl, rfl⟩
  cases r1
  refine PySem.W.callWith_S2 (h₀ := X.base) I.ok.mod.kin hk (thn (ha.run pos pins s1 σ _ _ I1 told) ?_) he hst
  rintro us s2 ⟨vs, H2, I2, r, q⟩
  exact ⟨I2.kIn, run_fnS F hr b (passAt tk σ) I2 r q⟩
end
/-- e ** 3 of a number with some thousand bits -/
theorem zpow3 {X : Cx} : OpR X (binaryOp .Pow) (zI (fun i j => j = 3 ∧ i.natAbs < 2 ^ 4000) fun i j => .int (i ^ j.toNat)) := zI_of <| opI fun i j _ _ _ _ _ hc q => by
  obtain ⟨rfl, h⟩ := hc
  refine pow_int (by omega) ?_ q
  have bits : Builtin.Int.intBits i ≤ 4000 := by
    unfold Builtin.Int.intBits
    by_cases z : i = 0
    · subst z
      exact Nat.zero_le _
    · have z2 : (i == 0) = false := by simpa using z
      rw [z2]
      have := (Nat.log2_lt (n := i.natAbs) (k := 4000) (by omega)).mpr h
      show i.natAbs.log2 + 1 ≤ 4000
      omega
  omega
theorem zpa_star {X : Cx} {e : Expr} {es : List Expr} {te : TE} {t : TA} {p : Pos} (he : PE X e te) (hr : PA X es t) (hs : starEach (.Starred e p :: es) X.env = (true, eval e X.env) :: starEach es X.env := by rfl) : PA X (.Starred e p :: es) (StX.tStar X.K te t) := StX.pa_star he hr hs
end Z

set_option Elab.async false
set_option linter.all false
set_option maxRecDepth 100000
set_option maxHeartbeats 4000000
/-! a list comprehension whose element is a call that may raise -/
namespace Z
open PySem PySem.Spec PyProof.Rows L2
section
variable {M : Model} {A : Around} {E : Value → Shared → Prop} {s : Shared} {env : Env}
/-- an exception at the end of a block: the block's names are let go, the exception goes on -/
def blkOut (M : Model) (A : Around) (E : Value → Shared → Prop) (ce : Env) (x : Value) (u : Shared) : Prop :=
  ∃ m, u.heap.Ns ce.locals m ∧ ∀ g, Heap.SameBut ce.locals u.heap g → wpAny M A (passOn "comprehension.variables-let-go" x ce : Sem Value) (fun _ _ => False) E { u with heap := g }
def blkNext (Q : Shared → Prop) (C : Addr) (u : Shared) : Prop := ∃ m, u.heap.Ns C m ∧ ∀ g, Heap.SameBut C u.heap g → Q { u with heap := g }
def blkFine (M : Model) (A : Around) (E : Value → Shared → Prop) (use : Option (Value → Sem Unit)) (Q : Value → Shared → Prop) (acc : Value) (C : Addr) (u : Shared) : Prop :=
  match use with
  | none => blkNext (Q acc) C u
  | some f => wpAny M A (f acc) (fun _ v => blkNext (Q .none) C v) E u
def blkEnd (M : Model) (A : Around) (E : Value → Shared → Prop) (use : Option (Value → Sem Unit)) (Q : Value → Shared → Prop) (acc : Value) (ce : Env) : Result → Shared → Prop
  | .ok _, u => blkFine M A E use Q acc ce.locals u
  | .error x, u => blkOut M A E ce x u
theorem comp_may {e : Expr} {sco : Scope} {pos : Pos} {mk fst : Sem Value} {g : Comprehension} {gs : List Comprehension} {cl : List (Str × Addr)} {use : Option (Value → Sem Unit)} {Q : Value → Shared → Prop}
    (e1 : clausesOf e = g :: gs) (e2 : ∀ x, foldedSetIterable g.iter env x = pure x) (e3 : closureFor sco env = pure cl) (e4 : sco.kind = .function) (e5 : ∀ x ∈ sco.names, x.2 = .local → sco.names.lookup x.1 = some .local)
    (h : wpAny M A fst (fun x s1 => wpAny M A (pyIter x) (fun it s2 => wpAny M A mk (fun acc s3 => wpAny M A (newFunctionEnv sco env.globals cl [] env.qual none .none (some env)) (fun ce s4 => codeAny M A (.compStart e 0 it acc { ce with scope := relabel sco env }) (blkEnd M A E use Q acc { ce with scope := relabel sco env }) s4) E s3) E s2) E s1) E s) :
    wpAny M A (comprehension e sco env pos mk false fst use) Q E s := by
  unfold comprehension
  rw [e3, e1]
  refine wpAny_bind (wpAny_mono h (fun x s1 h1 => ?_) fun _ _ z => z)
  refine wpAny_bind (wpAny_standAt (wpAny_bind (wpAny_of_eq (e2 x) (wpAny_bind (wpAny_holding (wpAny_mono h1 (fun it s2 h2 => ?_) fun _ _ z => z))))))
  refine wpAny_standIf (wpAny_bind (wpAny_mono h2 (fun acc s3 h3 => ?_) fun _ _ z => z))
  refine wpAny_bind (wpAny_pure (wpAny_bind (wpAny_mono h3 (fun ce s4 h4 => ?_) fun _ _ z => z)))
  dsimp only
  have loc : ∀ x ∈ (sco.names.filter fun x => (x.2 == .local || x.2 == .cell) && x.1 != (".0" : Str)).reverse, x.2 = .local → Env.kindOf { ce with scope := relabel sco env } x.1 = some .local :=
    fun x hx hl => lookup_relabel_local (e5 x (List.mem_filter.mp (List.mem_reverse.mp hx)).1 hl)
  refine wpAny_holding (wpAny_bind (wpAny_attempt (wpAny_holding (wpAny_run (codeAny_mono h4 fun r u hr => ?_)))))
  cases r with
  | ok f =>
    cases use with
    | none =>
      obtain ⟨m, hn, k⟩ := hr
      exact wpAny_bind (wpAny_holding (wpAny_comp_letGo (cenv := { ce with scope := relabel sco env }) e4 _ u m loc hn fun g m2 _ sb => wpAny_pure (k g sb)))
    | some f =>
      have loc2 : ∀ x ∈ (sco.names.filter fun x => (x.2 == .local || x.2 == .cell) && x.1 != (".0" : Str)).reverse.drop 1 ++ (sco.names.filter fun x => (x.2 == .local || x.2 == .cell) && x.1 != (".0" : Str)).reverse.take 1, x.2 = .local → Env.kindOf { ce with scope := relabel sco env } x.1 = some .local :=
        fun x hx hl => loc x ((List.mem_append.mp hx).elim (fun z => List.mem_of_mem_drop z) fun z => List.mem_of_mem_take z) hl
      refine wpAny_bind (wpAny_rule (wpAny_bind (wpAny_holding (wpAny_mono hr (fun _ v ⟨m, hn, k⟩ => ?_) fun _ _ z => z))))
      exact wpAny_bind (wpAny_comp_letGo (cenv := { ce with scope := relabel sco env }) e4 _ v m loc2 hn fun g m2 _ sb => wpAny_pure (k g sb))
  | error x =>
    obtain ⟨m, hn, k⟩ := hr
    exact wpAny_bind (wpAny_holding (wpAny_comp_letGo (cenv := { ce with scope := relabel sco env }) e4 _ u m loc hn fun g m2 _ sb => wpAny_mono (k g sb) (fun _ _ z => z.elim) fun _ _ z => z))
end
/-- a block whose calls may let out what E0 tells of -/
abbrev blkE (X : Cx) (E0 : XK) (s : Shared) (H : Hp) (sco : Scope) (ce : Env) (fp : List Addr) : Cx :=
  { X.blk s H sco ce fp with xe := fun u s' => ∃ (pins : List (Addr × Obj)) (σ : L2.St) (G : Hp) (t : Shared), Inv (X.blk s H sco ce fp) pins σ G t ∧ L2.CX X.prog X.w X.stack G t E0 u s' }
section
variable {X : Cx} {pins : List (Addr × Obj)} {σ : L2.St} {H : Hp} {s : Shared}
theorem ok_xe {f : Value → Shared → Prop} (o : X.Ok) : Cx.Ok { X with xe := f } :=
  ⟨o.mod, o.kind, o.glob, o.blt, o.above, o.inj, o.has, o.cab, o.hd, o.frames, o.stk, o.exf, o.bs, o.bsz, o.noex, o.exfs, o.funs, o.frf⟩
theorem inv_xe {f : Value → Shared → Prop} (I : Inv X pins σ H s) : Inv { X with xe := f } pins σ H s :=
  ⟨ok_xe I.ok, I.os, I.bare, I.base, I.loc, I.cell, I.free, I.freeC, I.pin, I.hok, I.len⟩
theorem pass_blkE {E0 : XK} {s3 : Shared} {H3 : Hp} {sco : Scope} {ce : Env} {fp : List Addr} (σ : L2.St) : PassesAt (L2.CX X.prog X.w) (blkE X E0 s3 H3 sco ce fp) σ E0 :=
  fun pins H s u s' I c => ⟨pins, σ, H, s, inv_xe (f := fun _ _ => False) I, c⟩
/-- the frames stand where only C has changed -/
theorem frames_but {B B0 h g : Heap} {C : Addr} (sb : Heap.SameBut C h g) (sub : ∀ b, B.get? b = none → B0.get? b = none) : ∀ {l : List Env}, C ∉ frs l → h.FunFrames B l → g.FunFrames B0 l
  | [], _, _ => trivial
  | env :: l, hc, hl => by
    obtain ⟨k, ⟨L, o, hf, hb, ho, hd⟩, r⟩ := hl
    have hL : L ∈ frs (env :: l) := List.mem_filterMap.mpr ⟨env, List.mem_cons_self, hf⟩
    refine ⟨k, ⟨L, o, hf, sub L hb, (sb.2 L fun z => hc (z ▸ hL)).trans ho, hd⟩, frames_but sb sub (fun z => hc ?_) r⟩
    obtain ⟨e, he, q⟩ := List.mem_filterMap.mp z
    exact List.mem_filterMap.mpr ⟨e, List.mem_cons_of_mem _ he, q⟩
theorem blk_raises {pb : List (Addr × Obj)} {sb : L2.St} {H3 G : Hp} {s3 t s' : Shared} {sco : Scope} {ce : Env} {fp : List Addr} {E0 : XK} {u : Value} (I3 : Inv X pins σ H3 s3) (f3 : ∀ b ∈ fp, FpOk X pins H3 b ∧ b < s3.heap.objs.size)
    (hs : X.stack = X.env :: X.outer) (hf : X.env.frame = some X.env.locals) (tk : Takes X (fun cls d _ H => E0 cls d H)) (cL : ce.locals = s3.heap.objs.size) (cf : ce.frame = X.env.frame)
    (I : Inv (X.blk s3 H3 sco ce fp) pb sb G t) (c : L2.CX X.prog X.w X.stack G t E0 u s') : wpAny (model X.prog X.w) X.A (noteFrame u ce) (fun _ s2 => blkOut (model X.prog X.w) X.A X.xe ce u s2) (fun x s2 => blkOut (model X.prog X.w) X.A X.xe ce x s2) s' := by
  obtain ⟨a, B, H', cls, d, rfl, fl, hok, ub, na, os, ag, hE⟩ := c
  have hfr : X.A.frames = some (X.env :: X.outer) := by rw [I3.ok.frames, hs]
  have en : noteFrame (.ref a) ce = noteFrame (.ref a) X.env := by
    unfold noteFrame PySem.frameOf
    rw [cf]
  rw [en]
  rw [hs] at fl
  refine HandSPX.looks_onZ Zc.steady hfr hf fl fun h1 hh up => ?_
  -- the block's names
  obtain ⟨m, ⟨oC, es, ep, eC, dC, kC⟩, _⟩ := I.loc
  have eC : t.heap.get? ce.locals = some oC := eC
  have GC : G ce.locals = none := I.free
  have nC : ce.locals ∉ frs X.stack := fun z => by
    obtain ⟨_, o, e, _⟩ := I.ok.funs.mem z
    have lt := Heap.lt_size (show s3.heap.get? ce.locals = some o from e)
    rw [cL] at lt
    exact Nat.lt_irrefl _ lt
  have BC : B.get? ce.locals = some oC := ub.keep _ _ eC GC nC
  refine ⟨m, ⟨oC, es, ep, hh.1 _ _ BC, dC, kC⟩, fun g sbut => ?_⟩
  have HC : H' ce.locals = none := ub.free _ _ eC GC
  -- the ground without them
  obtain ⟨B0, hB0⟩ : ∃ B0, B0 = PySem.W.hideAll B [ce.locals] := ⟨_, rfl⟩
  have b1 : ∀ b o, B0.get? b = some o → B.get? b = some o ∧ b ≠ ce.locals := fun b o e => by
    rw [hB0] at e
    refine ⟨PySem.W.of_hideAll _ e, fun z => ?_⟩
    rw [PySem.W.hideAll_none _ (by rw [z]; exact List.mem_singleton.mpr rfl)] at e
    cases e
  have b2 : ∀ b o, B.get? b = some o → b ≠ ce.locals → B0.get? b = some o := fun b o e n => by
    rw [hB0]
    exact PySem.W.hideAll_get _ e fun z => n (List.mem_singleton.mp z)
  have b3 : ∀ b, B.get? b = none → B0.get? b = none := fun b e => by
    cases q : B0.get? b with
    | none => rfl
    | some o => rw [(b1 b o q).1] at e; cases e
  obtain ⟨k1, k2, k3, oe, vs, T, oT, ts, he, hz, hd, hv, hT, hTe, hoT, hdT, ht3⟩ := hh
  have ha : a ≠ ce.locals := fun z => by rw [z, BC] at k2; cases k2
  have hTC : T ≠ ce.locals := fun z => by rw [z, BC] at hT; cases hT
  have held : HandSPX.HeldZ B0 (X.env :: X.outer) a (Zc cls d) X.env.locals g :=
    ⟨fun b o e => (sbut.2 b (b1 b o e).2).trans (k1 b o (b1 b o e).1), b3 _ k2, frames_but sbut b3 (by rw [← hs]; exact nC) k3, oe, vs, T, oT, ts, (sbut.2 a ha).trans he, hz, hd, hv, b3 _ hT, hTe, (sbut.2 T hTC).trans hoT, hdT, ht3⟩
  unfold PySem.passOn
  refine wpAny_bind (wpAny_field ((sbut.2 a ha).trans he) hd hv ?_)
  rw [if_neg (show ¬ ((Value.ref T == Value.none) = true) from by simp), cf, hf]
  have fin : wpAny (model X.prog X.w) X.A (setFlight (.ref a) (some X.env.locals)) (fun _ s4 => wpAny (model X.prog X.w) X.A (throw (.ref a) : Sem Value) (fun _ _ => False) X.xe s4) X.xe { s' with heap := g } := by
    refine HandSPX.setFlight_onZ held fun h4 hh4 up4 => wpAny_throw (tk _ _ ?_)
    obtain ⟨G4, g1, g2⟩ := restrict h4 fun b => (B0.get? b).isSome || decide (b ∈ frs X.stack)
    have gB : ∀ b o, B0.get? b = some o → G4.get? b = some o := fun b o e => by
      rw [g1 b (by simp [e])]
      exact hh4.1 b o e
    have gF : ∀ b, b ∈ frs X.stack → G4.get? b = h4.get? b := fun b hb => g1 b (by simp [hb])
    have og : ∀ b o, G4.get? b = some o → h4.get? b = some o ∧ ((B0.get? b).isSome = true ∨ b ∈ frs X.stack) := fun b o e => by
      cases q : ((B0.get? b).isSome || decide (b ∈ frs X.stack)) with
      | false => rw [g2 b q] at e; cases e
      | true =>
        rw [g1 b q] at e
        exact ⟨e, by simpa [Bool.or_eq_true] using q⟩
    have J : Inv X pins σ G t := I3.call' (ch := fp) I.os I.base I.hok I.bare fun b hb => ⟨(f3 b hb).1.2.2.2.1, (f3 b hb).1.2.1, (f3 b hb).1.2.2.2.2.1, (f3 b hb).1.2.2.2.2.2⟩
    have fC : FpOk X pins G ce.locals := I3.fpOk (Nat.le_of_eq cL.symm) GC
    have slots : ∀ b, b ∈ frs X.stack → ∀ o, t.heap.get? b = some o → ∃ sl, h4.get? b = some { o with slots := sl } := fun b hb o e => by
      obtain ⟨_, o2, e2, nf⟩ := J.stack.mem hb
      rw [e] at e2
      cases e2
      obtain ⟨s1, q1⟩ := ub.slot b o e hb
      obtain ⟨s2, q2⟩ := up b _ q1 nf
      have q3 := (sbut.2 b fun z => nC (z ▸ hb)).trans q2
      obtain ⟨s3, q4⟩ := up4 b _ q3 nf
      exact ⟨s3, q4⟩
    have hok0 : HOk X.prog X.w H' B0 := fun b o q => (hok b o q).stay (fun x v hc r => b2 x v r fun z => by
      rcases hc with hc | hc
      · rw [← hc, z, HC] at q; cases q
      · rw [z, HC] at hc; cases hc) (fun _ r => r) fun _ _ r => r
    refine ⟨a, B0, { t with heap := G4, gens := s'.gens, drawn := s'.drawn, toks := s'.toks }, pins, σ, H', cls, d, rfl, ?_, fun b o e hb => ?_, Heap.UpToSlots.of_keeps fun b o e => (og b o e).1, .inr (.inr (by rw [hs]; exact hh4)), na, os, ag, hE⟩
    · refine J.call (ch := [ce.locals]) ⟨fun b o e n hb hc => gB b o (b2 b o (ub.keep b o e n hb) fun z => hc (List.mem_singleton.mpr z)), fun b o e n hb _ => ?_, fun b o e n _ => ub.free b o e n, fun b o e hc => ?_, ub.tups, ub.frzs, ub.tbls⟩ (hok0.kept gB) ag (fun b hb => ?_)
      · obtain ⟨sl, q⟩ := slots b hb o e
        exact ⟨sl, by rw [gF b hb]; exact q⟩
      · by_cases hb : b ∈ frs X.stack
        · obtain ⟨sl, q⟩ := slots b hb o e
          exact ⟨_, by rw [gF b hb]; exact q⟩
        · obtain ⟨o2, q⟩ := ub.there b o e hb
          exact ⟨o2, gB b o2 (b2 b o2 q fun z => hc (List.mem_singleton.mpr z))⟩
      · rw [List.mem_singleton.mp hb]
        exact ⟨fC.2.2.2.1, fC.2.1, fC.2.2.2.2.1, fC.2.2.2.2.2⟩
    · obtain ⟨e2, h⟩ := og b o e
      rcases h with h | h
      · obtain ⟨o2, q⟩ := Option.isSome_iff_exists.mp h
        have z := hh4.1 b o2 q
        rw [e2] at z
        cases z
        exact q
      · exact absurd h hb
  first
    | exact wpAny_bind fin
    | exact wpAny_bind (wpAny_pure (wpAny_bind fin))
/-- [elt for tg in iter if ..] whose calls may let out what E0 tells of -/
theorem lc_mayE {E0 : XK} {pins : List (Addr × Obj)} {s : Shared} {σ : L2.St} {H : Hp} {Q : VK} {pos2 : Pos} {use : Option (Value → Sem Unit)} {Qf : Value → Shared → Prop} {elt tg iter : Expr} {ifs : List Expr} {sco : Scope} {own : List (Str × Nat)} {pos : Pos} {wi : TI} {g : TG} {tt : TT} {te : TE} (hs : X.stack = X.env :: X.outer) (hf : X.env.frame = some X.env.locals) (tk : Takes X (fun cls d _ H => E0 cls d H))
    (hc : X.calm = true) (hN : X.N.Nodup) (I : Inv X pins σ H s) (hi : PI X tg iter wi) (ok : BlkOk X.N X.env.scope sco own)
    (hg : ∀ (s : Shared) (H : Hp) (C : Addr) (cl : List (Str × Addr)) (fp : List Addr), PG (blkE X E0 s H sco (compEnvC sco cl C X.env) fp) tg g)
    (ht : ∀ (s : Shared) (H : Hp) (C : Addr) (cl : List (Str × Addr)) (fp : List Addr), PTs (blkE X E0 s H sco (compEnvC sco cl C X.env) fp) ifs tt)
    (he : ∀ (s : Shared) (H : Hp) (C : Addr) (cl : List (Str × Addr)) (fp : List Addr), PE (blkE X E0 s H sco (compEnvC sco cl C X.env) fp) elt te)
    (hx : ∀ x, foldedSetIterable iter X.env x = pure x) (h : tLc wi g tt te (own.map (·.2)) σ H Q)
    (fine : ∀ D C m s' H', Inv X pins σ H' s' → Q (.ref D) H' → s'.heap.Ns C m → FpOk X pins H' C → blkFine (model X.prog X.w) X.A X.xe use Qf (.ref D) C s') :
    wpAny (model X.prog X.w) X.A (comprehension (.ListComp elt [⟨tg, iter, ifs, 0⟩] sco pos) sco X.env pos2 (newList []) false (eval iter X.env) use) Qf X.xe s := by
  have fr : ∀ y ∈ sco.names, y.2 = .free → ∃ c, X.env.cells.lookup y.1 = some c := fun y hy e => (ok.free y hy e).elim (fun k => I.ok.has _ (.inl k)) fun k => I.ok.has _ (.inr k)
  refine comp_may (use := use) rfl hx (closure_ok fr) ok.kind (fun y hy e => by rw [ok.uniq y hy, e]) (thn (hi.run pins s σ H _ I h) fun xv s1 h1 => thn h1 fun itv s2 h2 => ?_)
  obtain ⟨it, fp, tn, J, H2, rfl, I2, T, st2, f2, q⟩ := h2
  refine wpAny_newObj_type (newEnv_comp ?_) (by show 0 ≤ sizeLine; decide)
  generalize hD : s2.heap.objs.size = D
  obtain ⟨W, ⟨m0, w0⟩, turn⟩ := q D (I2.hok.fresh (Nat.le_of_eq hD))
  generalize e3 : ({ s2 with heap := s2.heap.push { cls := .type "list", data := .seq ([] : List Value).toArray } } : Shared) = s3
  have h3 : s3.heap = s2.heap.push { cls := .type "list", data := .seq ([] : List Value).toArray } := by rw [← e3]
  have I3 : Inv X pins σ (upd H2 D (.lst [])) s3 := by
    rw [← e3]
    refine I2.laid (t' := s2.toks) (fun b o e => Heap.get?_push_of_some _ e) (Nat.le_of_eq hD) ⟨Nat.zero_le _, [], 0, .nil, ?_⟩
    rw [← hD]
    exact Heap.get?_push_size _ rfl
  have f3 : ∀ b ∈ fp, FpOk X pins (upd H2 D (.lst [])) b ∧ b < s3.heap.objs.size := fun b hb => by
    obtain ⟨o, e, _⟩ := T.obj _ _ st2 b hb
    have lt := Heap.lt_size e
    refine ⟨⟨?_, (f2 b hb).2⟩, by rw [h3, Heap.size_push]; exact Nat.lt_succ_of_lt lt⟩
    rw [upd_ne (by rw [← hD]; exact Nat.ne_of_lt lt)]
    exact (f2 b hb).1
  have st3 : tn 0 s3.heap := T.keep _ _ _ st2 fun b _ o e => by rw [h3]; exact Heap.get?_push_of_some _ e
  have I4 := block_start I3 ok hN f3
  have pg := hg s3 (upd H2 D (.lst [])) s3.heap.objs.size (cellsFrom (s3.heap.objs.size + 1) sco.names (cloFrom X.env.cells sco.names [])) fp
  have pt := ht s3 (upd H2 D (.lst [])) s3.heap.objs.size (cellsFrom (s3.heap.objs.size + 1) sco.names (cloFrom X.env.cells sco.names [])) fp
  have pe := he s3 (upd H2 D (.lst [])) s3.heap.objs.size (cellsFrom (s3.heap.objs.size + 1) sco.names (cloFrom X.env.cells sco.names [])) fp
  show codeAny _ _ (.compStart (.ListComp elt [⟨tg, iter, ifs, 0⟩] sco pos) 0 (.ref it) (.ref D) (compEnvC sco (cellsFrom (s3.heap.objs.size + 1) sco.names (cloFrom X.env.cells sco.names [])) s3.heap.objs.size X.env))
    (blkEnd (model X.prog X.w) X.A X.xe use Qf (.ref D) (compEnvC sco (cellsFrom (s3.heap.objs.size + 1) sco.names (cloFrom X.env.cells sco.names [])) s3.heap.objs.size X.env)) { s3 with heap := pushCells (s3.heap.push { cls := .type "dict", data := .dict #[] }) sco.names }
  have nfp : ∀ b ∈ fp, (upd H2 D (.lst [])) b = none := fun b hb => (f3 b hb).1.1
  have cL : (compEnvC sco (cellsFrom (s3.heap.objs.size + 1) sco.names (cloFrom X.env.cells sco.names [])) s3.heap.objs.size X.env).locals = s3.heap.objs.size := rfl
  have cF : (compEnvC sco (cellsFrom (s3.heap.objs.size + 1) sco.names (cloFrom X.env.cells sco.names [])) s3.heap.objs.size X.env).frame = X.env.frame := rfl
  generalize compEnvC sco (cellsFrom (s3.heap.objs.size + 1) sco.names (cloFrom X.env.cells sco.names [])) s3.heap.objs.size X.env = ce at I4 pg pt pe cL cF ⊢
  generalize upd H2 D (.lst []) = H3 at I3 I4 pg pt pe w0 nfp f3
  generalize e4 : ({ s3 with heap := pushCells (s3.heap.push { cls := .type "dict", data := .dict #[] }) sco.names } : Shared) = s4 at I4 ⊢
  have st4 : tn 0 s4.heap := T.keep _ _ _ st3 fun b _ o e => by rw [← e4]; exact pushCells_keeps _ _ _ _ (Heap.get?_push_of_some _ e)
  have J4 : Inv (blkE X E0 s3 H3 sco ce fp) [] (wipe σ (own.map (·.2))) H3 s4 := inv_xe I4
  have stat : ∀ {σ' : L2.St} {H' : Hp} {s' : Shared}, Inv (blkE X E0 s3 H3 sco ce fp) [] σ' H' s' → (∀ b ∈ fp, H' b = none) → ∀ b ∈ fp, FpOk (blkE X E0 s3 H3 sco ce fp) [] H' b := fun {σ' H' s'} I' hn b hb =>
    ⟨hn b hb, (I'.ok.exf b hb).1, I'.ok.exfs b hb, .inl hb, fun x c e => (I'.ok.exf b hb).2 x c e, fun p hp => absurd (show p ∈ ([] : List (Addr × Obj)) ++ [] from hp) (by simp)⟩
  have up : ∀ {α : Type} {t : Sem α} {R R2 : α → Shared → Prop} {u : Shared}, wpAny (model X.prog X.w) X.A t R (blkE X E0 s3 H3 sco ce fp).xe u → (∀ a v, R a v → R2 a v) →
      wpAny (model X.prog X.w) X.A t R2 (notedBy (model X.prog X.w) X.A ce fun x v => blkOut (model X.prog X.w) X.A X.xe ce x v) u := fun h k => wpAny_mono h k fun x v ⟨pb, sb, G, t, Ib, c⟩ => blk_raises I3 f3 hs hf tk cL cF Ib c
  have loop : codeAny (model X.prog X.w) X.A (.compLoop (.ListComp elt [⟨tg, iter, ifs, 0⟩] sco pos) 0 (.ref it) (.ref D) ce) (blkEnd (model X.prog X.w) X.A X.xe use Qf (.ref D) ce) s4 := by
    refine compLoop_any (fun n s' => ∃ i H', Inv (blkE X E0 s3 H3 sco ce fp) [] (wipe σ (own.map (·.2))) H' s' ∧ tn i s'.heap ∧ (∀ b ∈ fp, H' b = none) ∧ W i n H') ?_ m0 ⟨0, H3, J4, st4, nfp, w0⟩
    rintro n s5 ⟨i, H5, I5, st5, n5, w5⟩
    rcases turn i n H5 w5 with ⟨stop, qq⟩ | ⟨go, Nx, hNx, step⟩
    · refine thnF (T.done (blkE X E0 s3 H3 sco ce fp) rfl rfl rfl hc i [] s5 _ H5 (fun _ _ => False) I5 (stat I5 n5) st5 stop) fun r s6 ⟨hr, I6⟩ => ?_
      subst hr
      have I7 : Inv X pins σ H5 s6 := I3.call' (ch := fp) I6.os I6.base I6.hok I6.bare fun b hb => ⟨(f3 b hb).1.2.2.2.1, (f3 b hb).1.2.1, (f3 b hb).1.2.2.2.2.1, (f3 b hb).1.2.2.2.2.2⟩
      have fC : FpOk X pins H5 ce.locals := I3.fpOk (Nat.le_of_eq cL.symm) I6.free
      obtain ⟨m, hn, _⟩ := I6.loc
      exact fine D ce.locals m s6 H5 I7 qq hn fC
    · refine thnF (T.item (blkE X E0 s3 H3 sco ce fp) rfl rfl rfl hc i [] s5 _ H5 (fun _ _ => False) I5 (stat I5 n5) st5 go) fun r s6 ⟨u, hr, h6⟩ => ?_
      subst hr
      refine thnF h6 fun _ s7 ⟨x, H7, I7, r7, y7, st7, n7⟩ => ?_
      have I7' := I7.pinned (stat I7 n7) (T.obj _ _ st7)
      refine up (pg.run _ s7 _ H7 x u _ I7' r7 (step x H7 y7)) fun _ s8 ⟨σ8, H8, I8, hw8, q8⟩ => ?_
      refine up (pt.run _ s8 σ8 H8 _ I8 q8) fun b s9 ⟨H9, I9, q9⟩ => ?_
      have fin : ∀ {s' : Shared} {H' : Hp}, Inv (blkE X E0 s3 H3 sco ce fp) ([] ++ pinsAt fp s7.heap) σ8 H' s' → Nx H' → ∃ m, m < n ∧ ∃ i H', Inv (blkE X E0 s3 H3 sco ce fp) [] (wipe σ (own.map (·.2))) H' s' ∧ tn i s'.heap ∧ (∀ b ∈ fp, H' b = none) ∧ W i m H' := fun {s' H'} I' nx => by
        obtain ⟨m', hm, w'⟩ := hNx H' nx
        have pin : ∀ b ∈ fp, ∀ o, s7.heap.get? b = some o → s'.heap.get? b = some o ∧ H' b = none := fun b hb o e =>
          ⟨(I'.pin (b, o) (List.mem_append_right _ (List.mem_append_right _ (mem_pinsAt hb e)))).1, (I'.pin (b, o) (List.mem_append_right _ (List.mem_append_right _ (mem_pinsAt hb e)))).2.1⟩
        have hl : (wipe σ (own.map (·.2))).length = σ8.length := by rw [← hw8, wipe_length]
        refine ⟨m', hm, i + 1, H', (I'.unpinned (pins := [])).weak hl (fun j v e => ?_), T.keep _ _ _ st7 fun b hb o e => (pin b hb o e).1, fun b hb => ?_, w'⟩
        · rw [← hw8] at e
          exact (wipe_some e).1
        · obtain ⟨o, e, _⟩ := T.obj _ _ st7 b hb
          exact (pin b hb o e).2
      cases b with
      | false =>
        simp only [Bool.false_eq_true, if_false] at q9 ⊢
        exact fin I9 q9
      | true =>
        simp only [if_true] at q9 ⊢
        refine up (pe.run _ s9 σ8 H9 _ I9 q9) fun z s10 ⟨yv, H10, I10, r10, acc, hD10, hz10, nx⟩ => ?_
        exact app_ok (X := blkE X E0 s3 H3 sco ce fp) I10 hD10 hz10 r10 fun s11 I11 => fin I11 nx
  exact codeAny_compStart_list loop (T.self X.A 0 _ _ _ st4 loop)
/-- as a value -/
theorem pe_lcE {E0 : XK} {elt tg iter : Expr} {ifs : List Expr} {sco : Scope} {own : List (Str × Nat)} {pos : Pos} {wi : TI} {g : TG} {tt : TT} {te : TE} (hs : X.stack = X.env :: X.outer) (hf : X.env.frame = some X.env.locals) (tk : Takes X (fun cls d _ H => E0 cls d H))
    (hc : X.calm = true) (hN : X.N.Nodup) (hi : PI X tg iter wi) (ok : BlkOk X.N X.env.scope sco own)
    (hg : ∀ (s : Shared) (H : Hp) (C : Addr) (cl : List (Str × Addr)) (fp : List Addr), PG (blkE X E0 s H sco (compEnvC sco cl C X.env) fp) tg g)
    (ht : ∀ (s : Shared) (H : Hp) (C : Addr) (cl : List (Str × Addr)) (fp : List Addr), PTs (blkE X E0 s H sco (compEnvC sco cl C X.env) fp) ifs tt)
    (he : ∀ (s : Shared) (H : Hp) (C : Addr) (cl : List (Str × Addr)) (fp : List Addr), PE (blkE X E0 s H sco (compEnvC sco cl C X.env) fp) elt te)
    (hx : ∀ x, foldedSetIterable iter X.env x = pure x := by intro _; rfl) : PE X (.ListComp elt [⟨tg, iter, ifs, 0⟩] sco pos) (tLc wi g tt te (own.map (·.2))) := by
  refine ⟨fun pins s σ H Q I h => ?_⟩
  rw [eval_ListComp]
  refine lc_mayE (Qf := EP X pins σ Q) hs hf tk hc hN I hi ok hg ht he hx h fun D C m s6 H5 I7 qq hn fC => ?_
  obtain ⟨c0, c1, c2, c3, c4, c5⟩ := fC
  exact ⟨m, hn, fun g sb => ⟨.ref D, H5, I7.turned (t' := s6.toks) (fun b o hb e => (sb.2 b hb).trans e) c0 c1 c3 c4 c5, rfl, qq⟩⟩
/-- name = [..], the name a local -/
theorem ps_setE {E0 : XK} {i : Nat} {y : Str} {py : Pos} {elt tg iter : Expr} {ifs : List Expr} {sco : Scope} {own : List (Str × Nat)} {pos spos : Pos} {wi : TI} {g : TG} {tt : TT} {te : TE} (hs : X.stack = X.env :: X.outer) (hf : X.env.frame = some X.env.locals) (tk : Takes X (fun cls d _ H => E0 cls d H))
    (hc : X.calm = true) (hN : X.N.Nodup) (hy : X.N[i]? = some y) (hyl : X.env.scope.names.lookup y = some .local) (hw : swapsWith (.ListComp elt [⟨tg, iter, ifs, 0⟩] sco pos) (some (.Name y py)) spos.line X.env = pure true) (hi : PI X tg iter wi) (ok : BlkOk X.N X.env.scope sco own)
    (hg : ∀ (s : Shared) (H : Hp) (C : Addr) (cl : List (Str × Addr)) (fp : List Addr), PG (blkE X E0 s H sco (compEnvC sco cl C X.env) fp) tg g)
    (ht : ∀ (s : Shared) (H : Hp) (C : Addr) (cl : List (Str × Addr)) (fp : List Addr), PTs (blkE X E0 s H sco (compEnvC sco cl C X.env) fp) ifs tt)
    (he : ∀ (s : Shared) (H : Hp) (C : Addr) (cl : List (Str × Addr)) (fp : List Addr), PE (blkE X E0 s H sco (compEnvC sco cl C X.env) fp) elt te)
    (hx : ∀ x, foldedSetIterable iter X.env x = pure x := by intro _; rfl) : PS X (.Assign [.Name y py] (.ListComp elt [⟨tg, iter, ifs, 0⟩] sco pos) spos) (tAsg (tLc wi g tt te (own.map (·.2))) (gName i)) := by
  refine ⟨fun pins s σ H D I h => ?_⟩
  rw [exec_Assign_Name_used _ _ _ _ hw]
  refine wpAny_bind (wpAny_standAt (wpAny_bind ?_))
  show wpAny _ X.A (do let _ ← comprehension (.ListComp elt [⟨tg, iter, ifs, 0⟩] sco pos) sco X.env (firstIterPos [⟨tg, iter, ifs, 0⟩] pos) (newList []) false (eval iter X.env) (some (assign (.Name y py) X.env))) _ _ s
  have h2 : tLc wi g tt te (own.map (·.2)) σ H (fun x G => gName i x σ G D.nx) := h
  refine wpAny_bind (thn (lc_mayE (Qf := fun _ u => SP X pins D .next u) hs hf tk hc hN I hi ok hg ht he hx h2 fun L C m u G J q hn fC => ?_) fun _ _ k => wpAny_pure (wpAny_pure k))
  show wpAny _ _ (assign (.Name y py) X.env (.ref L)) _ _ _
  refine wpAny_assign_Name (store_ok2 (v := V.ref L) J hN hy (.inl hyl) rfl (fun v Jv ⟨a, sb, ha⟩ => ?_) (.inr hyl))
  obtain ⟨c0, c1, c2, c3, c4, c5⟩ := fC
  have ne : C ≠ a := ha.elim (fun z => z ▸ c1) fun z e => c4 y a z e.symm
  exact ⟨m, hn.sameBut sb ne, fun g sb2 => ⟨_, G, Jv.turned (t' := v.toks) (fun b o hb e => (sb2.2 b hb).trans e) c0 c1 c3 c4 c5, q⟩⟩
/-- the element's call -/
theorem zcallE {E0 : XK} {k : Nat} {x : Str} {ps : List Str} {sp : Sp} {e : Expr} {es : List Expr} {t : TA} {pos p : Pos} {s3 : Shared} {H3 : Hp} {sco : Scope} {ce : Env} {fp : List Addr} (C : CalX X.prog X.w X.K X.mg X.base k x ps sp) (hr : Room k X.A)
    (hg : Gl (blkE X E0 s3 H3 sco ce fp) x) (ha : PA (blkE X E0 s3 H3 sco ce fp) (e :: es) t)
    (hdb : (x == ("__debug__" : Str)) = false := by decide) (he : starEach (e :: es) ce = (false, eval e ce) :: starEach es ce := by rfl) (hp : (backTo pos (starEach es ce)).any (·.1) = false := by rfl) :
    PE (blkE X E0 s3 H3 sco ce fp) (.Call (.Name x p) (e :: es) [] pos) (tCallS sp (fun _ => E0) t) := by
  obtain ⟨f, fd, F, b, hk, m⟩ := C
  exact pe_callS F hr hg m hk b (fun σ => pass_blkE σ) ha hdb he hp
end
section
variable {X : Cx}
/-- t.index(u) where it is found -/
theorem zsindex : MtR X "str.index" (fun x xs H Q => match x, xs with | .str a, [.str b] => 0 ≤ Txt.find a b ∧ Q (.int (Txt.find a b)) H | _, _ => False) := mtM mt_sindex fun x xs H Q q => by
  split at q
  · obtain ⟨h, q⟩ := q
    unfold Txt.find at h q
    split at h
    · rename_i a b i r e
      rw [e] at q
      exact ⟨_, _, i, r, rfl, rfl, e, q⟩
    · exact absurd h (by decide)
  · exact q.elim
end
end Z

set_option Elab.async false
set_option linter.all false
set_option maxRecDepth 100000
set_option maxHeartbeats 4000000
/-! max of a list of pairs of whole numbers -/
namespace Z
open PySem PySem.Spec PyProof.Rows L2
open PySem.W (dataLt keyToks keyToksAll maxD AlikeAll max_list_data)
def tp2 (p : Int × Int) : PyData := .tuple [.int p.1, .int p.2]
/-- the pair p is at most q, place by place -/
def Le2 (p q : Int × Int) : Prop := p.1 < q.1 ∨ p.1 = q.1 ∧ p.2 ≤ q.2
theorem dlt2 (p q : Int × Int) : dataLt (tp2 p) (tp2 q) = decide (p.1 < q.1 ∨ p.1 = q.1 ∧ p.2 < q.2) := by
  obtain ⟨a, b⟩ := p
  obtain ⟨c, d⟩ := q
  have t : ∀ a b : Int, keyToks (tp2 (a, b)) = [.inl 1, .inl a, .inl 1, .inl b, .inl 0] := fun a b => by
    unfold tp2
    simp only [keyToks, keyToksAll, List.cons_append, List.nil_append]
  have blt : ∀ x y : Int, (itemOrd.blt (Sum.inl x) (Sum.inl y)) = decide (x < y) := fun x y => rfl
  unfold dataLt
  rw [t, t, lex_self (O := itemOrd)]
  show _ = decide (a < c ∨ a = c ∧ b < d)
  by_cases e : a = c
  · subst e
    rw [lex_self (O := itemOrd), lex_self (O := itemOrd)]
    by_cases f : b = d
    · subst f
      rw [lex_self (O := itemOrd), lex_self (O := itemOrd)]
      have : ¬ (a < a ∨ a = a ∧ b < b) := by omega
      rw [decide_eq_false this]
      rfl
    · rw [lex_diff (O := itemOrd) (by simpa using f), blt]
      congr 1
      simp
  · rw [lex_diff (O := itemOrd) (by simpa using e), blt]
    congr 1
    simp [e]
theorem max2 : ∀ (ps : List (Int × Int)) (p : Int × Int), ∃ m, (m = p ∨ m ∈ ps) ∧ maxD (tp2 p) (ps.map tp2) = tp2 m ∧ Le2 p m ∧ ∀ q ∈ ps, Le2 q m
  | [], p => ⟨p, .inl rfl, rfl, .inr ⟨rfl, Int.le_refl _⟩, fun q h => nomatch h⟩
  | r :: ps, p => by
    have step : maxD (tp2 p) ((r :: ps).map tp2) = maxD (if dataLt (tp2 p) (tp2 r) then tp2 r else tp2 p) (ps.map tp2) := rfl
    rw [step, dlt2]
    by_cases c : p.1 < r.1 ∨ p.1 = r.1 ∧ p.2 < r.2
    · rw [decide_eq_true c]
      obtain ⟨m, h1, h2, h3, h4⟩ := max2 ps r
      refine ⟨m, .inr ?_, h2, ?_, fun q hq => ?_⟩
      · rcases h1 with rfl | h1
        · exact List.mem_cons_self
        · exact List.mem_cons_of_mem _ h1
      · unfold Le2 at h3 ⊢
        omega
      · rcases List.mem_cons.mp hq with rfl | hq
        · exact h3
        · exact h4 q hq
    · rw [decide_eq_false c]
      obtain ⟨m, h1, h2, h3, h4⟩ := max2 ps p
      refine ⟨m, h1.imp id fun h => List.mem_cons_of_mem _ h, h2, h3, fun q hq => ?_⟩
      rcases List.mem_cons.mp hq with rfl | hq
      · unfold Le2 at h3 ⊢
        omega
      · exact h4 q hq
/-- tuples of two whole numbers at rs -/
def Prs (K : PySem.W.Frag) (H : Hp) : List Addr → List (Int × Int) → Prop
  | [], [] => True
  | r :: rs, p :: ps => H r = some (.tup [.int p.1, .int p.2]) ∧ Prs K H rs ps
  | _, _ => False
theorem Prs.data {K : PySem.W.Frag} {H : Hp} : ∀ {rs : List Addr} {ps : List (Int × Int)}, Prs K H rs ps → DpAll K H (rs.map V.ref) (ps.map tp2)
  | [], [], _ => .nil
  | r :: rs, p :: ps, ⟨h, k⟩ => .cons (.tup (.inl (.inl h)) (.cons (.int _) (.cons (.int _) .nil))) k.data
  | [], _ :: _, h => h.elim
  | _ :: _, [], h => h.elim
theorem Prs.len {K : PySem.W.Frag} {H : Hp} : ∀ {rs : List Addr} {ps : List (Int × Int)}, Prs K H rs ps → rs.length = ps.length
  | [], [], _ => rfl
  | r :: rs, p :: ps, ⟨h, k⟩ => congrArg (· + 1) k.len
  | [], _ :: _, h => h.elim
  | _ :: _, [], h => h.elim
theorem Prs.get {K : PySem.W.Frag} {H : Hp} : ∀ {rs : List Addr} {ps : List (Int × Int)}, Prs K H rs ps → ∀ {i : Nat} {r : Addr} {p : Int × Int}, rs[i]? = some r → ps[i]? = some p → H r = some (.tup [.int p.1, .int p.2])
  | r :: rs, p :: ps, ⟨h, k⟩, 0, _, _, e, f => by cases e; cases f; exact h
  | r :: rs, p :: ps, ⟨h, k⟩, i + 1, _, _, e, f => k.get (by simpa using e) (by simpa using f)
  | [], [], _, i, _, _, e, _ => by simp at e
  | [], _ :: _, h, _, _, _, _, _ => h.elim
  | _ :: _, [], h, _, _, _, _, _ => h.elim
theorem Prs.snoc {K : PySem.W.Frag} {H : Hp} : ∀ {rs : List Addr} {ps : List (Int × Int)} {r : Addr} {p : Int × Int}, Prs K H rs ps → H r = some (.tup [.int p.1, .int p.2]) → Prs K H (rs ++ [r]) (ps ++ [p])
  | [], [], r, p, _, e => ⟨e, trivial⟩
  | r :: rs, p :: ps, _, _, ⟨h, k⟩, e => ⟨h, k.snoc e⟩
  | [], _ :: _, _, _, h, _ => h.elim
  | _ :: _, [], _, _, h, _ => h.elim
theorem Prs.wr {K : PySem.W.Frag} {H H' : Hp} {d : Addr} (k : Keep d H H') (hd : ∃ ys, H d = some (.lst ys)) : ∀ {rs : List Addr} {ps : List (Int × Int)}, Prs K H rs ps → Prs K H' rs ps
  | [], [], _ => trivial
  | r :: rs, p :: ps, ⟨h, q⟩ => ⟨k _ _ (fun z => by obtain ⟨ys, hd⟩ := hd; rw [z, hd] at h; cases h) h, q.wr k hd⟩
  | [], _ :: _, h => h.elim
  | _ :: _, [], h => h.elim
theorem Prs.same {K : PySem.W.Frag} {H H' : Hp} (S : Same H H') : ∀ {rs : List Addr} {ps : List (Int × Int)}, Prs K H rs ps → Prs K H' rs ps
  | [], [], _ => trivial
  | r :: rs, p :: ps, ⟨h, k⟩ => ⟨S _ _ h, k.same S⟩
  | [], _ :: _, h => h.elim
  | _ :: _, [], h => h.elim
theorem paired_at {α β : Type} {F : α → β → Prop} : ∀ {xs : List α} {ys : List β}, Paired F xs ys → ∀ {i : Nat} {x : α} {y : β}, xs[i]? = some x → ys[i]? = some y → F x y
  | _, _, .nil, i, _, _, e, _ => by simp at e
  | _, _, .cons h k, 0, _, _, e, f => by cases e; cases f; exact h
  | _, _, .cons h k, i + 1, _, _, e, f => paired_at k (by simpa using e) (by simpa using f)
section
variable {X : Cx}
theorem zmaxP (hc : X.calm = true) (hu : X.A.units + 64 < cLine) : CallR X (.builtin "max") (fun vs H Q => match vs with
    | [.ref a] => ∃ (rs : List Addr) (ps : List (Int × Int)), SqL X.K H a (rs.map V.ref) ∧ Prs X.K H rs ps ∧ 0 < ps.length ∧ ∀ (i : Nat) (r : Addr) (m : Int × Int), rs[i]? = some r → ps[i]? = some m → (∀ q ∈ ps, Le2 q m) → Q (.ref r) H
    | _ => False) := by
  intro pins s σ H vs us Q I r h
  match vs, h with
  | [.ref a], ⟨rs, ps, hs, hp, hl, q⟩ =>
    obtain ⟨its, rv, il, _⟩ := I.list hs
    rw [Vals.ref1 r]
    obtain ⟨as, ra⟩ := Dp.readsAll I _ _ its hp.data rv
    cases ps with
    | nil => exact absurd hl (Nat.lt_irrefl _)
    | cons p ps =>
      obtain ⟨m, h1, h2, h3, h4⟩ := max2 ps p
      have alike2 : AlikeAll ((p :: ps).map tp2) := by
        constructor
        · intro x hx y hy
          obtain ⟨a, _, rfl⟩ := List.mem_map.mp hx
          obtain ⟨b, _, rfl⟩ := List.mem_map.mp hy
          rfl
        · intro x hx e
          obtain ⟨a, _, rfl⟩ := List.mem_map.mp hx
          cases e
      have dep : PyData.depthAll ((p :: ps).map tp2) ≤ 10 := by
        have all : ∀ l : List (Int × Int), PyData.depthAll (l.map tp2) ≤ 10 := fun l => by
          induction l with
          | nil => exact Nat.zero_le _
          | cons x l ih => exact Nat.max_le.mpr ⟨by show (tp2 x).depth ≤ 10; exact Nat.le_of_ble_eq_true rfl, ih⟩
        exact all _
      refine max_list_data (I.ok.hd hc) il.isList ra alike2 (by have d2 : PyData.depthAll (tp2 p :: ps.map tp2) ≤ 10 := dep; omega) fun i v h' tk bs hv rd hk => ?_
      -- which one it is
      have hi : i < its.length := by
        rw [← List.size_toArray]
        exact (Array.getElem?_eq_some_iff.mp hv).1
      have hv : its[i]? = some v := by rw [List.getElem?_toArray] at hv; exact hv
      have ln : its.length = rs.length := by rw [← rv.length, List.length_map]
      have er : rs[i]? = some rs[i] := List.getElem?_eq_getElem (by omega)
      generalize rs[i] = r1 at er
      have ep : (p :: ps)[i]? = some ((p :: ps)[i]'(by have := hp.len; omega)) := List.getElem?_eq_getElem _
      generalize (p :: ps)[i]'(by have := hp.len; omega) = p1 at ep
      have rel : RelV (V.ref r1) v := paired_at rv (by rw [List.getElem?_map, er]; rfl) hv
      obtain ⟨a1, r1s⟩ := Dp.reads I (tp2 p1) (.ref r1) v (.tup (.inl (.inl (hp.get er ep))) (.cons (.int _) (.cons (.int _) .nil))) rel
      have same := (PySem.Reads.unique (PySem.W.reads_keeps hk r1s) _ _ rd).1
      rw [h2] at same
      have pm : p1 = m := by
        obtain ⟨x, y⟩ := p1
        obtain ⟨x2, y2⟩ := m
        cases same
        rfl
      subst pm
      exact ⟨.ref r1, H, I.kept hk, rel, q i r1 p1 er ep fun z hz => by
        rcases List.mem_cons.mp hz with rfl | hz
        · exact h3
        · exact h4 z hz⟩
end
end Z

set_option Elab.async false
set_option linter.all false
/-! one statement, two rules; slices of a tuple, the whole one too -/
namespace Z
open PySem PySem.Spec PyProof.Rows L2
def tOr (t u : TS) : TS := fun D σ H => t D σ H ∨ u D σ H
theorem ps_or {X : Cx} {st : Stmt} {t u : TS} (h : PS X st t) (k : PS X st u) : PS X st (tOr t u) :=
  ⟨fun pins s σ H D I q => q.elim (h.run pins s σ H D I) (k.run pins s σ H D I)⟩
section
variable {X : Cx}
def zSlTA (K : PySem.W.Frag) : V → Option Int → Option Int → Hp → VK → Prop := fun x lo hi H Q => match x with
  | .ref a => ∃ xs, SqT K H a xs ∧ ∀ p H', SqT K H' p (cutV xs lo hi) → Same H H' → Q (.ref p) H'
  | _ => False
theorem zslTA : SlR X (zSlTA X.K) := slM sl_tupA fun x lo hi H Q q => by
  unfold zSlTA at q
  split at q
  · obtain ⟨xs, h1, q⟩ := q
    refine ⟨_, xs, rfl, h1, fun w => q _ H ?_ (Same.refl H), fun _ p n => q p _ (SqT.of upd_same) (same_upd n)⟩
    have e : cutV xs lo hi = xs := by
      unfold cutV
      rw [w.1, w.2]
      show (List.drop 0 xs).take (xs.length - 0) = xs
      rw [List.drop_zero, Nat.sub_zero, List.take_length]
    rw [e]
    exact h1
  · exact q.elim
end
end Z

set_option Elab.async false
set_option linter.all false
/-! dicts whose keys are whole numbers in a row; walks of them -/
namespace Z
open PySem PySem.Spec PyProof.Rows L2
/-- the entries lo, lo + 1, .. with these values -/
def ent (lo : Int) : List V → List (Key × V)
  | [] => []
  | v :: r => (.inl lo, v) :: ent (lo + 1) r
theorem ent_len : ∀ (vs : List V) (lo : Int), (ent lo vs).length = vs.length
  | [], _ => rfl
  | _ :: r, lo => by show (ent (lo + 1) r).length + 1 = _; rw [ent_len r]; rfl
theorem ent_get : ∀ (vs : List V) (lo : Int) (i : Nat), (ent lo vs)[i]? = vs[i]?.map fun v => (Sum.inl (lo + (i : Int)), v)
  | [], _, i => by simp [ent]
  | v :: r, lo, 0 => by
    show some (Sum.inl lo, v) = some (Sum.inl (lo + ((0 : Nat) : Int)), v)
    rw [show lo + ((0 : Nat) : Int) = lo by omega]
  | v :: r, lo, i + 1 => by
    show (ent (lo + 1) r)[i]? = (r[i]?).map _
    rw [ent_get r (lo + 1) i]
    have e : lo + 1 + (i : Int) = lo + ((i + 1 : Nat) : Int) := by omega
    rw [e]
theorem ent_val : ∀ {vs : List V} {lo : Int} {i : Nat} {v : V}, vs[i]? = some v → valV (ent lo vs) (Sum.inl (lo + (i : Int)) : Key) = some v
  | [], _, _, _, h => by simp at h
  | y :: r, lo, 0, v, h => by
    have hv : y = v := by simpa using h
    subst hv
    exact valV_pos (p := ((Sum.inl lo : Key), y)) (congrArg Sum.inl (by omega))
  | y :: r, lo, i + 1, v, h => by
    have h' : r[i]? = some v := by simpa using h
    have e : lo + ((i + 1 : Nat) : Int) = lo + 1 + (i : Int) := by omega
    rw [e]
    refine (valV_neg (p := ((Sum.inl lo : Key), y)) (fun z => ?_)).trans (ent_val h')
    have z' : lo = lo + 1 + (i : Int) := Sum.inl.inj z
    omega
theorem merge_ent : ∀ (vs : List V) (lo : Int) (acc : List (Key × V)), (∀ kv ∈ acc, ∃ x : Int, kv.1 = .inl x ∧ x < lo) → mergeK acc (ent lo vs) = acc ++ ent lo vs
  | [], _, acc, _ => by show acc = acc ++ []; rw [List.append_nil]
  | v :: r, lo, acc, h => by
    have none : valV acc (Sum.inl lo : Key) = none := by
      cases e : valV acc (Sum.inl lo : Key) with
      | none => rfl
      | some w =>
        have m := valV_in e
        obtain ⟨kv, hk, ek⟩ := List.mem_map.mp m
        obtain ⟨x, e1, e2⟩ := h kv hk
        rw [e1] at ek
        have := Sum.inl.inj ek
        omega
    show mergeK (putK acc (Sum.inl lo) v) (ent (lo + 1) r) = acc ++ ((Sum.inl lo, v) :: ent (lo + 1) r)
    rw [putK_new v none, merge_ent r (lo + 1) _ (fun kv hk => ?_), List.append_assoc]
    · rfl
    · rcases List.mem_append.mp hk with m | m
      · obtain ⟨x, e1, e2⟩ := h kv m
        exact ⟨x, e1, by omega⟩
      · have e : kv = (Sum.inl lo, v) := by simpa using m
        subst e
        exact ⟨lo, rfl, by omega⟩
theorem ent_merge (lo : Int) (vs : List V) : mergeK [] (ent lo vs) = ent lo vs := by
  rw [merge_ent vs lo [] (fun kv h => by simp at h)]
  rfl
theorem paired_by {α β : Type} {F : α → β → Prop} : ∀ {xs : List α} {ys : List β}, xs.length = ys.length → (∀ (i : Nat) (x : α) (y : β), xs[i]? = some x → ys[i]? = some y → F x y) → Paired F xs ys
  | [], [], _, _ => .nil
  | x :: xs, y :: ys, e, h => .cons (h 0 x y rfl rfl) (paired_by (by simpa using e) fun i a b ha hb => h (i + 1) a b (by simpa using ha) (by simpa using hb))
  | [], _ :: _, e, _ => by simp at e
  | _ :: _, [], e, _ => by simp at e
/-- what stood stands, the thing at d is open again -/
theorem open_again {H H' : Hp} {d : Addr} {u : HO} {od : Obj} (hd : H d = some u) (S : Same (upd H d (.frz od u)) H') : Same H (upd H' d u) := fun a o ha => by
  by_cases c : a = d
  · subst c
    rw [hd] at ha
    cases ha
    exact upd_same
  · rw [upd_ne c]
    exact S a o (by rw [upd_ne c]; exact ha)
theorem open_kept {H G H' : Hp} {d c : Addr} {u : HO} {od : Obj} (S : Same H G) (hd : G d = some u) (nc : H c = none) (K : Keep c (upd G d (.frz od u)) H') : Same H (upd H' d u) := fun a o ha => by
  have hc : a ≠ c := ne_of_none ha nc
  by_cases e : a = d
  · subst e
    rw [S _ _ ha] at hd
    cases hd
    exact upd_same
  · rw [upd_ne e]
    exact K a o hc (by rw [upd_ne e]; exact S _ _ ha)
theorem none_shut {H : Hp} {a d : Addr} {o : HO} {u : HO} (n : upd H d o a = none) (hd : H d = some u) : a ≠ d ∧ H a = none := by
  have c : a ≠ d := fun z => by
    subst z
    rw [upd_same] at n
    cases n
  rw [upd_ne c] at n
  exact ⟨c, n⟩
/-- a comprehension over such a dict -/
theorem lc_ent {d D : Addr} {od : Obj} {lo : Int} {vs : List V} {g : TG} {tt : TT} {te : TE} {ws : List Nat} {σ : L2.St} {H1 : Hp} {Qd : Hp → Prop} (Pv : Nat → Hp → Prop) (h0 : Pv 0 (upd H1 D (.lst []))) (hG : ∀ i H, i ≤ vs.length → Pv i H → H d = some (.frz od (.dK (ent lo vs))))
    (hs : ∀ i v H, vs[i]? = some v → Pv i H → g (.int (lo + (i : Int))) (wipe σ ws) H fun σ2 H2 => wipe σ2 ws = wipe σ ws ∧ tt σ2 H2 fun b H3 =>
      if b = true then te σ2 H3 fun y H4 => ∃ acc, H4 D = some (.lst acc) ∧ acc.length < sizeLine ∧ Pv (i + 1) (upd H4 D (.lst (acc ++ [y]))) else Pv (i + 1) H3) (hd : ∀ H, Pv vs.length H → Qd H) :
    ∃ W : Nat → Nat → Hp → Prop, (∃ m, W 0 m (upd H1 D (.lst []))) ∧ ∀ i m H, W i m H →
      ((Itk d od (ent lo vs)).stop i H ∧ Qd H) ∨ ((Itk d od (ent lo vs)).go i H ∧ ∃ Nx : Hp → Prop, (∀ H', Nx H' → ∃ m', m' < m ∧ W (i + 1) m' H') ∧ ∀ x H', (Itk d od (ent lo vs)).yld i H x H' → g x (wipe σ ws) H' fun σ2 H2 => wipe σ2 ws = wipe σ ws ∧ tt σ2 H2 fun b H3 =>
        if b = true then te σ2 H3 fun y H4 => ∃ acc, H4 D = some (.lst acc) ∧ acc.length < sizeLine ∧ Nx (upd H4 D (.lst (acc ++ [y]))) else Nx H3) := by
  have w := walk_keys (d := d) (o := od) (kvs := ent lo vs)
  rw [ent_len] at w
  refine lc_it w Pv h0 hG (fun i x H H' hi p y => ?_) hd
  obtain ⟨rfl, k, v, e1, rfl⟩ := y
  rw [ent_get] at e1
  cases hv : vs[i]? with
  | none => rw [hv] at e1; cases e1
  | some v2 =>
    rw [hv] at e1
    cases e1
    exact hs i _ _ hv p
/-- a for over it -/
theorem for_ent {d : Addr} {od : Obj} {lo : Int} {vs : List V} {g : TG} {tb : TS} {D : Ends} {σ : L2.St} {H : Hp} (Pv : Nat → L2.St → Hp → Prop) (h0 : Pv 0 σ H) (hG : ∀ i σ H, i ≤ vs.length → Pv i σ H → H d = some (.frz od (.dK (ent lo vs))))
    (hs : ∀ i v σ H, vs[i]? = some v → Pv i σ H → g (.int (lo + (i : Int))) σ H fun σ2 H2 => tb { D with nx := Pv (i + 1), ct := Pv (i + 1), bk := D.nx } σ2 H2) (hd : ∀ σ H, Pv vs.length σ H → D.nx σ H) :
    ∃ W : Nat → Nat → L2.St → Hp → Prop, (∃ m, W 0 m σ H) ∧ ∀ i m σ H, W i m σ H →
      ((Itk d od (ent lo vs)).stop i H ∧ D.nx σ H) ∨ ((Itk d od (ent lo vs)).go i H ∧ ∃ N : L2.St → Hp → Prop, (∀ σ' H', N σ' H' → ∃ m', m' < m ∧ W (i + 1) m' σ' H') ∧ ∀ x H', (Itk d od (ent lo vs)).yld i H x H' → g x σ H' fun σ2 H2 => tb { D with nx := N, ct := N, bk := D.nx } σ2 H2) := by
  have w := walk_keys (d := d) (o := od) (kvs := ent lo vs)
  rw [ent_len] at w
  refine for_it w Pv h0 hG (fun i x σ H H' hi p y => ?_) hd
  obtain ⟨rfl, k, v, e1, rfl⟩ := y
  rw [ent_get] at e1
  cases hv : vs[i]? with
  | none => rw [hv] at e1; cases e1
  | some v2 =>
    rw [hv] at e1
    cases e1
    exact hs i _ σ _ hv p
theorem Rd_frz {H : Hp} {a : Addr} {u : HO} {od : Obj} (h : H a = some (.frz od u)) : Rd H a u := .inr ⟨od, h⟩
theorem dget_ent {H : Hp} {d : Addr} {lo : Int} {vs : List V} {i : Nat} {v : V} (h : Rd H d (.dK (ent lo vs))) (hv : vs[i]? = some v) : DGet H d (.int (lo + (i : Int))) (some v) :=
  .inl ⟨_, .inl (lo + (i : Int)), h, rfl, (ent_val hv).symm⟩
end Z

set_option Elab.async false
set_option linter.all false
/-! and, or of whole numbers from 0 on -/
namespace Z
open PySem PySem.Spec PyProof.Rows L2
theorem and_nat (m n : Nat) : Builtin.bitAnd (m : Int) (n : Int) = ((m &&& n : Nat) : Int) := by
  unfold Builtin.bitAnd
  have h1 : decide ((0 : Int) ≤ (m : Int)) = true := by simp
  have h2 : decide ((0 : Int) ≤ (n : Int)) = true := by simp
  rw [h1, h2]
  rfl
theorem or_nat (m n : Nat) : Builtin.bitOr (m : Int) (n : Int) = ((m ||| n : Nat) : Int) := by
  unfold Builtin.bitOr Builtin.bitAnd
  have e : ∀ x : Nat, Builtin.bitNot (x : Int) = -(x : Int) - 1 := fun x => rfl
  have h : ∀ x : Nat, decide ((0 : Int) ≤ Builtin.bitNot (x : Int)) = false := fun x => by
    rw [e]
    exact decide_eq_false (by omega)
  have t : ∀ x : Nat, (Builtin.bitNot (Builtin.bitNot (x : Int))).toNat = x := fun x => by
    show (-(-(x : Int) - 1) - 1).toNat = x
    omega
  rw [h, h]
  show Builtin.bitNot (Builtin.bitNot _) = _
  rw [t, t]
  show -(-((m ||| n : Nat) : Int) - 1) - 1 = _
  omega
section
variable {X : Cx}
theorem zandN : OpR X (binaryOp .BitAnd) (fun x y H Q => match x, y with | .int i, .int j => ∃ m n : Nat, i = (m : Int) ∧ j = (n : Int) ∧ Q (.int ((m &&& n : Nat) : Int)) H | _, _ => False) := opM op_and fun x y H Q q => by
  split at q
  · obtain ⟨m, n, rfl, rfl, q⟩ := q
    exact ⟨_, _, rfl, rfl, by dsimp only; rw [and_nat]; exact q⟩
  · exact q.elim
def zipOr : TIp := fun x y H Q => match x, y with | .int i, .int j => ∃ m n : Nat, i = (m : Int) ∧ j = (n : Int) ∧ Q (.int ((m ||| n : Nat) : Int)) H | _, _ => False
theorem zip_or : PIp X .BitOr zipOr := fun pins s σ H x y v u Q I rx ry h => by
  unfold zipOr at h
  split at h
  · obtain ⟨m, n, rfl, rfl, q⟩ := h
    exact iop_or pins s σ H _ _ v u Q I rx ry ⟨_, _, rfl, rfl, by dsimp only; rw [or_nat]; exact q⟩
  · exact h.elim
end
end Z
namespace Z
open PySem PySem.Spec PyProof.Rows L2
theorem free_keep {d p : Addr} {H H' : Hp} (K : Keep d H H') (np : H' p = none) (ne : d ≠ p) : H p = none := by
  cases e : H p with
  | none => rfl
  | some o =>
    rw [K p o (Ne.symm ne) e] at np
    cases np
end Z

set_option Elab.async false
set_option linter.all false
set_option maxRecDepth 100000
namespace Z
open PySem PySem.Spec PyProof.Rows L2
/-! a word that is no key of a written dict -/
def keyText : Value → Option Str
  | .str s _ => some s
  | _ => none
theorem isStr_text {v : Value} {s z : Str} (h : keyText v = some s) : v.isStr z = (s == z) := by
  cases v with
  | str t k => cases h; rfl
  | _ => cases h
theorem noRef_text {e : DictEntry} {s : Str} (h : keyText e.key = some s) : e.refKey = false := by
  obtain ⟨hash, key, val⟩ := e
  cases key with
  | str t k => rfl
  | _ => cases h
theorem keys_each {l : List DictEntry} {keys : List Str} (kk : l.map (fun e => keyText e.key) = keys.map some) : ∀ e ∈ l, ∃ s ∈ keys, keyText e.key = some s := fun e he => by
  have m : keyText e.key ∈ keys.map some := by rw [← kk]; exact List.mem_map.mpr ⟨e, he, rfl⟩
  obtain ⟨s, hs, e2⟩ := List.mem_map.mp m
  exact ⟨s, hs, e2.symm⟩
theorem ns_off {K : PySem.W.Frag} {d : Addr} {c : Value} {o : Option Addr} {es : Array DictEntry} {n : Nat} {sl : Array (Option Value)} {keys : List Str} (kd : K.lookup d = some ⟨c, o, .dict es n, sl⟩) (kk : es.toList.map (fun e => keyText e.key) = keys.map some) {z : Str} (hz : z ∉ keys) : PySem.W.nsIn K d z = some none := by
  have each := keys_each kk
  have none1 : List.find? (fun x => x.key.isStr z) es.toList = none := List.find?_eq_none.mpr fun e he => by
    obtain ⟨s, hs, e2⟩ := each e he
    rw [isStr_text e2]
    intro y
    exact hz (by rw [← eq_of_beq y]; exact hs)
  have none2 : (es.toList.any fun x => x.refKey) = false := List.any_eq_false.mpr fun e he => by
    obtain ⟨s, hs, e2⟩ := each e he
    rw [noRef_text e2]
    decide
  unfold PySem.W.nsIn
  rw [kd]
  dsimp only
  rw [none1]
  dsimp only
  rw [none2]
  rfl
end Z

set_option Elab.async false
set_option linter.all false
set_option maxRecDepth 100000
set_option maxHeartbeats 2000000
namespace Z
open PySem PySem.Spec PyProof.Rows L2
/-! exceptions that are known to have no context -/
section
variable {X : Cx} {k : Nat} {C : Addr} {x fld : Str} {e : Expr} {te : TE} {p pos : Pos}
/-- NoNumber(k), made where nothing is handled: its context is None -/
theorem pmkNN (c : CalN X.prog X.w X.K X.mg X.base k C fld) (hr : Room (k + 1) X.A) (hg : Gl X x) (m : X.mg x = some (.ref C)) (he : PE X e te) (hdb : (x == ("__debug__" : Str)) = false := by decide)
    (hs : starEach [e] X.env = (false, eval e X.env) :: starEach [] X.env := by rfl) : L2N.PMk X (.Call (.Name x p) [e] [] pos) (tMkN C fld te) := by
  intro pins s0 σ0 G0 Q inv told
  obtain ⟨init, fdat, names, fine, bind, isInit, isFn, O⟩ := c.ex
  obtain ⟨_, _, _, _, _, _, _, _, _, _, _, _, _, _, _, klass, veIn⟩ := O.cls
  have args := pa_cons (PE.up he) pa_nil hs
  refine wpAny_Call_Name_kw (ld_glob inv hg m ?_ hdb)
  refine PySem.W.callWith_K (h₀ := X.base) inv.ok.mod.kin O.kC (thn (args.run pos pins s0 σ0 G0 (fun vs G => ∃ n : Int, vs = [V.int n] ∧ n.natAbs.log2 < 1920 ∧ ∀ dx, G dx = none → Q (.ref C) (some dx) (upd G dx (.xd [(fld, .int n)]))) inv ⟨_, told, ?_⟩) fun us st got => ?_) hs (by rfl)
  · rintro v G ⟨n, rfl, small, go⟩
    exact ⟨n, rfl, small, go⟩
  obtain ⟨vs, G, inv1, rel, n, rfl, small, go⟩ := got
  obtain ⟨u, rfl⟩ : ∃ u, us = [u] := by
    cases rel with
    | cons _ rn => cases rn; exact ⟨_, rfl⟩
  refine ⟨inv1.kIn, ?_⟩
  show wpAny _ _ (call (.ref C) [u]) _ _ _
  obtain ⟨cells, gens, drawn, toks, os⟩ := st
  generalize ea : cells.objs.size + 1 = a
  have below : cells.objs.size ≤ a := by omega
  have free : G a = none := inv1.hok.fresh below
  let grown : Heap := (cells.push (PySem.W.kdv_tup [u])).push (PySem.HandSPX.excO C cells.objs.size)
  have stays : ∀ b o, cells.get? b = some o → grown.get? b = some o := fun b o z => Heap.get?_push_of_some _ (Heap.get?_push_of_some _ z)
  have here : grown.get? a = some (PySem.HandSPX.excO C cells.objs.size) := by
    subst ea
    show ((cells.push (PySem.W.kdv_tup [u])).push (PySem.HandSPX.excO C cells.objs.size)).get? (cells.objs.size + 1) = _
    heap_get
  have inv2 : Inv X pins σ0 (upd G a (exo a C none)) ⟨grown, gens, drawn, toks, os⟩ := inv1.laid (t' := toks) (a := a) (o := exo a C none) (h' := grown) stays below (exo_ok here)
  have rel2 : Vals [V.ref a, V.int n] [Value.ref a, u] := .cons rfl rel
  have few : [u].length ≤ sizeLine := by
    rw [sizeLine_eq]
    exact (by decide : 1 ≤ 16777216)
  have told2 : spOwn C fld [V.ref a, V.int n] (upd G a (exo a C none)) (fun v G2 => v = .non ∧ ∃ d, G2 a = some (exo a C (some d)) ∧ G2 d = some (exd d [(fld, .int n)]) ∧ G d = none ∧ Q (.ref C) (some d) (upd (del G2 a) d (.xd [(fld, .int n)]))) (fun _ _ _ => False) := by
    refine ⟨a, n, rfl, small, upd_same, fun dx nd apart => ⟨rfl, dx, upd_same, (upd_ne apart).trans upd_same, (upd_ne apart).symm.trans nd, ?_⟩⟩
    have nG : G dx = none := (upd_ne apart).symm.trans nd
    have same : upd (del (upd (upd (upd G a (exo a C none)) dx (exd dx [(fld, .int n)])) a (exo a C (some dx))) a) dx (.xd [(fld, .int n)]) = upd G dx (.xd [(fld, .int n)]) := funext fun b => by
      by_cases z : b = dx
      · subst z
        rw [upd_same, upd_same]
      · by_cases y : b = a
        · subst y
          rw [upd_ne z, upd_ne z, del_same, free]
        · rw [upd_ne z, upd_ne z, del_ne y, upd_ne y, upd_ne z, upd_ne y]
    rw [same]
    exact go dx nG
  have count : [Value.ref a, u].length = names.length := (fine.len _ _ _ _ told2).symm ▸ rfl
  refine wpAny_call (PySem.HandSPX.call_own F.excBase_ValueError (fun Y => PySem.HandSPX.refsVE_contains Y _ veIn) (inv1.kIn _ _ klass) (PySem.W.looks_findIn inv1.kIn isInit) (fun self => PySem.W.bind_fn inv1.kIn self isFn) few ?_)
  rw [ea]
  refine codeAny_mono (fine.run _ X.stack _ _ ⟨[Value.ref a, u], []⟩ [Value.ref a, u] _ _ (fun _ _ _ => False) (hr.make C [u] []) (inv2.env0.make C [u] []) (bind _ [Value.ref a, u] inv2.kIn count) rel2 told2) fun r s' back => ?_
  cases r with
  | error er => exact (show False from back).elim
  | ok way =>
    cases way with
    | ret v =>
      obtain ⟨w, G2, os2, bare2, un2, hok2, rv, ev, d, e1, e2, e3, q2⟩ := back
      subst ev
      obtain ⟨h2, g2, d2, t2, os'⟩ := s'
      obtain ⟨t0, B, inv3, kB, nB, at_, na⟩ := mk_end0 (d2 := d2) (t2 := t2) inv1 below stays un2 hok2 os2 bare2 e1 e2 e3
      exact ⟨rv, a, _, _, ⟨B, g2, d2, t2, os'⟩, _, .ref C, some d, rfl, inv3, kB, nB, at_, ⟨rfl, rfl, fun l z => by cases z; rfl⟩, rfl, rfl, na, rfl, bare2, raises_own O.exC O.tyC, q2⟩
    | next => exact back.elim
    | brk => exact back.elim
    | cont => exact back.elim
end
/-! ### defs whose exceptions have no context -/
structure CalXN (P : Program) (w : World) (K : PySem.W.Frag) (mg : Str → Option Value) (base : Heap) (k : Nat) (x : Str) (ps : List Str) (sp : Sp) : Prop where
  ex : ∃ (f : Addr) (fd : FuncData), FnOk P w K mg base (L2N.CX P w) k f fd ps sp ∧ Binds K fd ps [] ∧ PySem.W.keepIn K (.ref f) = true ∧ mg x = some (.ref f)
section
variable {P : Program} {w : World} {K : PySem.W.Frag} {mg : Str → Option Value} {base : Heap}
theorem mkCalXN {x : Str} {st : Stmt} {N ps : List Str} {k : Nat} {sp : Sp} (D : DefAt K mg x st ps) (S : FnScope N ps (defScope st)) (len : ∀ vs H Q E, sp vs H Q E → vs.length = ps.length)
    (hbody : ∀ (f : Addr) (cdv : Value) (A : Around) (outer : List Env) (s : Shared) (H : Hp) (vs : List V) (Q : VK) (E : XK), Room k (A.deeper (envOfC x (defScope st) s.heap.objs.size f cdv)) → sp vs H Q E →
      ∃ t, PSs (cxOf (L2N.CX P w) P w K mg base N x (defScope st) f cdv A outer s H E) (defBody st) t ∧ t { nx := fun _ H' => Q .non H', rt := Q } (start N vs) H) : CalXN P w K mg base (k + 1) x ps sp := by
  obtain ⟨f, fd, F, b, m⟩ := D
  have kp := F.kp
  obtain ⟨_, _, _, _, _, _, cdv, _, _, rfl, lk, hcd⟩ := F.ex
  exact ⟨f, _, fn_of lk hcd S len fun A outer s H vs Q E hr h => hbody f cdv A outer s H vs Q E hr h, b, kp, m⟩
variable {X : Cx}
theorem zcallXN {k : Nat} {x : Str} {ps : List Str} {sp : Sp} {W : WX} {e : Expr} {es : List Expr} {t : TA} {pos p : Pos} (C : CalXN X.prog X.w X.K X.mg X.base k x ps sp) (hr : Room k X.A) (hg : Gl X x) (tk : L2N.Takes X W) (ha : PA X (e :: es) t)
    (hdb : (x == ("__debug__" : Str)) = false := by decide) (he : starEach (e :: es) X.env = (false, eval e X.env) :: starEach es X.env := by rfl) (hp : (backTo pos (starEach es X.env)).any (·.1) = false := by rfl) :
    PE X (.Call (.Name x p) (e :: es) [] pos) (tCallS sp (WE W) t) := by
  obtain ⟨f, fd, F, b, hk, m⟩ := C
  exact pe_callS F hr hg m hk b (fun σ => L2N.passAt tk σ) ha hdb he hp
/-- C('m'), its record whole -/
theorem own5 {C : Addr} {bmB : List Value} {B newId initId : String} {x m : Str} {j : Nat} {p p2 pos : Pos} (F : ExcBaseFacts B newId initId bmB) (known : PySem.W.excIn X.K C bmB newId = true) (gC : X.mg x = some (.ref C)) (kC : PySem.W.keepIn X.K (.ref C) = true) (r : Raises X (.ref C)) (hg : Gl X x)
    (hdb : (x == ("__debug__" : Str)) = false := by decide) : L2H.PMk5 X (.Call (.Name x p) [.Constant (.str m) j p2] [] pos) (fun _ H Q => Q (.ref C) none H) := by
  intro pins s0 σ0 G Q inv told
  have text : PA X [.Constant (.str m) j p2] (tCons (tC (.str m)) tNil) := pa_cons pe_str pa_nil
  refine wpAny_Call_Name_kw (ld_glob inv hg gC ?_ hdb)
  refine PySem.W.callWith_K (h₀ := X.base) inv.ok.mod.kin kC (thn (text.run pos pins s0 σ0 G (fun vs G1 => vs = [V.str m] ∧ G = G1) inv ⟨rfl, rfl⟩) fun us st got => ?_)
  obtain ⟨_, _, inv1, rel, rfl, rfl⟩ := got
  obtain ⟨u, rfl⟩ : ∃ u, us = [u] := by
    cases rel with
    | cons _ rn => cases rn; exact ⟨_, rfl⟩
  refine ⟨inv1.kIn, ?_⟩
  obtain ⟨_, _, _, _, _, _, _, _, _, _, _, _, _, _, _, _, mN, atC, atN, aN, T⟩ := exc_obj inv1.kIn known
  show wpAny _ _ (call (.ref C) [u]) _ _ _
  refine wpAny_call_exc_subT F T atC atN aN (fun hp a made => L2H.mk_of5 inv1 made r told (inv1.hok.gone made.new)) ?_
  rw [sizeLine_eq]
  exact (by decide : 1 ≤ 16777216)
/-- try: body, except x: raise C('m') from None -/
theorem ps_try_from {x : Str} {c : Value} {body : List Stmt} {e : Expr} {t : L2.St → Hp → XK → Prop} {j : Nat} {cpos rpos np pos pos' : Pos} {tb : WX → TS} {Wout : WX} (hs : X.stack = X.env :: X.outer) (hf : X.env.frame = some X.env.locals) (hc : Names X x c)
    (hpa : ∀ hd : Option Value, PassesOwnAt (model X.prog X.w) (X.A.mark hd) X.A X.env X.xe) (tk : Takes X Wout)
    (hb : ∀ (W : WX) (pn : List (Addr × Obj)) (xe : Value → Shared → Prop), L2N.Takes (X.tr pn xe) W → PSs (X.tr pn xe) body (tb W))
    (hm : ∀ (a : Addr) (oe : Obj) (pn : List (Addr × Obj)), L2H.PMk5 (L2H.suiteX X a ((a, oe) :: pn)) e t) :
    PS X (.Try body [.ExceptHandler (some (.Name x np)) none [.Raise (some e) (some (.Constant .none j cpos)) rpos] pos'] [] [] pos) (fun D σ H => tb (wOnly X.K c (fun _ _ _ _ σ H => t σ H fun cls d H' => Wout cls d σ H') Wout D) D σ H) :=
  L2H.ps_try_onlyX (ts := fun _ _ _ _ σ H => t σ H fun cls d H' => Wout cls d σ H') hs hf hc hpa tk (fun W pn xe t1 _ _ => hb W pn xe t1) fun a oe cls d pn _ _ t2 hot => pss_one (L2H.ps_raiseHN hot t2 (hm a oe pn))
end
end Z

set_option Elab.async false
set_option linter.all false
set_option maxRecDepth 100000
namespace Z
open PySem PySem.Spec PyProof.Rows L2
/-! two rules for one expression -/
def tEi (t u : TE) : TE := fun σ H Q => t σ H Q ∨ u σ H Q
theorem pe_either {X : Cx} {e : Expr} {t u : TE} (h : PE X e t) (k : PE X e u) : PE X e (tEi t u) :=
  ⟨fun pins s σ H Q I q => q.elim (h.run pins s σ H Q I) (k.run pins s σ H Q I)⟩
end Z

set_option Elab.async false
set_option linter.all false
set_option maxRecDepth 100000
set_option maxHeartbeats 2000000
namespace Z
open PySem PySem.Spec PyProof.Rows L2
/-! the pairs of a dict whose keys are tuples, one after another -/
def IttT (d : Addr) (o : Obj) (kvs : List (List Key × V)) : It where
  go := fun i H => H d = some (.frz o (.dT kvs)) ∧ i < kvs.length
  yld := fun i H x H' => ∃ (T q : Addr) (k : List Key) (v : V), kvs[i]? = some (k, v) ∧ H q = some (.tup (k.map kV)) ∧ x = .ref T ∧ H T = none ∧ H' = upd H T (.tup [.ref q, v])
  stop := fun i H => H d = some (.frz o (.dT kvs)) ∧ kvs.length ≤ i
theorem paired_of {α β : Type} {F : α → β → Prop} : ∀ {xs : List α} {ys : List β}, Paired F xs ys → ∀ (i : Nat) (x : α), xs[i]? = some x → ∃ y, ys[i]? = some y ∧ F x y
  | _, _, .nil, i, x, h => by cases h
  | _, _, .cons a r, 0, x, h => by
    cases h
    exact ⟨_, rfl, a⟩
  | _, _, .cons a r, i + 1, x, h => paired_of r i x h
theorem entry_T {X : Cx} {pins : List (Addr × Obj)} {σ : L2.St} {H : Hp} {s : Shared} {d : Addr} {o : Obj} {kvs : List (List Key × V)} (I : L2.Inv X pins σ H s) (hd : H d = some (.frz o (.dT kvs))) :
    s.heap.get? d = some o ∧ ∃ es ep, o.data = Data.dict es ep ∧ es.size = kvs.length ∧ ∀ (i : Nat) (k : List Key) (v : V), kvs[i]? = some (k, v) → ∃ (e : DictEntry) (q : Addr), es[i]? = some e ∧ e.key = .ref q ∧ H q = some (.tup (k.map kV)) ∧ RelV v e.val := by
  obtain ⟨_, g, _, _⟩ := I.frzT hd
  have ok := I.hok d _ hd
  unfold ObjOk at ok
  obtain ⟨_, ok⟩ := ok
  unfold ObjOk at ok
  obtain ⟨_, _, xs, pr, o2, es, ep, g2, _, dt, lay, _⟩ := ok
  rw [g] at g2
  cases g2
  refine ⟨g, es, ep, dt, ?_, fun i k v h => ?_⟩
  · have l1 := congrArg List.length lay
    rw [Array.length_toList, List.length_map] at l1
    rw [l1, pr.length]
  · obtain ⟨y, hy, e1, e2, e3⟩ := paired_of pr i (k, v) h
    have l2 := congrArg (fun l : List DictEntry => l[i]?) lay
    rw [Array.getElem?_toList] at l2
    refine ⟨_, y.2.1, l2.trans (by show (List.map _ xs)[i]? = _; rw [List.getElem?_map, hy]; rfl), rfl, e2, e3⟩
section
variable {P : Program} {w : World} {K : PySem.W.Frag} {d : Addr} {o : Obj} {es : Array DictEntry} {ep : Nat} {kvs : List (List Key × V)} {elts : List Expr} {kk : Nat} {tpos : Pos}
theorem turn_itT (it : Addr) (hod : o.data = Data.dict es ep) : Turn P w K (.Tuple elts kk tpos) (IttT d o kvs) [it] it fun i h => ∃ ok ov, IsItemIter h it d i kvs.length ep ok ov := by
  refine ⟨List.mem_singleton.mpr rfl, ?_, ?_, ?_, ?_, ?_⟩
  · rintro i h ⟨ok, ov, e⟩ b hb
    rw [List.mem_singleton.mp hb]
    exact ⟨_, e, fun v z => nomatch z⟩
  · rintro i h h' ⟨ok, ov, e⟩ keep
    exact ⟨ok, ov, keep it (List.mem_singleton.mpr rfl) _ e⟩
  · rintro X rfl rfl rfl calm i pins s σ H E I fp ⟨ok, ov, e⟩ ⟨hd, hi⟩
    obtain ⟨g, es2, ep2, dt, sz, ent⟩ := entry_T I hd
    obtain ⟨rfl, rfl⟩ := dict_ep hod dt
    obtain ⟨k, v⟩ : { p : List Key × V // kvs[i]? = some p } := ⟨kvs[i], List.getElem?_eq_getElem hi⟩
    obtain ⟨k, v2⟩ := k
    obtain ⟨en, q, e1, e2, e3, e4⟩ := ent i k v2 v
    have fresh : H s.heap.objs.size = none := I.hok.fresh (Nat.le_refl _)
    refine DVw.itm_item (od := o) e g hod sz e1 (fun h' h1 h2 h3 h4 => ⟨_, rfl, ?_⟩)
    refine wpAny_letOwnedTupleGo_items (d := d) h1 (fun h5 k1 k2 => ?_)
    have nit : it ≠ s.heap.objs.size := Nat.ne_of_lt (Heap.lt_size e)
    have hnew : h5.get? s.heap.objs.size = some { cls := Value.type "tuple", data := Data.seq #[en.key, en.val] } := by rw [k2.2 _ nit.symm]; exact h2
    refine ⟨.ref s.heap.objs.size, upd H s.heap.objs.size (.tup [.ref q, v2]), ?_, rfl, ⟨_, q, k, v2, v, e3, rfl, fresh, rfl⟩, ⟨_, _, k1⟩, fun b hb => ?_⟩
    · refine I.turnedNew (ch := [it]) (fun b ob hb hg => ?_) fp (Nat.le_refl _) ?_
      · have nb : b ≠ it := fun z => hb (List.mem_singleton.mpr z)
        rw [k2.2 _ nb]
        exact h4 b ob nb hg
      · unfold ObjOk
        refine ⟨(by show (2 : Nat) ≤ sizeLine; rw [sizeLine_eq]; decide), [en.key, en.val], .cons (by rw [e2]; rfl) (.cons e4 .nil), _, hnew, rfl, _, rfl⟩
    · rw [List.mem_singleton.mp hb, upd_ne nit]
      exact (fp it (List.mem_singleton.mpr rfl)).1
  · rintro X rfl rfl rfl calm i pins s σ H E I fp ⟨ok, ov, e⟩ ⟨hd, hi⟩
    obtain ⟨g, es2, ep2, dt, sz, ent⟩ := entry_T I hd
    obtain ⟨rfl, rfl⟩ := dict_ep hod dt
    obtain ⟨f1, f2, f3, f4, f5, f6⟩ := fp it (List.mem_singleton.mpr rfl)
    refine DVw.itm_end (od := o) (I.ok.hd calm) e g hod sz (by rw [Array.getElem?_eq_none]; omega) (fun h' ext => ⟨rfl, ?_⟩)
    exact I.turned (it := it) ext f1 f2 f4 f5 f6
  · rintro A i s Q E ⟨ok, ov, e⟩ q
    exact PySem.W.kcp_self e q
end
def iIT (td : TE) : TI := fun σ H R => td σ H fun x H1 => ∃ d o kvs, x = .ref d ∧ H1 d = some (.frz o (.dT kvs)) ∧ R (IttT d o kvs) H1
section
variable {X : Cx} {e : Expr} {td : TE} {apos cpos : Pos} {elts : List Expr} {kk : Nat} {tpos : Pos}
theorem pi_itT (he : PE X e td) (hb : attributeBase e "items" X.env (eval e X.env) = eval e X.env := by rfl) (hl : (apos.endLine == cpos.line) = true := by rfl) :
    PI X (.Tuple elts kk tpos) (.Call (.Attribute e "items" apos) [] [] cpos) (iIT td) := by
  refine ⟨fun pins s σ H R I h => ?_⟩
  refine wpAny_Call_method (args := []) hb (by rfl) hl PySem.F.plainAttrs_dict PySem.F.slot_dict_items PySem.F.type_dict_items (thn (he.run pins s σ H _ I h) ?_)
  rintro u s1 ⟨v, H1, I1, r1, d, o, kvs, rfl, hd, hR⟩
  obtain rfl : u = .ref d := r1
  obtain ⟨nsys, g, ex, es, ep, dt, sz, _⟩ := I1.frzT hd
  refine ⟨⟨o, g, ex.1⟩, fun a e => ?_, ?_⟩
  · cases e
    exact ⟨o, g, ex.2.1⟩
  refine callWith_method0 (DT.callItems nsys ⟨o, g, ex, dt⟩ ?_)
  have I2 := I1.kept (h' := s1.heap.push { cls := Value.type "dict_items", data := Data.fields #[Value.ref d] }) (t' := s1.toks) (fun b ob hg => Heap.get?_push_of_some _ hg)
  refine DSub.iter_itms (ob := o) (Heap.get?_push_size _ (by rfl)) (Heap.get?_push_of_some _ g) dt ?_
  refine pi_one I2 _ (turn_itT (d := d) (kvs := kvs) _ dt) ⟨Value.none, Value.none, ?_⟩ hR
  rw [← sz]
  exact Heap.get?_push_size _ (by rfl)
end
theorem walk_itT {d : Addr} {o : Obj} {kvs : List (List Key × V)} : Walk (IttT d o kvs) kvs.length (fun H => H d = some (.frz o (.dT kvs))) (fun i H x H' => ∃ (T q : Addr) (k : List Key) (v : V), kvs[i]? = some (k, v) ∧ H q = some (.tup (k.map kV)) ∧ x = .ref T ∧ H T = none ∧ H' = upd H T (.tup [.ref q, v])) :=
  ⟨fun i H h g => ⟨g, h⟩, fun H g => ⟨g, Nat.le_refl _⟩, fun i H x H' _ _ y => y⟩
end Z

set_option Elab.async false
set_option linter.all false
set_option maxRecDepth 100000
set_option maxHeartbeats 4000000
/-! dicts of whole numbers: put in order (any size), the greatest and the least key -/
namespace Z
open PySem PySem.Spec PyProof.Rows L2
section
variable {X : Cx}
/-- a dict with these keys can be read -/
def KeyRow (H : Hp) (d : Addr) (ks : List Int) : Prop := ∃ es : List (Key × V), Rd H d (.dK es) ∧ es.map Prod.fst = ks.map Sum.inl
structure Raw (X : Cx) (s : Shared) (d : Addr) (ks : List Int) (vs : List (Key × Value)) (ep : Nat) : Prop where
  few : vs.length ≤ sizeLine
  much : vs.length = ks.length
  own : (d == sysModules) = false
  at_ : s.heap.DictAt (mixKind X.prog X.w) d vs ep
  keys : vs.map Prod.fst = ks.map Sum.inl
theorem raw_of {pins : List (Addr × Obj)} {σ : L2.St} {H : Hp} {s : Shared} {d : Addr} {ks : List Int} (I : L2.Inv X pins σ H s) (h : KeyRow H d ks) : ∃ vs ep, Raw X s d ks vs ep := by
  obtain ⟨es, rd, ek⟩ := h
  obtain ⟨small, own, vs, kv, dof⟩ := dk_rd I.hok rd
  obtain ⟨ep, there⟩ := dof.dictAt
  have hk : vs.map Prod.fst = ks.map Sum.inl := kv.keys.symm.trans ek
  have hn : vs.length = ks.length := by
    have := congrArg List.length hk
    simpa only [List.length_map] using this
  have he : es.length = vs.length := kv.length
  exact ⟨vs, ep, ⟨by omega, hn, own, there, hk⟩⟩
theorem Raw.whole {s : Shared} {d : Addr} {ks : List Int} {vs : List (Key × Value)} {ep : Nat} (R : Raw X s d ks vs ep) {j : Nat} {v : Value} (h : ∃ k x, vs[j]? = some (k, x) ∧ (mixKind X.prog X.w).is k v = true) : ∃ (n : Int) (t : Tok), ks[j]? = some n ∧ v = .int n t := by
  obtain ⟨k, x, there, says⟩ := h
  have e : (vs.map Prod.fst)[j]? = some k := by rw [List.getElem?_map, there]; rfl
  rw [R.keys, List.getElem?_map] at e
  obtain ⟨n, hn, rfl⟩ := Option.map_eq_some_iff.mp e
  rcases keyIs_shape (show keyIs (Sum.inl n) v = true from says) with ⟨i, t, a, b⟩ | ⟨z, t, a, b⟩
  · cases a
    exact ⟨n, t, hn, b⟩
  · cases a
def zSortD : List V → Hp → VK → Prop := fun xs H Q => match xs with
  | [.ref d] => ∃ ks : List Int, KeyRow H d ks ∧ ∀ (ns : List Int) (l : Addr) (H' : Hp), ns.Perm ks → ns.Pairwise (· ≤ ·) → H l = none → H' l = some (.lst (ns.map V.int)) → Same H H' → Q (.ref l) H'
  | _ => False
theorem zsortD (calm : X.calm = true) : CallR X (.builtin "sorted") zSortD := by
  intro pins s σ H xs us Q I rel q
  unfold zSortD at q
  split at q
  case h_2 => exact q.elim
  rename_i d
  obtain ⟨ks, kr, q⟩ := q
  rw [Vals.ref1 rel]
  obtain ⟨vs, ep, R⟩ := raw_of I kr
  refine Calls.call_function_entry PyProof.Rows.kind_sorted PyProof.Rows.plain_sorted PyProof.Rows.entry_sorted (PyProof.Rows.args_sorted1 _) ?_
  unfold Builtin.«sorted»
  refine wpAny_bind (m := checkCount "sorted" 1 1 _) (wpAny_pure ?_)
  refine wpAny_bind (W.kdu_collect (A := X.A.in1) (W.kdl_dict (ep := ep) R.own) (I.ok.hd calm) R.at_ R.few fun g tk got kept hgot => ?_)
  have len : got.toList.length = ks.length := by rw [Array.length_toList, hgot.1, R.much]
  have room : ks.length ≤ sizeLine := R.much ▸ R.few
  have hI : IntsAre got.toList ks := ints_each len fun j v e => by
    obtain ⟨n, t, a, b⟩ := R.whole (hgot.2 j v (Array.getElem?_toList ▸ e))
    exact ⟨n, t, a, b⟩
  have J : L2.Inv X pins σ H { s with heap := g, toks := tk } := I.kept kept
  refine wpAny_bind (wpAny_newList ?_ (by rw [len]; exact room))
  have top : (g.push (seqObj "list" got.toList.toArray 0)).get? g.objs.size = some (seqObj "list" got.toList.toArray 0) := Heap.get?_push_size _ rfl
  show wpAny _ _ _ _ _ { s with toks := tk, heap := g.push (seqObj "list" got.toList.toArray 0) }
  refine wpAny_bind (wpAny_holding (wpAny_call_entry PyProof.Rows.slot_list_sort ⟨_, top, rfl⟩ PyProof.Rows.entry_list_sort
    (SrtO.list_sort_ord SrtO.swo_int (s := { s with toks := tk, heap := g.push (seqObj "list" got.toList.toArray 0) }) top (by rw [len]; exact room) (fun two => SrtO.ints_sortable hI two) fun out s1 s2 => ⟨_, rfl, ?_⟩) (PyProof.Rows.args_list_sort _)))
  obtain ⟨o1, o2, o3⟩ := SrtO.ints_out hI s1 s2
  obtain ⟨e2, put⟩ := PyProof.Rows.sortedHeap_at (vs := got.toList) (out := out.toArray) top
  have fits : ((out.map SrtO.iv).map V.int).length ≤ sizeLine := by
    rw [List.length_map, o2.length_eq]
    exact room
  have free : H g.objs.size = none := J.hok.fresh (Nat.le_refl _)
  refine wpAny_pure ⟨_, rfl, .ref g.objs.size, upd H g.objs.size (.lst ((out.map SrtO.iv).map V.int)), J.laid (t' := tk) (fun b u e => ?_) (Nat.le_refl _)
    (show ObjOk X.prog X.w _ _ _ (.lst ((out.map SrtO.iv).map V.int)) from ⟨fits, out, e2, vals_of_ints o1, put⟩), rfl, q _ _ _ o2 o3 free upd_same (same_upd free)⟩
  have lt : b < g.objs.size := Heap.lt_size e
  rw [PyProof.Rows.sortedHeap_old (Nat.ne_of_lt lt) (by rw [size_push']; exact Nat.lt_succ_of_lt lt)]
  exact Heap.get?_push_of_some _ e
def zEndD (up : Bool) : List V → Hp → VK → Prop := fun xs H Q => match xs with
  | [.ref d] => ∃ ks : List Int, KeyRow H d ks ∧ ks ≠ [] ∧ ∀ m, m ∈ ks → (∀ j ∈ ks, if up = true then j ≤ m else m ≤ j) → Q (.int m) H
  | _ => False
theorem at_of {ks : List Int} {n : Nat} (h : n < ks.length) : ks.getD n 0 ∈ ks := by
  rw [List.getD_eq_getElem?_getD, List.getElem?_eq_getElem h]
  exact List.getElem_mem h
theorem of_at {ks : List Int} {j : Int} (h : j ∈ ks) : ∃ n, n < ks.length ∧ ks.getD n 0 = j := by
  obtain ⟨n, hn, e⟩ := List.mem_iff_getElem.mp h
  exact ⟨n, hn, by rw [List.getD_eq_getElem?_getD, List.getElem?_eq_getElem hn, ← e]; rfl⟩
theorem zmaxD (calm : X.calm = true) : CallR X (.builtin "max") (zEndD true) := by
  intro pins s σ H xs us Q I rel q
  unfold zEndD at q
  split at q
  case h_2 => exact q.elim
  rename_i d
  obtain ⟨ks, kr, some, q⟩ := q
  rw [Vals.ref1 rel]
  obtain ⟨vs, ep, R⟩ := raw_of I kr
  obtain ⟨ob, es, ho, rest⟩ := id R.at_
  have low : d < s.heap.objs.size := Heap.lt_size ho
  have pos : 0 < ks.length := List.length_pos_iff.mpr some
  have says : ∀ (i : Nat) (v : Value), (∃ k x, vs[i]? = Option.some (k, x) ∧ (mixKind X.prog X.w).is k v = true) → ∃ t, v = Value.int (ks.getD i 0) t := fun i v h => by
    obtain ⟨n, t, a, b⟩ := R.whole h
    exact ⟨t, by rw [b, List.getD_eq_getElem?_getD, a]; rfl⟩
  refine call_max_walk (wpAny_pyIter_dict (knd := mixKind X.prog X.w) R.own R.at_ ?_)
  refine ⟨_, _, _, _, _, _, _, rfl, Walks.dictKeys (A := X.A.in1) (knd := mixKind X.prog X.w) (I.ok.hd calm) s.heap.objs.size d (Nat.ne_of_lt low) vs ep, ⟨⟨_, Heap.get?_push_size _ rfl, rfl, rfl⟩, R.at_.keep fun b u e => Heap.get?_push_of_some _ e⟩, fun b hb => ?_, by rw [R.much]; exact pos,
    CmpOf.ints_gt (fun i => ks.getD i 0) says, fun v g tk hv same => ?_⟩
  · show b < (s.heap.push _).objs.size
    rw [Heap.size_push]
    rcases List.mem_cons.mp hb with e | e
    · exact e ▸ Nat.lt_succ_self _
    · exact List.mem_singleton.mp e ▸ Nat.lt_succ_of_lt low
  · obtain ⟨t, rfl⟩ := says _ v hv
    obtain ⟨b1, b2⟩ := argBest_gt (fun i => ks.getD i 0) (vs.length - 1)
    have hl := R.much
    refine ⟨.int _, H, I.kept (t' := tk) fun b u e => same b u (fun m => ?_) (Heap.get?_push_of_some _ e), ⟨t, rfl⟩, q _ (at_of (by omega)) fun j hj => ?_⟩
    · exact absurd (List.mem_singleton.mp m) (Nat.ne_of_lt (Heap.lt_size e))
    · obtain ⟨n, hn, e⟩ := of_at hj
      rw [if_pos rfl, ← e]
      exact b2 n (by omega)
theorem zminD (calm : X.calm = true) : CallR X (.builtin "min") (zEndD false) := by
  intro pins s σ H xs us Q I rel q
  unfold zEndD at q
  split at q
  case h_2 => exact q.elim
  rename_i d
  obtain ⟨ks, kr, some, q⟩ := q
  rw [Vals.ref1 rel]
  obtain ⟨vs, ep, R⟩ := raw_of I kr
  obtain ⟨ob, es, ho, rest⟩ := id R.at_
  have low : d < s.heap.objs.size := Heap.lt_size ho
  have pos : 0 < ks.length := List.length_pos_iff.mpr some
  have says : ∀ (i : Nat) (v : Value), (∃ k x, vs[i]? = Option.some (k, x) ∧ (mixKind X.prog X.w).is k v = true) → ∃ t, v = Value.int (ks.getD i 0) t := fun i v h => by
    obtain ⟨n, t, a, b⟩ := R.whole h
    exact ⟨t, by rw [b, List.getD_eq_getElem?_getD, a]; rfl⟩
  refine call_min_walk (wpAny_pyIter_dict (knd := mixKind X.prog X.w) R.own R.at_ ?_)
  refine ⟨_, _, _, _, _, _, _, rfl, Walks.dictKeys (A := X.A.in1) (knd := mixKind X.prog X.w) (I.ok.hd calm) s.heap.objs.size d (Nat.ne_of_lt low) vs ep, ⟨⟨_, Heap.get?_push_size _ rfl, rfl, rfl⟩, R.at_.keep fun b u e => Heap.get?_push_of_some _ e⟩, fun b hb => ?_, by rw [R.much]; exact pos,
    CmpOf.ints_lt (fun i => ks.getD i 0) says, fun v g tk hv same => ?_⟩
  · show b < (s.heap.push _).objs.size
    rw [Heap.size_push]
    rcases List.mem_cons.mp hb with e | e
    · exact e ▸ Nat.lt_succ_self _
    · exact List.mem_singleton.mp e ▸ Nat.lt_succ_of_lt low
  · obtain ⟨t, rfl⟩ := says _ v hv
    obtain ⟨b1, b2⟩ := argBest_lt (fun i => ks.getD i 0) (vs.length - 1)
    have hl := R.much
    refine ⟨.int _, H, I.kept (t' := tk) fun b u e => same b u (fun m => ?_) (Heap.get?_push_of_some _ e), ⟨t, rfl⟩, q _ (at_of (by omega)) fun j hj => ?_⟩
    · exact absurd (List.mem_singleton.mp m) (Nat.ne_of_lt (Heap.lt_size e))
    · obtain ⟨n, hn, e⟩ := of_at hj
      rw [if_neg (by decide), ← e]
      exact b2 n (by omega)
end
end Z

set_option Elab.async false
set_option linter.all false
set_option maxRecDepth 100000
/-! a dict display of one pair whose key is a tuple -/
namespace Z
open PySem PySem.Spec PyProof.Rows L2
section
variable {X : Cx}
def tDispT (tk tv : TE) : TE := fun σ H Q => ∀ p, H p = none → tk σ (upd H p (.dT [])) fun x H1 => tv σ H1 fun y H2 => H2 p = some (.dT []) ∧ ∃ (q : Addr) (k : List Key), x = .ref q ∧ H2 q = some (.tup (k.map kV)) ∧ Q (.ref p) (upd H2 p (.dT [(k, y)]))
def onePair (R : V → V → Hp → Prop) : List (V × V) → Hp → Prop
  | [(x, y)], H => R x y H
  | _, _ => False
theorem pe_dispT {k v : Expr} {tk tv : TE} {pos : Pos} (room : X.A.units < cLine) (hk : PE X k tk) (hv : PE X v tv) : PE X (.Dict [some k] [v] pos) (tDispT tk tv) := by
  refine ⟨fun pins s σ H Q I q => ?_⟩
  have free := I.hok.fresh (Nat.le_refl s.heap.objs.size)
  have J := I.laid (a := s.heap.objs.size) (o := .dT []) (t' := s.toks) (h' := s.heap.push { cls := .type "dict", data := .dict #[] }) (fun _ _ z => Heap.get?_push_of_some _ z) (Nat.le_refl _) (dt_empty s.heap I.big)
  have e0 : (pairTrees [some k] [v] X.env pos).length = 1 := rfl
  have two : L2.PPs X pos [some k] [v] [(tk, tv)] := pps_cons hk hv pps_nil
  have asked : tPairs [(tk, tv)] σ (upd H s.heap.objs.size (.dT [])) (onePair fun x y H2 => H2 s.heap.objs.size = some (.dT []) ∧ ∃ (q : Addr) (k : List Key), x = .ref q ∧ H2 q = some (.tup (k.map kV)) ∧ Q (.ref s.heap.objs.size) (upd H2 s.heap.objs.size (.dT [(k, y)]))) := q _ free
  rw [arm_eval_Dict, zip_pairTrees [some k] [v] X.env pos rfl rfl, dictDisplay_pairs _ (fun z => by rw [z] at e0; cases e0) (by rw [e0]; decide)]
  refine wpAny_bind (wpAny_standAt (wpAny_bind (wpAny_subDictH (knd := tupleKind (mixKind X.prog X.w)) (Q := fun d s' => wpAny (model X.prog X.w) X.A (pure (Value.ref d)) _ _ s') (show X.A.units < cLine from room) (by rw [e0]; decide) ?_)))
  refine thn (two.run pins _ σ _ _ J asked) fun ws s2 ⟨ps, H2, I2, rel, st⟩ => ?_
  match ps, st, rel with
  | [(x, y)], st, rel =>
    obtain ⟨st, a, ks, rfl, ha, q2⟩ := st
    cases rel with
    | @cons _ u _ us h t =>
      cases t
      obtain ⟨u1, u2⟩ := u
      obtain ⟨r1, r2⟩ := h
      cases (show u1 = Value.ref a from r1)
      obtain ⟨z, hd, xs, kt, dd⟩ := dt_of I2.hok st
      cases kt
      refine ⟨[(ks, a, u2)], ⟨rfl, rfl, key_of I2.hok ha, True.intro⟩, dd, fun h' tk' dd' hs => wpAny_pure ?_⟩
      obtain ⟨o, es, ep, hq, h2, h3, h4, _, h5⟩ := dd'
      have na : a ≠ s.heap.objs.size := fun w => by rw [w, st] at ha; cases ha
      exact ⟨.ref s.heap.objs.size, _, d_write I2 (by rw [st]; exact True.intro) hs ⟨o, hq⟩ (ob := .dT [(ks, y)]) ⟨by show 1 ≤ sizeLine; rw [sizeLine_eq]; decide, hd, [(ks, a, u2)], .cons ⟨rfl, (upd_ne na).trans ha, r2⟩ .nil, o, es, ep, hq, h2, h3, h4, h5⟩, rfl, q2⟩
  | [], st, _ => exact st.elim
  | _ :: _ :: _, st, _ => exact st.elim
end
end Z

set_option Elab.async false
set_option linter.all false
set_option maxRecDepth 100000
namespace M
open PySem L2 Z
/-! figures of a number, the last place first -/
def digsF (b : Nat) : Nat → Nat → List Nat
  | 0, n => [n]
  | f + 1, n => if n < b then [n] else n % b :: digsF b f (n / b)
def digs (b n : Nat) : List Nat := digsF b n n
theorem digsF_eq {b : Nat} (hb : 2 ≤ b) : ∀ f g n, n ≤ f → n ≤ g → digsF b f n = digsF b g n := by
  intro f
  induction f with
  | zero =>
    intro g n h1 h2
    have e : n = 0 := by omega
    subst e
    cases g with
    | zero => rfl
    | succ g => show [0] = if 0 < b then [0] else _; rw [if_pos (by omega)]
  | succ f ih =>
    intro g n h1 h2
    cases g with
    | zero =>
      have e : n = 0 := by omega
      subst e
      show (if 0 < b then [0] else _) = [0]
      rw [if_pos (by omega)]
    | succ g =>
      show (if n < b then [n] else n % b :: digsF b f (n / b)) = (if n < b then [n] else n % b :: digsF b g (n / b))
      by_cases h : n < b
      · rw [if_pos h, if_pos h]
      · rw [if_neg h, if_neg h]
        have q : n / b < n := Nat.div_lt_self (by omega) (by omega)
        rw [ih g (n / b) (by omega) (by omega)]
theorem digs_small {b n : Nat} (h : n < b) : digs b n = [n] := by
  unfold digs
  cases n with
  | zero => rfl
  | succ n => show (if n + 1 < b then [n + 1] else _) = [n + 1]; rw [if_pos h]
theorem digs_big {b n : Nat} (hb : 2 ≤ b) (h : b ≤ n) : digs b n = n % b :: digs b (n / b) := by
  unfold digs
  obtain ⟨m, rfl⟩ : ∃ m, n = m + 1 := ⟨n - 1, by omega⟩
  show (if m + 1 < b then [m + 1] else (m + 1) % b :: digsF b m ((m + 1) / b)) = _
  rw [if_neg (by omega)]
  have q : (m + 1) / b < m + 1 := Nat.div_lt_self (by omega) (by omega)
  rw [digsF_eq hb m ((m + 1) / b) ((m + 1) / b) (by omega) (Nat.le_refl _)]
/-- by strong induction along the figures -/
theorem digs_ind {b : Nat} (hb : 2 ≤ b) {P : Nat → Prop} (h0 : ∀ n, n < b → P n) (h1 : ∀ n, b ≤ n → P (n / b) → P n) : ∀ n, P n := by
  intro n
  induction n using Nat.strongRecOn with
  | _ n ih =>
    by_cases h : n < b
    · exact h0 n h
    · exact h1 n (by omega) (ih (n / b) (Nat.div_lt_self (by omega) (by omega)))
theorem digs_lt {b : Nat} (hb : 2 ≤ b) : ∀ n, ∀ d ∈ digs b n, d < b := by
  refine digs_ind hb (fun n h d hd => ?_) (fun n h ih d hd => ?_)
  · rw [digs_small h] at hd; rw [List.mem_singleton.mp hd]; exact h
  · rw [digs_big hb h] at hd
    rcases List.mem_cons.mp hd with e | e
    · rw [e]; exact Nat.mod_lt _ (by omega)
    · exact ih d e
theorem digs_ne (b n : Nat) : digs b n ≠ [] := by
  unfold digs
  cases n with
  | zero => intro h; cases h
  | succ n =>
    show (if n + 1 < b then [n + 1] else (n + 1) % b :: digsF b n ((n + 1) / b)) ≠ []
    by_cases h : n + 1 < b
    · rw [if_pos h]; intro z; cases z
    · rw [if_neg h]; intro z; cases z
theorem digs_len {b : Nat} (hb : 2 ≤ b) : ∀ n k, n < 2 ^ (k + 1) → (digs b n).length ≤ k + 1 := by
  refine digs_ind hb (P := fun n => ∀ k, n < 2 ^ (k + 1) → (digs b n).length ≤ k + 1) (fun n h k hk => ?_) (fun n h ih k hk => ?_)
  · rw [digs_small h]; show 1 ≤ k + 1; omega
  · rw [digs_big hb h, List.length_cons]
    cases k with
    | zero => have : n < 2 := by simpa using hk
              omega
    | succ k =>
      have q : n / b ≤ n / 2 := Nat.div_le_div_left hb (by omega)
      have e : (2 : Nat) ^ (k + 1 + 1) = 2 * 2 ^ (k + 1) := by rw [Nat.pow_succ]; omega
      have := ih k (by omega)
      omega
set_option exponentiation.threshold 5000 in
/-- below 2 ** 4000, not to be looked into -/
def Big (n : Nat) : Prop := n < 2 ^ 4000
set_option exponentiation.threshold 5000 in
theorem digs_big_len {b : Nat} (hb : 2 ≤ b) {n : Nat} (h : Big n) : (digs b n).length ≤ 4000 := digs_len hb n 3999 h
theorem pow_big : 10 ^ 1000 ≤ 2 ^ 4000 := by decide +kernel
theorem Big.of {n : Nat} (h : n ≤ 10 ^ 60) : Big n := Nat.lt_of_lt_of_le (Nat.lt_of_le_of_lt h (Nat.pow_lt_pow_right (by omega) (by omega : 60 < 1000))) pow_big
/-- what figures come to, the last place first -/
def val (b : Nat) : List Nat → Nat
  | [] => 0
  | d :: r => d + b * val b r
theorem val_digs {b : Nat} (hb : 2 ≤ b) : ∀ n, val b (digs b n) = n := by
  refine digs_ind hb (fun n h => ?_) (fun n h ih => ?_)
  · rw [digs_small h]; show n + b * 0 = n; omega
  · rw [digs_big hb h]
    show n % b + b * val b (digs b (n / b)) = n
    rw [ih]; exact Nat.mod_add_div n b
/-- a list of numbers as values -/
def vN (xs : List Nat) : List V := xs.map fun d : Nat => V.int (d : Int)
theorem vN_append (xs ys : List Nat) : vN (xs ++ ys) = vN xs ++ vN ys := List.map_append
theorem vN_rev (xs : List Nat) : (vN xs).reverse = vN xs.reverse := by unfold vN; rw [List.map_reverse]
theorem vN_len (xs : List Nat) : (vN xs).length = xs.length := List.length_map _
theorem vN_get {xs : List Nat} {i : Nat} {v : V} (h : (vN xs)[i]? = some v) : ∃ d, xs[i]? = some d ∧ v = .int (d : Int) := by
  unfold vN at h
  rw [List.getElem?_map] at h
  cases q : xs[i]? with
  | none => rw [q] at h; cases h
  | some d => rw [q] at h; cases h; exact ⟨d, rfl, rfl⟩
/-! signs -/
def sgs : Str := "0123456789abcdefghijklmnopqrstuvwxyz"
def sg16 : Str := "0123456789abcdef"
def chr (d : Nat) : Nat := sgs.cps.toList.getD d 0
theorem sg_at : ∀ d : Nat, d < 36 → atI sgs.cps.toList (d : Int) = some (chr d) := by decide +kernel
theorem sg16_at : ∀ d : Nat, d < 16 → atI sg16.cps.toList (d : Int) = some (chr d) := by decide +kernel
theorem sg_find : ∀ d : Nat, d < 36 → Txt.find sgs ⟨#[chr d]⟩ = (d : Int) := by decide +kernel
theorem chr_nought : ∀ d, d < 36 → (chr d = 48 ↔ d = 0) := by decide +kernel
/-- the text of figures, the greatest place first -/
def tx (ds : List Nat) : Str := ⟨(ds.map chr).toArray⟩
theorem tx_len (ds : List Nat) : (tx ds).length = ds.length := by unfold tx Str.length; simp
theorem tx_cons (d : Nat) (ds : List Nat) : (⟨#[chr d]⟩ : Str) ++ tx ds = tx (d :: ds) := by
  show Str.append _ _ = _
  unfold Str.append tx
  simp
theorem fold_signs : ∀ (ds : List Nat) (acc : Array Nat), ((ds.map fun d => (⟨#[chr d]⟩ : Str)).foldl (fun acc p => acc ++ ("" : Str).cps ++ p.cps) acc) = acc ++ (ds.map chr).toArray
  | [], acc => by simp
  | d :: r, acc => by
    rw [List.map_cons, List.foldl_cons, fold_signs r]
    have e : ("" : Str).cps = #[] := by decide +kernel
    rw [e]
    simp
theorem join_signs (ds : List Nat) : Txt.join "" (ds.map fun d => (⟨#[chr d]⟩ : Str)) = tx ds := by
  cases ds with
  | nil => rfl
  | cons d r =>
    show Builtin.Str.glued "" _ = _
    unfold Builtin.Str.glued tx
    rw [List.map_cons, List.drop_one, List.tail_cons, List.headD_cons, fold_signs]
    simp
/-- what figures come to, the greatest place first -/
def valB (b : Nat) (ds : List Nat) : Nat := ds.foldl (fun a d => a * b + d) 0
theorem valB_snoc (b : Nat) (ds : List Nat) (d : Nat) : valB b (ds ++ [d]) = valB b ds * b + d := by unfold valB; rw [List.foldl_append]; rfl
theorem valB_rev (b : Nat) : ∀ ds : List Nat, valB b ds.reverse = val b ds
  | [] => rfl
  | d :: r => by
    rw [List.reverse_cons, valB_snoc, valB_rev b r]
    show val b r * b + d = d + b * val b r
    rw [Nat.mul_comm, Nat.add_comm]
theorem valB_take {b : Nat} {ds : List Nat} {i d : Nat} (h : ds[i]? = some d) : valB b (ds.take (i + 1)) = valB b (ds.take i) * b + d := by
  rw [List.take_add_one, h]; exact valB_snoc b _ d
theorem digs_last {b : Nat} (hb : 2 ≤ b) : ∀ n, ∃ (r : List Nat) (t : Nat), digs b n = r ++ [t] ∧ (t = 0 → r = [] ∧ n = 0) := by
  refine digs_ind hb (fun n h => ?_) (fun n h ih => ?_)
  · exact ⟨[], n, digs_small h, fun z => ⟨rfl, z⟩⟩
  · obtain ⟨r, t, e, k⟩ := ih
    refine ⟨n % b :: r, t, by rw [digs_big hb h, e]; rfl, fun z => ?_⟩
    have := (k z).2
    have h2 : 0 < n / b := Nat.div_pos h (by omega)
    omega
theorem digs_top {b : Nat} (hb : 2 ≤ b) (n : Nat) : ∃ (t : Nat) (r : List Nat), (digs b n).reverse = t :: r ∧ t < b ∧ (t = 0 → r = []) := by
  obtain ⟨r, t, e, k⟩ := digs_last hb n
  refine ⟨t, r.reverse, by rw [e, List.reverse_append]; rfl, digs_lt hb n t (by rw [e]; simp), fun z => by rw [(k z).1]; rfl⟩
theorem tx_at {ds : List Nat} {i c : Nat} (h : (tx ds).cps[i]? = some c) : ∃ d, ds[i]? = some d ∧ c = chr d := by
  unfold tx at h
  rw [List.getElem?_toArray, List.getElem?_map] at h
  cases q : ds[i]? with
  | none => rw [q] at h; cases h
  | some d => rw [q] at h; exact ⟨d, rfl, (Option.some.inj h).symm⟩
theorem tx_size (ds : List Nat) : (tx ds).cps.size = ds.length := tx_len ds
theorem tx_head (d : Nat) (r : List Nat) : atI (tx (d :: r)).cps.toList 0 = some (chr d) := by
  unfold tx
  show (ixN _ 0).bind _ = _
  unfold ixN
  rw [if_pos (by omega), if_pos (by simp)]
  simp
/-- the law's own figures: none of 0 -/
def d0 (b n : Nat) : List Nat := if n = 0 then [] else digs b n
theorem d0_zero (b : Nat) : d0 b 0 = [] := rfl
theorem d0_pos {b n : Nat} (hb : 2 ≤ b) (h : 0 < n) : d0 b n = n % b :: d0 b (n / b) := by
  unfold d0
  rw [if_neg (by omega)]
  by_cases c : n < b
  · rw [digs_small c, Nat.div_eq_of_lt c, if_pos rfl, Nat.mod_eq_of_lt c]
  · rw [digs_big hb (by omega), if_neg]
    have := Nat.div_pos (show b ≤ n by omega) (by omega)
    omega
theorem d0_or {b n : Nat} (hb : 2 ≤ b) : (d0 b n = [] → digs b n = [0]) ∧ (d0 b n ≠ [] → d0 b n = digs b n) := by
  unfold d0
  by_cases c : n = 0
  · rw [if_pos c]
    refine ⟨fun _ => ?_, fun h => absurd rfl h⟩
    rw [c]; exact digs_small (by omega)
  · rw [if_neg c]
    exact ⟨fun h => absurd h (digs_ne b n), fun _ => rfl⟩
theorem d0_len {b : Nat} (hb : 2 ≤ b) {n : Nat} (h : Big n) : (d0 b n).length ≤ 4000 := by
  unfold d0
  by_cases c : n = 0
  · rw [if_pos c]; exact Nat.zero_le _
  · rw [if_neg c]; exact digs_big_len hb h
theorem vN_ints (xs : List Nat) : vN xs = (xs.map fun d : Nat => (d : Int)).map V.int := by unfold vN; rw [List.map_map]; rfl
theorem sum_ints : ∀ xs : List Nat, (xs.map fun d : Nat => (d : Int)).sum = ((xs.sum : Nat) : Int)
  | [] => rfl
  | x :: r => by rw [List.map_cons, List.sum_cons, List.sum_cons, sum_ints r, Int.natCast_add]
theorem sum_rev : ∀ xs : List Nat, xs.reverse.sum = xs.sum
  | [] => rfl
  | x :: r => by rw [List.reverse_cons, List.sum_append, sum_rev r, List.sum_cons, List.sum_cons]; show r.sum + (x + 0) = _; omega
def dsum (b n : Nat) : Nat := (digs b n).sum
theorem dsum_small {b n : Nat} (h : n < b) : dsum b n = n := by unfold dsum; rw [digs_small h]; show n + 0 = n; omega
theorem dsum_big {b n : Nat} (hb : 2 ≤ b) (h : b ≤ n) : dsum b n = n % b + dsum b (n / b) := by unfold dsum; rw [digs_big hb h, List.sum_cons]
theorem dsum_step {b : Nat} (hb : 2 ≤ b) (n : Nat) : dsum b n = n % b + dsum b (n / b) := by
  by_cases h : n < b
  · rw [dsum_small h, Nat.mod_eq_of_lt h, Nat.div_eq_of_lt h, dsum_small (show 0 < b by omega), Nat.add_zero]
  · exact dsum_big hb (by omega)
theorem dsum_le {b : Nat} (hb : 2 ≤ b) : ∀ n, dsum b n ≤ n := by
  refine digs_ind hb (fun n h => ?_) (fun n h ih => ?_)
  · rw [dsum_small h]; exact Nat.le_refl _
  · rw [dsum_big hb h]
    have e := Nat.mod_add_div n b
    have : n / b ≤ b * (n / b) := Nat.le_mul_of_pos_left _ (by omega)
    omega
theorem dsum_lt {b n : Nat} (hb : 2 ≤ b) (h : b ≤ n) : dsum b n < n := by
  rw [dsum_big hb h]
  have e := Nat.mod_add_div n b
  have q := dsum_le hb (n / b)
  have p : 0 < n / b := Nat.div_pos h (by omega)
  have : 2 * (n / b) ≤ b * (n / b) := Nat.mul_le_mul_right _ hb
  omega
def rootF (b : Nat) : Nat → Nat → Nat
  | 0, n => n
  | f + 1, n => if n < b then n else rootF b f (dsum b n)
theorem rootF_eq {b : Nat} (hb : 2 ≤ b) : ∀ f g n, n ≤ f → n ≤ g → rootF b f n = rootF b g n := by
  intro f
  induction f with
  | zero =>
    intro g n h1 h2
    cases g with
    | zero => rfl
    | succ g => show n = if n < b then n else _; rw [if_pos (by omega)]
  | succ f ih =>
    intro g n h1 h2
    cases g with
    | zero => show (if n < b then n else _) = n; rw [if_pos (by omega)]
    | succ g =>
      show (if n < b then n else rootF b f (dsum b n)) = if n < b then n else rootF b g (dsum b n)
      by_cases h : n < b
      · rw [if_pos h, if_pos h]
      · rw [if_neg h, if_neg h]
        have := dsum_lt hb (show b ≤ n by omega)
        exact ih g _ (by omega) (by omega)
def root (b n : Nat) : Nat := rootF b n n
theorem root_small {b n : Nat} (h : n < b) : root b n = n := by
  unfold root
  cases n with
  | zero => rfl
  | succ n => show (if n + 1 < b then n + 1 else _) = _; rw [if_pos h]
theorem root_big {b n : Nat} (hb : 2 ≤ b) (h : b ≤ n) : root b n = root b (dsum b n) := by
  unfold root
  obtain ⟨m, rfl⟩ : ∃ m, n = m + 1 := ⟨n - 1, by omega⟩
  show (if m + 1 < b then m + 1 else rootF b m (dsum b (m + 1))) = _
  rw [if_neg (by omega)]
  have := dsum_lt hb h
  exact rootF_eq hb _ _ _ (by omega) (Nat.le_refl _)
theorem Big.le {n m : Nat} (h : Big n) (k : m ≤ n) : Big m := Nat.lt_of_le_of_lt k h
end M

set_option Elab.async false
set_option linter.all false
set_option maxRecDepth 100000
namespace M
open PySem L2 Z
/-! sums over the numbers below a bound -/
def sumTo (g : Nat → Nat) : Nat → Nat
  | 0 => 0
  | n + 1 => sumTo g n + g n
theorem sumTo_congr {g h : Nat → Nat} : ∀ {N : Nat}, (∀ n, n < N → g n = h n) → sumTo g N = sumTo h N
  | 0, _ => rfl
  | N + 1, e => by
    show sumTo g N + g N = sumTo h N + h N
    rw [sumTo_congr (fun n hn => e n (by omega)), e N (by omega)]
theorem sumTo_add (g h : Nat → Nat) : ∀ N, sumTo (fun n => g n + h n) N = sumTo g N + sumTo h N
  | 0 => rfl
  | N + 1 => by
    show sumTo (fun n => g n + h n) N + (g N + h N) = (sumTo g N + g N) + (sumTo h N + h N)
    rw [sumTo_add g h N]; omega
theorem sumTo_zero : ∀ N, sumTo (fun _ => 0) N = 0
  | 0 => rfl
  | N + 1 => by show sumTo (fun _ => 0) N + 0 = 0; rw [sumTo_zero N]
theorem sumTo_mul (c : Nat) (g : Nat → Nat) : ∀ N, sumTo (fun n => c * g n) N = c * sumTo g N
  | 0 => by show 0 = c * 0; omega
  | N + 1 => by show sumTo (fun n => c * g n) N + c * g N = c * (sumTo g N + g N); rw [sumTo_mul c g N, Nat.mul_add]
theorem sumTo_swap (g : Nat → Nat → Nat) (N : Nat) : ∀ k, sumTo (fun j => sumTo (g j) N) k = sumTo (fun n => sumTo (fun j => g j n) k) N
  | 0 => (sumTo_zero N).symm
  | k + 1 => by
    show sumTo (fun j => sumTo (g j) N) k + sumTo (g k) N = sumTo (fun n => sumTo (fun j => g j n) k + g k n) N
    rw [sumTo_swap g N k, sumTo_add]
theorem sumTo_mono {g : Nat → Nat} {N : Nat} : ∀ {K : Nat}, N ≤ K → sumTo g N ≤ sumTo g K
  | 0, h => by have : N = 0 := by omega
               subst this; exact Nat.le_refl _
  | K + 1, h => by
    by_cases e : N = K + 1
    · subst e; exact Nat.le_refl _
    · exact Nat.le_trans (sumTo_mono (by omega)) (Nat.le_add_right _ _)
theorem sum_range (g : Nat → Nat) : ∀ b, ((List.range b).map g).sum = sumTo g b
  | 0 => rfl
  | b + 1 => by
    rw [List.range_succ, List.map_append, List.sum_append, sum_range g b]
    show _ + (g b + 0) = _
    rw [Nat.add_zero]; rfl
theorem sumTo_pick (d : Nat) (g : Nat → Nat) : ∀ b, d < b → sumTo (fun f => if d = f then g f else 0) b = g d
  | 0, h => by omega
  | b + 1, h => by
    show sumTo (fun f => if d = f then g f else 0) b + (if d = b then g b else 0) = g d
    by_cases e : d = b
    · subst e
      rw [if_pos rfl, sumTo_congr (h := fun _ => 0) (fun n hn => if_neg (by omega)), sumTo_zero]; omega
    · rw [if_neg e, sumTo_pick d g b (by omega), Nat.add_zero]
/-! a figure at a place -/
def ind (b w f n : Nat) : Nat := if n / w % b = f then 1 else 0
/-- how often below N, closed -/
def cl (b w f N : Nat) : Nat := N / (w * b) * w + min (N % (w * b) - f * w) w
theorem cl_step {b w f : Nat} (hb : 0 < b) (hw : 0 < w) (hf : f < b) (N : Nat) : cl b w f (N + 1) = cl b w f N + ind b w f N := by
  unfold cl ind
  have hM : 0 < w * b := Nat.mul_pos hw hb
  have e := Nat.mod_add_div N (w * b)
  have hr := Nat.mod_lt N hM
  generalize hq : N / (w * b) = q at *
  generalize hrr : N % (w * b) = r at *
  -- the figure at the place is r / w
  have hdiv : N / w % b = r / w := by
    have h1 : N = r + w * (b * q) := by rw [← e, Nat.mul_assoc]
    rw [h1, Nat.add_mul_div_left _ _ hw, Nat.add_mul_mod_self_left]
    exact Nat.mod_eq_of_lt (Nat.div_lt_of_lt_mul hr)
  have hfw : (f + 1) * w ≤ b * w := Nat.mul_le_mul_right _ hf
  have hbw : b * w = w * b := Nat.mul_comm _ _
  have hf1 : (f + 1) * w = f * w + w := Nat.succ_mul _ _
  have hif : (r / w = f) ↔ (f * w ≤ r ∧ r < f * w + w) := by
    rw [← hf1]
    constructor
    · intro h
      rw [← h]
      exact ⟨Nat.div_mul_le_self r w, by rw [Nat.mul_comm]; exact Nat.lt_mul_div_succ r hw⟩
    · rintro ⟨h1, h2⟩
      exact Nat.le_antisymm (Nat.le_of_lt_succ (Nat.div_lt_of_lt_mul (by rw [Nat.mul_comm]; exact h2))) ((Nat.le_div_iff_mul_le hw).mpr h1)
  rw [hdiv]
  by_cases hlast : r + 1 = w * b
  · have hN : N + 1 = w * b * (q + 1) := by rw [Nat.mul_add, Nat.mul_one]; omega
    have h1 : (N + 1) / (w * b) = q + 1 := by rw [hN]; exact Nat.mul_div_cancel_left _ hM
    have h2 : (N + 1) % (w * b) = 0 := by rw [hN]; exact Nat.mul_mod_right _ _
    rw [h1, h2, Nat.succ_mul]
    by_cases c : r / w = f
    · have := hif.mp c
      rw [if_pos c]; omega
    · rw [if_neg c]
      have : ¬ (f * w ≤ r ∧ r < f * w + w) := fun z => c (hif.mpr z)
      omega
  · have hN : N + 1 = (r + 1) + w * b * q := by omega
    have h1 : (N + 1) / (w * b) = q := by
      rw [hN, Nat.add_mul_div_left _ _ hM, Nat.div_eq_of_lt (by omega)]; omega
    have h2 : (N + 1) % (w * b) = r + 1 := by
      rw [hN, Nat.add_mul_mod_self_left]; exact Nat.mod_eq_of_lt (by omega)
    rw [h1, h2]
    by_cases c : r / w = f
    · have := hif.mp c
      rw [if_pos c]; omega
    · rw [if_neg c]
      have : ¬ (f * w ≤ r ∧ r < f * w + w) := fun z => c (hif.mpr z)
      omega
theorem cl_zero {b w f : Nat} : cl b w f 0 = 0 := by
  unfold cl
  rw [Nat.zero_div, Nat.zero_mod]; omega
theorem cl_sum {b w f : Nat} (hb : 0 < b) (hw : 0 < w) (hf : f < b) : ∀ N, sumTo (ind b w f) N = cl b w f N
  | 0 => cl_zero.symm
  | N + 1 => by show sumTo (ind b w f) N + ind b w f N = _; rw [cl_sum hb hw hf N, cl_step hb hw hf]
/-- the figure at place k as it is written: none ahead of the greatest -/
def place (b k f n : Nat) : Nat := if k = 0 ∨ b ^ k ≤ n then ind b (b ^ k) f n else 0
theorem place_sum {b k f N : Nat} (hb : 2 ≤ b) (hf : f < b) (hN : b ^ k ≤ N) : sumTo (place b k f) N + (if 0 < k ∧ f = 0 then b ^ k else 0) = cl b (b ^ k) f N := by
  have hw : 0 < b ^ k := Nat.pow_pos (by omega)
  rw [← cl_sum (by omega) hw hf N]
  by_cases hk : k = 0
  · subst hk
    rw [if_neg (by omega), Nat.add_zero]
    exact sumTo_congr fun n _ => by unfold place; rw [if_pos (Or.inl rfl)]
  · have h1 : sumTo (ind b (b ^ k) f) N = sumTo (place b k f) N + sumTo (fun n => if n < b ^ k then (if f = 0 then 1 else 0) else 0) N := by
      rw [← sumTo_add]
      refine sumTo_congr fun n _ => ?_
      unfold place
      by_cases c : b ^ k ≤ n
      · rw [if_pos (Or.inr c), if_neg (by omega)]; omega
      · rw [if_neg (by omega), if_pos (by omega)]
        unfold ind
        rw [Nat.div_eq_of_lt (by omega), Nat.zero_mod]
        by_cases z : f = 0
        · rw [if_pos z.symm, if_pos z]
        · rw [if_neg (Ne.symm z), if_neg z]
    have h2 : ∀ (W c K : Nat), K ≤ W → sumTo (fun n => if n < W then c else 0) K = K * c := by
      intro W c K
      induction K with
      | zero => intro _; show 0 = 0 * c; omega
      | succ K ih =>
        intro hK
        show sumTo (fun n => if n < W then c else 0) K + (if K < W then c else 0) = (K + 1) * c
        rw [ih (by omega), if_pos (by omega), Nat.succ_mul]
    have h3 : ∀ (W c K : Nat), W ≤ K → sumTo (fun n => if n < W then c else 0) K = W * c := by
      intro W c K
      induction K with
      | zero => intro h; have : W = 0 := by omega
                subst this; exact h2 0 c 0 (Nat.le_refl _)
      | succ K ih =>
        intro hK
        by_cases e : W = K + 1
        · rw [← e]; exact h2 _ _ _ (Nat.le_refl _)
        · show sumTo (fun n => if n < W then c else 0) K + (if K < W then c else 0) = W * c
          rw [ih (by omega), if_neg (by omega), Nat.add_zero]
    rw [h1, h3 _ _ N hN]
    by_cases z : f = 0
    · rw [if_pos ⟨by omega, z⟩, if_pos z, Nat.mul_one]
    · rw [if_neg (fun q => z q.2), if_neg z, Nat.mul_zero]
theorem place_zero (b f n : Nat) : place b 0 f n = if n % b = f then 1 else 0 := by
  unfold place ind
  rw [if_pos (Or.inl rfl), Nat.pow_zero, Nat.div_one]
theorem place_succ {b k f n : Nat} (hb : 2 ≤ b) (h : b ≤ n) : place b (k + 1) f n = place b k f (n / b) := by
  unfold place ind
  have e : n / b ^ (k + 1) = n / b / b ^ k := by rw [Nat.pow_succ, Nat.mul_comm, Nat.div_div_eq_div_mul]
  rw [e]
  by_cases c : k = 0
  · subst c
    have e1 : b ^ (0 + 1) = b := by rw [Nat.pow_succ, Nat.pow_zero, Nat.one_mul]
    rw [e1, if_pos (Or.inr h), if_pos (Or.inl rfl)]
  · have i : b ^ (k + 1) ≤ n ↔ b ^ k ≤ n / b := by rw [Nat.pow_succ]; exact (Nat.le_div_iff_mul_le (by omega)).symm
    by_cases q : b ^ k ≤ n / b
    · rw [if_pos (Or.inr (i.mpr q)), if_pos (Or.inr q)]
    · rw [if_neg (by intro z; rcases z with z | z; · omega
                     · exact q (i.mp z)), if_neg (by intro z; rcases z with z | z; · exact c z
                                                     · exact q z)]
theorem sumTo_front (g : Nat → Nat) : ∀ k, sumTo g (k + 1) = g 0 + sumTo (fun j => g (j + 1)) k
  | 0 => by show 0 + g 0 = g 0 + 0; omega
  | k + 1 => by
    show sumTo g (k + 1) + g (k + 1) = g 0 + (sumTo (fun j => g (j + 1)) k + g (k + 1))
    rw [sumTo_front g k]; omega
/-- how often a figure is written in a number, place by place -/
theorem place_count {b : Nat} (hb : 2 ≤ b) (f : Nat) : ∀ n k, n < b ^ k → 0 < k → sumTo (fun j => place b j f n) k = (digs b n).count f := by
  refine digs_ind hb (P := fun n => ∀ k, n < b ^ k → 0 < k → sumTo (fun j => place b j f n) k = (digs b n).count f) (fun n h k hk h0 => ?_) (fun n h ih k hk h0 => ?_)
  · obtain ⟨j, rfl⟩ : ∃ j, k = j + 1 := ⟨k - 1, by omega⟩
    rw [sumTo_front, place_zero, sumTo_congr (h := fun _ => 0), sumTo_zero, digs_small h, Nat.mod_eq_of_lt h]
    · show (if n = f then 1 else 0) + 0 = List.count f [n]
      rw [List.count_cons, List.count_nil]
      simp
    · intro i _
      unfold place
      rw [if_neg]
      rintro (z | z)
      · omega
      · have : b ≤ b ^ (i + 1) := by rw [Nat.pow_succ]; exact Nat.le_mul_of_pos_left _ (Nat.pow_pos (by omega))
        omega
  · obtain ⟨j, rfl⟩ : ∃ j, k = j + 1 := ⟨k - 1, by omega⟩
    have hj : 0 < j := by
      by_cases z : j = 0
      · subst z
        rw [Nat.pow_succ, Nat.pow_zero, Nat.one_mul] at hk
        omega
      · omega
    rw [sumTo_front, place_zero, sumTo_congr (h := fun i => place b i f (n / b)) (fun i _ => place_succ hb h), ih j ((Nat.div_lt_iff_lt_mul (by omega)).mpr (by rw [Nat.pow_succ] at hk; exact hk)) hj, digs_big hb h, List.count_cons]
    by_cases c : n % b = f
    · rw [if_pos c]; simp [c]; omega
    · rw [if_neg c]; simp [c]
/-- how often a figure stands in all numbers below N -/
def cnt (b f N : Nat) : Nat := sumTo (fun n => (digs b n).count f) N
theorem cnt_places {b f N k : Nat} (hb : 2 ≤ b) (hN : N ≤ b ^ k) (hk : 0 < k) : sumTo (fun j => sumTo (place b j f) N) k = cnt b f N := by
  rw [sumTo_swap]
  exact sumTo_congr fun n hn => place_count hb f n k (by omega) hk
/-- the sums of all numbers below N together -/
def tot (b N : Nat) : Nat := sumTo (dsum b) N
theorem count_total {b : Nat} : ∀ ds : List Nat, (∀ d ∈ ds, d < b) → sumTo (fun f => f * ds.count f) b = ds.sum
  | [], _ => by
    rw [sumTo_congr (h := fun _ => 0) (fun n _ => by simp), sumTo_zero]; rfl
  | d :: r, h => by
    have ih := count_total r fun x hx => h x (List.mem_cons_of_mem _ hx)
    rw [sumTo_congr (h := fun f => f * r.count f + if d = f then f else 0) (fun f _ => by
      rw [List.count_cons, Nat.mul_add]
      by_cases c : d = f
      · simp [c]
      · simp [c]), sumTo_add, ih, sumTo_pick d (fun f => f) b (h d List.mem_cons_self), List.sum_cons]
    omega
theorem cnt_total {b : Nat} (hb : 2 ≤ b) (N : Nat) : sumTo (fun f => f * cnt b f N) b = tot b N := by
  unfold cnt tot
  rw [sumTo_congr (h := fun f => sumTo (fun n => f * (digs b n).count f) N) (fun f _ => (sumTo_mul f _ N).symm), sumTo_swap]
  exact sumTo_congr fun n _ => count_total _ (digs_lt hb n)
theorem tot_succ (b N : Nat) : tot b (N + 1) = tot b N + dsum b N := rfl
/-! all numbers of so many figures -/
theorem sum_id_c (c : Nat) : ∀ b, 2 * sumTo (fun r => r + c) b + b = b * b + 2 * (b * c)
  | 0 => by show 2 * 0 + 0 = 0 * 0 + 2 * (0 * c); omega
  | b + 1 => by
    show 2 * (sumTo (fun r => r + c) b + (b + c)) + (b + 1) = (b + 1) * (b + 1) + 2 * ((b + 1) * c)
    have ih := sum_id_c c b
    have e1 : (b + 1) * (b + 1) = b * b + 2 * b + 1 := by rw [Nat.add_mul, Nat.mul_add]; omega
    have e2 : (b + 1) * c = b * c + c := Nat.succ_mul b c
    omega
theorem sumTo_shift (g : Nat → Nat) (a : Nat) : ∀ k, sumTo g (a + k) = sumTo g a + sumTo (fun r => g (a + r)) k
  | 0 => rfl
  | k + 1 => by
    show sumTo g (a + k) + g (a + k) = sumTo g a + (sumTo (fun r => g (a + r)) k + g (a + k))
    rw [sumTo_shift g a k]; omega
theorem tot_block {b : Nat} (hb : 2 ≤ b) (q : Nat) : 2 * tot b (b * (q + 1)) + b = 2 * tot b (b * q) + b * b + 2 * (b * dsum b q) := by
  unfold tot
  rw [Nat.mul_succ, sumTo_shift]
  rw [sumTo_congr (g := fun r => dsum b (b * q + r)) (h := fun r => r + dsum b q) (fun r hr => by
    rw [dsum_step hb, Nat.mul_add_mod, Nat.mod_eq_of_lt hr, Nat.mul_add_div (by omega), Nat.div_eq_of_lt hr, Nat.add_zero])]
  have := sum_id_c (dsum b q) b
  omega
theorem tot_mul {b : Nat} (hb : 2 ≤ b) : ∀ N, 2 * tot b (b * N) + N * b = 2 * (b * tot b N) + N * (b * b)
  | 0 => by rw [Nat.mul_zero]; show 2 * 0 + 0 * b = 2 * (b * 0) + 0 * (b * b); omega
  | N + 1 => by
    have h1 := tot_block hb N
    have h2 := tot_mul hb N
    rw [tot_succ]
    have e1 : b * (tot b N + dsum b N) = b * tot b N + b * dsum b N := Nat.mul_add _ _ _
    have e2 : (N + 1) * b = N * b + b := Nat.succ_mul _ _
    have e3 : (N + 1) * (b * b) = N * (b * b) + b * b := Nat.succ_mul _ _
    omega
theorem tot_pow {b : Nat} (hb : 2 ≤ b) : ∀ m, 2 * tot b (b ^ m) = b ^ m * m * (b - 1)
  | 0 => by
    rw [Nat.pow_zero]
    show 2 * (0 + dsum b 0) = _
    rw [dsum_small (by omega)]; omega
  | m + 1 => by
    have h := tot_mul hb (b ^ m)
    have ih := tot_pow hb m
    have e : b ^ (m + 1) = b * b ^ m := by rw [Nat.pow_succ, Nat.mul_comm]
    rw [e]
    obtain ⟨c, rfl⟩ : ∃ c, b = c + 1 := ⟨b - 1, by omega⟩
    rw [Nat.add_sub_cancel] at *
    generalize (c + 1) ^ m = p at *
    generalize tot (c + 1) ((c + 1) * p) = x at *
    generalize tot (c + 1) p = y at *
    have e1 : p * ((c + 1) * (c + 1)) = p * (c + 1) + p * (c + 1) * c := by rw [← Nat.mul_assoc, Nat.mul_succ, Nat.add_comm]
    have e2 : 2 * ((c + 1) * y) = (c + 1) * (p * m * c) := by rw [Nat.mul_left_comm, ih]
    have e3 : (c + 1) * p * (m + 1) * c = (c + 1) * (p * m * c) + p * (c + 1) * c := by
      rw [Nat.mul_succ, Nat.add_mul, Nat.mul_assoc (c + 1) p m, Nat.mul_assoc (c + 1) (p * m) c, Nat.mul_comm (c + 1) p]
    omega
end M

set_option Elab.async false
set_option linter.all false
set_option maxRecDepth 100000
namespace M
open PySem L2 Z
/-! rows of a whole number for each figure -/
def vI (b : Nat) (g : Nat → Int) : List V := (List.range b).map fun f => V.int (g f)
theorem vI_len (b : Nat) (g : Nat → Int) : (vI b g).length = b := by unfold vI; rw [List.length_map, List.length_range]
theorem vI_get {b f : Nat} {g : Nat → Int} (h : f < b) : (vI b g)[f]? = some (.int (g f)) := by unfold vI; rw [List.getElem?_map, List.getElem?_range h]; rfl
theorem vI_congr {b : Nat} {g g' : Nat → Int} (h : ∀ f, f < b → g f = g' f) : vI b g = vI b g' := by
  unfold vI
  exact List.map_congr_left fun f hf => by rw [h f (List.mem_range.mp hf)]
theorem vI_set {b f : Nat} {g : Nat → Int} {x : Int} (h : f < b) : (vI b g).set f (.int x) = vI b fun j => if j = f then x else g j := by
  refine List.ext_getElem? fun i => ?_
  rw [List.getElem?_set]
  by_cases e : f = i
  · subst e
    rw [if_pos rfl, vI_len, if_pos h, vI_get h, if_pos rfl]
  · rw [if_neg e]
    by_cases hi : i < b
    · rw [vI_get hi, vI_get hi, if_neg (Ne.symm e)]
    · rw [List.getElem?_eq_none (by rw [vI_len]; omega), List.getElem?_eq_none (by rw [vI_len]; omega)]
theorem vI_ints (b : Nat) (g : Nat → Int) : vI b g = ((List.range b).map g).map V.int := by rw [List.map_map]; rfl
theorem vI_zero (b : Nat) : (List.replicate b [V.int 0]).flatten = vI b fun _ => 0 := by
  unfold vI
  rw [List.map_const', List.length_range]
  induction b with
  | zero => rfl
  | succ m ih => rw [List.replicate_succ, List.flatten_cons, ih, List.replicate_succ]; rfl
/-- a row in the making: p ahead of i, v there, q behind -/
def rowM (b : Nat) (p q : Nat → Int) (i : Nat) (v : Int) : List V := vI b fun j => if j = i then v else if j < i then p j else q j
def stM (b : Nat) (p q : Nat → Int) (g : Nat) : List V := vI b fun j => if j < g then p j else q j
theorem rowM_len (b : Nat) (p q : Nat → Int) (i : Nat) (v : Int) : (rowM b p q i v).length = b := vI_len _ _
theorem rowM_get {b i : Nat} {p q : Nat → Int} {v : Int} (h : i < b) : (rowM b p q i v)[i]? = some (.int v) := by unfold rowM; rw [vI_get h, if_pos rfl]
theorem rowM_set {b i : Nat} {p q : Nat → Int} {v : Int} (x : Int) (h : i < b) : (rowM b p q i v).set i (.int x) = rowM b p q i x := by
  unfold rowM
  rw [vI_set h]
  refine vI_congr fun f _ => ?_
  by_cases e : f = i
  · rw [if_pos e, if_pos e]
  · rw [if_neg e, if_neg e, if_neg e]
theorem rowM_lo (b : Nat) (p q : Nat → Int) (i : Nat) : stM b p q i = rowM b p q i (q i) := vI_congr fun f _ => by
  by_cases e : f = i
  · subst e; rw [if_pos rfl, if_neg (by omega)]
  · rw [if_neg e]
theorem rowM_hi (b : Nat) (p q : Nat → Int) (i : Nat) : rowM b p q i (p i) = stM b p q (i + 1) := vI_congr fun f _ => by
  by_cases e : f = i
  · subst e; rw [if_pos rfl, if_pos (by omega)]
  · rw [if_neg e]
    by_cases c : f < i
    · rw [if_pos c, if_pos (by omega)]
    · rw [if_neg c, if_neg (by omega)]
theorem stM_zero (b : Nat) (p q : Nat → Int) : stM b p q 0 = vI b q := vI_congr fun f _ => if_neg (by omega)
theorem stM_full (b : Nat) (p q : Nat → Int) : stM b p q b = vI b p := vI_congr fun f h => if_pos h
theorem ixN_nat {n j : Nat} (h : j < n) : ixN n (j : Int) = some j := by
  unfold ixN
  rw [if_pos (by omega), if_pos (by omega)]
  congr 1
theorem ixN_pos {n j : Nat} (h : j < n) : ixN n (0 + (j : Int)) = some j := by rw [Int.zero_add]; exact ixN_nat h
/-- how often a figure stands up to N, place by place -/
theorem cl_to {b w f N : Nat} (hb : 2 ≤ b) (hw : 0 < w) (hf : f < b) : cl b w f (N + 1) = N / (w * b) * w + (if f < N / w % b then w else 0) + (if f = N / w % b then N % w + 1 else 0) := by
  rw [cl_step (by omega) hw hf]
  unfold cl ind
  have hM : 0 < w * b := Nat.mul_pos hw (by omega)
  have e := Nat.mod_add_div N (w * b)
  have hr := Nat.mod_lt N hM
  generalize hq : N / (w * b) = q at *
  generalize hrr : N % (w * b) = r at *
  have h1 : N = r + w * (b * q) := by rw [← e, Nat.mul_assoc]
  have hdiv : N / w % b = r / w := by
    rw [h1, Nat.add_mul_div_left _ _ hw, Nat.add_mul_mod_self_left]
    exact Nat.mod_eq_of_lt (Nat.div_lt_of_lt_mul hr)
  have hmod : N % w = r % w := by rw [h1, Nat.add_mul_mod_self_left]
  rw [hdiv, hmod]
  have er := Nat.mod_add_div r w
  have ht := Nat.mod_lt r hw
  generalize r % w = t at *
  generalize r / w = h at *
  rcases Nat.lt_trichotomy f h with c | c | c
  · have : (f + 1) * w ≤ h * w := Nat.mul_le_mul_right _ c
    rw [Nat.succ_mul] at this
    have e2 : w * h = h * w := Nat.mul_comm _ _
    rw [if_neg (by omega), if_pos c, if_neg (by omega)]
    omega
  · subst c
    have e2 : w * f = f * w := Nat.mul_comm _ _
    rw [if_pos rfl, if_neg (by omega), if_pos rfl]
    omega
  · have : (h + 1) * w ≤ f * w := Nat.mul_le_mul_right _ c
    rw [Nat.succ_mul] at this
    have e2 : w * h = h * w := Nat.mul_comm _ _
    rw [if_neg (by omega), if_neg (by omega), if_neg (by omega)]
    omega
/-- the counts of 1 to N behind k places -/
def toF (b N k f : Nat) : Int := ((sumTo (fun j => sumTo (place b j f) (N + 1)) k : Nat) : Int) - (if k = 0 ∨ f ≠ 0 then 0 else 1)
theorem toF_zero (b N f : Nat) : toF b N 0 f = 0 := by
  unfold toF
  rw [if_pos (Or.inl rfl)]; rfl
theorem toF_step {b N k f : Nat} (hb : 2 ≤ b) (hf : f < b) (h : b ^ k ≤ N) :
    toF b N k f + (((N / (b ^ k * b) : Nat) : Int) - (if f = 0 then 1 else 0)) * ((b ^ k : Nat) : Int) + (if f < N / b ^ k % b then ((b ^ k : Nat) : Int) else 0) + (if f = N / b ^ k % b then ((N % b ^ k : Nat) : Int) + 1 else 0) = toF b N (k + 1) f := by
  have hw : 0 < b ^ k := Nat.pow_pos (by omega)
  have h1 := place_sum (k := k) (N := N + 1) hb hf (by omega)
  have h2 := cl_to (N := N) hb hw hf
  unfold toF
  have e : sumTo (fun j => sumTo (place b j f) (N + 1)) (k + 1) = sumTo (fun j => sumTo (place b j f) (N + 1)) k + sumTo (place b k f) (N + 1) := rfl
  rw [e]
  generalize sumTo (fun j => sumTo (place b j f) (N + 1)) k = A at *
  generalize sumTo (place b k f) (N + 1) = B at *
  generalize cl b (b ^ k) f (N + 1) = C at *
  have em : ((N / (b ^ k * b) : Nat) : Int) * ((b ^ k : Nat) : Int) = ((N / (b ^ k * b) * b ^ k : Nat) : Int) := (Int.natCast_mul _ _).symm
  generalize N / (b ^ k * b) * b ^ k = D at *
  rw [Int.sub_mul, em]
  have ek : k = 0 → b ^ k = 1 := fun z => by rw [z, Nat.pow_zero]
  generalize b ^ k = w at *
  generalize N / w % b = y at *
  generalize N % w = x at *
  have h3 : (C : Int) = (D : Int) + (if f < y then (w : Int) else 0) + (if f = y then (x : Int) + 1 else 0) := by
    by_cases c1 : f < y
    · by_cases c2 : f = y
      · omega
      · rw [if_pos c1, if_neg c2] at h2 ⊢; omega
    · by_cases c2 : f = y
      · rw [if_neg c1, if_pos c2] at h2 ⊢; omega
      · rw [if_neg c1, if_neg c2] at h2 ⊢; omega
  clear h2
  generalize (if f < y then (w : Int) else 0) = P at *
  generalize (if f = y then (x : Int) + 1 else 0) = R at *
  by_cases z : f = 0
  · subst z
    rw [if_pos rfl, Int.one_mul]
    by_cases k0 : k = 0
    · have := ek k0
      rw [if_neg (by omega)] at h1
      rw [if_pos (by omega), if_neg (by omega)]
      omega
    · rw [if_pos (by omega)] at h1
      rw [if_neg (by omega), if_neg (by omega)]
      omega
  · rw [if_neg z, Int.zero_mul]
    rw [if_neg (by omega)] at h1
    rw [if_pos (by omega), if_pos (by omega)]
    omega
theorem toF_end {b N k f : Nat} (hb : 2 ≤ b) (hf : f < b) (h : N < b ^ k) : toF b N k f = ((cnt b f (N + 1) : Nat) : Int) - (if f = 0 then 1 else 0) := by
  unfold toF
  by_cases k0 : k = 0
  · subst k0
    have : N = 0 := by rw [Nat.pow_zero] at h; omega
    subst this
    rw [if_pos (Or.inl rfl)]
    show ((0 : Nat) : Int) - 0 = ((0 + (digs b 0).count f : Nat) : Int) - _
    rw [digs_small (by omega), List.count_cons, List.count_nil]
    by_cases z : f = 0
    · subst z; rw [if_pos rfl]; rfl
    · rw [if_neg z]
      have : ((0 : Nat) == f) = false := by simp; omega
      rw [this]; rfl
  · rw [cnt_places hb (by omega) (by omega)]
    by_cases z : f = 0
    · rw [if_neg (by omega), if_pos z]
    · rw [if_pos (by omega), if_neg z]
theorem cnt_zero (b f : Nat) : cnt b f 0 = 0 := rfl
theorem cnt_succ (b f N : Nat) : cnt b f (N + 1) = cnt b f N + (digs b N).count f := rfl
theorem count_dig {b : Nat} (hb : 2 ≤ b) {m f : Nat} (h : b ≤ m) : (digs b m).count f = (if f = m % b then 1 else 0) + (digs b (m / b)).count f := by
  rw [digs_big hb h, List.count_cons]
  by_cases c : f = m % b
  · rw [if_pos c, c]; simp; omega
  · rw [if_neg c]
    have : (m % b == f) = false := by simp; omega
    rw [this]; simp
theorem count_one {b m f : Nat} (h : m < b) : (digs b m).count f = if f = m then 1 else 0 := by
  rw [digs_small h, List.count_cons, List.count_nil]
  by_cases c : f = m
  · rw [if_pos c, c]; simp
  · rw [if_neg c]
    have : (m == f) = false := by simp; omega
    rw [this]; simp
end M
namespace M
theorem big_div {n b : Nat} (h : Big n) (hb : b ≤ 16) : n * b < 2 ^ 9000 := by
  have h1 : n * b ≤ n * 2 ^ 4 := Nat.mul_le_mul_left _ hb
  have h2 : n * 2 ^ 4 < 2 ^ 4000 * 2 ^ 4 := Nat.mul_lt_mul_of_pos_right h (by decide)
  have h3 : (2 : Nat) ^ 4000 * 2 ^ 4 = 2 ^ 4004 := (Nat.pow_add 2 4000 4).symm
  have h4 : (2 : Nat) ^ 4004 ≤ 2 ^ 9000 := Nat.pow_le_pow_right (by decide) (by decide)
  exact Nat.lt_of_le_of_lt h1 (Nat.lt_of_lt_of_le h2 (h3 ▸ h4))
theorem big_div1 {n : Nat} (h : Big n) : n < 2 ^ 9000 := Nat.lt_of_lt_of_le h (Nat.pow_le_pow_right (by decide) (by decide))
end M

set_option Elab.async false
set_option linter.all false
set_option maxRecDepth 100000
namespace M
open PySem L2 Z
/-! figures of what figures come to -/
theorem digs_val {b : Nat} (hb : 2 ≤ b) : ∀ l : List Nat, (∀ d ∈ l, d < b) → (∃ r t, l = r ++ [t] ∧ (t = 0 → r = [])) → digs b (val b l) = l
  | [], _, h => by
    obtain ⟨r, t, e, _⟩ := h
    cases r <;> cases e
  | [d], h, _ => by
    have : val b [d] = d := by show d + b * 0 = d; omega
    rw [this, digs_small (h d List.mem_cons_self)]
  | d :: x :: r, h, g => by
    obtain ⟨R, t, e, k⟩ := g
    cases R with
    | nil => cases e
    | cons y R =>
      injection e with e1 e2
      have ht : t ≠ 0 := fun z => by have := k z; cases this
      have ih := digs_val hb (x :: r) (fun d hd => h d (List.mem_cons_of_mem _ hd)) ⟨R, t, e2, fun z => absurd z ht⟩
      have hp : 0 < val b (x :: r) := by
        rcases Nat.eq_zero_or_pos (val b (x :: r)) with z | z
        · rw [z, digs_small (by omega), e2] at ih
          cases R with
          | nil => exact absurd (List.cons.inj ih).1.symm ht
          | cons q R => exact absurd (congrArg List.length ih) (by simp)
        · exact z
      have hd := h d List.mem_cons_self
      have e3 : val b (d :: x :: r) = d + b * val b (x :: r) := rfl
      have hge : b ≤ val b (d :: x :: r) := by
        rw [e3]
        have : b * 1 ≤ b * val b (x :: r) := Nat.mul_le_mul_left _ hp
        omega
      rw [digs_big hb hge, e3, Nat.add_mul_mod_self_left, Nat.mod_eq_of_lt hd, Nat.add_mul_div_left _ _ (by omega), Nat.div_eq_of_lt hd, Nat.zero_add, ih]
theorem val_lt {b : Nat} (hb : 2 ≤ b) : ∀ l : List Nat, (∀ d ∈ l, d < b) → val b l < b ^ l.length
  | [], _ => by show 0 < 1; omega
  | d :: r, h => by
    have ih := val_lt hb r fun x hx => h x (List.mem_cons_of_mem _ hx)
    have hd := h d List.mem_cons_self
    show d + b * val b r < b ^ (r.length + 1)
    rw [Nat.pow_succ, Nat.mul_comm (b ^ r.length) b]
    have : b * (val b r + 1) ≤ b * b ^ r.length := Nat.mul_le_mul_left _ ih
    rw [Nat.mul_add] at this
    omega
theorem val_big {b : Nat} (hb : 2 ≤ b) (hb2 : b ≤ 16) {l : List Nat} (h : ∀ d ∈ l, d < b) (hl : l.length ≤ 60) : Big (val b l) := by
  have h1 := val_lt hb l h
  have h2 : b ^ l.length ≤ 16 ^ l.length := Nat.pow_le_pow_left hb2 _
  have h3 : 16 ^ l.length ≤ 16 ^ 60 := Nat.pow_le_pow_right (by omega) hl
  have h4 : (16 : Nat) ^ 60 = 2 ^ 240 := by decide +kernel
  have h5 : (2 : Nat) ^ 240 ≤ 2 ^ 4000 := Nat.pow_le_pow_right (by decide) (by decide)
  exact Nat.lt_of_lt_of_le h1 (Nat.le_trans h2 (Nat.le_trans h3 (h4 ▸ h5)))
/-! sums and the base less one -/
theorem dsum_mod {b : Nat} (hb : 2 ≤ b) : ∀ n, ∃ k, n = dsum b n + (b - 1) * k := by
  refine digs_ind hb (fun n h => ⟨0, by rw [dsum_small h]; omega⟩) (fun n h ih => ?_)
  obtain ⟨k, e⟩ := ih
  refine ⟨k + n / b, ?_⟩
  rw [dsum_big hb h, Nat.mul_add]
  have e2 := Nat.mod_add_div n b
  obtain ⟨c, rfl⟩ : ∃ c, b = c + 1 := ⟨b - 1, by omega⟩
  rw [Nat.add_sub_cancel] at *
  have e3 : (c + 1) * (n / (c + 1)) = c * (n / (c + 1)) + n / (c + 1) := Nat.succ_mul _ _
  omega
theorem root_ind {b : Nat} (hb : 2 ≤ b) {P : Nat → Prop} (h0 : ∀ n, n < b → P n) (h1 : ∀ n, b ≤ n → P (dsum b n) → P n) : ∀ n, P n := by
  intro n
  induction n using Nat.strongRecOn with
  | ind n ih =>
    by_cases c : n < b
    · exact h0 n c
    · exact h1 n (by omega) (ih _ (dsum_lt hb (by omega)))
theorem root_mod {b : Nat} (hb : 2 ≤ b) : ∀ n, ∃ k, n = root b n + (b - 1) * k := by
  refine root_ind hb (fun n h => ⟨0, by rw [root_small h]; omega⟩) (fun n h ih => ?_)
  obtain ⟨k, e⟩ := ih
  obtain ⟨j, e2⟩ := dsum_mod hb n
  refine ⟨k + j, ?_⟩
  rw [root_big hb h, Nat.mul_add]
  omega
theorem root_lt {b : Nat} (hb : 2 ≤ b) : ∀ n, root b n < b :=
  root_ind hb (fun n h => by rw [root_small h]; exact h) fun n h ih => by rw [root_big hb h]; exact ih
theorem dsum_pos {b : Nat} (hb : 2 ≤ b) : ∀ n, 0 < n → 0 < dsum b n := by
  refine digs_ind hb (fun n h z => by rw [dsum_small h]; exact z) (fun n h ih _ => ?_)
  rw [dsum_big hb h]
  have := ih (Nat.div_pos h (by omega))
  omega
theorem root_pos {b : Nat} (hb : 2 ≤ b) : ∀ n, 0 < n → 0 < root b n :=
  root_ind hb (fun n h z => by rw [root_small h]; exact z) fun n h ih _ => by rw [root_big hb h]; exact ih (dsum_pos hb n (by omega))
theorem emod_zero {b n s k : Nat} (hb : 2 ≤ b) (e : n = s + (b - 1) * k) : ((n : Int) - (s : Int)) % ((b : Int) - 1) = 0 := by
  have e1 : (b : Int) - 1 = ((b - 1 : Nat) : Int) := by omega
  have e2 : (n : Int) - (s : Int) = ((b - 1 : Nat) : Int) * (k : Int) := by rw [← Int.natCast_mul]; omega
  rw [e1, e2]
  exact Int.mul_emod_right _ _
theorem dsum_add1 {b : Nat} (hb : 2 ≤ b) : ∀ n, dsum b (n + 1) ≤ dsum b n + 1 := by
  refine digs_ind hb (fun n h => ?_) (fun n h ih => ?_)
  · rw [dsum_small h]
    exact dsum_le hb _
  · rw [dsum_big hb h, dsum_step hb (n + 1)]
    have hr := Nat.mod_lt n (show 0 < b by omega)
    have e := Nat.mod_add_div n b
    by_cases c : n % b + 1 < b
    · have e1 : n + 1 = (n % b + 1) + b * (n / b) := by omega
      have h1 : (n + 1) % b = n % b + 1 := by rw [e1, Nat.add_mul_mod_self_left, Nat.mod_eq_of_lt c]
      have h2 : (n + 1) / b = n / b := by rw [e1, Nat.add_mul_div_left _ _ (by omega), Nat.div_eq_of_lt c]; omega
      rw [h1, h2]; omega
    · have e1 : n + 1 = 0 + b * (n / b + 1) := by rw [Nat.mul_add, Nat.mul_one]; omega
      have h1 : (n + 1) % b = 0 := by rw [e1, Nat.add_mul_mod_self_left]; rfl
      have h2 : (n + 1) / b = n / b + 1 := by rw [e1, Nat.add_mul_div_left _ _ (by omega), Nat.zero_div]; omega
      rw [h1, h2]; omega
theorem dsum_sub {b : Nat} (hb : 2 ≤ b) : ∀ n m, dsum b (n + m) ≤ dsum b n + dsum b m := by
  intro n
  induction n using Nat.strongRecOn with
  | ind n ih =>
    intro m
    by_cases z : n = 0
    · subst z; rw [Nat.zero_add]; omega
    · have hlt : n / b < n := Nat.div_lt_self (by omega) (by omega)
      have ih1 := ih (n / b) hlt (m / b)
      have hn := Nat.mod_lt n (show 0 < b by omega)
      have hm := Nat.mod_lt m (show 0 < b by omega)
      have en := Nat.mod_add_div n b
      have em := Nat.mod_add_div m b
      rw [dsum_step hb (n + m), dsum_step hb n, dsum_step hb m]
      by_cases c : n % b + m % b < b
      · have e1 : n + m = (n % b + m % b) + b * (n / b + m / b) := by rw [Nat.mul_add]; omega
        have h1 : (n + m) % b = n % b + m % b := by rw [e1, Nat.add_mul_mod_self_left, Nat.mod_eq_of_lt c]
        have h2 : (n + m) / b = n / b + m / b := by rw [e1, Nat.add_mul_div_left _ _ (by omega), Nat.div_eq_of_lt c]; omega
        rw [h1, h2]; omega
      · have c' : n % b + m % b - b < b := by omega
        have e1 : n + m = (n % b + m % b - b) + b * (n / b + m / b + 1) := by rw [Nat.mul_add, Nat.mul_add, Nat.mul_one]; omega
        have h1 : (n + m) % b = n % b + m % b - b := by rw [e1, Nat.add_mul_mod_self_left, Nat.mod_eq_of_lt c']
        have h2 : (n + m) / b = n / b + m / b + 1 := by rw [e1, Nat.add_mul_div_left _ _ (by omega), Nat.div_eq_of_lt c']; omega
        have h3 := dsum_add1 hb (n / b + m / b)
        rw [h1, h2]; omega
/-! a figure behind, noughts behind -/
theorem snoc_div {b n f : Nat} (hf : f < b) : (n * b + f) % b = f ∧ (n * b + f) / b = n := by
  rw [Nat.mul_comm, Nat.add_comm]
  exact ⟨by rw [Nat.add_mul_mod_self_left, Nat.mod_eq_of_lt hf], by rw [Nat.add_mul_div_left _ _ (by omega), Nat.div_eq_of_lt hf, Nat.zero_add]⟩
theorem dsum_snoc {b n f : Nat} (hb : 2 ≤ b) (hf : f < b) : dsum b (n * b + f) = dsum b n + f := by
  obtain ⟨h1, h2⟩ := snoc_div (n := n) hf
  rw [dsum_step hb, h1, h2]; omega
theorem digs_snoc {b n f : Nat} (hb : 2 ≤ b) (hf : f < b) (hn : 0 < n) : digs b (n * b + f) = f :: digs b n := by
  obtain ⟨h1, h2⟩ := snoc_div (n := n) hf
  have : 1 * b ≤ n * b := Nat.mul_le_mul_right _ hn
  rw [digs_big hb (by omega), h1, h2]
theorem dsum_pow {b : Nat} (hb : 2 ≤ b) (n : Nat) : ∀ t, dsum b (n * b ^ t) = dsum b n
  | 0 => by rw [Nat.pow_zero, Nat.mul_one]
  | t + 1 => by
    have := dsum_snoc (n := n * b ^ t) hb (show 0 < b by omega)
    rw [Nat.pow_succ, ← Nat.mul_assoc]
    rw [Nat.add_zero] at this
    rw [this, Nat.add_zero, dsum_pow hb n t]
theorem digs_pow {b n : Nat} (hb : 2 ≤ b) (hn : 0 < n) : ∀ t, digs b (n * b ^ t) = List.replicate t 0 ++ digs b n
  | 0 => by rw [Nat.pow_zero, Nat.mul_one]; rfl
  | t + 1 => by
    have := digs_snoc (n := n * b ^ t) (f := 0) hb (by omega) (Nat.mul_pos hn (Nat.pow_pos (by omega)))
    rw [Nat.pow_succ, ← Nat.mul_assoc]
    rw [Nat.add_zero] at this
    rw [this, digs_pow hb hn t, List.replicate_succ]; rfl
/-! texts -/
theorem tx_append (xs ys : List Nat) : tx xs ++ tx ys = tx (xs ++ ys) := by
  show Str.append _ _ = _
  unfold Str.append tx
  simp
theorem tx_nil {ds : List Nat} (h : tx ds = "") : ds = [] := by
  have h1 := congrArg Str.length h
  rw [tx_len] at h1
  exact List.eq_nil_of_length_eq_zero (by rw [h1]; decide +kernel)
theorem tx_cutL (ds : List Nat) (k : Nat) : cutS (tx ds) none (some (k : Int)) = tx (ds.take k) := by
  unfold cutS
  rw [HT.sIx_nat, tx_len]
  show (⟨(((tx ds).cps.toList.drop 0).take (min k ds.length - 0)).toArray⟩ : Str) = _
  unfold tx
  rw [List.drop_zero, Nat.sub_zero, ← List.map_take]
  have : ds.take (min k ds.length) = ds.take k := by
    by_cases c : k ≤ ds.length
    · rw [Nat.min_eq_left c]
    · rw [Nat.min_eq_right (by omega), List.take_of_length_le (Nat.le_refl _), List.take_of_length_le (by omega)]
  simp [this]
theorem tx_cutR (ds : List Nat) (k : Nat) : cutS (tx ds) (some (k : Int)) none = tx (ds.drop k) := by
  unfold cutS
  rw [HT.sIx_nat, tx_len]
  show (⟨(((tx ds).cps.toList.drop (min k ds.length)).take (ds.length - min k ds.length)).toArray⟩ : Str) = _
  unfold tx
  have h : (ds.map chr).length = ds.length := List.length_map _
  congr 2
  by_cases c : k ≤ ds.length
  · rw [Nat.min_eq_left c, List.take_of_length_le (by simp), List.map_drop]
  · rw [Nat.min_eq_right (by omega), List.drop_eq_nil_of_le (by simp), List.drop_eq_nil_of_le (show ds.length ≤ k by omega)]; simp
theorem lstrip_tx (ds : List Nat) (h : ∀ d ∈ ds, d < 36) : Txt.lstripChars (tx ds) "0" = tx (ds.dropWhile (· == 0)) := by
  unfold Txt.lstripChars
  rw [PySem.W.stripBy_eq]
  have e0 : ∀ l : List Nat, (∀ d ∈ l, d < 36) → (l.map chr).drop (((l.map chr).takeWhile ("0" : Str).cps.contains).length) = (l.dropWhile (· == 0)).map chr := by
    intro l
    induction l with
    | nil => intro _; rfl
    | cons d r ih =>
      intro hl
      have hd := chr_nought d (hl d List.mem_cons_self)
      have ec : ("0" : Str).cps.contains (chr d) = (d == 0) := by
        have : ("0" : Str).cps = #[48] := by decide +kernel
        rw [this]
        by_cases z : d = 0
        · rw [hd.mpr z, z]; decide +kernel
        · have : chr d ≠ 48 := fun q => z (hd.mp q)
          simp [this, z]
      rw [List.map_cons, List.takeWhile_cons, ec, List.dropWhile_cons]
      by_cases z : d = 0
      · subst z
        show ((chr 0 :: r.map chr).drop ((chr 0 :: (r.map chr).takeWhile _).length)) = _
        rw [List.length_cons, List.drop_succ_cons]
        exact ih fun x hx => hl x (List.mem_cons_of_mem _ hx)
      · have : (d == 0) = false := by simp [z]
        rw [this]; rfl
  show Builtin.Str.strSub (tx ds) ((tx ds).cps.toList.takeWhile _).length (tx ds).length = _
  unfold Builtin.Str.strSub
  have e1 := e0 ds h
  rw [tx_len]
  show (⟨(ds.map chr).toArray.extract _ _⟩ : Str) = ⟨((ds.dropWhile (· == 0)).map chr).toArray⟩
  rw [← e1]
  have e2 : (tx ds).cps.toList = ds.map chr := by unfold tx; simp
  rw [e2]
  congr 1
  rw [List.extract_toArray]
  congr 1
  unfold List.extract
  rw [List.take_of_length_le]
  rw [List.length_drop, List.length_map]; omega
theorem rep_nought (t : Nat) : repS "0" t = tx (List.replicate t 0) := by
  unfold repS tx
  have e : ("0" : Str).cps = #[48] := by decide +kernel
  have e48 : chr 0 = 48 := by decide +kernel
  rw [e, List.map_replicate, e48]
  have : ∀ (n : Nat) (acc : Array Nat), (List.replicate n #[48]).foldl (· ++ ·) acc = acc ++ (List.replicate n 48).toArray := by
    intro n
    induction n with
    | zero => intro acc; simp
    | succ n ih =>
      intro acc
      rw [List.replicate_succ, List.foldl_cons, ih, List.replicate_succ]
      generalize List.replicate n 48 = l
      apply Array.ext'
      simp
  rw [this]; simp
theorem sum_dropW : ∀ l : List Nat, (l.dropWhile (· == 0)).sum = l.sum
  | [] => rfl
  | d :: r => by
    rw [List.dropWhile_cons]
    by_cases z : d = 0
    · subst z
      show (r.dropWhile (· == 0)).sum = _
      rw [sum_dropW r, List.sum_cons, Nat.zero_add]
    · have : (d == 0) = false := by simp [z]
      rw [this]; rfl
theorem dropW_top : ∀ l : List Nat, l.dropWhile (· == 0) = [] ∨ ∃ t r, l.dropWhile (· == 0) = t :: r ∧ t ≠ 0
  | [] => .inl rfl
  | d :: r => by
    rw [List.dropWhile_cons]
    by_cases z : d = 0
    · subst z; exact dropW_top r
    · have : (d == 0) = false := by simp [z]
      rw [this]; exact .inr ⟨d, r, rfl, z⟩
theorem dropW_mem {l : List Nat} {d : Nat} (h : d ∈ l.dropWhile (· == 0)) : d ∈ l := (List.dropWhile_sublist _).subset h
theorem dropW_len (l : List Nat) : (l.dropWhile (· == 0)).length ≤ l.length := (List.dropWhile_sublist _).length_le
/-- a row of figures, none ahead a nought, is the figures of what it comes to -/
theorem digs_row {b : Nat} (hb : 2 ≤ b) {ds : List Nat} {t : Nat} {r : List Nat} (h : ∀ d ∈ ds, d < b) (e : ds = t :: r) (k : t = 0 → r = []) : (digs b (val b ds.reverse)).reverse = ds := by
  rw [digs_val hb ds.reverse (fun d hd => h d (List.mem_reverse.mp hd)) ⟨r.reverse, t, by rw [e, List.reverse_cons], fun z => by rw [k z]; rfl⟩, List.reverse_reverse]
end M

set_option autoImplicit false
set_option linter.all false

namespace M
/-! ### the least number with a sum, and records (point 12) -/
def frec (b s : Nat) : Nat := s % (b - 1) * b ^ (s / (b - 1)) + (b ^ (s / (b - 1)) - 1)
theorem frec_zero (b : Nat) : frec b 0 = 0 := by unfold frec; rw [Nat.zero_mod, Nat.zero_div, Nat.pow_zero]
/-- one more: the place goes on just where the number is that place full -/
theorem frec_step {b : Nat} (hb : 2 ≤ b) (s : Nat) : frec b s + b ^ (s / (b - 1)) = frec b (s + 1) ∧
    ((frec b (s + 1) = b ^ (s / (b - 1)) * b - 1 ∧ b ^ ((s + 1) / (b - 1)) = b ^ (s / (b - 1)) * b) ∨ (frec b (s + 1) ≠ b ^ (s / (b - 1)) * b - 1 ∧ b ^ ((s + 1) / (b - 1)) = b ^ (s / (b - 1)))) := by
  obtain ⟨c, rfl⟩ : ∃ c, b = c + 2 := ⟨b - 2, by omega⟩
  have e1 : c + 2 - 1 = c + 1 := by omega
  unfold frec
  rw [e1]
  have hr := Nat.mod_lt s (show 0 < c + 1 by omega)
  have hs := Nat.div_add_mod s (c + 1)
  have hw : 0 < (c + 2) ^ (s / (c + 1)) := Nat.pow_pos (by omega)
  by_cases k : s % (c + 1) + 1 < c + 1
  · have hq : (s + 1) / (c + 1) = s / (c + 1) := by
      have : s + 1 = (s % (c + 1) + 1) + (c + 1) * (s / (c + 1)) := by omega
      rw [this, Nat.add_mul_div_left _ _ (by omega), Nat.div_eq_of_lt k, Nat.zero_add]
    have hm : (s + 1) % (c + 1) = s % (c + 1) + 1 := by
      have : s + 1 = (s % (c + 1) + 1) + (c + 1) * (s / (c + 1)) := by omega
      rw [this, Nat.add_mul_mod_self_left, Nat.mod_eq_of_lt k]
    rw [hq, hm]
    generalize (c + 2) ^ (s / (c + 1)) = w at *
    generalize s % (c + 1) = r at *
    have h2 : (r + 1) * w = r * w + w := Nat.succ_mul r w
    have h3 : w * (c + 2) = w * c + 2 * w := by rw [Nat.mul_add]; omega
    have h4 : (r + 1) * w ≤ c * w := Nat.mul_le_mul_right w (by omega)
    have h5 : c * w = w * c := Nat.mul_comm _ _
    refine ⟨by omega, .inr ⟨by omega, rfl⟩⟩
  · have hk : s % (c + 1) = c := by omega
    have hq : (s + 1) / (c + 1) = s / (c + 1) + 1 := by
      have : s + 1 = (c + 1) * (s / (c + 1) + 1) := by rw [Nat.mul_add]; omega
      rw [this, Nat.mul_div_cancel_left _ (by omega)]
    have hm : (s + 1) % (c + 1) = 0 := by
      have : s + 1 = (c + 1) * (s / (c + 1) + 1) := by rw [Nat.mul_add]; omega
      rw [this, Nat.mul_mod_right]
    rw [hq, hm, hk, Nat.pow_succ]
    generalize (c + 2) ^ (s / (c + 1)) = w at *
    have h3 : w * (c + 2) = w * c + 2 * w := by rw [Nat.mul_add]; omega
    have h5 : c * w = w * c := Nat.mul_comm _ _
    refine ⟨by omega, .inl ⟨by omega, rfl⟩⟩
theorem frec_lt {b : Nat} (hb : 2 ≤ b) (s : Nat) : frec b s < frec b (s + 1) := by
  have := (frec_step hb s).1
  have hw : 0 < b ^ (s / (b - 1)) := Nat.pow_pos (by omega)
  omega
theorem frec_mono {b : Nat} (hb : 2 ≤ b) {s t : Nat} (h : s ≤ t) : frec b s ≤ frec b t := by
  induction t with
  | zero => have : s = 0 := by omega
            subst this; exact Nat.le_refl _
  | succ t ih =>
    rcases Nat.lt_or_ge t s with k | k
    · have : s = t + 1 := by omega
      subst this; exact Nat.le_refl _
    · exact Nat.le_trans (ih k) (Nat.le_of_lt (frec_lt hb t))
theorem frec_ge {b : Nat} (hb : 2 ≤ b) : ∀ s, s ≤ frec b s
  | 0 => by omega
  | s + 1 => by have := frec_ge hb s; have := frec_lt hb s; omega
theorem frec_inj {b : Nat} (hb : 2 ≤ b) {s t : Nat} (h : frec b s < frec b t) : s < t := by
  rcases Nat.lt_or_ge s t with k | k
  · exact k
  · have := frec_mono hb k; omega
/-- its last figure taken off -/
theorem frec_big {b : Nat} (hb : 2 ≤ b) {s : Nat} (h : b - 1 ≤ s) : frec b s = frec b (s - (b - 1)) * b + (b - 1) := by
  obtain ⟨t, rfl⟩ : ∃ t, s = t + (b - 1) := ⟨s - (b - 1), by omega⟩
  rw [Nat.add_sub_cancel]
  unfold frec
  rw [Nat.add_mod_right, Nat.add_div_right _ (by omega), Nat.pow_succ]
  have hw : 0 < b ^ (t / (b - 1)) := Nat.pow_pos (by omega)
  generalize b ^ (t / (b - 1)) = w at *
  generalize t % (b - 1) = r at *
  obtain ⟨v, rfl⟩ : ∃ v, w = v + 1 := ⟨w - 1, by omega⟩
  rw [Nat.add_sub_cancel]
  have e : (v + 1) * b = v * b + b := by rw [Nat.add_mul]; omega
  have e2 : (r * (v + 1) + v) * b = r * ((v + 1) * b) + v * b := by rw [Nat.add_mul, Nat.mul_assoc]
  omega
theorem frec_small {b s : Nat} (h : s < b - 1) : frec b s = s := by
  unfold frec; rw [Nat.mod_eq_of_lt h, Nat.div_eq_of_lt h, Nat.pow_zero]; omega
theorem dsum_frec {b : Nat} (hb : 2 ≤ b) : ∀ s, dsum b (frec b s) = s := by
  intro s
  induction s using Nat.strongRecOn with
  | _ s ih =>
    by_cases k : s < b - 1
    · rw [frec_small k, dsum_small (by omega)]
    · rw [frec_big hb (by omega), dsum_snoc hb (by omega), ih _ (by omega)]; omega
/-- what has a sum is no less than the first with it -/
theorem frec_le {b : Nat} (hb : 2 ≤ b) : ∀ n, frec b (dsum b n) ≤ n := by
  refine digs_ind hb (fun n h => ?_) (fun n h ih => ?_)
  · rw [dsum_small h]
    by_cases k : n < b - 1
    · rw [frec_small k]; exact Nat.le_refl _
    · have : n = b - 1 := by omega
      subst this
      rw [frec_big hb (Nat.le_refl _), Nat.sub_self, frec_zero]; omega
  · rw [dsum_big hb h]
    have hm := Nat.mod_lt n (show 0 < b by omega)
    have hd := Nat.div_add_mod n b
    have e2 : n / b * b = b * (n / b) := Nat.mul_comm _ _
    generalize n / b = q at *
    generalize n % b = r at *
    -- frec (r + s) ≤ frec s * b + r
    have key : ∀ s r, r < b → frec b (r + s) ≤ frec b s * b + r := by
      intro s
      induction s with
      | zero =>
        intro r hr
        rw [frec_zero]
        by_cases k : r < b - 1
        · rw [Nat.add_zero, frec_small k]; omega
        · have : r = b - 1 := by omega
          subst this
          rw [Nat.add_zero, frec_big hb (Nat.le_refl _), Nat.sub_self, frec_zero]; omega
      | succ s ihs =>
        intro r hr
        by_cases k : r = b - 1
        · subst k
          rw [frec_big hb (by omega)]
          have : b - 1 + (s + 1) - (b - 1) = s + 1 := by omega
          rw [this]; exact Nat.le_refl _
        · have h1 := ihs (r + 1) (by omega)
          have h2 : frec b s + 1 ≤ frec b (s + 1) := frec_lt hb s
          have h3 := Nat.mul_le_mul_right b h2
          rw [Nat.add_mul] at h3
          have e : r + (s + 1) = r + 1 + s := by omega
          rw [e]; omega
    have h1 := key (dsum b q) r hm
    have h2 := Nat.mul_le_mul_right b ih
    omega
/-- the records from first on among the first k -/
def recs (b f k : Nat) : List Nat := ((List.range k).map (frec b)).filter (fun n => decide (f ≤ n))
theorem recs_zero (b f : Nat) : recs b f 0 = [] := rfl
theorem recs_succ (b f k : Nat) : recs b f (k + 1) = recs b f k ++ (if f ≤ frec b k then [frec b k] else []) := by
  unfold recs
  rw [List.range_succ, List.map_append, List.filter_append]
  by_cases h : f ≤ frec b k
  · simp [h]
  · simp [h]
theorem recs_len (b f k : Nat) : (recs b f k).length ≤ k := by
  unfold recs
  refine Nat.le_trans (List.length_filter_le _ _) ?_
  rw [List.length_map, List.length_range]; exact Nat.le_refl _
theorem recs_pre (b f : Nat) : ∀ j k, ∃ r, recs b f (k + j) = recs b f k ++ r
  | 0, k => ⟨[], by rw [Nat.add_zero, List.append_nil]⟩
  | j + 1, k => by
    obtain ⟨r, e⟩ := recs_pre b f j k
    exact ⟨r ++ _, by rw [← Nat.add_assoc, recs_succ, e, List.append_assoc]⟩
/-- how many records there are up to a number -/
def upTo (b l : Nat) : Nat → Nat
  | 0 => 0
  | k + 1 => if frec b k ≤ l then k + 1 else upTo b l k
/-- told: the first sixty from first on -/
theorem recs_told {b f k K : Nat} (h : k ≤ K) (e : k = K ∨ (recs b f k).length = 60) (c : (recs b f k).length ≤ 60) : recs b f k = (recs b f K).take 60 := by
  obtain ⟨j, rfl⟩ : ∃ j, K = k + j := ⟨K - k, by omega⟩
  obtain ⟨r, er⟩ := recs_pre b f j k
  rcases e with e | e
  · have : j = 0 := by omega
    subst this
    rw [Nat.add_zero, List.take_of_length_le c]
  · rw [er, List.take_append_of_le_length (by omega), List.take_of_length_le (by omega)]
/-- the bound: so many records to 10 ** 30 -/
theorem frec_pow {b : Nat} (hb : 2 ≤ b) (q : Nat) : frec b (q * (b - 1)) = b ^ q - 1 := by
  unfold frec
  rw [Nat.mul_mod_left, Nat.mul_div_cancel _ (by omega)]; omega
theorem frec_much {b s n : Nat} (hb : 2 ≤ b) (hb2 : b ≤ 16) (h : frec b s ≤ n) (hn : n < 2 ^ 200) : s < 3001 := by
  rcases Nat.lt_or_ge s 3001 with k | k
  · exact k
  · have h1 := frec_mono hb k
    have h2 : frec b (200 * (b - 1)) ≤ frec b 3001 := frec_mono hb (by omega)
    rw [frec_pow hb] at h2
    have h3 : 2 ^ 200 ≤ b ^ 200 := Nat.pow_le_pow_left hb 200
    have h4 : frec b 3000 < frec b 3001 := frec_lt hb 3000
    have h5 : frec b (200 * (b - 1)) ≤ frec b 3000 := frec_mono hb (by omega)
    rw [frec_pow hb] at h5
    omega
end M


namespace M
theorem upTo_iff {b : Nat} (hb : 2 ≤ b) (l : Nat) : ∀ k s, s < k → (frec b s ≤ l ↔ s < upTo b l k)
  | 0, s, h => by omega
  | k + 1, s, h => by
    unfold upTo
    by_cases c : frec b k ≤ l
    · rw [if_pos c]
      exact ⟨fun _ => h, fun _ => Nat.le_trans (frec_mono hb (by omega)) c⟩
    · rw [if_neg c]
      by_cases e : s = k
      · subst e
        have le : ∀ n, upTo b l n ≤ n := by
          intro n
          induction n with
          | zero => exact Nat.le_refl _
          | succ n ih => unfold upTo; split <;> omega
        have := le s
        exact ⟨fun z => absurd z c, fun z => absurd z (by omega)⟩
      · exact upTo_iff hb l k s (by omega)
/-- how many records there are up to l -/
def up (b l : Nat) : Nat := upTo b l (l + 1)
theorem up_iff {b : Nat} (hb : 2 ≤ b) {l s : Nat} : frec b s ≤ l ↔ s < up b l := by
  rcases Nat.lt_or_ge s (l + 1) with h | h
  · exact upTo_iff hb l (l + 1) s h
  · have h1 := frec_ge hb s
    refine ⟨fun z => by omega, fun z => ?_⟩
    have le : ∀ n, upTo b l n ≤ n := by
      intro n
      induction n with
      | zero => exact Nat.le_refl _
      | succ n ih => unfold upTo; split <;> omega
    have h2 : up b l ≤ l + 1 := le (l + 1)
    have : s < l + 1 := Nat.lt_of_lt_of_le z h2
    omega
theorem up_much {b l : Nat} (hb : 2 ≤ b) (hb2 : b ≤ 16) (hl : l < 2 ^ 200) : up b l ≤ 3001 := by
  rcases Nat.lt_or_ge 3001 (up b l) with h | h
  · have := frec_much hb hb2 ((up_iff hb).mpr h) hl
    omega
  · exact h
/-- what records_in tells -/
def told (b f l : Nat) : List Nat := (recs b f (up b l)).take 60
/-- the records up to n by going through: the next one's sum is one more -/
theorem walk_next {b n m : Nat} (hb : 2 ≤ b) (h1 : ∀ s, s < m → frec b s < n) (h2 : n ≤ frec b m) :
    (m ≤ dsum b n → dsum b n = m ∧ frec b m = n) ∧ (dsum b n < m → n < frec b m) := by
  refine ⟨fun c => ?_, fun c => ?_⟩
  · have h3 := frec_mono hb c
    have h4 := frec_le hb n
    have e : frec b m = n := by omega
    refine ⟨?_, e⟩
    rw [← e, dsum_frec hb]
  · rcases Nat.lt_or_ge n (frec b m) with k | k
    · exact k
    · have e : n = frec b m := by omega
      rw [e, dsum_frec hb] at c
      omega
theorem up_of {b l m : Nat} (hb : 2 ≤ b) (h1 : ∀ s, s < m → frec b s < l + 1) (h2 : l + 1 ≤ frec b m) : up b l = m := by
  rcases Nat.lt_trichotomy (up b l) m with h | h | h
  · have := h1 _ h
    have := (up_iff hb (l := l) (s := up b l)).mp (by omega)
    omega
  · exact h
  · have := (up_iff hb).mpr h
    omega
end M


set_option autoImplicit false
set_option linter.all false

namespace M
/-! ### sums of whole numbers, weighed sums (point 13), blocks of a stretch -/
def sumI (g : Nat → Int) : Nat → Int
  | 0 => 0
  | n + 1 => sumI g n + g n
theorem sumI_congr {g h : Nat → Int} : ∀ {N : Nat}, (∀ n, n < N → g n = h n) → sumI g N = sumI h N
  | 0, _ => rfl
  | N + 1, k => by
    show sumI g N + g N = sumI h N + h N
    rw [sumI_congr (fun n hn => k n (by omega)), k N (by omega)]
theorem sumI_add (g h : Nat → Int) : ∀ N, sumI (fun n => g n + h n) N = sumI g N + sumI h N
  | 0 => rfl
  | N + 1 => by
    show sumI (fun n => g n + h n) N + (g N + h N) = (sumI g N + g N) + (sumI h N + h N)
    rw [sumI_add g h N]; omega
theorem sumI_mul (c : Int) (g : Nat → Int) : ∀ N, sumI (fun n => c * g n) N = c * sumI g N
  | 0 => by show (0 : Int) = c * 0; rw [Int.mul_zero]
  | N + 1 => by
    show sumI (fun n => c * g n) N + c * g N = c * (sumI g N + g N)
    rw [sumI_mul c g N, Int.mul_add]
theorem sumI_const (c : Int) : ∀ N : Nat, sumI (fun _ => c) N = (N : Int) * c
  | 0 => by show (0 : Int) = (0 : Int) * c; rw [Int.zero_mul]
  | N + 1 => by
    show sumI (fun _ => c) N + c = ((N + 1 : Nat) : Int) * c
    rw [sumI_const c N, Int.natCast_add, Int.add_mul]
    show (N : Int) * c + c = (N : Int) * c + 1 * c
    rw [Int.one_mul]
theorem sumI_shift (g : Nat → Int) (a : Nat) : ∀ k, sumI g (a + k) = sumI g a + sumI (fun r => g (a + r)) k
  | 0 => by show sumI g a = sumI g a + 0; omega
  | k + 1 => by
    show sumI g (a + k) + g (a + k) = sumI g a + (sumI (fun r => g (a + r)) k + g (a + k))
    rw [sumI_shift g a k]; omega
theorem sumI_rows (g : Nat → Int) (b : Nat) : ∀ m, sumI g (m * b) = sumI (fun q => sumI (fun r => g (q * b + r)) b) m
  | 0 => by rw [Nat.zero_mul]; rfl
  | m + 1 => by
    rw [Nat.add_mul, Nat.one_mul, sumI_shift, sumI_rows g b m]; rfl
theorem sumI_id : ∀ b : Nat, 2 * sumI (fun r => (r : Int)) b + b = (b : Int) * b
  | 0 => rfl
  | b + 1 => by
    have h := sumI_id b
    have e : sumI (fun r => (r : Int)) (b + 1) = sumI (fun r => (r : Int)) b + (b : Int) := rfl
    have e2 : ((b + 1 : Nat) : Int) * ((b + 1 : Nat) : Int) = (b : Int) * (b : Int) + 2 * (b : Int) + 1 := by
      have : (b + 1) * (b + 1) = b * b + 2 * b + 1 := by rw [Nat.add_mul, Nat.mul_add]; omega
      rw [← Int.natCast_mul, this]; push_cast; rfl
    rw [e, e2]
    omega
theorem list_sumI (g : Nat → Int) : ∀ k, ((List.range k).map g).sum = sumI g k
  | 0 => rfl
  | k + 1 => by
    rw [List.range_succ, List.map_append, List.sum_append, list_sumI g k]
    show _ + (g k + 0) = sumI g k + g k
    omega
/-- the figures weighed, from the place j on -/
def wd (W : Nat → Int) : Nat → List Nat → Int
  | _, [] => 0
  | j, d :: r => (d : Int) * W j + wd W (j + 1) r
def wg (b : Nat) (W : Nat → Int) (j n : Nat) : Int := wd W j (digs b n)
theorem wg_zero (b : Nat) (W : Nat → Int) (j : Nat) : wg b W j 0 = 0 := by
  unfold wg
  have : digs b 0 = [0] := rfl
  rw [this]
  show (0 : Int) * W j + 0 = 0
  rw [Int.zero_mul]; rfl
theorem wg_step {b : Nat} (hb : 2 ≤ b) (W : Nat → Int) (j n : Nat) : wg b W j n = ((n % b : Nat) : Int) * W j + wg b W (j + 1) (n / b) := by
  by_cases h : n < b
  · rw [Nat.mod_eq_of_lt h, Nat.div_eq_of_lt h, wg_zero]
    unfold wg
    rw [digs_small h]; rfl
  · unfold wg
    rw [digs_big hb (by omega)]; rfl
theorem wg_snoc {b : Nat} (hb : 2 ≤ b) (W : Nat → Int) (j q r : Nat) (hr : r < b) : wg b W j (q * b + r) = (r : Int) * W j + wg b W (j + 1) q := by
  rw [wg_step hb, (snoc_div hr).1, (snoc_div hr).2]
/-- a block: so many last places take all figures -/
theorem wg_block {b : Nat} (hb : 2 ≤ b) (W : Nat → Int) : ∀ p j s, 2 * sumI (fun i => wg b W j (s * b ^ p + i)) (b ^ p) = 2 * ((b ^ p : Nat) : Int) * wg b W j (s * b ^ p) + ((b ^ p : Nat) : Int) * ((b : Int) - 1) * sumI (fun t => W (j + t)) p
  | 0, j, s => by
    rw [Nat.pow_zero, Nat.mul_one]
    show 2 * (0 + wg b W j (s + 0)) = 2 * (1 : Int) * wg b W j s + (1 : Int) * ((b : Int) - 1) * 0
    rw [Nat.add_zero, Int.mul_zero]; omega
  | p + 1, j, s => by
    have ih := wg_block hb W p (j + 1) s
    rw [Nat.pow_succ, sumI_rows]
    have e1 : sumI (fun q => sumI (fun r => wg b W j (s * (b ^ p * b) + (q * b + r))) b) (b ^ p) = sumI (fun q => (sumI (fun r => (r : Int)) b) * W j + (b : Int) * wg b W (j + 1) (s * b ^ p + q)) (b ^ p) := by
      refine sumI_congr fun q _ => ?_
      have : sumI (fun r => wg b W j (s * (b ^ p * b) + (q * b + r))) b = sumI (fun r => W j * (r : Int) + wg b W (j + 1) (s * b ^ p + q)) b := by
        refine sumI_congr fun r hr => ?_
        have e : s * (b ^ p * b) + (q * b + r) = (s * b ^ p + q) * b + r := by rw [Nat.add_mul, Nat.mul_assoc]; omega
        rw [e, wg_snoc hb W j _ r hr, Int.mul_comm]
      rw [this, sumI_add, sumI_mul, sumI_const, Int.mul_comm (W j)]
    have e2 : wg b W j (s * (b ^ p * b)) = wg b W (j + 1) (s * b ^ p) := by
      have : s * (b ^ p * b) = (s * b ^ p) * b + 0 := by rw [Nat.mul_assoc]; omega
      rw [this, wg_snoc hb W j _ 0 (by omega)]
      show (0 : Int) * W j + _ = _
      rw [Int.zero_mul, Int.zero_add]
    have e3 : sumI (fun t => W (j + t)) (p + 1) = W j + sumI (fun t => W (j + 1 + t)) p := by
      have := sumI_shift (fun t => W (j + t)) 1 p
      rw [Nat.add_comm 1 p] at this
      rw [this]
      show 0 + W (j + 0) + _ = _
      rw [Nat.add_zero, Int.zero_add]
      congr 1
      exact sumI_congr fun t _ => by rw [Nat.add_assoc]
    rw [e1, sumI_add, sumI_const, sumI_mul, e2, e3]
    have hid := sumI_id b
    generalize sumI (fun r => (r : Int)) b = G at *
    generalize sumI (fun n => wg b W (j + 1) (s * b ^ p + n)) (b ^ p) = S at *
    generalize wg b W (j + 1) (s * b ^ p) = V at *
    generalize sumI (fun t => W (j + 1 + t)) p = Z at *
    generalize W j = w at *
    rw [Int.natCast_mul]
    generalize ((b ^ p : Nat) : Int) = P at *
    generalize (b : Int) = B at *
    have hG : 2 * G = B * (B - 1) := by rw [Int.mul_sub]; omega
    have a1 : 2 * (P * (G * w) + B * S) = P * ((2 * G) * w) + B * (2 * S) := by
      rw [Int.mul_add, ← Int.mul_assoc 2 P, Int.mul_comm 2 P, Int.mul_assoc P 2, ← Int.mul_assoc 2 G w, ← Int.mul_assoc 2 B, Int.mul_comm 2 B, Int.mul_assoc B 2]
    rw [a1, hG, ih]
    grind
/-- all weighed sums below N -/
def wt (b : Nat) (W : Nat → Int) (j N : Nat) : Int := sumI (wg b W j) N
theorem wt_step {b : Nat} (hb : 2 ≤ b) (W : Nat → Int) (j m d : Nat) (hd : d ≤ b) : 2 * wt b W j (m * b + d) = 2 * (b : Int) * wt b W (j + 1) m + (m : Int) * W j * ((b : Int) * ((b : Int) - 1)) + 2 * (d : Int) * wg b W (j + 1) m + W j * ((d : Int) * ((d : Int) - 1)) := by
  unfold wt
  rw [sumI_shift, sumI_rows]
  have e1 : ∀ q k, k ≤ b → sumI (fun r => wg b W j (q * b + r)) k = W j * sumI (fun r => (r : Int)) k + (k : Int) * wg b W (j + 1) q := fun q k hk => by
    have : sumI (fun r => wg b W j (q * b + r)) k = sumI (fun r => W j * (r : Int) + wg b W (j + 1) q) k := by
      refine sumI_congr fun r hr => ?_
      rw [wg_snoc hb W j q r (by omega), Int.mul_comm]
    rw [this, sumI_add, sumI_mul, sumI_const]
  have e2 : sumI (fun q => sumI (fun r => wg b W j (q * b + r)) b) m = sumI (fun q => W j * sumI (fun r => (r : Int)) b + (b : Int) * wg b W (j + 1) q) m := sumI_congr fun q _ => e1 q b (Nat.le_refl _)
  rw [e2, e1 m d hd, sumI_add, sumI_const, sumI_mul]
  have hb2 := sumI_id b
  have hd2 := sumI_id d
  show 2 * ((m : Int) * (W j * sumI (fun r => (r : Int)) b) + (b : Int) * sumI (wg b W (j + 1)) m + (W j * sumI (fun r => (r : Int)) d + (d : Int) * wg b W (j + 1) m)) = _
  generalize sumI (fun r => (r : Int)) b = G at *
  generalize sumI (fun r => (r : Int)) d = g at *
  generalize sumI (wg b W (j + 1)) m = S at *
  generalize wg b W (j + 1) m = V at *
  generalize W j = w at *
  generalize (b : Int) = B at *
  generalize (d : Int) = D at *
  generalize (m : Int) = Mm at *
  grind
/-! blocks -/
/-- blocks (start, places), one behind the other, from s to e -/
def Chain (b : Nat) : Nat → List (Nat × Nat) → Nat → Prop
  | s, [], e => s = e
  | s, x :: r, e => x.1 = s ∧ b ^ x.2 ∣ s ∧ Chain b (s + b ^ x.2) r e
theorem Chain.snoc {b : Nat} : ∀ {xs : List (Nat × Nat)} {s e p : Nat}, Chain b s xs e → b ^ p ∣ e → Chain b s (xs ++ [(e, p)]) (e + b ^ p)
  | [], s, e, p, h, d => by
    have h' : s = e := h
    subst h'
    exact ⟨rfl, d, rfl⟩
  | x :: r, s, e, p, h, d => ⟨h.1, h.2.1, Chain.snoc h.2.2 d⟩
/-- what is added up over the numbers is added up over the blocks -/
theorem Chain.sum {b : Nat} (g : Nat → Int) : ∀ {xs : List (Nat × Nat)} {s e : Nat}, Chain b s xs e → s ≤ e ∧ (xs.map fun x => sumI (fun i => g (x.1 + i)) (b ^ x.2)).sum = sumI g e - sumI g s
  | [], s, e, h => by
    have h' : s = e := h
    subst h'
    exact ⟨Nat.le_refl _, by show (0 : Int) = _; omega⟩
  | x :: r, s, e, h => by
    obtain ⟨h1, h2, h3⟩ := h
    obtain ⟨i1, i2⟩ := Chain.sum g h3
    refine ⟨by omega, ?_⟩
    rw [List.map_cons, List.sum_cons, i2, h1, sumI_shift]
    omega
theorem top_off {b : Nat} (hb : 2 ≤ b) : ∀ p r, b ^ p ≤ r → r < b ^ (p + 1) → dsum b r = dsum b (r - b ^ p) + 1
  | 0, r, h1, h2 => by
    rw [Nat.pow_zero] at h1 ⊢
    rw [Nat.zero_add, Nat.pow_one] at h2
    rw [dsum_small h2, dsum_small (by omega)]; omega
  | p + 1, r, h1, h2 => by
    have hm := Nat.mod_lt r (show 0 < b by omega)
    have hd := Nat.div_add_mod r b
    rw [Nat.pow_succ] at h1 h2
    have q1 : b ^ p ≤ r / b := (Nat.le_div_iff_mul_le (by omega)).mpr h1
    have q2 : r / b < b ^ (p + 1) := Nat.div_lt_of_lt_mul (by rw [Nat.mul_comm]; exact h2)
    have ih := top_off hb p (r / b) q1 q2
    have er : r - b ^ (p + 1) = (r / b - b ^ p) * b + r % b := by
      rw [Nat.pow_succ, Nat.sub_mul]
      have : r / b * b = b * (r / b) := Nat.mul_comm _ _
      have := Nat.mul_le_mul_right b q1
      omega
    rw [er, dsum_snoc hb hm, dsum_step hb, ih]; omega
theorem dsum_many {b : Nat} (hb : 2 ≤ b) : ∀ p r, r < b ^ p → dsum b r ≤ (b - 1) * p
  | 0, r, h => by
    have : r = 0 := by rw [Nat.pow_zero] at h; omega
    subst this
    rw [dsum_small (by omega)]; omega
  | p + 1, r, h => by
    rw [dsum_step hb]
    have hm := Nat.mod_lt r (show 0 < b by omega)
    have ih := dsum_many hb p (r / b) (Nat.div_lt_of_lt_mul (by rw [Nat.mul_comm, ← Nat.pow_succ]; exact h))
    rw [Nat.mul_add]; omega
/-- going on by blocks: so many there are, and so many may come -/
def Up1 (b t s p n : Nat) : Prop := n ≤ b * p + (s / b ^ p) % b ∨ (n ≤ b * p + b ∧ b ^ (p + 1) ∣ s) ∨ (t - s < b ^ (p + 1) ∧ n + dsum b (t - s) ≤ 4000)
def Up2 (b t s p n : Nat) : Prop := (n ≤ b * p + (s / b ^ p) % b ∧ ¬ b ^ (p + 1) ∣ s) ∨ (t - s < b ^ (p + 1) ∧ n + dsum b (t - s) ≤ 4000)
theorem up1_zero (b t s : Nat) : Up1 b t s 0 0 := .inl (Nat.zero_le _)
theorem digit_nought {b s p : Nat} (h : b ^ (p + 1) ∣ s) (hb : 2 ≤ b) : (s / b ^ p) % b = 0 := by
  obtain ⟨k, rfl⟩ := h
  have hw : 0 < b ^ p := Nat.pow_pos (by omega)
  have : b ^ (p + 1) * k = b ^ p * (b * k) := by rw [Nat.pow_succ, Nat.mul_assoc]
  rw [this, Nat.mul_div_cancel_left _ hw, Nat.mul_mod_right]
theorem up1_raise {b t s p n : Nat} (hb : 2 ≤ b) (h : Up1 b t s p n) (d : b ^ (p + 1) ∣ s) (c : b ^ (p + 1) ≤ t - s) : Up1 b t s (p + 1) n := by
  rcases h with h | ⟨h, _⟩ | ⟨h, _⟩
  · rw [digit_nought d hb] at h
    exact .inl (by rw [Nat.mul_add]; omega)
  · exact .inl (by rw [Nat.mul_add]; omega)
  · omega
theorem up_big {b p : Nat} (hb2 : b ≤ 16) (hp : p ≤ 104) : b * p ≤ 1664 := Nat.le_trans (Nat.mul_le_mul hb2 hp) (by decide)
theorem up1_stop {b t s p n : Nat} (hb : 2 ≤ b) (hb2 : b ≤ 16) (hp : p ≤ 104) (h : Up1 b t s p n) (c : ¬ (b ^ (p + 1) ∣ s ∧ b ^ (p + 1) ≤ t - s)) : Up2 b t s p n := by
  have hbp := up_big hb2 hp
  have hm := Nat.mod_lt (s / b ^ p) (show 0 < b by omega)
  by_cases d : b ^ (p + 1) ∣ s
  · have c' : t - s < b ^ (p + 1) := by
      rcases Nat.lt_or_ge (t - s) (b ^ (p + 1)) with k | k
      · exact k
      · exact absurd ⟨d, k⟩ c
    have hs := dsum_many hb (p + 1) _ c'
    have hs2 : (b - 1) * (p + 1) ≤ 15 * 105 := Nat.mul_le_mul (by omega) (by omega)
    rcases h with h | ⟨h, _⟩ | h
    · exact .inr ⟨c', by omega⟩
    · exact .inr ⟨c', by omega⟩
    · exact .inr h
  · rcases h with h | ⟨_, h⟩ | h
    · exact .inl ⟨h, d⟩
    · exact absurd h d
    · exact .inr h
theorem up2_lower {b t s p n : Nat} (hb : 2 ≤ b) (hb2 : b ≤ 16) (hp : p + 1 ≤ 104) (h : Up2 b t s (p + 1) n) (c : t - s < b ^ (p + 1)) : Up2 b t s p n := by
  have hbp := up_big hb2 hp
  have hm := Nat.mod_lt (s / b ^ (p + 1)) (show 0 < b by omega)
  have hs := dsum_many hb (p + 1) _ c
  have hs2 : (b - 1) * (p + 1) ≤ 15 * 105 := Nat.mul_le_mul (by omega) (by omega)
  rcases h with ⟨h, _⟩ | ⟨_, h⟩
  · exact .inr ⟨c, by omega⟩
  · exact .inr ⟨c, h⟩
theorem up2_emit {b t s p n : Nat} (hb : 2 ≤ b) (h : Up2 b t s p n) (d : b ^ p ∣ s) (c : b ^ p ≤ t - s) : Up1 b t (s + b ^ p) p (n + 1) := by
  have hw : 0 < b ^ p := Nat.pow_pos (by omega)
  rcases h with ⟨h, nd⟩ | ⟨h, h2⟩
  · obtain ⟨k, rfl⟩ := d
    rw [Nat.mul_div_cancel_left _ hw] at h
    have e1 : b ^ p * k + b ^ p = b ^ p * (k + 1) := by rw [Nat.mul_add, Nat.mul_one]
    have hm := Nat.mod_lt k (show 0 < b by omega)
    by_cases z : k % b + 1 < b
    · refine .inl ?_
      rw [e1, Nat.mul_div_cancel_left _ hw]
      have : (k + 1) % b = k % b + 1 := by
        have := Nat.div_add_mod k b
        have e : k + 1 = (k % b + 1) + b * (k / b) := by omega
        rw [e, Nat.add_mul_mod_self_left, Nat.mod_eq_of_lt z]
      omega
    · refine .inr (.inl ⟨by omega, ?_⟩)
      rw [e1, Nat.pow_succ]
      refine Nat.mul_dvd_mul_left _ ?_
      have := Nat.div_add_mod k b
      exact ⟨k / b + 1, by rw [Nat.mul_add]; omega⟩
  · refine .inr (.inr ?_)
    have ht := top_off hb p _ c h
    have e : t - (s + b ^ p) = t - s - b ^ p := by omega
    rw [e]
    exact ⟨by omega, by omega⟩
theorem up1_le {b t s p n : Nat} (hb : 2 ≤ b) (hb2 : b ≤ 16) (hp : p ≤ 104) (h : Up1 b t s p n) : n ≤ 4000 := by
  have hbp := up_big hb2 hp
  have hm := Nat.mod_lt (s / b ^ p) (show 0 < b by omega)
  rcases h with h | ⟨h, _⟩ | ⟨_, h⟩ <;> omega
theorem places_le {b p t : Nat} (hb : 2 ≤ b) (h : b ^ p ≤ t) (hl : t < 10000000000000000000000000000000) : p ≤ 104 := by
  rcases Nat.lt_or_ge 104 p with k | k
  · have h1 : 2 ^ 105 ≤ 2 ^ p := Nat.pow_le_pow_right (by omega) k
    have h2 : 2 ^ p ≤ b ^ p := Nat.pow_le_pow_left hb p
    have : (2 : Nat) ^ 105 = 40564819207303340847894502572032 := by decide +kernel
    omega
  · exact k
/-- one place less divides as well -/
theorem pow_dvd {b p s : Nat} (h : b ^ (p + 1) ∣ s) : b ^ p ∣ s := Nat.dvd_trans ⟨b, Nat.pow_succ ..⟩ h
end M

namespace M
/-! weighed sums as lists, their size -/
def wl (W : Nat → Int) : Nat → List Nat → List Int
  | _, [] => []
  | j, d :: r => (d : Int) * W j :: wl W (j + 1) r
theorem wl_sum (W : Nat → Int) : ∀ (ds : List Nat) (j : Nat), (wl W j ds).sum = wd W j ds
  | [], _ => rfl
  | d :: r, j => by
    show ((d : Int) * W j :: wl W (j + 1) r).sum = (d : Int) * W j + wd W (j + 1) r
    rw [List.sum_cons, wl_sum W r]
theorem wl_len (W : Nat → Int) : ∀ (ds : List Nat) (j : Nat), (wl W j ds).length = ds.length
  | [], _ => rfl
  | d :: r, j => by
    show (wl W (j + 1) r).length + 1 = r.length + 1
    rw [wl_len W r]
theorem wl_get (W : Nat → Int) : ∀ (ds : List Nat) (j i d : Nat), ds[i]? = some d → (wl W j ds)[i]? = some ((d : Int) * W (j + i))
  | [], _, i, d, h => by simp at h
  | x :: r, j, 0, d, h => by
    cases h; rfl
  | x :: r, j, i + 1, d, h => by
    have := wl_get W r (j + 1) i d h
    have e : j + 1 + i = j + (i + 1) := by omega
    rw [e] at this
    exact this
theorem wd_abs {W : Nat → Int} {B b : Nat} (hW : ∀ j, (W j).natAbs ≤ B) : ∀ (ds : List Nat) (j : Nat), (∀ d ∈ ds, d < b) → (wd W j ds).natAbs ≤ ds.length * (b * B)
  | [], _, _ => by show (0 : Int).natAbs ≤ _; omega
  | d :: r, j, h => by
    have ih := wd_abs hW r (j + 1) (fun x hx => h x (List.mem_cons_of_mem _ hx))
    show ((d : Int) * W j + wd W (j + 1) r).natAbs ≤ (r.length + 1) * (b * B)
    have h1 : ((d : Int) * W j).natAbs ≤ b * B := by
      rw [Int.natAbs_mul]
      exact Nat.mul_le_mul (Nat.le_of_lt (h d List.mem_cons_self)) (hW j)
    have h2 := Int.natAbs_add_le ((d : Int) * W j) (wd W (j + 1) r)
    rw [Nat.add_mul]
    omega
theorem wg_abs {W : Nat → Int} {b n : Nat} (hb : 2 ≤ b) (hb2 : b ≤ 36) (hn : Big n) (hW : ∀ j, (W j).natAbs ≤ 1000000) (j : Nat) : (wg b W j n).natAbs ≤ 144000000000 := by
  have h := wd_abs hW (digs b n) j (digs_lt hb n)
  have hl := digs_big_len hb hn
  have : (digs b n).length * (b * 1000000) ≤ 4000 * (36 * 1000000) := Nat.mul_le_mul hl (Nat.mul_le_mul hb2 (Nat.le_refl _))
  exact Nat.le_trans h this
theorem sumW_abs {W : Nat → Int} (hW : ∀ j, (W j).natAbs ≤ 1000000) : ∀ k, (sumI W k).natAbs ≤ k * 1000000
  | 0 => by show (0 : Int).natAbs ≤ _; omega
  | k + 1 => by
    have ih := sumW_abs hW k
    have := hW k
    have h2 := Int.natAbs_add_le (sumI W k) (W k)
    show (sumI W k + W k).natAbs ≤ _
    omega
/-- what a block adds -/
theorem blk_total {b : Nat} (hb : 2 ≤ b) (W : Nat → Int) {p s : Nat} (d : b ^ p ∣ s) :
    ((b ^ p : Nat) : Int) * wg b W 0 s + (((b ^ p : Nat) : Int) * ((b : Int) - 1) / 2) * sumI W p = sumI (fun i => wg b W 0 (s + i)) (b ^ p) := by
  obtain ⟨k, rfl⟩ := d
  have e : b ^ p * k = k * b ^ p := Nat.mul_comm _ _
  rw [e]
  have h := wg_block hb W p 0 k
  have e0 : sumI (fun t => W (0 + t)) p = sumI W p := sumI_congr fun t _ => by rw [Nat.zero_add]
  rw [e0] at h
  generalize wg b W 0 (k * b ^ p) = V at *
  generalize sumI (fun i => wg b W 0 (k * b ^ p + i)) (b ^ p) = S at *
  cases p with
  | zero =>
    have : sumI W 0 = 0 := rfl
    rw [this, Int.mul_zero] at h ⊢
    rw [Nat.pow_zero] at h ⊢
    show (1 : Int) * V + 0 = S
    have h' : 2 * S = 2 * 1 * V + 0 := h
    omega
  | succ p =>
    have ev : ∃ c : Int, ((b ^ (p + 1) : Nat) : Int) * ((b : Int) - 1) = 2 * c := by
      have : ∃ c : Int, (b : Int) * ((b : Int) - 1) = 2 * c := by
        rcases Nat.mod_two_eq_zero_or_one b with z | z
        · obtain ⟨m, rfl⟩ : ∃ m, b = 2 * m := ⟨b / 2, by omega⟩
          refine ⟨(m : Int) * (((2 * m : Nat) : Int) - 1), ?_⟩
          rw [← Int.mul_assoc]; rfl
        · obtain ⟨m, rfl⟩ : ∃ m, b = 2 * m + 1 := ⟨b / 2, by omega⟩
          refine ⟨((2 * m + 1 : Nat) : Int) * (m : Int), ?_⟩
          have : ((2 * m + 1 : Nat) : Int) - 1 = 2 * (m : Int) := by omega
          rw [this, ← Int.mul_assoc, Int.mul_comm _ 2, Int.mul_assoc]
      obtain ⟨c, hc⟩ := this
      refine ⟨((b ^ p : Nat) : Int) * c, ?_⟩
      rw [Nat.pow_succ, Int.natCast_mul, Int.mul_assoc, hc, ← Int.mul_assoc, Int.mul_comm _ 2, Int.mul_assoc]
    obtain ⟨c, hc⟩ := ev
    rw [hc] at h ⊢
    rw [Int.mul_ediv_cancel_left _ (by decide)]
    have e2 : 2 * c * sumI W (p + 1) = 2 * (c * sumI W (p + 1)) := Int.mul_assoc _ _ _
    have e3 : 2 * ((b ^ (p + 1) : Nat) : Int) * V = 2 * (((b ^ (p + 1) : Nat) : Int) * V) := Int.mul_assoc _ _ _
    rw [e2, e3] at h
    omega
end M

set_option autoImplicit false
set_option linter.all false
namespace M
/-! ### counts by rests (points 9, 13) -/
def ind1 (p : Prop) [Decidable p] : Int := if p then 1 else 0
theorem sumI_swap (g : Nat → Nat → Int) (n : Nat) : ∀ m, sumI (fun a => sumI (g a) n) m = sumI (fun c => sumI (fun a => g a c) m) n
  | 0 => by
    have : sumI (fun c => sumI (fun a => g a c) 0) n = sumI (fun _ => (0 : Int)) n := rfl
    rw [this, sumI_const, Int.mul_zero]; rfl
  | m + 1 => by
    have : sumI (fun c => sumI (fun a => g a c) (m + 1)) n = sumI (fun c => sumI (fun a => g a c) m + g m c) n := rfl
    rw [this, sumI_add, ← sumI_swap g n m]; rfl
theorem sumI_zero (N : Nat) : sumI (fun _ => (0 : Int)) N = 0 := by rw [sumI_const, Int.mul_zero]
theorem sumI_pick (k : Nat) (g : Nat → Int) : ∀ D, k < D → sumI (fun a => if a = k then g a else 0) D = g k
  | 0, h => by omega
  | D + 1, h => by
    show sumI (fun a => if a = k then g a else 0) D + (if D = k then g D else 0) = g k
    by_cases e : D = k
    · subst e
      rw [if_pos rfl]
      have : sumI (fun a => if a = D then g a else 0) D = sumI (fun _ => (0 : Int)) D := sumI_congr fun n hn => if_neg (by omega)
      rw [this, sumI_zero]; omega
    · rw [if_neg e, sumI_pick k g D (by omega)]; omega
/-- a rest less so much, as a whole number below D -/
def back (D : Nat) (r : Nat) (y : Int) : Nat := (((r : Int) - y) % (D : Int)).toNat
theorem back_lt {D r : Nat} {y : Int} (hD : 0 < D) : back D r y < D := by
  unfold back
  have h1 := Int.emod_nonneg ((r : Int) - y) (show (D : Int) ≠ 0 by omega)
  have h2 := Int.emod_lt_of_pos ((r : Int) - y) (show (0 : Int) < D by omega)
  omega
theorem back_iff {D r : Nat} {x y : Int} (hD : 0 < D) (hr : r < D) : (x + y) % (D : Int) = (r : Int) ↔ x % (D : Int) = ((back D r y : Nat) : Int) := by
  have h1 := Int.emod_nonneg ((r : Int) - y) (show (D : Int) ≠ 0 by omega)
  have e : ((back D r y : Nat) : Int) = ((r : Int) - y) % (D : Int) := by unfold back; omega
  rw [e]
  have hr2 : (r : Int) = (r : Int) % (D : Int) := (Int.emod_eq_of_lt (by omega) (by omega)).symm
  constructor
  · intro h
    have : x = (x + y) - y := by omega
    rw [this, ← Int.emod_sub_emod, h]
  · intro h
    rw [← Int.emod_add_emod, h, Int.emod_add_emod]
    have : (r : Int) - y + y = (r : Int) := by omega
    rw [this]; exact hr2.symm
/-- how many numbers below N have weighed sums with the rest r -/
def CR (b : Nat) (W : Nat → Int) (D j N r : Nat) : Int := sumI (fun n => if wg b W j n % (D : Int) = (r : Int) then 1 else 0) N
theorem CR_zero (b : Nat) (W : Nat → Int) (D j r : Nat) : CR b W D j 0 r = 0 := rfl
theorem CR_step {b : Nat} (hb : 2 ≤ b) (W : Nat → Int) {D r : Nat} (hD : 0 < D) (hr : r < D) (j m d : Nat) (hd : d ≤ b) :
    CR b W D j (m * b + d) r = sumI (fun one => CR b W D (j + 1) m (back D r ((one : Int) * W j))) b + sumI (fun one => if (wg b W (j + 1) m + (one : Int) * W j) % (D : Int) = (r : Int) then 1 else 0) d := by
  unfold CR
  rw [sumI_shift, sumI_rows]
  congr 1
  · rw [sumI_swap]
    refine sumI_congr fun one h1 => sumI_congr fun q _ => ?_
    rw [wg_snoc hb W j q one h1, Int.add_comm]
    by_cases c : (wg b W (j + 1) q + (one : Int) * W j) % (D : Int) = (r : Int)
    · rw [if_pos c, if_pos ((back_iff hD hr).mp c)]
    · rw [if_neg c, if_neg fun z => c ((back_iff hD hr).mpr z)]
  · refine sumI_congr fun one h1 => ?_
    rw [wg_snoc hb W j m one (by omega), Int.add_comm]
/-- a row spread over the rests -/
theorem spread {D r : Nat} (hD : 0 < D) (hr : r < D) (g : Nat → Int) (y : Int) : sumI (fun a => if ((a : Int) + y) % (D : Int) = (r : Int) then g a else 0) D = g (back D r y) := by
  rw [← sumI_pick (back D r y) g D (back_lt hD)]
  refine sumI_congr fun a ha => ?_
  have e : (a : Int) % (D : Int) = (a : Int) := Int.emod_eq_of_lt (by omega) (by omega)
  by_cases c : ((a : Int) + y) % (D : Int) = (r : Int)
  · rw [if_pos c, if_pos]
    have := (back_iff hD hr).mp c
    rw [e] at this
    omega
  · rw [if_neg c, if_neg]
    intro z
    refine c ((back_iff hD hr).mpr ?_)
    rw [e, z]
/-- the last places filled: a figure ahead of them -/
theorem wg_ahead {b : Nat} (hb : 2 ≤ b) (W : Nat → Int) : ∀ p j s i, i < b ^ p → wg b W j (s * b ^ p + i) = wg b W (j + p) s + wg b W j i
  | 0, j, s, i, h => by
    rw [Nat.pow_zero] at h ⊢
    have : i = 0 := by omega
    subst this
    rw [Nat.mul_one, Nat.add_zero, wg_zero, Nat.add_zero]; omega
  | p + 1, j, s, i, h => by
    have hm := Nat.mod_lt i (show 0 < b by omega)
    have hi := Nat.div_add_mod i b
    have hq : i / b < b ^ p := Nat.div_lt_of_lt_mul (by rw [Nat.mul_comm, ← Nat.pow_succ]; exact h)
    have e : s * b ^ (p + 1) + i = (s * b ^ p + i / b) * b + i % b := by
      rw [Nat.pow_succ, Nat.add_mul, Nat.mul_assoc]
      have : i / b * b = b * (i / b) := Nat.mul_comm _ _
      omega
    rw [e, wg_snoc hb W j _ _ hm, wg_ahead hb W p (j + 1) s (i / b) hq, wg_step hb W j i]
    have ej : j + 1 + p = j + (p + 1) := by omega
    rw [ej]; omega
/-- how many fillings of p places have the rest r -/
def RW (b : Nat) (W : Nat → Int) (D p r : Nat) : Int := CR b W D 0 (b ^ p) r
theorem RW_zero {b : Nat} (W : Nat → Int) {D r : Nat} (hD : 0 < D) (hr : r < D) : RW b W D 0 r = if r = 0 then 1 else 0 := by
  unfold RW CR
  rw [Nat.pow_zero]
  show 0 + (if wg b W 0 0 % (D : Int) = (r : Int) then 1 else 0) = _
  rw [wg_zero, Int.zero_emod, Int.zero_add]
  by_cases e : r = 0
  · subst e; rfl
  · rw [if_neg (by omega), if_neg e]
theorem RW_succ {b : Nat} (hb : 2 ≤ b) (W : Nat → Int) {D r : Nat} (hD : 0 < D) (hr : r < D) (p : Nat) :
    RW b W D (p + 1) r = sumI (fun f => RW b W D p (back D r ((f : Int) * W p))) b := by
  unfold RW CR
  rw [Nat.pow_succ, Nat.mul_comm, sumI_rows]
  refine sumI_congr fun f hf => sumI_congr fun i hi => ?_
  rw [wg_ahead hb W p 0 f i hi, Nat.zero_add, Int.add_comm]
  have e : wg b W p f = (f : Int) * W p := by
    unfold wg
    rw [digs_small hf]
    show (f : Int) * W p + 0 = _
    omega
  rw [e]
  by_cases c : (wg b W 0 i + (f : Int) * W p) % (D : Int) = (r : Int)
  · rw [if_pos c, if_pos ((back_iff hD hr).mp c)]
  · rw [if_neg c, if_neg fun z => c ((back_iff hD hr).mpr z)]
/-- what a block has of a rest -/
theorem blk_rest {b : Nat} (hb : 2 ≤ b) (W : Nat → Int) {D r : Nat} (hD : 0 < D) (hr : r < D) {p s : Nat} (d : b ^ p ∣ s) :
    sumI (fun i => if wg b W 0 (s + i) % (D : Int) = (r : Int) then 1 else 0) (b ^ p) = RW b W D p (back D r (wg b W 0 s)) := by
  obtain ⟨k, rfl⟩ := d
  have e : b ^ p * k = k * b ^ p := Nat.mul_comm _ _
  have hp : 0 < b ^ p := Nat.pow_pos (by omega)
  rw [e]
  have e0 : wg b W 0 (k * b ^ p) = wg b W (0 + p) k := by
    have := wg_ahead hb W p 0 k 0 hp
    rw [Nat.add_zero, wg_zero] at this
    omega
  unfold RW CR
  refine sumI_congr fun i hi => ?_
  rw [wg_ahead hb W p 0 k i hi, e0, Int.add_comm]
  by_cases c : (wg b W 0 i + wg b W (0 + p) k) % (D : Int) = (r : Int)
  · rw [if_pos c, if_pos ((back_iff hD hr).mp c)]
  · rw [if_neg c, if_neg fun z => c ((back_iff hD hr).mpr z)]
/-- a block is no longer than the last number has figures -/
theorem len_le {b : Nat} (hb : 2 ≤ b) {p l : Nat} (h : b ^ p ≤ l + 1) : p ≤ (digs b l).length := by
  have hv := val_lt hb (digs b l) (digs_lt hb l)
  rw [val_digs hb] at hv
  rcases Nat.lt_or_ge (digs b l).length p with k | k
  · have : b ^ (digs b l).length < b ^ p := Nat.pow_lt_pow_right (by omega) k
    omega
  · exact k
/-- sums with weights 1 are the sums -/
theorem wg_one (b : Nat) {W : Nat → Int} (h : ∀ j, W j = 1) (j n : Nat) : wg b W j n = ((dsum b n : Nat) : Int) := by
  unfold wg dsum
  generalize digs b n = ds
  induction ds generalizing j with
  | nil => rfl
  | cons d r ih =>
    show (d : Int) * W j + wd W (j + 1) r = _
    rw [h, ih, List.sum_cons, Int.natCast_add, Int.mul_one]
end M

set_option autoImplicit false
set_option linter.all false
namespace M
/-! ### ends (point 11) -/
theorem blk_dsum {b : Nat} (hb : 2 ≤ b) {p s i : Nat} (d : b ^ p ∣ s) (hi : i < b ^ p) : dsum b (s + i) = dsum b s + dsum b i := by
  obtain ⟨k, rfl⟩ := d
  have e : b ^ p * k = k * b ^ p := Nat.mul_comm _ _
  rw [e]
  have h := wg_ahead hb (fun _ => 1) p 0 k i hi
  rw [wg_one b (fun _ => rfl), wg_one b (fun _ => rfl), wg_one b (fun _ => rfl)] at h
  rw [dsum_pow hb k p]
  omega
theorem dsum_full {b : Nat} (hb : 2 ≤ b) (p : Nat) : dsum b (b ^ p - 1) = p * (b - 1) := by
  rw [← frec_pow hb, dsum_frec hb]
theorem dsum_less {b : Nat} (hb : 2 ≤ b) {p i : Nat} (hi : i < b ^ p) : dsum b i ≤ p * (b - 1) ∧ (i ≠ b ^ p - 1 → dsum b i < p * (b - 1)) := by
  have h1 := dsum_many hb p i hi
  rw [Nat.mul_comm] at h1
  refine ⟨h1, fun ne => ?_⟩
  rcases Nat.lt_or_ge (dsum b i) (p * (b - 1)) with k | k
  · exact k
  · have e : dsum b i = p * (b - 1) := by omega
    have h2 := frec_le hb i
    rw [e, frec_pow hb] at h2
    omega
def GEnd (b f e gs gn : Nat) : Prop := f ≤ gn ∧ (gn < e ∨ gn = f) ∧ dsum b gn = gs ∧ (∀ n, f ≤ n → n < e → dsum b n ≤ gs) ∧ (∀ n, f ≤ n → n < gn → dsum b n < gs)
def LEnd (b f e ls ln : Nat) : Prop := f ≤ ln ∧ (ln < e ∨ ln = f) ∧ dsum b ln = ls ∧ (∀ n, f ≤ n → n < e → ls ≤ dsum b n) ∧ (∀ n, f ≤ n → n < ln → ls < dsum b n)
theorem gend_first (b f : Nat) : GEnd b f f (dsum b f) f := ⟨Nat.le_refl _, .inr rfl, rfl, fun n h1 h2 => by omega, fun n h1 h2 => by omega⟩
theorem lend_first (b f : Nat) : LEnd b f f (dsum b f) f := ⟨Nat.le_refl _, .inr rfl, rfl, fun n h1 h2 => by omega, fun n h1 h2 => by omega⟩
theorem gend_more {b f s p gs gn : Nat} (hb : 2 ≤ b) (hfs : f ≤ s) (d : b ^ p ∣ s) (h : GEnd b f s gs gn) (c : gs < dsum b s + p * (b - 1)) : GEnd b f (s + b ^ p) (dsum b s + p * (b - 1)) (s + b ^ p - 1) := by
  have hw : 0 < b ^ p := Nat.pow_pos (by omega)
  obtain ⟨h1, h2, h3, h4, h5⟩ := h
  have key : ∀ n, s ≤ n → n < s + b ^ p → dsum b n = dsum b s + dsum b (n - s) := fun n a1 a2 => by
    have := blk_dsum hb d (show n - s < b ^ p by omega)
    have e : s + (n - s) = n := by omega
    rw [e] at this; exact this
  refine ⟨by omega, .inl (by omega), ?_, fun n a1 a2 => ?_, fun n a1 a2 => ?_⟩
  · rw [key _ (by omega) (by omega)]
    have e : s + b ^ p - 1 - s = b ^ p - 1 := by omega
    rw [e, dsum_full hb]
  · rcases Nat.lt_or_ge n s with z | z
    · have := h4 n a1 z; omega
    · rw [key n z a2]
      have := (dsum_less hb (show n - s < b ^ p by omega)).1
      omega
  · rcases Nat.lt_or_ge n s with z | z
    · have := h4 n a1 z; omega
    · rw [key n z (by omega)]
      have := (dsum_less hb (show n - s < b ^ p by omega)).2 (by omega)
      omega
theorem gend_same {b f s p gs gn : Nat} (hb : 2 ≤ b) (d : b ^ p ∣ s) (h : GEnd b f s gs gn) (c : ¬ gs < dsum b s + p * (b - 1)) : GEnd b f (s + b ^ p) gs gn := by
  obtain ⟨h1, h2, h3, h4, h5⟩ := h
  refine ⟨h1, ?_, h3, fun n a1 a2 => ?_, h5⟩
  · rcases h2 with z | z
    · exact .inl (by omega)
    · exact .inr z
  · rcases Nat.lt_or_ge n s with z | z
    · exact h4 n a1 z
    · have := blk_dsum hb d (show n - s < b ^ p by omega)
      have e : s + (n - s) = n := by omega
      rw [e] at this
      have := (dsum_less hb (show n - s < b ^ p by omega)).1
      omega
theorem lend_more {b f s p ls ln : Nat} (hb : 2 ≤ b) (hfs : f ≤ s) (d : b ^ p ∣ s) (h : LEnd b f s ls ln) (c : dsum b s < ls) : LEnd b f (s + b ^ p) (dsum b s) s := by
  have hw : 0 < b ^ p := Nat.pow_pos (by omega)
  obtain ⟨h1, h2, h3, h4, h5⟩ := h
  refine ⟨hfs, .inl (by omega), rfl, fun n a1 a2 => ?_, fun n a1 a2 => ?_⟩
  · rcases Nat.lt_or_ge n s with z | z
    · have := h4 n a1 z; omega
    · have := blk_dsum hb d (show n - s < b ^ p by omega)
      have e : s + (n - s) = n := by omega
      rw [e] at this
      omega
  · have := h4 n a1 a2; omega
theorem lend_same {b f s p ls ln : Nat} (hb : 2 ≤ b) (d : b ^ p ∣ s) (h : LEnd b f s ls ln) (c : ¬ dsum b s < ls) : LEnd b f (s + b ^ p) ls ln := by
  obtain ⟨h1, h2, h3, h4, h5⟩ := h
  refine ⟨h1, ?_, h3, fun n a1 a2 => ?_, h5⟩
  · rcases h2 with z | z
    · exact .inl (by omega)
    · exact .inr z
  · rcases Nat.lt_or_ge n s with z | z
    · exact h4 n a1 z
    · have := blk_dsum hb d (show n - s < b ^ p by omega)
      have e : s + (n - s) = n := by omega
      rw [e] at this
      omega
theorem GEnd.uniq {b f e gs gn gs2 gn2 : Nat} (he : f < e) (h : GEnd b f e gs gn) (k : GEnd b f e gs2 gn2) : gs = gs2 ∧ gn = gn2 := by
  obtain ⟨h1, h2, h3, h4, h5⟩ := h
  obtain ⟨k1, k2, k3, k4, k5⟩ := k
  have a1 := h4 gn2 k1 (by omega)
  have a2 := k4 gn h1 (by omega)
  refine ⟨by omega, ?_⟩
  rcases Nat.lt_trichotomy gn gn2 with z | z | z
  · have := k5 gn h1 z; omega
  · exact z
  · have := h5 gn2 k1 z; omega
theorem LEnd.uniq {b f e gs gn gs2 gn2 : Nat} (he : f < e) (h : LEnd b f e gs gn) (k : LEnd b f e gs2 gn2) : gs = gs2 ∧ gn = gn2 := by
  obtain ⟨h1, h2, h3, h4, h5⟩ := h
  obtain ⟨k1, k2, k3, k4, k5⟩ := k
  have a1 := h4 gn2 k1 (by omega)
  have a2 := k4 gn h1 (by omega)
  refine ⟨by omega, ?_⟩
  rcases Nat.lt_trichotomy gn gn2 with z | z | z
  · have := k5 gn h1 z; omega
  · exact z
  · have := h5 gn2 k1 z; omega
end M
namespace M
theorem gend_join {b f m t g1 n1 g2 n2 : Nat} (hf : f < m) (hm : m < t) (h : GEnd b f m g1 n1) (k : GEnd b m t g2 n2) : (g2 ≤ g1 → GEnd b f t g1 n1) ∧ (g1 < g2 → GEnd b f t g2 n2) := by
  obtain ⟨h1, h2, h3, h4, h5⟩ := h
  obtain ⟨k1, k2, k3, k4, k5⟩ := k
  refine ⟨fun c => ⟨h1, .inl (by omega), h3, fun n a1 a2 => ?_, h5⟩, fun c => ⟨by omega, .inl (by omega), k3, fun n a1 a2 => ?_, fun n a1 a2 => ?_⟩⟩
  · rcases Nat.lt_or_ge n m with z | z
    · exact h4 n a1 z
    · have := k4 n z a2; omega
  · rcases Nat.lt_or_ge n m with z | z
    · have := h4 n a1 z; omega
    · exact k4 n z a2
  · rcases Nat.lt_or_ge n m with z | z
    · have := h4 n a1 z; omega
    · exact k5 n z a2
theorem lend_join {b f m t g1 n1 g2 n2 : Nat} (hf : f < m) (hm : m < t) (h : LEnd b f m g1 n1) (k : LEnd b m t g2 n2) : (g1 ≤ g2 → LEnd b f t g1 n1) ∧ (g2 < g1 → LEnd b f t g2 n2) := by
  obtain ⟨h1, h2, h3, h4, h5⟩ := h
  obtain ⟨k1, k2, k3, k4, k5⟩ := k
  refine ⟨fun c => ⟨h1, .inl (by omega), h3, fun n a1 a2 => ?_, h5⟩, fun c => ⟨by omega, .inl (by omega), k3, fun n a1 a2 => ?_, fun n a1 a2 => ?_⟩⟩
  · rcases Nat.lt_or_ge n m with z | z
    · exact h4 n a1 z
    · have := k4 n z a2; omega
  · rcases Nat.lt_or_ge n m with z | z
    · have := h4 n a1 z; omega
    · exact k4 n z a2
  · rcases Nat.lt_or_ge n m with z | z
    · have := h4 n a1 z; omega
    · exact k5 n z a2
/-- the greatest sum of a stretch from 0 on: the last record's -/
theorem gend_rec {b l : Nat} (hb : 2 ≤ b) : GEnd b 0 (l + 1) (up b l - 1) (frec b (up b l - 1)) := by
  have h0 : 0 < up b l := (up_iff hb).mp (by rw [frec_zero]; omega)
  have h1 := (up_iff hb (l := l) (s := up b l - 1)).mpr (by omega)
  refine ⟨by omega, .inl (by omega), dsum_frec hb _, fun n a1 a2 => ?_, fun n a1 a2 => ?_⟩
  · have h2 := frec_le hb n
    have := (up_iff hb (l := l) (s := dsum b n)).mp (by omega)
    omega
  · rcases Nat.lt_or_ge (dsum b n) (up b l - 1) with z | z
    · exact z
    · have h2 := frec_mono hb z
      have h3 := frec_le hb n
      omega
end M

set_option autoImplicit false
set_option linter.all false
namespace M
/-! ### rows of figures: how many fillings have a sum (points 7, 8) -/
def cw (b p s : Nat) : Int := sumI (fun i => if dsum b i = s then 1 else 0) (b ^ p)
def cs (b N s : Nat) : Int := sumI (fun n => if dsum b n = s then 1 else 0) N
theorem cw_zero (b s : Nat) (hb : 2 ≤ b) : cw b 0 s = if s = 0 then 1 else 0 := by
  unfold cw
  rw [Nat.pow_zero]
  show 0 + (if dsum b 0 = s then 1 else 0) = _
  rw [dsum_small (by omega : 0 < b), Int.zero_add]
  by_cases e : s = 0
  · rw [if_pos e.symm, if_pos e]
  · rw [if_neg (fun z => e z.symm), if_neg e]
theorem cw_nonneg (b p s : Nat) : 0 ≤ cw b p s := by
  unfold cw
  generalize b ^ p = N
  induction N with
  | zero => exact Int.le_refl _
  | succ N ih =>
    show 0 ≤ sumI _ N + (if dsum b N = s then 1 else 0)
    split <;> omega
theorem cw_none {b p s : Nat} (hb : 2 ≤ b) (h : p * (b - 1) < s) : cw b p s = 0 := by
  unfold cw
  have : sumI (fun i => if dsum b i = s then (1 : Int) else 0) (b ^ p) = sumI (fun _ => (0 : Int)) (b ^ p) := sumI_congr fun i hi => by
    have := (dsum_less hb hi).1
    rw [if_neg (by omega)]
  rw [this, sumI_zero]
/-- a figure ahead of p places -/
theorem dsum_ahead {b : Nat} (hb : 2 ≤ b) {p k i : Nat} (hi : i < b ^ p) : dsum b (k * b ^ p + i) = dsum b k + dsum b i := by
  have h := wg_ahead hb (fun _ => 1) p 0 k i hi
  rw [wg_one b (fun _ => rfl), wg_one b (fun _ => rfl), wg_one b (fun _ => rfl)] at h
  omega
theorem cw_succ {b : Nat} (hb : 2 ≤ b) (p s : Nat) : cw b (p + 1) s = sumI (fun f => if f ≤ s then cw b p (s - f) else 0) b := by
  unfold cw
  rw [Nat.pow_succ, Nat.mul_comm, sumI_rows]
  refine sumI_congr fun f hf => ?_
  by_cases c : f ≤ s
  · rw [if_pos c]
    refine sumI_congr fun i hi => ?_
    rw [dsum_ahead hb hi, dsum_small hf]
    by_cases z : dsum b i = s - f
    · rw [if_pos z, if_pos (by omega)]
    · rw [if_neg z, if_neg (by omega)]
  · rw [if_neg c]
    have : sumI (fun r => if dsum b (f * b ^ p + r) = s then (1 : Int) else 0) (b ^ p) = sumI (fun _ => (0 : Int)) (b ^ p) := sumI_congr fun i hi => by
      rw [dsum_ahead hb hi, dsum_small hf, if_neg (by omega)]
    rw [this, sumI_zero]
theorem sumI_front (g : Nat → Int) (k : Nat) : sumI g (k + 1) = g 0 + sumI (fun j => g (j + 1)) k := by
  have h := sumI_shift g 1 k
  rw [Nat.add_comm 1 k] at h
  have h1 : sumI g 1 = g 0 := by
    show 0 + g 0 = g 0
    omega
  rw [h1] at h
  rw [h]
  congr 1
  exact sumI_congr fun j _ => by rw [Nat.add_comm]
/-- the window that moves on with the sum -/
theorem cw_win {b : Nat} (hb : 2 ≤ b) (p s : Nat) : cw b (p + 1) s = (if s = 0 then 0 else cw b (p + 1) (s - 1)) + cw b p s - (if b ≤ s then cw b p (s - b) else 0) := by
  obtain ⟨c, rfl⟩ : ∃ c, b = c + 1 := ⟨b - 1, by omega⟩
  rw [cw_succ hb, sumI_front]
  rw [if_pos (Nat.zero_le _), Nat.sub_zero]
  by_cases z : s = 0
  · subst z
    rw [if_pos rfl, if_neg (by omega)]
    have : sumI (fun j => if j + 1 ≤ 0 then cw (c + 1) p (0 - (j + 1)) else 0) c = sumI (fun _ => (0 : Int)) c := sumI_congr fun j _ => if_neg (by omega)
    rw [this, sumI_zero]; omega
  · rw [if_neg z, cw_succ hb]
    show _ = sumI (fun f => if f ≤ s - 1 then cw (c + 1) p (s - 1 - f) else 0) c + (if c ≤ s - 1 then cw (c + 1) p (s - 1 - c) else 0) + cw (c + 1) p s - _
    have e1 : sumI (fun j => if j + 1 ≤ s then cw (c + 1) p (s - (j + 1)) else 0) c = sumI (fun f => if f ≤ s - 1 then cw (c + 1) p (s - 1 - f) else 0) c := sumI_congr fun j _ => by
      by_cases k : j + 1 ≤ s
      · rw [if_pos k, if_pos (by omega)]
        have : s - (j + 1) = s - 1 - j := by omega
        rw [this]
      · rw [if_neg k, if_neg (by omega)]
    have e2 : (if c ≤ s - 1 then cw (c + 1) p (s - 1 - c) else 0) = if c + 1 ≤ s then cw (c + 1) p (s - (c + 1)) else 0 := by
      by_cases k : c + 1 ≤ s
      · rw [if_pos k, if_pos (by omega)]
        have : s - (c + 1) = s - 1 - c := by omega
        rw [this]
      · rw [if_neg k, if_neg (by omega)]
    rw [e1, e2]; omega
theorem cs_block {b : Nat} (hb : 2 ≤ b) {p k s : Nat} : sumI (fun i => if dsum b (k * b ^ p + i) = s then (1 : Int) else 0) (b ^ p) = if dsum b k ≤ s then cw b p (s - dsum b k) else 0 := by
  unfold cw
  by_cases c : dsum b k ≤ s
  · rw [if_pos c]
    refine sumI_congr fun i hi => ?_
    rw [dsum_ahead hb hi]
    by_cases z : dsum b i = s - dsum b k
    · rw [if_pos z, if_pos (by omega)]
    · rw [if_neg z, if_neg (by omega)]
  · rw [if_neg c]
    have : sumI (fun i => if dsum b (k * b ^ p + i) = s then (1 : Int) else 0) (b ^ p) = sumI (fun _ => (0 : Int)) (b ^ p) := sumI_congr fun i hi => by
      rw [dsum_ahead hb hi, if_neg (by omega)]
    rw [this, sumI_zero]
/-- one figure more read from the greatest place on -/
theorem cs_read {b : Nat} (hb : 2 ≤ b) (P d p s : Nat) (hd : d ≤ b) : cs b ((P * b + d) * b ^ p) s = cs b (P * b ^ (p + 1)) s + sumI (fun f => if dsum b P + f ≤ s then cw b p (s - (dsum b P + f)) else 0) d := by
  unfold cs
  have e : (P * b + d) * b ^ p = P * b ^ (p + 1) + d * b ^ p := by rw [Nat.add_mul, Nat.pow_succ, Nat.mul_assoc, Nat.mul_comm b]
  rw [e, sumI_shift, sumI_rows _ (b ^ p) d]
  congr 1
  refine sumI_congr fun f hf => ?_
  have e2 : sumI (fun r => if dsum b (P * b ^ (p + 1) + (f * b ^ p + r)) = s then (1 : Int) else 0) (b ^ p) = sumI (fun i => if dsum b ((P * b + f) * b ^ p + i) = s then (1 : Int) else 0) (b ^ p) := sumI_congr fun r _ => by
    have : P * b ^ (p + 1) + (f * b ^ p + r) = (P * b + f) * b ^ p + r := by rw [Nat.add_mul, Nat.pow_succ, Nat.mul_assoc, Nat.mul_comm b, Nat.add_assoc]
    rw [this]
  rw [e2, cs_block hb, dsum_snoc hb (by omega)]
theorem cs_shift (b f l s : Nat) (h : f ≤ l) : cs b l s - cs b f s = sumI (fun i => if dsum b (f + i) = s then (1 : Int) else 0) (l - f) := by
  unfold cs
  have h2 := sumI_shift (fun n => if dsum b n = s then (1 : Int) else 0) f (l - f)
  have h3 : f + (l - f) = l := by omega
  rw [h3] at h2
  omega
theorem sumI_pos {g : Nat → Int} (h : ∀ n, 0 ≤ g n) : ∀ N, 0 ≤ sumI g N ∧ (0 < sumI g N → ∃ n, n < N ∧ 0 < g n) ∧ ∀ n, n < N → g n ≤ sumI g N
  | 0 => ⟨Int.le_refl _, fun z => absurd z (Int.lt_irrefl _), fun n z => by omega⟩
  | N + 1 => by
    obtain ⟨h1, h2, h3⟩ := sumI_pos h N
    have hN := h N
    show 0 ≤ sumI g N + g N ∧ (0 < sumI g N + g N → _) ∧ ∀ n, n < N + 1 → g n ≤ sumI g N + g N
    refine ⟨by omega, fun z => ?_, fun n z => ?_⟩
    · rcases Int.lt_or_le 0 (g N) with y | y
      · exact ⟨N, by omega, y⟩
      · obtain ⟨n, a, c⟩ := h2 (by omega)
        exact ⟨n, by omega, c⟩
    · rcases Nat.lt_or_ge n N with y | y
      · have := h3 n y; omega
      · have : n = N := by omega
        subst this; omega
/-- in a stretch some number has the sum just where the count is more than nought -/
theorem cs_some {b f t s : Nat} (h : f ≤ t) : 0 ≤ cs b t s - cs b f s ∧ (0 < cs b t s - cs b f s ↔ ∃ n, f ≤ n ∧ n < t ∧ dsum b n = s) := by
  rw [cs_shift b f t s h]
  have hp := sumI_pos (g := fun i => if dsum b (f + i) = s then (1 : Int) else 0) (fun n => by split <;> omega) (t - f)
  refine ⟨hp.1, fun z => ?_, fun ⟨n, h1, h2, h3⟩ => ?_⟩
  · obtain ⟨n, a, c⟩ := hp.2.1 z
    by_cases y : dsum b (f + n) = s
    · exact ⟨f + n, by omega, by omega, y⟩
    · rw [if_neg y] at c; omega
  · have := hp.2.2 (n - f) (by omega)
    have e : f + (n - f) = n := by omega
    rw [e, if_pos h3] at this
    omega
end M
namespace M
theorem least_of {p : Nat → Prop} [DecidablePred p] : ∀ N, (∃ n, n < N ∧ p n) → ∃ n, n < N ∧ p n ∧ ∀ m, m < n → ¬ p m
  | 0, ⟨n, h, _⟩ => by omega
  | N + 1, ⟨n, h, hp⟩ => by
    by_cases c : ∃ n, n < N ∧ p n
    · obtain ⟨k, a1, a2, a3⟩ := least_of N c
      exact ⟨k, by omega, a2, a3⟩
    · have e : n = N := by
        rcases Nat.lt_or_ge n N with z | z
        · exact absurd ⟨n, z, hp⟩ c
        · omega
      subst e
      exact ⟨n, h, hp, fun m hm z => c ⟨m, hm, z⟩⟩
theorem d0_len_le {b : Nat} (hb : 2 ≤ b) : ∀ m n, n < b ^ m → (d0 b n).length ≤ m
  | 0, n, h => by
    have : n = 0 := by rw [Nat.pow_zero] at h; omega
    subst this
    exact Nat.le_refl _
  | m + 1, n, h => by
    rcases Nat.eq_zero_or_pos n with z | z
    · subst z; exact Nat.zero_le _
    · rw [d0_pos hb z, List.length_cons]
      have := d0_len_le hb m (n / b) (Nat.div_lt_of_lt_mul (by rw [Nat.mul_comm, ← Nat.pow_succ]; exact h))
      omega
theorem lt_len {b : Nat} (hb : 2 ≤ b) (n : Nat) : n < b ^ (digs b n).length := by
  have hv := val_lt hb (digs b n) (digs_lt hb n)
  rw [val_digs hb] at hv
  exact hv
theorem d0_pow {b : Nat} (hb : 2 ≤ b) (n : Nat) : n < b ^ (d0 b n).length := by
  rcases Nat.eq_zero_or_pos n with z | z
  · subst z; exact Nat.pow_pos (by omega)
  · have : d0 b n = digs b n := by unfold d0; rw [if_neg (by omega)]
    rw [this]; exact lt_len hb n
theorem cs_none {b N s : Nat} (hb : 2 ≤ b) (h : (b - 1) * (d0 b N).length < s) : cs b N s = 0 := by
  unfold cs
  have hp := d0_pow hb N
  have : sumI (fun n => if dsum b n = s then (1 : Int) else 0) N = sumI (fun _ => (0 : Int)) N := sumI_congr fun n hn => by
    have := dsum_many hb _ n (Nat.lt_trans hn hp)
    rw [if_neg (by omega)]
  rw [this, sumI_zero]
/-- the first and the last of those below N that are let -/
theorem first_let {P : Nat → Bool} {N x : Nat} (hx : x < N) (h : P x = true) (k : ∀ y, y < x → P y = false) : ((List.range N).filter P)[0]? = some x := by
  obtain ⟨j, rfl⟩ : ∃ j, N = x + (1 + j) := ⟨N - x - 1, by omega⟩
  rw [List.range_add, List.filter_append]
  have e : (List.range x).filter P = [] := by
    rw [List.filter_eq_nil_iff]
    intro y hy
    rw [k y (List.mem_range.mp hy)]
    exact Bool.false_ne_true
  rw [e, List.nil_append, Nat.add_comm 1 j, List.range_succ_eq_map, List.map_cons, Nat.add_zero, List.filter_cons, h]
  rfl
theorem last_let {P : Nat → Bool} {N x : Nat} (hx : x < N) (h : P x = true) (k : ∀ y, x < y → y < N → P y = false) : ∃ r, (List.range N).filter P = r ++ [x] := by
  obtain ⟨j, rfl⟩ : ∃ j, N = (x + 1) + j := ⟨N - x - 1, by omega⟩
  rw [List.range_add, List.filter_append]
  have e : ((List.range j).map (fun y => x + 1 + y)).filter P = [] := by
    rw [List.filter_eq_nil_iff]
    intro y hy
    obtain ⟨z, hz, rfl⟩ := List.mem_map.mp hy
    have := List.mem_range.mp hz
    rw [k _ (by omega) (by omega)]
    exact Bool.false_ne_true
  rw [e, List.append_nil, List.range_succ, List.filter_append]
  refine ⟨(List.range x).filter P, ?_⟩
  congr 1
  rw [List.filter_cons, h]; rfl
end M

set_option autoImplicit false
set_option linter.all false
namespace M
/-! ### what the fillings with a sum come to (point 7) -/
def conv (b : Nat) (X : Nat → Int) (r : Nat) : Int := sumI (fun f => if f ≤ r then X (r - f) else 0) b
def convf (b : Nat) (X : Nat → Int) (r : Nat) : Int := sumI (fun f => if f ≤ r then (f : Int) * X (r - f) else 0) b
theorem conv_congr {b r : Nat} {X Y : Nat → Int} (h : ∀ s, X s = Y s) : conv b X r = conv b Y r := by
  unfold conv
  exact sumI_congr fun f _ => by rw [h]
theorem conv_mul (b r : Nat) (c : Int) (X : Nat → Int) : conv b (fun s => c * X s) r = c * conv b X r := by
  unfold conv
  rw [← sumI_mul]
  refine sumI_congr fun f _ => ?_
  split
  · rfl
  · rw [Int.mul_zero]
theorem conv_convf (b : Nat) (X : Nat → Int) (r : Nat) : convf b (conv b X) r = conv b (convf b X) r := by
  unfold conv convf
  have e1 : sumI (fun f => if f ≤ r then (f : Int) * sumI (fun g => if g ≤ r - f then X (r - f - g) else 0) b else 0) b = sumI (fun f => sumI (fun g => if f + g ≤ r then (f : Int) * X (r - (f + g)) else 0) b) b := by
    refine sumI_congr fun f _ => ?_
    by_cases c : f ≤ r
    · rw [if_pos c, ← sumI_mul]
      refine sumI_congr fun g _ => ?_
      by_cases d : g ≤ r - f
      · rw [if_pos d, if_pos (by omega)]
        have : r - f - g = r - (f + g) := by omega
        rw [this]
      · rw [if_neg d, if_neg (by omega), Int.mul_zero]
    · rw [if_neg c]
      have : sumI (fun g => if f + g ≤ r then (f : Int) * X (r - (f + g)) else 0) b = sumI (fun _ => (0 : Int)) b := sumI_congr fun g _ => if_neg (by omega)
      rw [this, sumI_zero]
  have e2 : sumI (fun g => if g ≤ r then sumI (fun f => if f ≤ r - g then (f : Int) * X (r - g - f) else 0) b else 0) b = sumI (fun g => sumI (fun f => if f + g ≤ r then (f : Int) * X (r - (f + g)) else 0) b) b := by
    refine sumI_congr fun g _ => ?_
    by_cases c : g ≤ r
    · rw [if_pos c]
      refine sumI_congr fun f _ => ?_
      by_cases d : f ≤ r - g
      · rw [if_pos d, if_pos (by omega)]
        have : r - g - f = r - (f + g) := by omega
        rw [this]
      · rw [if_neg d, if_neg (by omega)]
    · rw [if_neg c]
      have : sumI (fun f => if f + g ≤ r then (f : Int) * X (r - (f + g)) else 0) b = sumI (fun _ => (0 : Int)) b := sumI_congr fun f _ => if_neg (by omega)
      rw [this, sumI_zero]
  rw [e1, e2, sumI_swap]
theorem cw_conv {b : Nat} (hb : 2 ≤ b) (p r : Nat) : cw b (p + 1) r = conv b (cw b p) r := cw_succ hb p r
/-- what the figures at the greatest of so many and one places come to -/
def td (b p r : Nat) : Int := convf b (cw b p) r
theorem td_succ {b : Nat} (hb : 2 ≤ b) (p r : Nat) : td b (p + 1) r = conv b (td b p) r := by
  unfold td
  have : convf b (cw b (p + 1)) r = convf b (conv b (cw b p)) r := by
    unfold convf
    exact sumI_congr fun f _ => by rw [cw_conv hb]
  rw [this, conv_convf]
theorem convf_split {b : Nat} (X : Nat → Int) (r : Nat) : (r : Int) * conv b X r = convf b X r + conv b (fun s => (s : Int) * X s) r := by
  unfold conv convf
  rw [← sumI_mul, ← sumI_add]
  refine sumI_congr fun f _ => ?_
  by_cases c : f ≤ r
  · rw [if_pos c, if_pos c, if_pos c]
    have : (r : Int) = (f : Int) + ((r - f : Nat) : Int) := by omega
    rw [← Int.add_mul, ← this]
  · rw [if_neg c, if_neg c, if_neg c, Int.mul_zero]; rfl
theorem share {b : Nat} (hb : 2 ≤ b) : ∀ p r : Nat, (r : Int) * cw b (p + 1) r = ((p + 1 : Nat) : Int) * td b p r
  | 0, r => by
    rw [cw_conv hb, convf_split]
    have e : conv b (fun s => (s : Int) * cw b 0 s) r = conv b (fun s => 0 * cw b 0 s) r := conv_congr fun s => by
      rw [cw_zero b s hb]
      by_cases z : s = 0
      · subst z; rfl
      · rw [if_neg z, Int.mul_zero, Int.mul_zero]
    rw [e, conv_mul, Int.zero_mul]
    show td b 0 r + 0 = (1 : Int) * td b 0 r
    omega
  | p + 1, r => by
    rw [cw_conv hb, convf_split]
    have e : conv b (fun s => (s : Int) * cw b (p + 1) s) r = conv b (fun s => ((p + 1 : Nat) : Int) * td b p s) r := conv_congr fun s => share hb p s
    rw [e, conv_mul, ← td_succ hb]
    show td b (p + 1) r + ((p + 1 : Nat) : Int) * td b (p + 1) r = ((p + 1 + 1 : Nat) : Int) * td b (p + 1) r
    rw [Int.natCast_add (p + 1) 1, Int.add_mul]
    show _ = _ + (1 : Int) * _
    omega
/-- what the fillings with the sum come to themselves -/
def tv (b p r : Nat) : Int := sumI (fun i => if dsum b i = r then (i : Int) else 0) (b ^ p)
def rep (b : Nat) : Nat → Nat
  | 0 => 0
  | p + 1 => b ^ p + rep b p
theorem rep_eq {b : Nat} (hb : 2 ≤ b) : ∀ p, rep b p * (b - 1) + 1 = b ^ p
  | 0 => by rw [Nat.pow_zero]; show 0 * (b - 1) + 1 = 1; omega
  | p + 1 => by
    have h := rep_eq hb p
    show (b ^ p + rep b p) * (b - 1) + 1 = b ^ (p + 1)
    obtain ⟨c, rfl⟩ : ∃ c, b = c + 1 := ⟨b - 1, by omega⟩
    rw [Nat.add_sub_cancel] at h ⊢
    rw [Nat.add_mul, Nat.pow_succ, Nat.mul_add, Nat.mul_one]
    omega
theorem tv_succ {b : Nat} (hb : 2 ≤ b) (p r : Nat) : tv b (p + 1) r = ((b ^ p : Nat) : Int) * td b p r + conv b (tv b p) r := by
  unfold tv td conv convf
  rw [Nat.pow_succ, Nat.mul_comm, sumI_rows, ← sumI_mul, ← sumI_add]
  refine sumI_congr fun f hf => ?_
  by_cases c : f ≤ r
  · rw [if_pos c, if_pos c]
    unfold cw
    rw [← Int.mul_assoc, ← sumI_mul, ← sumI_add]
    refine sumI_congr fun i hi => ?_
    rw [dsum_ahead hb hi, dsum_small hf]
    by_cases z : dsum b i = r - f
    · rw [if_pos (by omega), if_pos z, if_pos z, Int.natCast_add, Int.natCast_mul, Int.mul_one, Int.mul_comm (f : Int)]
    · rw [if_neg (by omega), if_neg z, if_neg z, Int.mul_zero]; rfl
  · rw [if_neg c, if_neg c, Int.mul_zero]
    have : sumI (fun i => if dsum b (f * b ^ p + i) = r then ((f * b ^ p + i : Nat) : Int) else 0) (b ^ p) = sumI (fun _ => (0 : Int)) (b ^ p) := sumI_congr fun i hi => by
      rw [dsum_ahead hb hi, dsum_small hf, if_neg (by omega)]
    rw [this, sumI_zero]; rfl
theorem tv_eq {b : Nat} (hb : 2 ≤ b) : ∀ p r, tv b (p + 1) r = td b p r * ((rep b (p + 1) : Nat) : Int)
  | 0, r => by
    rw [tv_succ hb]
    have e : conv b (tv b 0) r = conv b (fun s => 0 * tv b 0 s) r := conv_congr fun s => by
      have : tv b 0 s = 0 := by
        unfold tv
        rw [Nat.pow_zero]
        show 0 + (if dsum b 0 = s then ((0 : Nat) : Int) else 0) = 0
        split <;> rfl
      rw [this]; rfl
    rw [e, conv_mul, Int.zero_mul, Nat.pow_zero, Int.add_zero]
    show (1 : Int) * td b 0 r = td b 0 r * ((1 + 0 : Nat) : Int)
    rw [Int.one_mul]
    show _ = td b 0 r * 1
    rw [Int.mul_one]
  | p + 1, r => by
    rw [tv_succ hb]
    have e : conv b (tv b (p + 1)) r = conv b (fun s => ((rep b (p + 1) : Nat) : Int) * td b p s) r := conv_congr fun s => by rw [tv_eq hb p s, Int.mul_comm]
    rw [e, conv_mul, ← td_succ hb]
    show _ = td b (p + 1) r * ((b ^ (p + 1) + rep b (p + 1) : Nat) : Int)
    rw [Int.natCast_add, Int.mul_add, Int.mul_comm (td b (p + 1) r), Int.mul_comm (td b (p + 1) r)]
/-- what numbers with a sum come to, below N -/
def vs_ (b N s : Nat) : Int := sumI (fun n => if dsum b n = s then (n : Int) else 0) N
/-- a block: how many have the sum, and what they come to -/
theorem blk_many {b : Nat} (hb : 2 ≤ b) {p s t : Nat} (d : b ^ p ∣ s) : sumI (fun i => if dsum b (s + i) = t then (1 : Int) else 0) (b ^ p) = if dsum b s ≤ t then cw b p (t - dsum b s) else 0 := by
  obtain ⟨k, rfl⟩ := d
  have e : b ^ p * k = k * b ^ p := Nat.mul_comm _ _
  rw [e, cs_block hb, dsum_pow hb]
theorem blk_value {b : Nat} (hb : 2 ≤ b) {p s t : Nat} (d : b ^ p ∣ s) : sumI (fun i => if dsum b (s + i) = t then ((s + i : Nat) : Int) else 0) (b ^ p) = (s : Int) * (if dsum b s ≤ t then cw b p (t - dsum b s) else 0) + (if dsum b s ≤ t then tv b p (t - dsum b s) else 0) := by
  by_cases c : dsum b s ≤ t
  · rw [if_pos c, if_pos c]
    unfold cw tv
    rw [← sumI_mul, ← sumI_add]
    refine sumI_congr fun i hi => ?_
    rw [blk_dsum hb d hi]
    by_cases z : dsum b i = t - dsum b s
    · rw [if_pos (by omega), if_pos z, if_pos z, Int.natCast_add, Int.mul_one]
    · rw [if_neg (by omega), if_neg z, if_neg z, Int.mul_zero]; rfl
  · rw [if_neg c, if_neg c, Int.mul_zero]
    have : sumI (fun i => if dsum b (s + i) = t then ((s + i : Nat) : Int) else 0) (b ^ p) = sumI (fun _ => (0 : Int)) (b ^ p) := sumI_congr fun i hi => by
      rw [blk_dsum hb d hi, if_neg (by omega)]
    rw [this, sumI_zero]; rfl
end M
namespace M
theorem cw_le (b p s : Nat) : cw b p s ≤ ((b ^ p : Nat) : Int) := by
  unfold cw
  generalize b ^ p = N
  induction N with
  | zero => exact Int.le_refl _
  | succ N ih =>
    show sumI _ N + (if dsum b N = s then 1 else 0) ≤ ((N + 1 : Nat) : Int)
    split <;> omega
theorem td_nonneg (b p r : Nat) : 0 ≤ td b p r := by
  unfold td convf
  refine (sumI_pos (fun n => ?_) b).1
  split
  · exact Int.mul_nonneg (by omega) (cw_nonneg _ _ _)
  · exact Int.le_refl _
theorem vs_shift (b f l s : Nat) (h : f ≤ l) : vs_ b l s - vs_ b f s = sumI (fun i => if dsum b (f + i) = s then ((f + i : Nat) : Int) else 0) (l - f) := by
  unfold vs_
  have h2 := sumI_shift (fun n => if dsum b n = s then (n : Int) else 0) f (l - f)
  have h3 : f + (l - f) = l := by omega
  rw [h3] at h2
  omega
/-- the share of each place -/
theorem share_div {b : Nat} (hb : 2 ≤ b) (p r : Nat) : cw b (p + 1) r * (r : Int) / ((p + 1 : Nat) : Int) = td b p r := by
  rw [Int.mul_comm, share hb, Int.mul_ediv_cancel_left _ (by omega)]
theorem rep_div {b : Nat} (hb : 2 ≤ b) (p : Nat) : (((b ^ p : Nat) : Int) - 1) / ((b : Int) - 1) = ((rep b p : Nat) : Int) := by
  have h := rep_eq hb p
  have e1 : ((b ^ p : Nat) : Int) - 1 = ((rep b p * (b - 1) : Nat) : Int) := by omega
  have e2 : (b : Int) - 1 = ((b - 1 : Nat) : Int) := by omega
  rw [e1, e2, Int.natCast_mul, Int.mul_ediv_cancel _ (by omega)]
theorem rep_le {b : Nat} (hb : 2 ≤ b) (p : Nat) : rep b p ≤ b ^ p := by
  have h := rep_eq hb p
  have : rep b p ≤ rep b p * (b - 1) := Nat.le_mul_of_pos_right _ (by omega)
  omega
end M
namespace M
theorem tv_none {b p s : Nat} (hb : 2 ≤ b) (h : p * (b - 1) < s) : tv b p s = 0 := by
  unfold tv
  have : sumI (fun i => if dsum b i = s then (i : Int) else 0) (b ^ p) = sumI (fun _ => (0 : Int)) (b ^ p) := sumI_congr fun i hi => by
    have := (dsum_less hb hi).1
    rw [if_neg (by omega)]
  rw [this, sumI_zero]
theorem tv_nonneg (b p s : Nat) : 0 ≤ tv b p s := by
  unfold tv
  refine (sumI_pos (fun n => ?_) _).1
  split <;> omega
/-- sums with nothing below lo and nothing from hi on -/
theorem sumI_cut {g : Nat → Int} {lo hi N : Nat} (h1 : lo ≤ hi) (h2 : hi ≤ N) (a : ∀ f, f < lo → g f = 0) (c : ∀ f, hi ≤ f → f < N → g f = 0) : sumI g N = sumI (fun j => g (lo + j)) (hi - lo) := by
  have e1 : N = lo + ((hi - lo) + (N - hi)) := by omega
  rw [e1, sumI_shift, sumI_shift]
  have z1 : sumI g lo = 0 := by
    have : sumI g lo = sumI (fun _ => (0 : Int)) lo := sumI_congr fun f hf => a f hf
    rw [this, sumI_zero]
  have z2 : sumI (fun r => g (lo + (hi - lo + r))) (N - hi) = 0 := by
    have : sumI (fun r => g (lo + (hi - lo + r))) (N - hi) = sumI (fun _ => (0 : Int)) (N - hi) := sumI_congr fun r hr => c _ (by omega) (by omega)
    rw [this, sumI_zero]
  rw [z1, z2]; omega
theorem tv_succ2 {b : Nat} (hb : 2 ≤ b) (p r : Nat) : tv b (p + 1) r = sumI (fun f => if f ≤ r then tv b p (r - f) + (f : Int) * ((b ^ p : Nat) : Int) * cw b p (r - f) else 0) b := by
  rw [tv_succ hb]
  unfold td convf conv
  rw [← sumI_mul, ← sumI_add]
  refine sumI_congr fun f _ => ?_
  by_cases c : f ≤ r
  · rw [if_pos c, if_pos c, if_pos c, ← Int.mul_assoc, Int.mul_comm ((b ^ p : Nat) : Int) (f : Int), Int.add_comm]
  · rw [if_neg c, if_neg c, if_neg c, Int.mul_zero]; rfl
theorem vs_read {b : Nat} (hb : 2 ≤ b) (P d p s : Nat) (hd : d ≤ b) : vs_ b ((P * b + d) * b ^ p) s = vs_ b (P * b ^ (p + 1)) s + sumI (fun f => if dsum b P + f ≤ s then tv b p (s - (dsum b P + f)) + cw b p (s - (dsum b P + f)) * ((((P * b + f) * b ^ p : Nat)) : Int) else 0) d := by
  have e : (P * b + d) * b ^ p = P * b ^ (p + 1) + d * b ^ p := by rw [Nat.add_mul, Nat.pow_succ, Nat.mul_assoc, Nat.mul_comm b]
  unfold vs_
  rw [e, sumI_shift, sumI_rows _ (b ^ p) d]
  congr 1
  refine sumI_congr fun f hf => ?_
  have e2 : sumI (fun r => if dsum b (P * b ^ (p + 1) + (f * b ^ p + r)) = s then ((P * b ^ (p + 1) + (f * b ^ p + r) : Nat) : Int) else 0) (b ^ p) = sumI (fun i => if dsum b ((P * b + f) * b ^ p + i) = s then (((P * b + f) * b ^ p + i : Nat) : Int) else 0) (b ^ p) := sumI_congr fun r _ => by
    have : P * b ^ (p + 1) + (f * b ^ p + r) = (P * b + f) * b ^ p + r := by rw [Nat.add_mul, Nat.pow_succ, Nat.mul_assoc, Nat.mul_comm b, Nat.add_assoc]
    rw [this]
  rw [e2, blk_value hb (Nat.dvd_mul_left _ _), dsum_pow hb, dsum_snoc hb (by omega)]
  by_cases c : dsum b P + f ≤ s
  · rw [if_pos c, if_pos c, if_pos c, Int.mul_comm, Int.add_comm]
  · rw [if_neg c, if_neg c, if_neg c, Int.mul_zero]; rfl
theorem vs_zero_of {b f t s : Nat} (h : f ≤ t) (k : ∀ n, f ≤ n → n < t → dsum b n ≠ s) : vs_ b t s - vs_ b f s = 0 := by
  rw [vs_shift b f t s h]
  have : sumI (fun i => if dsum b (f + i) = s then ((f + i : Nat) : Int) else 0) (t - f) = sumI (fun _ => (0 : Int)) (t - f) := sumI_congr fun i hi => if_neg (k _ (by omega) (by omega))
  rw [this, sumI_zero]
theorem big_pow {b p : Nat} (hb2 : b ≤ 16) (hp : p ≤ 500) : b ^ p < 2 ^ 2001 := by
  have h1 : b ^ p ≤ 16 ^ p := Nat.pow_le_pow_left hb2 p
  have h2 : 16 ^ p ≤ 16 ^ 500 := Nat.pow_le_pow_right (by omega) hp
  have h3 : (16 : Nat) ^ 500 = 2 ^ 2000 := by
    have : (16 : Nat) = 2 ^ 4 := by decide
    rw [this, ← Nat.pow_mul]
  have h4 : (2 : Nat) ^ 2000 < 2 ^ 2001 := Nat.pow_lt_pow_right (by omega) (by omega)
  omega
end M
namespace M
theorem conv_term_pos (b p s f : Nat) : 0 ≤ (if f ≤ s then cw b p (s - f) else 0) := by
  split
  · exact cw_nonneg _ _ _
  · exact Int.le_refl _
theorem cw_mono {b : Nat} (hb : 2 ≤ b) (p s : Nat) : cw b p s ≤ cw b (p + 1) s := by
  rw [cw_succ hb]
  have h := (sumI_pos (g := fun f => if f ≤ s then cw b p (s - f) else 0) (fun f => conv_term_pos b p s f) b).2.2 0 (by omega)
  rw [if_pos (Nat.zero_le _), Nat.sub_zero] at h
  exact h
theorem cw_up {b : Nat} (hb : 2 ≤ b) (s : Nat) {p q : Nat} (h : p ≤ q) : cw b p s ≤ cw b q s := by
  induction q with
  | zero =>
    have : p = 0 := by omega
    subst this; exact Int.le_refl _
  | succ q ih =>
    rcases Nat.lt_or_ge q p with k | k
    · have : p = q + 1 := by omega
      subst this; exact Int.le_refl _
    · exact Int.le_trans (ih k) (cw_mono hb q s)
/-- the figures from f on -/
def from_ (b p r f : Nat) : Int := sumI (fun j => if f + j ≤ r then cw b p (r - (f + j)) else 0) (b - f)
theorem from_zero {b : Nat} (hb : 2 ≤ b) (p r : Nat) : from_ b p r 0 = cw b (p + 1) r := by
  unfold from_
  rw [cw_succ hb, Nat.sub_zero]
  exact sumI_congr fun j _ => by rw [Nat.zero_add]
theorem from_next {b p r f : Nat} (h : f < b) : from_ b p r f = (if f ≤ r then cw b p (r - f) else 0) + from_ b p r (f + 1) := by
  unfold from_
  obtain ⟨k, e⟩ : ∃ k, b - f = k + 1 := ⟨b - f - 1, by omega⟩
  have e2 : b - (f + 1) = k := by omega
  rw [e, e2, sumI_front, Nat.add_zero]
  congr 1
  exact sumI_congr fun j _ => by
    have : f + (j + 1) = f + 1 + j := by omega
    rw [this]
theorem from_none {b p r f : Nat} (h : b ≤ f ∨ r < f) : from_ b p r f = 0 := by
  unfold from_
  have : sumI (fun j => if f + j ≤ r then cw b p (r - (f + j)) else 0) (b - f) = sumI (fun _ => (0 : Int)) (b - f) := sumI_congr fun j hj => if_neg (by omega)
  rw [this, sumI_zero]
theorem cs_mono {b s m n : Nat} (h : m ≤ n) : cs b m s ≤ cs b n s := by
  have := (cs_some (b := b) (s := s) h).1
  omega
/-- the number at a place is one alone -/
theorem place_uniq {b s m n : Nat} (hm : dsum b m = s) (hn : dsum b n = s) (h : cs b m s = cs b n s) : m = n := by
  rcases Nat.lt_trichotomy m n with k | k | k
  · have := (cs_some (b := b) (s := s) (Nat.le_of_lt k)).2.mpr ⟨m, Nat.le_refl _, k, hm⟩
    omega
  · exact k
  · have := (cs_some (b := b) (s := s) (Nat.le_of_lt k)).2.mpr ⟨n, Nat.le_refl _, k, hn⟩
    omega
end M

set_option autoImplicit false
set_option linter.all false
namespace M
/-! ### the next number with the same sum (point 8) -/
/-- the greatest figures less a number's -/
theorem dsum_comp {b : Nat} (hb : 2 ≤ b) : ∀ k i, i < b ^ k → dsum b (b ^ k - 1 - i) + dsum b i = (b - 1) * k
  | 0, i, h => by
    have : i = 0 := by rw [Nat.pow_zero] at h; omega
    subst this
    rw [Nat.pow_zero]
    show dsum b 0 + dsum b 0 = _
    rw [dsum_small (by omega : 0 < b)]
    omega
  | k + 1, i, h => by
    have hm := Nat.mod_lt i (show 0 < b by omega)
    have hd := Nat.div_add_mod i b
    have hq : i / b < b ^ k := Nat.div_lt_of_lt_mul (by rw [Nat.mul_comm, ← Nat.pow_succ]; exact h)
    have ih := dsum_comp hb k (i / b) hq
    have e : b ^ (k + 1) - 1 - i = (b ^ k - 1 - i / b) * b + (b - 1 - i % b) := by
      rw [Nat.pow_succ, Nat.sub_mul, Nat.sub_mul]
      have h1 : i / b * b = b * (i / b) := Nat.mul_comm _ _
      have h2 : (i / b + 1) * b ≤ b ^ k * b := Nat.mul_le_mul_right b hq
      rw [Nat.add_mul, Nat.one_mul] at h2
      omega
    rw [e, dsum_snoc hb (by omega), dsum_step hb i, Nat.mul_add]
    omega
theorem frec_below {b k s : Nat} (hb : 2 ≤ b) (h : s ≤ (b - 1) * k) : frec b s < b ^ k := by
  have h1 := frec_mono hb h
  rw [Nat.mul_comm, frec_pow hb] at h1
  have := Nat.pow_pos (n := k) (show 0 < b by omega)
  omega
/-- low is the greatest number of k places with its sum -/
def Top (b k low : Nat) : Prop := low < b ^ k ∧ low + frec b ((b - 1) * k - dsum b low) = b ^ k - 1
theorem Top.no {b k low i : Nat} (hb : 2 ≤ b) (h : Top b k low) (h1 : low < i) (h2 : i < b ^ k) : dsum b i ≠ dsum b low := fun e => by
  have c := dsum_comp hb k i h2
  have f := frec_le hb (b ^ k - 1 - i)
  have e2 : dsum b (b ^ k - 1 - i) = (b - 1) * k - dsum b low := by omega
  rw [e2] at f
  have := h.2
  omega
theorem top_zero (b : Nat) (hb : 2 ≤ b) : Top b 0 0 := by
  refine ⟨by rw [Nat.pow_zero]; omega, ?_⟩
  rw [Nat.mul_zero, Nat.zero_sub, frec_zero, Nat.pow_zero]
theorem frec_add {b : Nat} (hb : 2 ≤ b) (k r : Nat) (hr : r ≤ b - 1) : frec b ((b - 1) * k + r) = r * b ^ k + (b ^ k - 1) := by
  by_cases c : r = b - 1
  · subst c
    have e : (b - 1) * k + (b - 1) = (k + 1) * (b - 1) := by rw [Nat.add_mul, Nat.mul_comm]; omega
    rw [e, frec_pow hb, Nat.pow_succ]
    have hw := Nat.pow_pos (n := k) (show 0 < b by omega)
    generalize b ^ k = w at *
    obtain ⟨d, rfl⟩ : ∃ d, b = d + 1 := ⟨b - 1, by omega⟩
    rw [Nat.add_sub_cancel, Nat.mul_add, Nat.mul_comm w d]
    omega
  · unfold frec
    have e1 : ((b - 1) * k + r) % (b - 1) = r := by rw [Nat.mul_add_mod, Nat.mod_eq_of_lt (by omega)]
    have e2 : ((b - 1) * k + r) / (b - 1) = k := by rw [Nat.mul_add_div (by omega), Nat.div_eq_of_lt (by omega), Nat.add_zero]
    rw [e1, e2]
theorem dsum_top {b k low f : Nat} (hb : 2 ≤ b) (hl : low < b ^ k) (hf : f < b) : dsum b (f * b ^ k + low) = f + dsum b low := by
  rw [dsum_ahead hb hl, dsum_small hf]
theorem top_more {b k low f : Nat} (hb : 2 ≤ b) (h : Top b k low) (hf : f < b) (c : dsum b low = 0 ∨ f = b - 1) : Top b (k + 1) (f * b ^ k + low) := by
  obtain ⟨h1, h2⟩ := h
  have hw := Nat.pow_pos (n := k) (show 0 < b by omega)
  have hfb : (f + 1) * b ^ k ≤ b * b ^ k := Nat.mul_le_mul_right _ hf
  rw [Nat.add_mul, Nat.one_mul] at hfb
  have ep : b ^ (k + 1) = b * b ^ k := by rw [Nat.pow_succ, Nat.mul_comm]
  refine ⟨by rw [ep]; omega, ?_⟩
  rw [dsum_top hb h1 hf, ep]
  have hk1 : (b - 1) * (k + 1) = (b - 1) * k + (b - 1) := Nat.mul_succ _ _
  have hdl := dsum_many hb k low h1
  rcases c with c | c
  · have hl0 : low = 0 := by
      rcases Nat.eq_zero_or_pos low with z | z
      · exact z
      · have := dsum_pos hb low z; omega
    subst hl0
    rw [c, hk1]
    have e : (b - 1) * k + (b - 1) - (f + 0) = (b - 1) * k + (b - 1 - f) := by omega
    rw [e, frec_add hb k _ (by omega)]
    have e2 : (b - 1 - f) * b ^ k + (f + 1) * b ^ k = b * b ^ k := by rw [← Nat.add_mul]; congr 1; omega
    rw [Nat.add_mul, Nat.one_mul] at e2
    omega
  · subst c
    rw [hk1]
    have e : (b - 1) * k + (b - 1) - (b - 1 + dsum b low) = (b - 1) * k - dsum b low := by omega
    rw [e]
    have e2 : (b - 1) * b ^ k + b ^ k = b * b ^ k := by
      have : (b - 1 + 1) * b ^ k = b * b ^ k := by congr 1; omega
      rw [Nat.add_mul, Nat.one_mul] at this
      exact this
    omega
/-- the next greater number with the same sum -/
def NextG (b n g : Nat) : Prop := n < g ∧ dsum b g = dsum b n ∧ ∀ m, n < m → m < g → dsum b m ≠ dsum b n
theorem next_found {b k low h f : Nat} (hb : 2 ≤ b) (t : Top b k low) (hf : f < b - 1) (hp : 0 < dsum b low) :
    NextG b ((h * b + f) * b ^ k + low) ((h * b + f + 1) * b ^ k + frec b (dsum b low - 1)) := by
  obtain ⟨h1, h2⟩ := id t
  have hdl := dsum_many hb k low h1
  have hfr := frec_below (k := k) (s := dsum b low - 1) hb (by omega)
  have e1 : dsum b ((h * b + f) * b ^ k + low) = dsum b h + f + dsum b low := by rw [dsum_ahead hb h1, dsum_snoc hb (by omega)]
  have e2 : ∀ i, i < b ^ k → dsum b ((h * b + f + 1) * b ^ k + i) = dsum b h + f + 1 + dsum b i := fun i hi => by
    rw [dsum_ahead hb hi]
    have : h * b + f + 1 = h * b + (f + 1) := by omega
    rw [this, dsum_snoc hb (by omega)]
    omega
  have e3 : (h * b + f + 1) * b ^ k = (h * b + f) * b ^ k + b ^ k := by rw [Nat.add_mul, Nat.one_mul]
  refine ⟨by rw [e3]; omega, ?_, fun m a1 a2 => ?_⟩
  · rw [e2 _ hfr, e1, dsum_frec hb]; omega
  · rw [e1]
    rcases Nat.lt_or_ge m ((h * b + f + 1) * b ^ k) with z | z
    · obtain ⟨i, rfl⟩ : ∃ i, m = (h * b + f) * b ^ k + i := ⟨m - (h * b + f) * b ^ k, by omega⟩
      have hi : i < b ^ k := by omega
      rw [dsum_ahead hb hi, dsum_snoc hb (by omega)]
      have := t.no hb (show low < i by omega) hi
      omega
    · obtain ⟨i, rfl⟩ : ∃ i, m = (h * b + f + 1) * b ^ k + i := ⟨m - (h * b + f + 1) * b ^ k, by omega⟩
      have hi : i < b ^ k := by omega
      rw [e2 i hi]
      intro z2
      have h5 := frec_le hb i
      have : dsum b i = dsum b low - 1 := by omega
      rw [this] at h5
      omega
theorem NextG.uniq {b n g g2 : Nat} (h : NextG b n g) (k : NextG b n g2) : g = g2 := by
  obtain ⟨h1, h2, h3⟩ := h
  obtain ⟨k1, k2, k3⟩ := k
  rcases Nat.lt_trichotomy g g2 with z | z | z
  · exact absurd h2 (k3 g h1 z)
  · exact z
  · exact absurd k2 (h3 g2 k1 z)
/-- the next lesser one -/
def NextL (b n l : Nat) : Prop := l < n ∧ dsum b l = dsum b n ∧ ∀ m, l < m → m < n → dsum b m ≠ dsum b n
theorem mirror {b k n g : Nat} (hb : 2 ≤ b) (hn : n < b ^ k) (h : NextG b (b ^ k - 1 - n) g) : (g < b ^ k → NextL b n (b ^ k - 1 - g)) ∧ (b ^ k ≤ g → ∀ m, m < n → dsum b m ≠ dsum b n) := by
  obtain ⟨h1, h2, h3⟩ := h
  have cn := dsum_comp hb k n hn
  have key : ∀ m, m < n → dsum b m = dsum b n → g ≤ b ^ k - 1 - m := fun m hm e => by
    have cm := dsum_comp hb k m (by omega)
    rcases Nat.lt_or_ge (b ^ k - 1 - m) g with z | z
    · exact absurd (by omega) (h3 (b ^ k - 1 - m) (by omega) z)
    · exact z
  refine ⟨fun c => ?_, fun c m hm e => ?_⟩
  · have cg := dsum_comp hb k g c
    refine ⟨by omega, ?_, fun m a1 a2 e => ?_⟩
    · have c2 := dsum_comp hb k (b ^ k - 1 - g) (by omega)
      have : b ^ k - 1 - (b ^ k - 1 - g) = g := by omega
      rw [this] at c2
      omega
    · have := key m a2 e; omega
  · have := key m hm e
    omega
end M

set_option autoImplicit false
set_option linter.all false
namespace M
/-! ### told sums, turned about and counted up -/
theorem sumI_rev (g : Nat → Int) : ∀ n, sumI (fun i => g (n - 1 - i)) n = sumI g n
  | 0 => rfl
  | n + 1 => by
    rw [sumI_front, Nat.add_sub_cancel, Nat.sub_zero]
    have e : sumI (fun j => g (n - (j + 1))) n = sumI g n := by
      rw [← sumI_rev g n]
      exact sumI_congr fun i hi => by congr 1; omega
    rw [e]
    show _ = sumI g n + g n
    omega
theorem turn_iff {b k s i : Nat} (hb : 2 ≤ b) (hs : s ≤ (b - 1) * k) (hi : i < b ^ k) : dsum b (b ^ k - 1 - i) = (b - 1) * k - s ↔ dsum b i = s := by
  have := dsum_comp hb k i hi
  omega
theorem cs_turn {b k s : Nat} (hb : 2 ≤ b) (hs : s ≤ (b - 1) * k) : cs b (b ^ k) ((b - 1) * k - s) = cs b (b ^ k) s := by
  unfold cs
  rw [← sumI_rev]
  exact sumI_congr fun i hi => by
    by_cases c : dsum b i = s
    · rw [if_pos c, if_pos ((turn_iff hb hs hi).mpr c)]
    · rw [if_neg c, if_neg fun z => c ((turn_iff hb hs hi).mp z)]
theorem vs_turn {b k s : Nat} (hb : 2 ≤ b) (hs : s ≤ (b - 1) * k) : vs_ b (b ^ k) s + vs_ b (b ^ k) ((b - 1) * k - s) = cs b (b ^ k) s * (((b ^ k : Nat) : Int) - 1) := by
  have e : vs_ b (b ^ k) ((b - 1) * k - s) = sumI (fun i => if dsum b i = s then ((b ^ k - 1 - i : Nat) : Int) else 0) (b ^ k) := by
    unfold vs_
    rw [← sumI_rev]
    exact sumI_congr fun i hi => by
      by_cases c : dsum b i = s
      · rw [if_pos c, if_pos ((turn_iff hb hs hi).mpr c)]
      · rw [if_neg c, if_neg fun z => c ((turn_iff hb hs hi).mp z)]
  rw [e, Int.mul_comm]
  unfold vs_ cs
  rw [← sumI_add, ← sumI_mul]
  exact sumI_congr fun i hi => by
    by_cases c : dsum b i = s
    · rw [if_pos c, if_pos c, if_pos c, Int.mul_one]; omega
    · rw [if_neg c, if_neg c, if_neg c, Int.mul_zero]; omega
theorem cs_all {b n T : Nat} (h : ∀ i, i < n → dsum b i < T) : sumI (fun t => cs b n t) T = (n : Int) := by
  unfold cs
  rw [sumI_swap (fun t i => if dsum b i = t then (1 : Int) else 0)]
  have e : sumI (fun c => sumI (fun a => if dsum b c = a then (1 : Int) else 0) T) n = sumI (fun _ => (1 : Int)) n := sumI_congr fun i hi => by
    have := sumI_pick (dsum b i) (fun _ => 1) T (h i hi)
    refine Eq.trans (sumI_congr fun a _ => ?_) this
    · by_cases c : a = dsum b i
      · rw [if_pos c, if_pos c.symm]
      · rw [if_neg c, if_neg fun z => c z.symm]
  rw [e, sumI_const, Int.mul_one]
theorem vs_all {b n T : Nat} (h : ∀ i, i < n → dsum b i < T) : sumI (fun t => vs_ b n t) T = sumI (fun i => (i : Int)) n := by
  unfold vs_
  rw [sumI_swap (fun t i => if dsum b i = t then (i : Int) else 0)]
  exact sumI_congr fun i hi => by
    have := sumI_pick (dsum b i) (fun _ => (i : Int)) T (h i hi)
    refine Eq.trans (sumI_congr fun a _ => ?_) this
    · by_cases c : a = dsum b i
      · rw [if_pos c, if_pos c.symm]
      · rw [if_neg c, if_neg fun z => c z.symm]
theorem sumI_sub (g h : Nat → Int) (N : Nat) : sumI (fun n => g n - h n) N = sumI g N - sumI h N := by
  have e : sumI g N = sumI (fun n => (g n - h n) + h n) N := sumI_congr fun n _ => by omega
  rw [e, sumI_add]; omega
theorem cs_step (b n s : Nat) : cs b (n + 1) s = cs b n s + if dsum b n = s then 1 else 0 := rfl
theorem nextL_place {b n l : Nat} (h1 : dsum b l = dsum b n) (h2 : cs b l (dsum b n) + 1 = cs b n (dsum b n)) : NextL b n l := by
  have hl : l < n := by
    rcases Nat.lt_or_ge l n with z | z
    · exact z
    · have := cs_mono (b := b) (s := dsum b n) z; omega
  refine ⟨hl, h1, fun m a1 a2 e => ?_⟩
  have s1 := cs_step b l (dsum b n)
  have s2 := cs_step b m (dsum b n)
  rw [if_pos h1] at s1
  rw [if_pos e] at s2
  have m1 := cs_mono (b := b) (s := dsum b n) (show l + 1 ≤ m by omega)
  have m2 := cs_mono (b := b) (s := dsum b n) (show m + 1 ≤ n by omega)
  omega
theorem NextL.uniq {b n l l2 : Nat} (h : NextL b n l) (k : NextL b n l2) : l = l2 := by
  obtain ⟨h1, h2, h3⟩ := h
  obtain ⟨k1, k2, k3⟩ := k
  rcases Nat.lt_trichotomy l l2 with z | z | z
  · exact absurd k2 (h3 l2 z k1)
  · exact z
  · exact absurd h2 (k3 l z h1)
theorem cs_same {b s m n : Nat} (h : m ≤ n) (k : ∀ i, m ≤ i → i < n → dsum b i ≠ s) : cs b n s = cs b m s := by
  have := cs_some (b := b) (s := s) h
  rcases Int.lt_or_le 0 (cs b n s - cs b m s) with z | z
  · obtain ⟨i, a1, a2, a3⟩ := this.2.mp z
    exact absurd a3 (k i a1 a2)
  · have := this.1; omega
theorem NextG.place {b n g : Nat} (h : NextG b n g) : cs b g (dsum b n) = cs b n (dsum b n) + 1 := by
  obtain ⟨h1, h2, h3⟩ := h
  have s1 := cs_step b n (dsum b n)
  rw [if_pos rfl] at s1
  rw [← s1]
  exact cs_same (by omega) fun i a1 a2 => h3 i (by omega) a2
theorem NextL.place {b n l : Nat} (h : NextL b n l) : cs b n (dsum b n) = cs b l (dsum b n) + 1 := by
  obtain ⟨h1, h2, h3⟩ := h
  have s1 := cs_step b l (dsum b n)
  rw [if_pos h2] at s1
  rw [← s1]
  exact cs_same (by omega) fun i a1 a2 => h3 i (by omega) a2
theorem NextG.le_times {b n g : Nat} (hb : 2 ≤ b) (hn : 0 < n) (h : NextG b n g) : g ≤ n * b := by
  obtain ⟨h1, h2, h3⟩ := h
  rcases Nat.lt_or_ge (n * b) g with z | z
  · have e : dsum b (n * b + 0) = dsum b n + 0 := dsum_snoc hb (by omega)
    have : n * 2 ≤ n * b := Nat.mul_le_mul_left _ hb
    exact absurd e (h3 (n * b) (by omega) z)
  · exact z
theorem cs_cw (b s n p : Nat) (h : n ≤ b ^ p) : cs b n s ≤ cw b p s := cs_mono (b := b) (s := s) h
theorem dsum_le_self {b : Nat} (hb : 2 ≤ b) (n : Nat) : dsum b n ≤ n := by
  have := frec_le hb n
  have := frec_ge hb (dsum b n)
  omega
theorem dsum_few {b n : Nat} (h1 : 5 ≤ b) (h2 : b ≤ 16) (hn : n < 110000) : dsum b n < 64 := by
  have cut : ∀ p q : Nat, n / b ^ p ≤ q → dsum b n ≤ q + (b - 1) * p := fun p q h => by
    have hb : 2 ≤ b := by omega
    have hp := Nat.pow_pos (n := p) (show 0 < b by omega)
    have hm := Nat.mod_lt n hp
    have hd := Nat.div_add_mod n (b ^ p)
    rw [Nat.mul_comm] at hd
    have e := dsum_ahead hb (k := n / b ^ p) hm
    rw [hd] at e
    have a1 := dsum_le_self hb (n / b ^ p)
    have a2 := dsum_many hb p (n % b ^ p) hm
    omega
  rcases (by omega : b = 5 ∨ b = 6 ∨ b = 7 ∨ b = 8 ∨ b = 9 ∨ b = 10 ∨ b = 11 ∨ b = 12 ∨ b = 13 ∨ b = 14 ∨ b = 15 ∨ b = 16) with e | e | e | e | e | e | e | e | e | e | e | e <;> subst e
  · have := cut 8 0 (by omega); omega
  · have := cut 7 0 (by omega); omega
  · have := cut 6 0 (by omega); omega
  · have := cut 6 0 (by omega); omega
  · have := cut 6 0 (by omega); omega
  · have := cut 6 0 (by omega); omega
  · have := cut 6 0 (by omega); omega
  · have := cut 4 5 (by omega); omega
  · have := cut 4 3 (by omega); omega
  · have := cut 4 2 (by omega); omega
  · have := cut 4 2 (by omega); omega
  · have := cut 4 1 (by omega); omega
theorem pow200 {b n : Nat} (hb : 2 ≤ b) (h : n ≤ 1000000000000000000000000000000000) : n ≤ b ^ 200 := by
  have h1 : (2 : Nat) ^ 200 ≤ b ^ 200 := Nat.pow_le_pow_left hb 200
  omega
theorem next_room {b n : Nat} (hb : 2 ≤ b) (hb2 : b ≤ 16) (h0 : 0 < n) (h : n ≤ 1000000000000000000000000000000) : cs b n (dsum b n) + 2 ≤ cw b 200 (dsum b n) := by
  have e : dsum b (n * b + 0) = dsum b n + 0 := dsum_snoc hb (by omega)
  rw [Nat.add_zero, Nat.add_zero] at e
  have h2 : n * 2 ≤ n * b := Nat.mul_le_mul_left _ hb
  have h3 : n * b ≤ n * 16 := Nat.mul_le_mul_left _ hb2
  have s1 := cs_step b n (dsum b n)
  have s2 := cs_step b (n * b) (dsum b n)
  rw [if_pos rfl] at s1
  rw [if_pos e] at s2
  have m1 := cs_mono (b := b) (s := dsum b n) (show n + 1 ≤ n * b by omega)
  have m2 := cs_cw b (dsum b n) (n * b + 1) 200 (pow200 hb (by omega))
  omega
theorem cs_nonneg (b n s : Nat) : 0 ≤ cs b n s := cs_mono (b := b) (s := s) (Nat.zero_le n)
theorem span (a c : Int) : (a + (c - 1)) * (c - a) = (c * c - c) - (a * a - a) := by
  rw [Int.mul_sub, Int.add_mul, Int.add_mul, Int.sub_mul, Int.sub_mul, Int.mul_comm c a]
  omega
theorem told_many {b f l : Nat} (h1 : 5 ≤ b) (h2 : b ≤ 16) (hl : l < 110000) (hf : f ≤ l) : sumI (fun j => cs b (l + 1) j - cs b f j) 64 = (l : Int) + 1 - (f : Int) := by
  rw [sumI_sub, cs_all fun i hi => dsum_few h1 h2 (by omega), cs_all fun i hi => dsum_few h1 h2 (by omega)]
  omega
theorem told_value {b f l : Nat} (h1 : 5 ≤ b) (h2 : b ≤ 16) (hl : l < 110000) (hf : f ≤ l) : ((f : Int) + (l : Int)) * ((l : Int) + 1 - (f : Int)) = 2 * sumI (fun j => vs_ b (l + 1) j - vs_ b f j) 64 := by
  rw [sumI_sub, vs_all fun i hi => dsum_few h1 h2 (by omega), vs_all fun i hi => dsum_few h1 h2 (by omega)]
  have a1 := sumI_id (l + 1)
  have a2 := sumI_id f
  have e := span (f : Int) ((l : Int) + 1)
  have e2 : (l : Int) + 1 - 1 = (l : Int) := by omega
  rw [e2] at e
  rw [e]
  have e3 : ((l + 1 : Nat) : Int) = (l : Int) + 1 := by omega
  rw [e3] at a1
  omega
theorem dsum_400 {b n : Nat} (hb : 2 ≤ b) (hb2 : b ≤ 16) (hn : n ≤ 1000000000000000000000000000000) : dsum b n ≤ 400 := by
  rcases (by omega : b = 2 ∨ b = 3 ∨ b = 4 ∨ b = 5 ∨ b = 6 ∨ b = 7 ∨ b = 8 ∨ b = 9 ∨ b = 10 ∨ b = 11 ∨ b = 12 ∨ b = 13 ∨ b = 14 ∨ b = 15 ∨ b = 16) with e | e | e | e | e | e | e | e | e | e | e | e | e | e | e <;> subst e
  · have := dsum_many hb 100 n (Nat.lt_of_le_of_lt hn (by decide +kernel)); omega
  · have := dsum_many hb 63 n (Nat.lt_of_le_of_lt hn (by decide +kernel)); omega
  · have := dsum_many hb 50 n (Nat.lt_of_le_of_lt hn (by decide +kernel)); omega
  · have := dsum_many hb 43 n (Nat.lt_of_le_of_lt hn (by decide +kernel)); omega
  · have := dsum_many hb 39 n (Nat.lt_of_le_of_lt hn (by decide +kernel)); omega
  · have := dsum_many hb 36 n (Nat.lt_of_le_of_lt hn (by decide +kernel)); omega
  · have := dsum_many hb 34 n (Nat.lt_of_le_of_lt hn (by decide +kernel)); omega
  · have := dsum_many hb 32 n (Nat.lt_of_le_of_lt hn (by decide +kernel)); omega
  · have := dsum_many hb 31 n (Nat.lt_of_le_of_lt hn (by decide +kernel)); omega
  · have := dsum_many hb 29 n (Nat.lt_of_le_of_lt hn (by decide +kernel)); omega
  · have := dsum_many hb 28 n (Nat.lt_of_le_of_lt hn (by decide +kernel)); omega
  · have := dsum_many hb 27 n (Nat.lt_of_le_of_lt hn (by decide +kernel)); omega
  · have := dsum_many hb 27 n (Nat.lt_of_le_of_lt hn (by decide +kernel)); omega
  · have := dsum_many hb 26 n (Nat.lt_of_le_of_lt hn (by decide +kernel)); omega
  · have := dsum_many hb 25 n (Nat.lt_of_le_of_lt hn (by decide +kernel)); omega
theorem cw_none0 {b : Nat} (hb : 2 ≤ b) (p : Nat) : cw b p 0 = 1 := by
  have hp := Nat.pow_pos (n := p) (show 0 < b by omega)
  have h : cs b (b ^ p) 0 = cs b 1 0 := cs_same (by omega) fun i a1 a2 => by
    have := dsum_pos hb i (by omega)
    omega
  have h1 : cs b 1 0 = cs b 0 0 + if dsum b 0 = 0 then 1 else 0 := rfl
  rw [dsum_small (by omega : 0 < b), if_pos rfl] at h1
  have h2 : cs b 0 0 = 0 := rfl
  have h3 : cw b p 0 = cs b (b ^ p) 0 := rfl
  omega
end M

set_option Elab.async false
set_option linter.all false
namespace M
/-! carries of adding, by the sums -/
def carr (b x y c : Nat) : Nat := (dsum b x + dsum b y + c - dsum b (x + y + c)) / (b - 1)
/-- what goes on to the next place -/
def over (b x y c : Nat) : Nat := if b ≤ x % b + y % b + c then 1 else 0
theorem over_le (b x y c : Nat) : over b x y c ≤ 1 := by unfold over; split <;> omega
theorem add_step {b x y c : Nat} (hb : 2 ≤ b) (hc : c ≤ 1) : (x + y + c) / b = x / b + y / b + over b x y c ∧ (x + y + c) % b + b * over b x y c = x % b + y % b + c := by
  have hx := Nat.div_add_mod x b
  have hy := Nat.div_add_mod y b
  have lx := Nat.mod_lt x (by omega : 0 < b)
  have ly := Nat.mod_lt y (by omega : 0 < b)
  have e : x + y + c = b * (x / b + y / b) + (x % b + y % b + c) := by rw [Nat.mul_add]; omega
  have e1 : (x + y + c) / b = x / b + y / b + (x % b + y % b + c) / b := by
    rw [e, Nat.mul_add_div (by omega)]
  have e2 : (x + y + c) % b = (x % b + y % b + c) % b := by rw [e, Nat.mul_add_mod]
  unfold over
  by_cases h : b ≤ x % b + y % b + c
  · rw [if_pos h]
    have d : (x % b + y % b + c) / b = 1 := by
      rw [Nat.div_eq_iff (by omega)]; omega
    have m : (x % b + y % b + c) % b = x % b + y % b + c - b := by
      rw [Nat.mod_eq_sub_mod h, Nat.mod_eq_of_lt (by omega)]
    rw [e1, e2, d, m]
    exact ⟨rfl, by omega⟩
  · rw [if_neg h]
    have d : (x % b + y % b + c) / b = 0 := Nat.div_eq_of_lt (by omega)
    rw [e1, e2, d, Nat.mod_eq_of_lt (by omega)]
    exact ⟨rfl, by omega⟩
theorem dsum_zero {b : Nat} (hb : 2 ≤ b) : dsum b 0 = 0 := dsum_small (by omega)
theorem carr_ex {b : Nat} (hb : 2 ≤ b) : ∀ N x y c, x + y ≤ N → c ≤ 1 → ∃ r, dsum b x + dsum b y + c = dsum b (x + y + c) + r * (b - 1) := by
  intro N
  induction N with
  | zero =>
    intro x y c h hc
    have e1 : x = 0 := by omega
    have e2 : y = 0 := by omega
    subst e1 e2
    refine ⟨0, ?_⟩
    rw [dsum_zero hb, Nat.zero_mul]
    show 0 + 0 + c = dsum b (0 + 0 + c) + 0
    rw [dsum_small (by omega)]; omega
  | succ N ih =>
    intro x y c h hc
    by_cases z : x + y = 0
    · exact ih x y c (by omega) hc
    · obtain ⟨s1, s2⟩ := add_step (x := x) (y := y) hb hc
      have lx : x / b ≤ x := Nat.div_le_self _ _
      have ly : y / b ≤ y := Nat.div_le_self _ _
      have lt : x / b + y / b < x + y := by
        rcases Nat.eq_zero_or_pos x with q | q
        · have := Nat.div_lt_self (n := y) (k := b) (by omega) (by omega); omega
        · have := Nat.div_lt_self (n := x) (k := b) q (by omega); omega
      obtain ⟨r, hr⟩ := ih (x / b) (y / b) (over b x y c) (by omega) (over_le b x y c)
      refine ⟨r + over b x y c, ?_⟩
      rw [dsum_step hb x, dsum_step hb y, dsum_step hb (x + y + c), s1, Nat.add_mul]
      have : b * over b x y c = over b x y c * (b - 1) + over b x y c := by
        obtain ⟨b', rfl⟩ : ∃ b', b = b' + 1 := ⟨b - 1, by omega⟩
        rw [Nat.add_sub_cancel, Nat.mul_comm, Nat.mul_add, Nat.mul_one]
      omega
theorem carr_eq {b x y c : Nat} (hb : 2 ≤ b) (hc : c ≤ 1) : dsum b x + dsum b y + c = dsum b (x + y + c) + carr b x y c * (b - 1) := by
  obtain ⟨r, hr⟩ := carr_ex hb _ x y c (Nat.le_refl _) hc
  have : carr b x y c = r := by
    unfold carr
    rw [hr, Nat.add_sub_cancel_left, Nat.mul_div_cancel _ (by omega)]
  rw [this]; exact hr
theorem carr_of {b x y c r : Nat} (hb : 2 ≤ b) (h : dsum b x + dsum b y + c = dsum b (x + y + c) + r * (b - 1)) : carr b x y c = r := by
  unfold carr
  rw [h, Nat.add_sub_cancel_left, Nat.mul_div_cancel _ (by omega)]
theorem carr_step {b x y c : Nat} (hb : 2 ≤ b) (hc : c ≤ 1) : carr b x y c = over b x y c + carr b (x / b) (y / b) (over b x y c) := by
  refine carr_of hb ?_
  have hr := carr_eq (x := x / b) (y := y / b) hb (over_le b x y c)
  obtain ⟨s1, s2⟩ := add_step (x := x) (y := y) hb hc
  rw [dsum_step hb x, dsum_step hb y, dsum_step hb (x + y + c), s1, Nat.add_mul]
  have : b * over b x y c = over b x y c * (b - 1) + over b x y c := by
    obtain ⟨b', rfl⟩ : ∃ b', b = b' + 1 := ⟨b - 1, by omega⟩
    rw [Nat.add_sub_cancel, Nat.mul_comm, Nat.mul_add, Nat.mul_one]
  omega
theorem carr_zero {b : Nat} (hb : 2 ≤ b) : carr b 0 0 0 = 0 := carr_of hb (by rw [Nat.zero_mul, dsum_zero hb])
theorem carr_comm (b x y c : Nat) : carr b x y c = carr b y x c := by unfold carr; rw [Nat.add_comm x y, Nat.add_comm (dsum b x)]
end M

set_option Elab.async false
set_option linter.all false
namespace M
/-! the sum of the next number, by the places that carry -/
theorem mod_of_dvd_succ {b m : Nat} (hb : 2 ≤ b) (d : b ∣ m + 1) : m % b = b - 1 ∧ (m + 1) / b = m / b + 1 ∧ (m + 1) % b = 0 := by
  obtain ⟨k, hk⟩ := d
  have hk0 : 0 < k := by
    rcases Nat.eq_zero_or_pos k with z | z
    · rw [z, Nat.mul_zero] at hk; omega
    · exact z
  obtain ⟨k', rfl⟩ : ∃ k', k = k' + 1 := ⟨k - 1, by omega⟩
  have e : m = b * k' + (b - 1) := by rw [Nat.mul_add] at hk; omega
  have l : b - 1 < b := by omega
  refine ⟨by rw [e, Nat.mul_add_mod, Nat.mod_eq_of_lt l], ?_, by rw [hk]; exact Nat.mul_mod_right b (k' + 1)⟩
  rw [hk, Nat.mul_div_cancel_left _ (by omega), e, Nat.mul_add_div (by omega), Nat.div_eq_of_lt l]
theorem dsum_next {b : Nat} (hb : 2 ≤ b) : ∀ j m, b ^ j ∣ m + 1 → ¬ b ^ (j + 1) ∣ m + 1 → dsum b (m + 1) + j * (b - 1) = dsum b m + 1
  | 0, m, _, h => by
    rw [Nat.zero_add, Nat.pow_one] at h
    have hl : m % b < b := Nat.mod_lt _ (by omega)
    have e := Nat.div_add_mod m b
    have hne : m % b + 1 < b := by
      rcases Nat.lt_or_ge (m % b + 1) b with z | z
      · exact z
      · exact absurd ⟨m / b + 1, by rw [Nat.mul_add]; omega⟩ h
    have e1 : m + 1 = b * (m / b) + (m % b + 1) := by omega
    rw [dsum_step hb (m + 1), dsum_step hb m]
    have a1 : (m + 1) % b = m % b + 1 := by
      have : (m + 1) % b = (b * (m / b) + (m % b + 1)) % b := congrArg (· % b) e1
      rw [this, Nat.mul_add_mod, Nat.mod_eq_of_lt hne]
    have a2 : (m + 1) / b = m / b := by
      have : (m + 1) / b = (b * (m / b) + (m % b + 1)) / b := congrArg (· / b) e1
      rw [this, Nat.mul_add_div (by omega), Nat.div_eq_of_lt hne]; rfl
    rw [a1, a2]; omega
  | j + 1, m, d, h => by
    have db : b ∣ m + 1 := Nat.dvd_trans ⟨b ^ j, by rw [Nat.pow_succ, Nat.mul_comm]⟩ d
    obtain ⟨a1, a2, a3⟩ := mod_of_dvd_succ hb db
    have k : m + 1 = b * (m / b + 1) := by
      have := Nat.div_add_mod (m + 1) b
      rw [a2, a3] at this; omega
    have ih := dsum_next hb j (m / b) (by
      rw [k, Nat.pow_succ, Nat.mul_comm] at d
      exact Nat.dvd_of_mul_dvd_mul_left (by omega) d) (fun z => h (by
      rw [k, Nat.pow_succ, Nat.mul_comm (b ^ (j + 1))]
      exact Nat.mul_dvd_mul_left b z))
    rw [dsum_step hb (m + 1), dsum_step hb m, a1, a2, a3, Nat.succ_mul]
    omega
theorem dsum_next_at {b p s j : Nat} (hb : 2 ≤ b) (d : b ^ p ∣ s) (h1 : b ^ (p + j) ∣ s + b ^ p) (h2 : ¬ b ^ (p + j + 1) ∣ s + b ^ p) : dsum b (s + b ^ p) + j * (b - 1) = dsum b s + 1 := by
  obtain ⟨m, rfl⟩ := d
  have hp : 0 < b ^ p := Nat.pow_pos (by omega)
  have e : b ^ p * m + b ^ p = b ^ p * (m + 1) := by rw [Nat.mul_add, Nat.mul_one]
  rw [e] at h1 h2 ⊢
  rw [Nat.mul_comm, dsum_pow hb, Nat.mul_comm (b ^ p) m, dsum_pow hb]
  refine dsum_next hb j m ?_ ?_
  · rw [Nat.pow_add] at h1
    exact Nat.dvd_of_mul_dvd_mul_left hp h1
  · intro z
    refine h2 ?_
    rw [Nat.add_assoc, Nat.pow_add]
    exact Nat.mul_dvd_mul_left _ z
end M

set_option Elab.async false
set_option linter.all false
namespace M
/-! all weighed sums below a number, place by place -/
def sb (n : Nat) : Int := sumI (fun r => (r : Int)) n
theorem sb_eq (n : Nat) : (n : Int) * ((n : Int) - 1) / 2 = sb n := by
  have h := sumI_id n
  have e : (n : Int) * ((n : Int) - 1) = 2 * sb n := by
    unfold sb
    rw [Int.mul_sub]; omega
  rw [e, Int.mul_ediv_cancel_left _ (by decide)]
theorem sb_nat (n : Nat) : ∃ k : Nat, sb n = (k : Int) ∧ k ≤ n * n := by
  have h := sumI_id n
  have e : ((n * n : Nat) : Int) = (n : Int) * (n : Int) := Int.natCast_mul _ _
  unfold sb
  have : 0 ≤ sumI (fun r => (r : Int)) n := by
    have : ∀ k : Nat, 0 ≤ sumI (fun r => (r : Int)) k := by
      intro k
      induction k with
      | zero => exact Int.le_refl 0
      | succ k ih => show 0 ≤ sumI (fun r => (r : Int)) k + (k : Int); omega
    exact this n
  exact ⟨(sumI (fun r => (r : Int)) n).toNat, by omega, by omega⟩
/-- what the figures at a place come to below N -/
def pl (b w N : Nat) : Int := (w : Int) * (((N / (w * b) : Nat) : Int) * sb b + sb (N % (w * b) / w)) + ((N % (w * b) % w : Nat) : Int) * ((N % (w * b) / w : Nat) : Int)
theorem mod_rows {b : Nat} (hb : 0 < b) (m d : Nat) (hd : d ≤ b) : sumI (fun q => ((q % b : Nat) : Int)) (m * b + d) = (m : Int) * sb b + sb d := by
  rw [sumI_shift, sumI_rows]
  have e1 : ∀ q k, k ≤ b → sumI (fun r => (((q * b + r) % b : Nat) : Int)) k = sb k := fun q k hk => sumI_congr fun r hr => by
    rw [Nat.mul_comm, Nat.mul_add_mod, Nat.mod_eq_of_lt (by omega)]
  rw [e1 m d hd, sumI_congr (fun q _ => e1 q b (Nat.le_refl _)), sumI_const]
theorem pl_sum {b w : Nat} (hb : 0 < b) (hw : 0 < w) (N : Nat) : sumI (fun n => ((n / w % b : Nat) : Int)) N = pl b w N := by
  have hN := Nat.div_add_mod N (w * b)
  have hl : N % (w * b) < w * b := Nat.mod_lt _ (Nat.mul_pos hw hb)
  have hR := Nat.div_add_mod (N % (w * b)) w
  unfold pl
  generalize N / (w * b) = m at *
  generalize N % (w * b) = R at *
  have hf : R / w < b := by rw [Nat.div_lt_iff_lt_mul hw, Nat.mul_comm]; exact hl
  have hl2 : R % w < w := Nat.mod_lt _ hw
  generalize R / w = f at *
  generalize R % w = l at *
  have eN : N = (m * b + f) * w + l := by
    rw [← hN, ← hR]; grind
  rw [eN, sumI_shift, sumI_rows]
  have e1 : ∀ q k, k ≤ w → sumI (fun r => (((q * w + r) / w % b : Nat) : Int)) k = (k : Int) * ((q % b : Nat) : Int) := fun q k hk => by
    rw [← sumI_const]
    refine sumI_congr fun r hr => ?_
    rw [Nat.mul_comm, Nat.mul_add_div hw, Nat.div_eq_of_lt (by omega), Nat.add_zero]
  rw [e1 (m * b + f) l (by omega), sumI_congr (fun q _ => e1 q w (Nat.le_refl _)), sumI_mul, mod_rows hb m f (by omega)]
  have : (m * b + f) % b = f := by rw [Nat.mul_comm, Nat.mul_add_mod, Nat.mod_eq_of_lt hf]
  rw [this]
theorem wg_places {b : Nat} (hb : 2 ≤ b) (W : Nat → Int) : ∀ K j n, n < b ^ K → wg b W j n = sumI (fun k => W (j + k) * ((n / b ^ k % b : Nat) : Int)) K
  | 0, j, n, h => by
    have : n = 0 := by rw [Nat.pow_zero] at h; omega
    subst this
    exact wg_zero b W j
  | K + 1, j, n, h => by
    have ih := wg_places hb W K (j + 1) (n / b) (by rw [Nat.div_lt_iff_lt_mul (by omega), ← Nat.pow_succ]; exact h)
    rw [wg_step hb, ih, Nat.add_comm K 1, sumI_shift]
    show _ = 0 + W (j + 0) * ((n / b ^ 0 % b : Nat) : Int) + _
    rw [Nat.pow_zero, Nat.div_one, Int.zero_add, Nat.add_zero, Int.mul_comm]
    congr 1
    refine sumI_congr fun k _ => ?_
    rw [Nat.pow_add, Nat.pow_one, Nat.div_div_eq_div_mul, Nat.add_assoc]
theorem wt_places {b : Nat} (hb : 2 ≤ b) (W : Nat → Int) {K N : Nat} (h : N ≤ b ^ K) : wt b W 0 N = sumI (fun k => W k * pl b (b ^ k) N) K := by
  unfold wt
  rw [sumI_congr (h := fun n => sumI (fun k => W k * ((n / b ^ k % b : Nat) : Int)) K) (fun n hn => by rw [wg_places hb W K 0 n (by omega)]; exact sumI_congr fun k _ => by rw [Nat.zero_add])]
  rw [sumI_swap]
  refine sumI_congr fun k _ => ?_
  rw [sumI_mul, pl_sum (by omega) (Nat.pow_pos (by omega))]
end M

set_option Elab.async false
set_option linter.all false
namespace M
/-! pairs without a carry (point 15) -/
def ncI (b x y : Nat) : Nat := if carr b x y 0 = 0 then 1 else 0
def prs (b A B : Nat) : Nat := sumTo (fun x => sumTo (ncI b x) B) A
/-- how many numbers below A end in the figure f -/
def upf (b f A : Nat) : Nat := (A + (b - 1 - f)) / b
theorem up_step {b f : Nat} (hb : 0 < b) (hf : f < b) (A : Nat) : upf b f (A + 1) = upf b f A + (if A % b = f then 1 else 0) ∧ (A % b = f → upf b f A = A / b) := by
  unfold upf
  have e := Nat.div_add_mod A b
  have hl := Nat.mod_lt A hb
  generalize A / b = q at *
  generalize A % b = r at *
  subst e
  have k : ∀ x, (b * q + x) / b = q + x / b := fun x => Nat.mul_add_div hb q x
  have e1 : b * q + r + 1 + (b - 1 - f) = b * q + (r + 1 + (b - 1 - f)) := by omega
  have e2 : b * q + r + (b - 1 - f) = b * q + (r + (b - 1 - f)) := by omega
  rw [e1, e2, k, k]
  have v : ∀ x, x < b → x / b = 0 := fun x h => Nat.div_eq_of_lt h
  have w : ∀ x, b ≤ x → x < 2 * b → x / b = 1 := fun x h1 h2 => by rw [Nat.div_eq_iff hb]; omega
  rcases Nat.lt_trichotomy r f with h | h | h
  · rw [v (r + 1 + (b - 1 - f)) (by omega), v (r + (b - 1 - f)) (by omega), if_neg (by omega)]
    exact ⟨rfl, fun z => by omega⟩
  · rw [w (r + 1 + (b - 1 - f)) (by omega) (by omega), v (r + (b - 1 - f)) (by omega), if_pos h]
    exact ⟨by omega, fun _ => by omega⟩
  · rw [w (r + 1 + (b - 1 - f)) (by omega) (by omega), w (r + (b - 1 - f)) (by omega) (by omega), if_neg (by omega)]
    exact ⟨by omega, fun z => by omega⟩
theorem up_zero {b f : Nat} (hf : f < b) : upf b f 0 = 0 := by unfold upf; exact Nat.div_eq_of_lt (by omega)
/-- a sum by last figures -/
theorem sum_last {b : Nat} (hb : 0 < b) (g : Nat → Nat) : ∀ A, sumTo g A = sumTo (fun f => sumTo (fun q => g (q * b + f)) (upf b f A)) b
  | 0 => by
    have : sumTo (fun f => sumTo (fun q => g (q * b + f)) (upf b f 0)) b = sumTo (fun _ => 0) b := sumTo_congr fun f hf => by rw [up_zero hf]; rfl
    rw [this, sumTo_zero]; rfl
  | A + 1 => by
    have hl := Nat.mod_lt A hb
    have e := Nat.div_add_mod A b
    show sumTo g A + g A = _
    rw [sum_last hb g A]
    have : sumTo (fun f => sumTo (fun q => g (q * b + f)) (upf b f (A + 1))) b = sumTo (fun f => sumTo (fun q => g (q * b + f)) (upf b f A) + (if A % b = f then g A else 0)) b := by
      refine sumTo_congr fun f hf => ?_
      obtain ⟨h1, h2⟩ := up_step hb hf A
      rw [h1]
      by_cases c : A % b = f
      · rw [if_pos c, if_pos c, h2 c]
        show sumTo _ (A / b) + g (A / b * b + f) = _
        congr 2
        rw [Nat.mul_comm]; omega
      · rw [if_neg c, if_neg c]; rfl
    rw [this, sumTo_add, sumTo_pick (A % b) (fun _ => g A) b hl]
theorem ncI_last {b x y f s : Nat} (hb : 2 ≤ b) (hf : f < b) (hs : s < b) : ncI b (x * b + f) (y * b + s) = if f + s < b then ncI b x y else 0 := by
  unfold ncI
  rw [carr_step hb (by omega : 0 ≤ 1)]
  have m : ∀ q r, r < b → (q * b + r) % b = r ∧ (q * b + r) / b = q := fun q r h => by
    rw [Nat.mul_comm, Nat.mul_add_mod, Nat.mod_eq_of_lt h, Nat.mul_add_div (by omega), Nat.div_eq_of_lt h]; exact ⟨rfl, rfl⟩
  unfold over
  rw [(m x f hf).1, (m x f hf).2, (m y s hs).1, (m y s hs).2]
  by_cases c : f + s < b
  · rw [if_neg (show ¬ b ≤ f + s + 0 by omega), if_pos c, Nat.zero_add]
  · rw [if_pos (show b ≤ f + s + 0 by omega), if_neg c]
    exact if_neg (by omega)
theorem sumTo_le_cut {n m : Nat} (g : Nat → Nat) (h : m ≤ n) : sumTo (fun s => if s < m then g s else 0) n = sumTo g m := by
  obtain ⟨k, rfl⟩ : ∃ k, n = m + k := ⟨n - m, by omega⟩
  rw [sumTo_shift, sumTo_congr (g := fun s => if s < m then g s else 0) (h := g) (fun s hs => if_pos hs)]
  have : sumTo (fun r => if m + r < m then g (m + r) else 0) k = sumTo (fun _ => 0) k := sumTo_congr fun r _ => if_neg (by omega)
  rw [this, sumTo_zero, Nat.add_zero]
/-- the law's way: by last figures -/
theorem prs_last {b : Nat} (hb : 2 ≤ b) (A B : Nat) : prs b A B = sumTo (fun f => sumTo (fun s => prs b (upf b f A) (upf b s B)) (b - f)) b := by
  unfold prs
  rw [sum_last (by omega : 0 < b) (fun x => sumTo (ncI b x) B) A]
  refine sumTo_congr fun f hf => ?_
  have e : sumTo (fun q => sumTo (ncI b (q * b + f)) B) (upf b f A) = sumTo (fun q => sumTo (fun s => if s < b - f then sumTo (ncI b q) (upf b s B) else 0) b) (upf b f A) := by
    refine sumTo_congr fun q _ => ?_
    rw [sum_last (by omega : 0 < b) (ncI b (q * b + f)) B]
    refine sumTo_congr fun s hs => ?_
    have : sumTo (fun y => ncI b (q * b + f) (y * b + s)) (upf b s B) = sumTo (fun y => if s < b - f then ncI b q y else 0) (upf b s B) := by
      refine sumTo_congr fun y _ => ?_
      rw [ncI_last hb hf hs]
      by_cases c : s < b - f
      · rw [if_pos (by omega), if_pos c]
      · rw [if_neg (by omega), if_neg c]
    rw [this]
    by_cases c : s < b - f
    · rw [if_pos c]; exact sumTo_congr fun y _ => if_pos c
    · rw [if_neg c, sumTo_congr (h := fun _ => 0) (fun y _ => if_neg c), sumTo_zero]
  rw [e, sumTo_swap (fun q s => if s < b - f then sumTo (ncI b q) (upf b s B) else 0) b]
  have e2 : sumTo (fun s => sumTo (fun q => if s < b - f then sumTo (ncI b q) (upf b s B) else 0) (upf b f A)) b = sumTo (fun s => if s < b - f then sumTo (fun q => sumTo (ncI b q) (upf b s B)) (upf b f A) else 0) b := by
    refine sumTo_congr fun s _ => ?_
    by_cases c : s < b - f
    · rw [if_pos c]; exact sumTo_congr fun q _ => if_pos c
    · rw [if_neg c, sumTo_congr (h := fun _ => 0) (fun q _ => if_neg c), sumTo_zero]
  rw [e2, sumTo_le_cut _ (Nat.sub_le b f)]
/-! the program's way: by greatest figures -/
theorem ncI_top {b : Nat} (hb : 2 ≤ b) : ∀ k x y f s, x < b ^ k → y < b ^ k → f < b → s < b → ncI b (f * b ^ k + x) (s * b ^ k + y) = if f + s < b then ncI b x y else 0
  | 0, x, y, f, s, hx, hy, hf, hs => by
    have e1 : x = 0 := by rw [Nat.pow_zero] at hx; omega
    have e2 : y = 0 := by rw [Nat.pow_zero] at hy; omega
    subst e1 e2
    rw [Nat.pow_zero, Nat.mul_one, Nat.mul_one]
    have h := ncI_last (x := 0) (y := 0) hb hf hs
    rw [Nat.zero_mul, Nat.zero_add, Nat.zero_add] at h
    exact h
  | k + 1, x, y, f, s, hx, hy, hf, hs => by
    have hb0 : 0 < b := by omega
    have ex := Nat.div_add_mod x b
    have ey := Nat.div_add_mod y b
    have lx := Nat.mod_lt x hb0
    have ly := Nat.mod_lt y hb0
    have dx : x / b < b ^ k := by rw [Nat.div_lt_iff_lt_mul hb0, ← Nat.pow_succ]; exact hx
    have dy : y / b < b ^ k := by rw [Nat.div_lt_iff_lt_mul hb0, ← Nat.pow_succ]; exact hy
    have r : ∀ f x, f * b ^ (k + 1) + x = (f * b ^ k + x / b) * b + x % b := fun f x => by
      have := Nat.div_add_mod x b
      rw [Nat.pow_succ, Nat.add_mul, Nat.mul_assoc, Nat.add_assoc, Nat.mul_comm (x / b) b, this]
    have r0 : ∀ x, x = (x / b) * b + x % b := fun x => by rw [Nat.mul_comm]; exact (Nat.div_add_mod x b).symm
    rw [r f x, r s y, ncI_last hb lx ly, ncI_top hb k _ _ f s dx dy hf hs]
    have h := ncI_last (x := x / b) (y := y / b) hb lx ly
    rw [← r0 x, ← r0 y] at h
    rw [h]
    by_cases c : x % b + y % b < b
    · rw [if_pos c, if_pos c]
    · rw [if_neg c, if_neg c]; split <;> rfl
theorem sumTo_rows (g : Nat → Nat) (w : Nat) : ∀ m, sumTo g (m * w) = sumTo (fun q => sumTo (fun r => g (q * w + r)) w) m
  | 0 => by rw [Nat.zero_mul]; rfl
  | m + 1 => by
    rw [Nat.add_mul, Nat.one_mul, sumTo_shift, sumTo_rows g w m]; rfl
theorem sum_top (g : Nat → Nat) (d w n : Nat) : sumTo g (d * w + n) = sumTo (fun f => sumTo (fun x => g (f * w + x)) w) d + sumTo (fun x => g (d * w + x)) n := by
  rw [sumTo_shift, sumTo_rows]
theorem prs_top {b : Nat} (hb : 2 ≤ b) (k d e n m : Nat) (hd : d < b) (he : e ≤ b) (hn : n ≤ b ^ k) (hm : m ≤ b ^ k) (hm0 : e = b → m = 0) : prs b (d * b ^ k + n) (e * b ^ k + m) = sumTo (fun f => sumTo (fun s => if f + s < b then prs b (b ^ k) (b ^ k) else 0) e + (if f + e < b then prs b (b ^ k) m else 0)) d + (sumTo (fun s => if d + s < b then prs b n (b ^ k) else 0) e + (if d + e < b then prs b n m else 0)) := by
  have row : ∀ f N, f < b → N ≤ b ^ k → sumTo (fun x => sumTo (ncI b (f * b ^ k + x)) (e * b ^ k + m)) N = sumTo (fun s => if f + s < b then prs b N (b ^ k) else 0) e + (if f + e < b then prs b N m else 0) := fun f N hf hN => by
    have e1 : sumTo (fun x => sumTo (ncI b (f * b ^ k + x)) (e * b ^ k + m)) N = sumTo (fun x => sumTo (fun s => if f + s < b then sumTo (ncI b x) (b ^ k) else 0) e + (if f + e < b then sumTo (ncI b x) m else 0)) N := by
      refine sumTo_congr fun x hx => ?_
      rw [sum_top]
      congr 1
      · refine sumTo_congr fun s hs => ?_
        have : sumTo (fun y => ncI b (f * b ^ k + x) (s * b ^ k + y)) (b ^ k) = sumTo (fun y => if f + s < b then ncI b x y else 0) (b ^ k) := sumTo_congr fun y hy => ncI_top hb k x y f s (by omega) hy hf (by omega)
        rw [this]
        by_cases c : f + s < b
        · rw [if_pos c]; exact sumTo_congr fun y _ => if_pos c
        · rw [if_neg c, sumTo_congr (h := fun _ => 0) (fun y _ => if_neg c), sumTo_zero]
      · by_cases z : e = b
        · rw [hm0 z]
          split <;> rfl
        · have : sumTo (fun y => ncI b (f * b ^ k + x) (e * b ^ k + y)) m = sumTo (fun y => if f + e < b then ncI b x y else 0) m := sumTo_congr fun y hy => ncI_top hb k x y f e (by omega) (by omega) hf (by omega)
          rw [this]
          by_cases c : f + e < b
          · rw [if_pos c]; exact sumTo_congr fun y _ => if_pos c
          · rw [if_neg c, sumTo_congr (h := fun _ => 0) (fun y _ => if_neg c), sumTo_zero]
    rw [e1, sumTo_add, sumTo_swap (fun x s => if f + s < b then sumTo (ncI b x) (b ^ k) else 0) e]
    congr 1
    · refine sumTo_congr fun s _ => ?_
      by_cases c : f + s < b
      · rw [if_pos c]; exact sumTo_congr fun x _ => if_pos c
      · rw [if_neg c, sumTo_congr (h := fun _ => 0) (fun x _ => if_neg c), sumTo_zero]
    · by_cases c : f + e < b
      · rw [if_pos c]; exact sumTo_congr fun x _ => if_pos c
      · rw [if_neg c, sumTo_congr (h := fun _ => 0) (fun x _ => if_neg c), sumTo_zero]
  show sumTo (fun x => sumTo (ncI b x) (e * b ^ k + m)) (d * b ^ k + n) = _
  rw [sum_top, row d n hd hn]
  congr 1
  exact sumTo_congr fun f hf => row f (b ^ k) (by omega) (Nat.le_refl _)
/-- pairs of figures below d and e that make no carry -/
def pb (b d e : Nat) : Nat := sumTo (fun f => min e (b - f)) d
theorem count_if {b f e : Nat} (v : Nat) : sumTo (fun s => if f + s < b then v else 0) e = min e (b - f) * v := by
  induction e with
  | zero => rw [Nat.zero_min, Nat.zero_mul]; rfl
  | succ e ih =>
    show sumTo (fun s => if f + s < b then v else 0) e + (if f + e < b then v else 0) = _
    rw [ih]
    by_cases c : f + e < b
    · rw [if_pos c, Nat.min_eq_left (by omega), Nat.min_eq_left (by omega), Nat.add_mul, Nat.one_mul]
    · rw [if_neg c, Nat.min_eq_right (by omega), Nat.min_eq_right (by omega), Nat.add_zero]
theorem pb_sum {b d e : Nat} (v : Nat) : sumTo (fun f => sumTo (fun s => if f + s < b then v else 0) e) d = pb b d e * v := by
  unfold pb
  rw [sumTo_congr (fun f _ => count_if v)]
  have := sumTo_mul v (fun f => min e (b - f)) d
  rw [Nat.mul_comm, ← this]
  exact sumTo_congr fun f _ => Nat.mul_comm _ _
theorem prs_free {b : Nat} (hb : 2 ≤ b) (k : Nat) : prs b (b ^ (k + 1)) (b ^ (k + 1)) = pb b b b * prs b (b ^ k) (b ^ k) := by
  obtain ⟨b', rfl⟩ : ∃ b', b = b' + 1 := ⟨b - 1, by omega⟩
  have e : (b' + 1) ^ (k + 1) = b' * (b' + 1) ^ k + (b' + 1) ^ k := by rw [Nat.pow_succ, Nat.mul_add, Nat.mul_one, Nat.mul_comm]
  have e2 : (b' + 1) ^ (k + 1) = (b' + 1) * (b' + 1) ^ k + 0 := by rw [Nat.pow_succ, Nat.mul_comm]; rfl
  have h := prs_top hb k b' (b' + 1) ((b' + 1) ^ k) 0 (by omega) (Nat.le_refl _) (Nat.le_refl _) (Nat.zero_le _) (fun _ => rfl)
  rw [← e, ← e2] at h
  rw [h]
  have z : ∀ f, (if f + (b' + 1) < b' + 1 then prs (b' + 1) ((b' + 1) ^ k) 0 else 0) = 0 := fun f => if_neg (by omega)
  rw [sumTo_congr (fun f _ => by rw [z, Nat.add_zero]), z, Nat.add_zero, ← pb_sum]
  rfl
theorem prs_half {b : Nat} (hb : 2 ≤ b) (k d n : Nat) (hd : d < b) (hn : n ≤ b ^ k) : prs b (d * b ^ k + n) (b ^ (k + 1)) = pb b d b * prs b (b ^ k) (b ^ k) + (b - d) * prs b n (b ^ k) := by
  have e2 : b ^ (k + 1) = b * b ^ k + 0 := by rw [Nat.pow_succ, Nat.mul_comm]; rfl
  have h := prs_top hb k d b n 0 hd (Nat.le_refl _) hn (Nat.zero_le _) (fun _ => rfl)
  rw [e2, h]
  have z : ∀ f v, (if f + b < b then v else 0) = 0 := fun f v => if_neg (by omega)
  rw [sumTo_congr (fun f _ => by rw [z, Nat.add_zero]), z, Nat.add_zero, pb_sum, count_if, Nat.min_eq_right (by omega)]
theorem prs_comm (b A B : Nat) : prs b A B = prs b B A := by
  unfold prs
  rw [sumTo_swap]
  refine sumTo_congr fun x _ => sumTo_congr fun y _ => ?_
  unfold ncI
  rw [carr_comm]
theorem prs_both {b : Nat} (hb : 2 ≤ b) (k d n : Nat) (hd : d < b) (hn : n ≤ b ^ k) : prs b (d * b ^ k + n) (d * b ^ k + n) = pb b d d * prs b (b ^ k) (b ^ k) + 2 * min d (b - d) * prs b n (b ^ k) + (if 2 * d < b then prs b n n else 0) := by
  have h := prs_top hb k d d n n hd (by omega) hn hn (fun z => by omega)
  rw [h, sumTo_add, pb_sum, count_if]
  have e : sumTo (fun f => if f + d < b then prs b (b ^ k) n else 0) d = min d (b - d) * prs b n (b ^ k) := by
    rw [← count_if, prs_comm]
    exact sumTo_congr fun f _ => by rw [Nat.add_comm]
  rw [e]
  have e2 : (if d + d < b then prs b n n else 0) = if 2 * d < b then prs b n n else 0 := by
    have : d + d = 2 * d := by omega
    rw [this]
  have e3 : 2 * min d (b - d) * prs b n (b ^ k) = min d (b - d) * prs b n (b ^ k) + min d (b - d) * prs b n (b ^ k) := by rw [Nat.two_mul, Nat.add_mul]
  rw [e2, e3]
  omega
theorem val_take {b : Nat} : ∀ (ds : List Nat) (i d : Nat), ds[i]? = some d → val b (ds.take (i + 1)) = d * b ^ i + val b (ds.take i)
  | [], i, d, h => by simp at h
  | x :: r, 0, d, h => by
    cases h
    show x + b * 0 = x * 1 + 0
    omega
  | x :: r, i + 1, d, h => by
    have ih := val_take (b := b) r i d h
    show x + b * val b (r.take (i + 1)) = d * b ^ (i + 1) + (x + b * val b (r.take i))
    rw [ih, Nat.mul_add, Nat.pow_succ]
    have : b * (d * b ^ i) = d * (b ^ i * b) := by rw [Nat.mul_comm b, Nat.mul_assoc]
    rw [this]; omega
end M
namespace M
theorem upf_int {b f a : Nat} (hb : 0 < b) (hf : f < b) : ((a : Int) - (f : Int) - 1) / (b : Int) + 1 = ((upf b f a : Nat) : Int) := by
  unfold upf
  have e : ((a + (b - 1 - f) : Nat) : Int) = (a : Int) - (f : Int) - 1 + 1 * (b : Int) := by omega
  rw [Int.natCast_ediv, e, Int.add_mul_ediv_right _ _ (by omega)]
theorem upf_near {b f x e : Nat} (hb : 0 < b) (hf : f < b) (he : e ≤ 1) : ∃ e', e' ≤ 1 ∧ upf b f (x + e) = x / b + e' := by
  unfold upf
  have h1 : x / b ≤ (x + e + (b - 1 - f)) / b := Nat.div_le_div_right (by omega)
  have h2 : (x + e + (b - 1 - f)) / b ≤ (x + b) / b := Nat.div_le_div_right (by omega)
  rw [Nat.add_div_right _ hb] at h2
  exact ⟨(x + e + (b - 1 - f)) / b - x / b, by omega, by omega⟩
theorem nodup_len {α : Type} [DecidableEq α] : ∀ (l S : List α), l.Nodup → (∀ x ∈ l, x ∈ S) → l.length ≤ S.length
  | [], _, _, _ => Nat.zero_le _
  | x :: r, S, hn, hs => by
    have hx := hs x (by simp)
    have hn' := List.nodup_cons.mp hn
    have ih := nodup_len r (S.erase x) hn'.2 (fun y hy => by
      have hne : y ≠ x := fun z => hn'.1 (z ▸ hy)
      exact (List.mem_erase_of_ne hne).mpr (hs y (by simp [hy])))
    have := List.length_erase_of_mem hx
    have hpos : 0 < S.length := List.length_pos_of_mem hx
    show r.length + 1 ≤ S.length
    omega
theorem prs_zero_left (b B : Nat) : prs b 0 B = 0 := rfl
theorem prs_zero_right (b A : Nat) : prs b A 0 = 0 := by rw [prs_comm]; rfl
theorem prs_one {b : Nat} (hb : 2 ≤ b) : prs b 1 1 = 1 := by
  show 0 + (0 + ncI b 0 0) = 1
  unfold ncI
  rw [carr_zero hb]; rfl
end M
namespace M
theorem ncI_zero {b : Nat} (hb : 2 ≤ b) (y : Nat) : ncI b 0 y = 1 := by
  unfold ncI
  rw [carr_of (r := 0) hb (by rw [dsum_zero hb, Nat.zero_mul, Nat.zero_add]; show dsum b y + 0 = dsum b (0 + y) + 0; rw [Nat.zero_add]), if_pos rfl]
theorem ncI_step {b x y : Nat} (hb : 2 ≤ b) : ncI b x y = if x % b + y % b < b then ncI b (x / b) (y / b) else 0 := by
  have h := ncI_last (x := x / b) (y := y / b) hb (Nat.mod_lt x (by omega : 0 < b)) (Nat.mod_lt y (by omega : 0 < b))
  have r0 : ∀ x, (x / b) * b + x % b = x := fun x => by rw [Nat.mul_comm]; exact Nat.div_add_mod x b
  rw [r0, r0] at h
  exact h
theorem prs_55 : prs 10 10 10 = 55 := by decide +kernel
end M

set_option Elab.async false
set_option linter.all false
namespace M
/-! rows of counts packed into one number: a slot of w bits each -/
def pk (w D : Nat) (g : Nat → Int) : Int := sumI (fun r => g r * ((2 ^ (w * r) : Nat) : Int)) D
theorem pk_congr {w D : Nat} {g h : Nat → Int} (e : ∀ r, r < D → g r = h r) : pk w D g = pk w D h := sumI_congr fun r hr => by rw [e r hr]
theorem pk_add (w D : Nat) (g h : Nat → Int) : pk w D g + pk w D h = pk w D fun r => g r + h r := by
  unfold pk
  rw [← sumI_add]
  exact sumI_congr fun r _ => (Int.add_mul _ _ _).symm
theorem pk_sub (w D : Nat) (g h : Nat → Int) : pk w D g - pk w D h = pk w D fun r => g r - h r := by
  have : pk w D g = pk w D (fun r => g r - h r) + pk w D h := by
    rw [pk_add]
    exact pk_congr fun r _ => by omega
  omega
theorem pk_zero (w D : Nat) : pk w D (fun _ => 0) = 0 := by
  unfold pk
  rw [sumI_congr (h := fun _ => (0 : Int)) (fun r _ => Int.zero_mul _), sumI_zero]
theorem pk_split (w : Nat) (g : Nat → Int) (k m : Nat) : pk w (k + m) g = pk w k g + ((2 ^ (w * k) : Nat) : Int) * pk w m fun r => g (k + r) := by
  unfold pk
  rw [sumI_shift, ← sumI_mul]
  congr 1
  refine sumI_congr fun r _ => ?_
  rw [Nat.mul_add, Nat.pow_add, Int.natCast_mul, Int.mul_left_comm]
/-- counts that fit their slots -/
def Fits (w D : Nat) (g : Nat → Int) : Prop := ∀ r, r < D → 0 ≤ g r ∧ g r < ((2 ^ w : Nat) : Int)
theorem pk_bound {w : Nat} {g : Nat → Int} : ∀ {D : Nat}, Fits w D g → 0 ≤ pk w D g ∧ pk w D g < ((2 ^ (w * D) : Nat) : Int)
  | 0, _ => by
    rw [Nat.mul_zero, Nat.pow_zero]
    exact ⟨Int.le_refl 0, (by decide : (0 : Int) < 1)⟩
  | D + 1, h => by
    obtain ⟨i1, i2⟩ := pk_bound (D := D) (fun r hr => h r (by omega))
    obtain ⟨a1, a2⟩ := h D (by omega)
    have e : pk w (D + 1) g = pk w D g + g D * ((2 ^ (w * D) : Nat) : Int) := rfl
    have p : (0 : Int) < ((2 ^ (w * D) : Nat) : Int) := Int.natCast_pos.mpr (Nat.pow_pos (by decide))
    have e2 : ((2 ^ (w * (D + 1)) : Nat) : Int) = ((2 ^ w : Nat) : Int) * ((2 ^ (w * D) : Nat) : Int) := by rw [Nat.mul_add, Nat.mul_one, Nat.pow_add, Int.natCast_mul, Int.mul_comm]
    have m1 : 0 ≤ g D * ((2 ^ (w * D) : Nat) : Int) := Int.mul_nonneg a1 (by omega)
    have m2 : (g D + 1) * ((2 ^ (w * D) : Nat) : Int) ≤ ((2 ^ w : Nat) : Int) * ((2 ^ (w * D) : Nat) : Int) := Int.mul_le_mul_of_nonneg_right (by omega) (by omega)
    rw [Int.add_mul, Int.one_mul] at m2
    rw [e, e2]
    exact ⟨by omega, by omega⟩
theorem pk_slot {w D : Nat} {g : Nat → Int} (h : Fits w D g) {r : Nat} (hr : r < D) : pk w D g / ((2 ^ (w * r) : Nat) : Int) % ((2 ^ w : Nat) : Int) = g r := by
  obtain ⟨m, rfl⟩ : ∃ m, D = r + (1 + m) := ⟨D - r - 1, by omega⟩
  have p : (0 : Int) < ((2 ^ (w * r) : Nat) : Int) := Int.natCast_pos.mpr (Nat.pow_pos (by decide))
  obtain ⟨b1, b2⟩ := pk_bound (D := r) (w := w) (g := g) (fun q hq => h q (by omega))
  obtain ⟨a1, a2⟩ := h r (by omega)
  have e1 : pk w 1 (fun q => g (r + q)) = g r := by
    show 0 + g (r + 0) * ((2 ^ (w * 0) : Nat) : Int) = g r
    rw [Nat.mul_zero, Nat.pow_zero, Int.zero_add, Nat.add_zero]
    show g r * 1 = g r
    omega
  have e2 : pk w (1 + m) (fun q => g (r + q)) = g r + ((2 ^ w : Nat) : Int) * pk w m (fun q => g (r + (1 + q))) := by
    rw [pk_split, e1, Nat.mul_one]
  rw [pk_split, e2, Int.add_mul_ediv_left _ _ (by omega), Int.ediv_eq_zero_of_lt b1 b2, Int.zero_add, Int.add_mul_emod_self_left, Int.emod_eq_of_lt a1 a2]
theorem back_rot {D r s : Nat} {y : Int} (hr : r < D) (hs : y % (D : Int) = (s : Int)) : back D r y = if r < s then r + D - s else r - s := by
  have hD : (0 : Int) < (D : Int) := by omega
  have hsl : (s : Int) < (D : Int) := by rw [← hs]; exact Int.emod_lt_of_pos _ hD
  have e : ((r : Int) - y) % (D : Int) = ((r : Int) - (s : Int)) % (D : Int) := by
    rw [← hs, Int.sub_emod, Int.sub_emod (r : Int) (y % (D : Int)), Int.emod_emod_of_dvd _ (Int.dvd_refl _)]
  unfold back
  rw [e]
  by_cases c : r < s
  · rw [if_pos c]
    have e3 : ((r : Int) - (s : Int)) % (D : Int) = (r : Int) - (s : Int) + (D : Int) := by
      rw [← Int.add_emod_right, Int.emod_eq_of_lt (by omega) (by omega)]
    rw [e3]; omega
  · rw [if_neg c, Int.emod_eq_of_lt (by omega) (by omega)]; omega
/-- around the wheel -/
theorem pk_rot {w D : Nat} {g : Nat → Int} (h : Fits w D g) (hD : 0 < D) {y : Int} {s : Nat} (hs : y % (D : Int) = (s : Int)) :
    pk w D g * ((2 ^ (s * w) : Nat) : Int) % ((2 ^ (D * w) : Nat) : Int) + pk w D g * ((2 ^ (s * w) : Nat) : Int) / ((2 ^ (D * w) : Nat) : Int) = pk w D fun r => g (back D r y) := by
  have hsl : s < D := by
    have := Int.emod_lt_of_pos y (b := (D : Int)) (by omega)
    omega
  obtain ⟨m, rfl⟩ : ∃ m, D = m + s := ⟨D - s, by omega⟩
  obtain ⟨a1, a2⟩ := pk_bound (D := m) (w := w) (g := g) (fun q hq => h q (by omega))
  obtain ⟨b1, b2⟩ := pk_bound (D := s) (w := w) (g := fun r => g (m + r)) (fun q hq => h (m + q) (by omega))
  have p0 : (0 : Int) < ((2 ^ (s * w) : Nat) : Int) := Int.natCast_pos.mpr (Nat.pow_pos (by decide))
  have e1 : ((2 ^ ((m + s) * w) : Nat) : Int) = ((2 ^ (w * m) : Nat) : Int) * ((2 ^ (s * w) : Nat) : Int) := by
    rw [Nat.add_mul, Nat.pow_add, Int.natCast_mul, Nat.mul_comm m w]
  have pD : (0 : Int) < ((2 ^ ((m + s) * w) : Nat) : Int) := Int.natCast_pos.mpr (Nat.pow_pos (by decide))
  have e2 : pk w (m + s) g * ((2 ^ (s * w) : Nat) : Int) = pk w m g * ((2 ^ (s * w) : Nat) : Int) + ((2 ^ ((m + s) * w) : Nat) : Int) * pk w s (fun r => g (m + r)) := by
    rw [pk_split, e1, Int.add_mul]
    congr 1
    rw [Int.mul_assoc, Int.mul_assoc, Int.mul_comm (pk w s _)]
  have l1 : 0 ≤ pk w m g * ((2 ^ (s * w) : Nat) : Int) := Int.mul_nonneg a1 (by omega)
  have l2 : pk w m g * ((2 ^ (s * w) : Nat) : Int) < ((2 ^ ((m + s) * w) : Nat) : Int) := by
    rw [e1]; exact Int.mul_lt_mul_of_pos_right a2 p0
  rw [e2, Int.add_mul_emod_self_left, Int.emod_eq_of_lt l1 l2, Int.add_mul_ediv_left _ _ (by omega), Int.ediv_eq_zero_of_lt l1 l2, Int.zero_add]
  have e3 : pk w (m + s) (fun r => g (back (m + s) r y)) = pk w s (fun r => g (m + r)) + ((2 ^ (w * s) : Nat) : Int) * pk w m g := by
    rw [Nat.add_comm m s, pk_split]
    congr 1
    · refine pk_congr fun r hr => ?_
      rw [back_rot (s := s) (by omega) (by rw [Nat.add_comm s m]; exact hs), if_pos hr]
      congr 1; omega
    · congr 1
      refine pk_congr fun r hr => ?_
      rw [back_rot (s := s) (by omega) (by rw [Nat.add_comm s m]; exact hs), if_neg (by omega)]
      congr 1; omega
  rw [e3, Nat.mul_comm w s, Int.mul_comm, Int.add_comm]
/-- so many rows added, each so far on -/
def sprd (D : Nat) (g : Nat → Int) (t : Nat) (y : Int) (r : Nat) : Int := sumI (fun k => g (back D r ((k : Int) * y))) t
theorem back_back {D r : Nat} (hD : 0 < D) (y z : Int) : back D (back D r y) z = back D r (y + z) := by
  have h0 := Int.emod_nonneg ((r : Int) - y) (b := (D : Int)) (by omega)
  unfold back
  have e : ((((r : Int) - y) % (D : Int)).toNat : Int) = ((r : Int) - y) % (D : Int) := by omega
  rw [e]
  congr 1
  rw [Int.sub_emod, Int.emod_emod_of_dvd _ (Int.dvd_refl _), ← Int.sub_emod]
  congr 1; omega
theorem sprd_add {D : Nat} (hD : 0 < D) (g : Nat → Int) (t u : Nat) (y : Int) (r : Nat) : sprd D g (t + u) y r = sprd D g t y r + sprd D g u y (back D r ((t : Int) * y)) := by
  unfold sprd
  rw [sumI_shift]
  congr 1
  refine sumI_congr fun k _ => ?_
  rw [back_back hD, ← Int.add_mul, ← Int.natCast_add]
theorem sprd_zero (D : Nat) (g : Nat → Int) (y : Int) (r : Nat) : sprd D g 0 y r = 0 := rfl
theorem back_zero {D r : Nat} (hr : r < D) : back D r 0 = r := by
  unfold back
  rw [Int.sub_zero, Int.emod_eq_of_lt (by omega) (by omega)]; omega
theorem sprd_one {D : Nat} (g : Nat → Int) (y : Int) {r : Nat} (hr : r < D) : sprd D g 1 y r = g r := by
  show 0 + g (back D r (((0 : Nat) : Int) * y)) = g r
  have : (((0 : Nat) : Int) * y) = 0 := Int.zero_mul y
  rw [this, back_zero hr, Int.zero_add]
theorem sprd_le {D : Nat} {g : Nat → Int} {B : Int} (hD : 0 < D) (h : ∀ r, r < D → 0 ≤ g r ∧ g r ≤ B) (y : Int) (r : Nat) : ∀ t : Nat, 0 ≤ sprd D g t y r ∧ sprd D g t y r ≤ (t : Int) * B
  | 0 => by
    rw [sprd_zero]
    have : (((0 : Nat) : Int) * B) = 0 := Int.zero_mul B
    rw [this]
    exact ⟨Int.le_refl 0, Int.le_refl 0⟩
  | t + 1 => by
    obtain ⟨i1, i2⟩ := sprd_le hD h y r t
    obtain ⟨a1, a2⟩ := h (back D r ((t : Int) * y)) (back_lt hD)
    have e : sprd D g (t + 1) y r = sprd D g t y r + g (back D r ((t : Int) * y)) := rfl
    rw [e, Int.natCast_add, Int.add_mul]
    exact ⟨by omega, by show _ ≤ (t : Int) * B + 1 * B; omega⟩
end M

set_option Elab.async false
set_option linter.all false
namespace M
/-! heads of a stretch: rows by rests, place by place -/
def dl (D : Nat) (x : Int) (r : Nat) : Int := if x % (D : Int) = (r : Int) then 1 else 0
theorem dl_back {D r : Nat} {x y : Int} (hD : 0 < D) (hr : r < D) : dl D x (back D r y) = dl D (x + y) r := by
  unfold dl
  by_cases c : (x + y) % (D : Int) = (r : Int)
  · rw [if_pos c, if_pos ((back_iff hD hr).mp c)]
  · rw [if_neg c, if_neg fun z => c ((back_iff hD hr).mpr z)]
theorem dl_fits {D : Nat} (x : Int) (r : Nat) : 0 ≤ dl D x r ∧ dl D x r ≤ 1 := by unfold dl; split <;> exact ⟨by decide, by decide⟩
theorem pk_one {w D : Nat} (hD : 0 < D) : pk w D (dl D 0) = 1 := by
  obtain ⟨m, rfl⟩ : ∃ m, D = 1 + m := ⟨D - 1, by omega⟩
  rw [pk_split]
  have e1 : pk w 1 (dl (1 + m) 0) = 1 := by
    show 0 + dl (1 + m) 0 0 * ((2 ^ (w * 0) : Nat) : Int) = 1
    unfold dl
    rw [if_pos (by rw [Int.zero_emod]; rfl), Nat.mul_zero, Nat.pow_zero]; rfl
  have e2 : pk w m (fun r => dl (1 + m) 0 (1 + r)) = 0 := by
    have : pk w m (fun r => dl (1 + m) 0 (1 + r)) = pk w m (fun _ => 0) := pk_congr fun r _ => by
      unfold dl
      rw [Int.zero_emod, if_neg (by omega)]
    rw [this, pk_zero]
  rw [e1, e2, Int.mul_zero]; rfl
/-- heads from s on below e at the place j, by rests -/
def hd (b : Nat) (W : Nat → Int) (D j s e r : Nat) : Int := CR b W D j e r - CR b W D j s r
theorem CR_sprd {b : Nat} (hb : 2 ≤ b) (W : Nat → Int) {D r : Nat} (hD : 0 < D) (hr : r < D) (j m d : Nat) (hd : d ≤ b) :
    CR b W D j (m * b + d) r = sprd D (CR b W D (j + 1) m) b (W j) r + sprd D (dl D (wg b W (j + 1) m)) d (W j) r := by
  rw [CR_step hb W hD hr j m d hd]
  congr 1
  unfold sprd
  refine sumI_congr fun k _ => ?_
  exact (dl_back hD hr).symm
theorem sprd_sub (D : Nat) (g h : Nat → Int) (t : Nat) (y : Int) (r : Nat) : sprd D (fun r => g r - h r) t y r = sprd D g t y r - sprd D h t y r := by
  unfold sprd
  have : sumI (fun k => g (back D r ((k : Int) * y))) t = sumI (fun k => g (back D r ((k : Int) * y)) - h (back D r ((k : Int) * y))) t + sumI (fun k => h (back D r ((k : Int) * y))) t := by
    rw [← sumI_add]
    exact sumI_congr fun k _ => by omega
  show sumI (fun k => g (back D r ((k : Int) * y)) - h (back D r ((k : Int) * y))) t = _
  omega
theorem hd_step {b : Nat} (hb : 2 ≤ b) (W : Nat → Int) {D r : Nat} (hD : 0 < D) (hr : r < D) (j s e ds de : Nat) (h1 : ds ≤ b) (h2 : de ≤ b) :
    hd b W D j (s * b + ds) (e * b + de) r = sprd D (hd b W D (j + 1) s e) b (W j) r + sprd D (dl D (wg b W (j + 1) e)) de (W j) r - sprd D (dl D (wg b W (j + 1) s)) ds (W j) r := by
  have e3 : sprd D (hd b W D (j + 1) s e) b (W j) r = sprd D (CR b W D (j + 1) e) b (W j) r - sprd D (CR b W D (j + 1) s) b (W j) r := sprd_sub D _ _ b (W j) r
  unfold hd at *
  rw [CR_sprd hb W hD hr j e de h2, CR_sprd hb W hD hr j s ds h1, e3]
  omega
theorem CR_diff {b : Nat} (W : Nat → Int) (D j s r : Nat) : ∀ k, 0 ≤ CR b W D j (s + k) r - CR b W D j s r ∧ CR b W D j (s + k) r - CR b W D j s r ≤ (k : Int)
  | 0 => by rw [Nat.add_zero]; exact ⟨by omega, by omega⟩
  | k + 1 => by
    obtain ⟨i1, i2⟩ := CR_diff (b := b) W D j s r k
    have e : CR b W D j (s + (k + 1)) r = CR b W D j (s + k) r + (if wg b W j (s + k) % (D : Int) = (r : Int) then 1 else 0) := rfl
    rw [e]
    split
    · exact ⟨by omega, by omega⟩
    · exact ⟨by omega, by omega⟩
theorem hd_fits {b : Nat} (W : Nat → Int) (D j s e r : Nat) (h : s ≤ e) : 0 ≤ hd b W D j s e r ∧ hd b W D j s e r ≤ ((e - s : Nat) : Int) := by
  obtain ⟨k, rfl⟩ : ∃ k, e = s + k := ⟨e - s, by omega⟩
  rw [Nat.add_sub_cancel_left]
  exact CR_diff W D j s r k
/-! figures from the greatest place on, filled up with noughts -/
theorem valB_lt {b : Nat} (hb : 0 < b) (ds : List Nat) (h : ∀ d ∈ ds, d < b) : ∀ i, valB b (ds.take i) < b ^ i ∧ valB b (ds.take i) ≤ valB b (ds.take i) := fun i => by
  refine ⟨?_, Nat.le_refl _⟩
  induction i with
  | zero => rw [List.take_zero]; exact Nat.pow_pos hb
  | succ i ih =>
    cases hc : ds[i]? with
    | none =>
      have hl : ds.length ≤ i := List.getElem?_eq_none_iff.mp hc
      rw [List.take_of_length_le (by omega)]
      rw [List.take_of_length_le hl] at ih
      exact Nat.lt_of_lt_of_le ih (Nat.pow_le_pow_right hb (by omega))
    | some d =>
      rw [valB_take hc, Nat.pow_succ]
      have hd := h d (List.mem_of_getElem? hc)
      have : (valB b (ds.take i) + 1) * b ≤ b ^ i * b := Nat.mul_le_mul_right b ih
      rw [Nat.add_mul, Nat.one_mul] at this
      omega
theorem valB_mono {b : Nat} (hb : 0 < b) (ds : List Nat) (i : Nat) : valB b (ds.take i) ≤ valB b ds := by
  have gen : ∀ (r : List Nat) (a : Nat), a ≤ r.foldl (fun a d => a * b + d) a := by
    intro r
    induction r with
    | nil => intro a; exact Nat.le_refl a
    | cons d r ih =>
      intro a
      have := ih (a * b + d)
      have h2 : a * 1 ≤ a * b := Nat.mul_le_mul_left a hb
      show a ≤ r.foldl _ (a * b + d)
      omega
  have e : valB b ds = (ds.drop i).foldl (fun a d => a * b + d) (valB b (ds.take i)) := by
    unfold valB
    rw [← List.foldl_append, List.take_append_drop]
  rw [e]
  exact gen _ _
theorem valB_cmp {b : Nat} (hb : 0 < b) (xs ys : List Nat) (hl : xs.length = ys.length) (hx : ∀ d ∈ xs, d < b) (hy : ∀ d ∈ ys, d < b) (h : valB b xs ≤ valB b ys) : ∀ i, valB b (xs.take i) ≤ valB b (ys.take i) := fun i => by
  have tail : ∀ (r : List Nat) (a : Nat), (∀ d ∈ r, d < b) → a * b ^ r.length ≤ r.foldl (fun a d => a * b + d) a ∧ r.foldl (fun a d => a * b + d) a < (a + 1) * b ^ r.length := by
    intro r
    induction r with
    | nil => intro a _; exact ⟨by show a * 1 ≤ a; omega, by show a < (a + 1) * 1; omega⟩
    | cons d r ih =>
      intro a hr
      obtain ⟨i1, i2⟩ := ih (a * b + d) (fun z hz => hr z (by simp [hz]))
      have hd := hr d (by simp)
      show a * b ^ (r.length + 1) ≤ r.foldl _ (a * b + d) ∧ r.foldl _ (a * b + d) < (a + 1) * b ^ (r.length + 1)
      rw [Nat.pow_succ]
      have e1 : a * (b ^ r.length * b) ≤ (a * b + d) * b ^ r.length := by
        rw [Nat.mul_comm (b ^ _) b, ← Nat.mul_assoc]
        exact Nat.mul_le_mul_right _ (by omega)
      have e2 : (a * b + d + 1) * b ^ r.length ≤ (a + 1) * (b ^ r.length * b) := by
        rw [Nat.mul_comm (b ^ _) b, ← Nat.mul_assoc]
        refine Nat.mul_le_mul_right _ ?_
        rw [Nat.add_mul, Nat.one_mul]; omega
      exact ⟨by omega, by omega⟩
  rcases Nat.lt_or_ge (valB b (ys.take i)) (valB b (xs.take i)) with z | z
  · have ex : valB b xs = (xs.drop i).foldl (fun a d => a * b + d) (valB b (xs.take i)) := by
      unfold valB; rw [← List.foldl_append, List.take_append_drop]
    have ey : valB b ys = (ys.drop i).foldl (fun a d => a * b + d) (valB b (ys.take i)) := by
      unfold valB; rw [← List.foldl_append, List.take_append_drop]
    obtain ⟨x1, _⟩ := tail (xs.drop i) (valB b (xs.take i)) (fun d hd => hx d (List.mem_of_mem_drop hd))
    obtain ⟨_, y2⟩ := tail (ys.drop i) (valB b (ys.take i)) (fun d hd => hy d (List.mem_of_mem_drop hd))
    have el : (xs.drop i).length = (ys.drop i).length := by rw [List.length_drop, List.length_drop, hl]
    rw [← ex, el] at x1
    rw [← ey] at y2
    have : (valB b (ys.take i) + 1) * b ^ (ys.drop i).length ≤ valB b (xs.take i) * b ^ (ys.drop i).length := Nat.mul_le_mul_right _ z
    omega
  · exact z
theorem valB_pad {b : Nat} (k : Nat) (ds : List Nat) : valB b (List.replicate k 0 ++ ds) = valB b ds := by
  unfold valB
  rw [List.foldl_append]
  have : ∀ k, (List.replicate k 0).foldl (fun a d => a * b + d) 0 = 0 := by
    intro k
    induction k with
    | zero => rfl
    | succ k ih =>
      show (List.replicate k 0).foldl (fun a d => a * b + d) (0 * b + 0) = 0
      rw [Nat.zero_mul]; exact ih
  rw [this]
end M

set_option Elab.async false
set_option linter.all false
namespace M
/-! rows of counts by rests, from the greatest place on -/
theorem rs_step {w b : Nat} (hb : 2 ≤ b) (W : Nat → Int) {D : Nat} (hD : 0 < D) (j s e ds de : Nat) (h1 : ds ≤ b) (h2 : de ≤ b) :
    pk w D (sprd D (hd b W D (j + 1) s e) b (W j)) + pk w D (sprd D (dl D (wg b W (j + 1) e)) de (W j)) - pk w D (sprd D (dl D (wg b W (j + 1) s)) ds (W j)) = pk w D (hd b W D j (s * b + ds) (e * b + de)) := by
  rw [pk_add, pk_sub]
  exact pk_congr fun r hr => (hd_step hb W hD hr j s e ds de h1 h2).symm
theorem pk_dl {w D : Nat} (hD : 0 < D) (y : Int) : pk w D (fun r => dl D 0 (back D r y)) = pk w D (dl D y) := pk_congr fun r hr => by
  rw [dl_back hD hr, Int.zero_add]
theorem hd_none {b : Nat} (W : Nat → Int) (w D j : Nat) : pk w D (hd b W D j 0 0) = 0 := by
  rw [show pk w D (hd b W D j 0 0) = pk w D (fun _ => 0) from pk_congr fun r _ => by unfold hd; omega]
  exact pk_zero w D
theorem val_top (b : Nat) (t : Nat) (ht : 0 < t) : ∀ r : List Nat, b ^ r.length ≤ val b (r ++ [t])
  | [] => by
    show 1 ≤ val b [t]
    unfold val val
    omega
  | d :: r => by
    have ih := val_top b t ht r
    show b ^ (r.length + 1) ≤ d + b * val b (r ++ [t])
    rw [Nat.pow_succ, Nat.mul_comm]
    have := Nat.mul_le_mul_left b ih
    omega
/-- the figures of a, filled up to the length of those of c -/
theorem heads {b a c : Nat} (hb : 2 ≤ b) (h : a ≤ c) : ∃ xs ys : List Nat, ys = (digs b c).reverse ∧ (digs b a).length ≤ (digs b c).length ∧ xs = List.replicate ((digs b c).length - (digs b a).length) 0 ++ (digs b a).reverse ∧ xs.length = ys.length ∧ ys.length = (digs b c).length ∧ (∀ d ∈ xs, d < b) ∧ (∀ d ∈ ys, d < b) ∧ valB b xs = a ∧ valB b ys = c ∧ (∀ i, valB b (xs.take i) ≤ valB b (ys.take i)) ∧ (∀ i, valB b (xs.take i) ≤ a) ∧ (∀ i, valB b (ys.take i) ≤ c) := by
  have hl : (digs b a).length ≤ (digs b c).length := by
    rcases Nat.lt_or_ge (digs b c).length (digs b a).length with z | z
    · have h1 : c < b ^ (digs b c).length := by
        have := (valB_lt (b := b) (by omega) (digs b c).reverse (fun d hd => digs_lt hb c d (List.mem_reverse.mp hd)) (digs b c).length).1
        rw [List.take_of_length_le (by rw [List.length_reverse]; exact Nat.le_refl _), valB_rev, val_digs hb] at this
        exact this
      obtain ⟨r, t, e, k⟩ := digs_last hb a
      have hz : b ^ r.length ≤ a ∨ r = [] := by
        by_cases tz : t = 0
        · exact .inr (k tz).1
        · left
          have hv := val_digs hb a
          rw [e] at hv
          rw [← hv]
          exact val_top b t (by omega) r
      rw [e, List.length_append, List.length_singleton] at z
      rcases hz with q | q
      · have : b ^ (digs b c).length ≤ b ^ r.length := Nat.pow_le_pow_right (by omega) (by omega)
        omega
      · subst q
        have : (digs b c).length ≠ 0 := fun q => digs_ne b c (List.eq_nil_of_length_eq_zero q)
        simp at z
        exact absurd (List.eq_nil_iff_length_eq_zero.mpr (by simp [z])) (digs_ne b c)
    · exact z
  have ha : ∀ d ∈ List.replicate ((digs b c).length - (digs b a).length) 0 ++ (digs b a).reverse, d < b := fun d hd => by
    rcases List.mem_append.mp hd with q | q
    · have := List.eq_of_mem_replicate q; omega
    · exact digs_lt hb a d (List.mem_reverse.mp q)
  have hc : ∀ d ∈ (digs b c).reverse, d < b := fun d hd => digs_lt hb c d (List.mem_reverse.mp hd)
  have va : valB b (List.replicate ((digs b c).length - (digs b a).length) 0 ++ (digs b a).reverse) = a := by rw [valB_pad, valB_rev, val_digs hb]
  have vc : valB b (digs b c).reverse = c := by rw [valB_rev, val_digs hb]
  have ll : (List.replicate ((digs b c).length - (digs b a).length) 0 ++ (digs b a).reverse).length = (digs b c).reverse.length := by
    rw [List.length_append, List.length_replicate, List.length_reverse, List.length_reverse]; omega
  refine ⟨_, _, rfl, hl, rfl, ll, List.length_reverse, ha, hc, va, vc, valB_cmp (by omega) _ _ ll ha hc (by rw [va, vc]; exact h), fun i => ?_, fun i => ?_⟩
  · have := valB_mono (b := b) (by omega) (List.replicate ((digs b c).length - (digs b a).length) 0 ++ (digs b a).reverse) i
    rw [va] at this; exact this
  · have := valB_mono (b := b) (by omega) (digs b c).reverse i
    rw [vc] at this; exact this
end M

set_option Elab.async false
set_option linter.all false
namespace M
/-! pairs (ways, value) by ranges of the new figure -/
theorem pair_range {b k r lo : Nat} (hb : 2 ≤ b) (hlo : lo ≤ r - k * (b - 1)) (hr : r ≤ (k + 1) * (b - 1)) :
    cw b (k + 1) r = sumI (fun j => cw b k (r - (lo + j))) (min (b - 1) r + 1 - lo) ∧
    tv b (k + 1) r = sumI (fun j => tv b k (r - (lo + j)) + ((lo + j : Nat) : Int) * ((b ^ k : Nat) : Int) * cw b k (r - (lo + j))) (min (b - 1) r + 1 - lo) := by
  have e : (k + 1) * (b - 1) = k * (b - 1) + (b - 1) := Nat.succ_mul _ _
  rw [e] at hr
  generalize hR : k * (b - 1) = R at *
  have h1 : lo ≤ min (b - 1) r + 1 := by omega
  have h2 : min (b - 1) r + 1 ≤ b := by omega
  have za : ∀ f, f < lo → cw b k (r - f) = 0 := fun f hf => cw_none hb (by rw [hR]; omega)
  have zt : ∀ f, f < lo → tv b k (r - f) = 0 := fun f hf => tv_none hb (by rw [hR]; omega)
  constructor
  · rw [cw_succ hb, sumI_cut h1 h2 (fun f hf => ?_) (fun f h3 h4 => ?_)]
    · refine sumI_congr fun j hj => ?_
      rw [if_pos (by omega)]
    · by_cases c : f ≤ r
      · rw [if_pos c, za f hf]
      · rw [if_neg c]
    · rw [if_neg (by omega)]
  · rw [tv_succ2 hb, sumI_cut h1 h2 (fun f hf => ?_) (fun f h3 h4 => ?_)]
    · refine sumI_congr fun j hj => ?_
      rw [if_pos (by omega)]
    · by_cases c : f ≤ r
      · rw [if_pos c, za f hf, zt f hf, Int.mul_zero, Int.add_zero]
      · rw [if_neg c]
    · rw [if_neg (by omega)]
theorem tv_zero {b : Nat} (s : Nat) : tv b 0 s = 0 := by
  show 0 + (if dsum b 0 = s then ((0 : Nat) : Int) else 0) = 0
  split <;> rfl
end M

set_option Elab.async false
set_option linter.all false
namespace M
/-! a row of slots with two ends: no count is moved over an end -/
def Stay (D : Nat) (g : Nat → Int) (t : Nat) (y : Int) : Prop := ∀ r, r < D → g r ≠ 0 → ∀ k : Nat, k < t → 0 ≤ (r : Int) + (k : Int) * y ∧ (r : Int) + (k : Int) * y < (D : Int)
theorem pk_none {w D : Nat} {g : Nat → Int} (h : ∀ r, r < D → g r = 0) : pk w D g = 0 := (pk_congr h).trans (pk_zero w D)
theorem pk_shl {w D k : Nat} {g : Nat → Int} (hD : 0 < D) (h : ∀ r, r < D → g r ≠ 0 → r + k < D) : pk w D g * ((2 ^ (w * k) : Nat) : Int) = pk w D fun r => g (back D r (k : Int)) := by
  have z : ∀ r, r < D → D ≤ r + k → g r = 0 := fun r hr hk => by
    rcases (by omega : g r = 0 ∨ g r ≠ 0) with q | q
    · exact q
    · have := h r hr q; omega
  rcases Nat.lt_or_ge k D with c | c
  · obtain ⟨m, rfl⟩ : ∃ m, D = m + k := ⟨D - k, by omega⟩
    have hs : (k : Int) % ((m + k : Nat) : Int) = (k : Int) := Int.emod_eq_of_lt (by omega) (by omega)
    have e1 : pk w (m + k) g = pk w m g := by
      rw [pk_split, pk_none (g := fun r => g (m + r)) (fun r hr => z (m + r) (by omega) (by omega)), Int.mul_zero, Int.add_zero]
    have e2 : pk w (m + k) (fun r => g (back (m + k) r (k : Int))) = ((2 ^ (w * k) : Nat) : Int) * pk w m g := by
      have e3 : pk w (k + m) (fun r => g (back (m + k) r (k : Int))) = ((2 ^ (w * k) : Nat) : Int) * pk w m g := by
        rw [pk_split, pk_none (D := k) (fun r hr => ?_), Int.zero_add]
        · congr 1
          refine pk_congr fun r hr => ?_
          rw [back_rot (s := k) (by omega) hs, if_neg (by omega)]
          congr 1; omega
        · rw [back_rot (s := k) (by omega) hs, if_pos hr]
          exact z _ (by omega) (by omega)
      rw [Nat.add_comm k m] at e3
      exact e3
    rw [e1, e2, Int.mul_comm]
  · have z2 : ∀ r, r < D → g r = 0 := fun r hr => z r hr (by omega)
    rw [pk_none z2, pk_none (fun r hr => z2 _ (back_lt hD)), Int.zero_mul]
theorem pk_shr {w D k : Nat} {g : Nat → Int} (hD : 0 < D) (h : ∀ r, r < D → g r ≠ 0 → k ≤ r) : pk w D g / ((2 ^ (w * k) : Nat) : Int) = pk w D fun r => g (back D r (-(k : Int))) := by
  have z : ∀ r, r < D → r < k → g r = 0 := fun r hr hk => by
    rcases (by omega : g r = 0 ∨ g r ≠ 0) with q | q
    · exact q
    · have := h r hr q; omega
  have p0 : (0 : Int) < ((2 ^ (w * k) : Nat) : Int) := Int.natCast_pos.mpr (Nat.pow_pos (by decide))
  rcases Nat.lt_or_ge k D with c | c
  · obtain ⟨m, rfl⟩ : ∃ m, D = k + m := ⟨D - k, by omega⟩
    have e1 : pk w (k + m) g = ((2 ^ (w * k) : Nat) : Int) * pk w m fun r => g (k + r) := by
      rw [pk_split, pk_none (D := k) (fun r hr => z r (by omega) hr), Int.zero_add]
    have bk : ∀ r, r < k + m → back (k + m) r (-(k : Int)) = if r < m then r + k else r - m := fun r hr => by
      unfold back
      by_cases q : r < m
      · rw [if_pos q, Int.emod_eq_of_lt (by omega) (by omega)]; omega
      · rw [if_neg q]
        have e : ((r : Int) - -(k : Int)) % ((k + m : Nat) : Int) = ((r : Int) - (m : Int)) % ((k + m : Nat) : Int) := by
          rw [← Int.add_emod_right ((r : Int) - (m : Int))]
          congr 1; omega
        rw [e, Int.emod_eq_of_lt (by omega) (by omega)]; omega
    have e2 : pk w (m + k) (fun r => g (back (k + m) r (-(k : Int)))) = pk w m fun r => g (k + r) := by
      rw [pk_split, pk_none (D := k) (fun r hr => ?_), Int.mul_zero, Int.add_zero]
      · refine pk_congr fun r hr => ?_
        rw [bk r (by omega), if_pos hr, Nat.add_comm]
      · rw [bk (m + r) (by omega), if_neg (by omega)]
        exact z _ (by omega) (by omega)
    rw [Nat.add_comm m k] at e2
    rw [e1, e2, Int.mul_ediv_cancel_left _ (by omega)]
  · have z2 : ∀ r, r < D → g r = 0 := fun r hr => z r hr (by omega)
    rw [pk_none z2, pk_none (fun r hr => z2 _ (back_lt hD)), Int.zero_ediv]
theorem sumI_some {g : Nat → Int} : ∀ {t : Nat}, sumI g t ≠ 0 → ∃ k, k < t ∧ g k ≠ 0
  | 0, h => absurd rfl h
  | t + 1, h => by
    rcases (by omega : g t = 0 ∨ g t ≠ 0) with q | q
    · have h2 : sumI g t ≠ 0 := fun z => h (by show sumI g t + g t = 0; omega)
      obtain ⟨k, hk, hg⟩ := sumI_some h2
      exact ⟨k, by omega, hg⟩
    · exact ⟨t, by omega, q⟩
/-- a slot of a row that was spread comes from a slot of the row -/
theorem sprd_from {D : Nat} {g : Nat → Int} {t : Nat} {y : Int} {r : Nat} (hr : r < D) (h : Stay D g t y) (hs : sprd D g t y r ≠ 0) : ∃ (r0 k : Nat), r0 < D ∧ k < t ∧ g r0 ≠ 0 ∧ (r : Int) = (r0 : Int) + (k : Int) * y := by
  obtain ⟨k, hk, hg⟩ := sumI_some hs
  have hD : 0 < D := by omega
  have hb : back D r ((k : Int) * y) < D := back_lt hD
  obtain ⟨a1, a2⟩ := h _ hb hg k hk
  refine ⟨_, k, hb, hk, hg, ?_⟩
  have e0 : ((back D r ((k : Int) * y) : Nat) : Int) = ((r : Int) - (k : Int) * y) % (D : Int) := by
    have := Int.emod_nonneg ((r : Int) - (k : Int) * y) (b := (D : Int)) (by omega)
    unfold back; omega
  have e1 : (((back D r ((k : Int) * y) : Nat) : Int) + (k : Int) * y) % (D : Int) = (r : Int) := by
    rw [e0, Int.emod_add_emod, Int.sub_add_cancel, Int.emod_eq_of_lt (by omega) (by omega)]
  rw [Int.emod_eq_of_lt a1 a2] at e1
  omega
theorem Stay.less {D : Nat} {g : Nat → Int} {t u : Nat} {y : Int} (h : Stay D g t y) (hu : u ≤ t) : Stay D g u y := fun r hr hg k hk => h r hr hg k (by omega)
/-- the spread row stays when it is moved on by u times y, u + v being the whole -/
theorem Stay.on {D : Nat} {g : Nat → Int} {t u v : Nat} {y : Int} (h : Stay D g t y) (hu : u + v ≤ t) (r : Nat) (hr : r < D) (hs : sprd D g u y r ≠ 0) : 0 ≤ (r : Int) + (v : Int) * y ∧ (r : Int) + (v : Int) * y < (D : Int) := by
  obtain ⟨r0, k, h0, hk, hg, e⟩ := sprd_from hr (h.less (by omega)) hs
  have := h r0 h0 hg (k + v) (by omega)
  rw [Int.natCast_add, Int.add_mul] at this
  omega
end M

set_option Elab.async false
set_option linter.all false
namespace M
theorem valB_head {b : Nat} (ds : List Nat) (i : Nat) : valB b (ds.take i) * b ^ (ds.length - i) ≤ valB b ds := by
  have gen : ∀ (r : List Nat) (a : Nat), a * b ^ r.length ≤ r.foldl (fun a d => a * b + d) a := by
    intro r
    induction r with
    | nil => intro a; show a * 1 ≤ a; omega
    | cons d r ih =>
      intro a
      have := ih (a * b + d)
      show a * b ^ (r.length + 1) ≤ r.foldl _ (a * b + d)
      rw [Nat.pow_succ, Nat.mul_comm (b ^ _) b, ← Nat.mul_assoc]
      have h2 : a * b * b ^ r.length ≤ (a * b + d) * b ^ r.length := Nat.mul_le_mul_right _ (by omega)
      omega
  have e : valB b ds = (ds.drop i).foldl (fun a d => a * b + d) (valB b (ds.take i)) := by
    unfold valB
    rw [← List.foldl_append, List.take_append_drop]
  rw [e]
  have := gen (ds.drop i) (valB b (ds.take i))
  rw [List.length_drop] at this
  exact this
theorem hd_some {b : Nat} {W : Nat → Int} {D j s e r : Nat} (hse : s ≤ e) (h : hd b W D j s e r ≠ 0) : ∃ n, s ≤ n ∧ n < e ∧ wg b W j n % (D : Int) = (r : Int) := by
  obtain ⟨k, rfl⟩ : ∃ k, e = s + k := ⟨e - s, by omega⟩
  have e1 : hd b W D j s (s + k) r = sumI (fun i => if wg b W j (s + i) % (D : Int) = (r : Int) then 1 else 0) k := by
    unfold hd CR
    rw [sumI_shift]; omega
  rw [e1] at h
  obtain ⟨i, hi, hg⟩ := sumI_some h
  refine ⟨s + i, by omega, by omega, ?_⟩
  by_cases c : wg b W j (s + i) % (D : Int) = (r : Int)
  · exact c
  · rw [if_neg c] at hg; exact absurd rfl hg
/-- a row whose sum 0 stands at n0 -/
def at0 (D : Nat) (n0 : Nat) (g : Nat → Int) (r : Nat) : Int := g (back D r (n0 : Int))
theorem sprd_at0 {D n0 : Nat} (hD : 0 < D) (g : Nat → Int) (t : Nat) (y : Int) (r : Nat) : sprd D (at0 D n0 g) t y r = at0 D n0 (sprd D g t y) r := by
  unfold sprd at0
  refine sumI_congr fun k _ => ?_
  rw [back_back hD, back_back hD, Int.add_comm]
theorem dl_at0 {D n0 r : Nat} (hD : 0 < D) (hr : r < D) (x : Int) : dl D ((n0 : Int) + x) r = at0 D n0 (dl D x) r := by
  unfold at0
  rw [dl_back hD hr, Int.add_comm]
theorem sprd_congr {D : Nat} {g h : Nat → Int} (hD : 0 < D) (e : ∀ r, r < D → g r = h r) (t : Nat) (y : Int) (r : Nat) : sprd D g t y r = sprd D h t y r := sumI_congr fun k _ => e _ (back_lt hD)
theorem rs_line {w b n0 : Nat} (hb : 2 ≤ b) (W : Nat → Int) {D : Nat} (hD : 0 < D) (j s e ds de : Nat) (h1 : ds ≤ b) (h2 : de ≤ b) :
    pk w D (sprd D (at0 D n0 (hd b W D (j + 1) s e)) b (W j)) + pk w D (sprd D (dl D ((n0 : Int) + wg b W (j + 1) e)) de (W j)) - pk w D (sprd D (dl D ((n0 : Int) + wg b W (j + 1) s)) ds (W j)) = pk w D (at0 D n0 (hd b W D j (s * b + ds) (e * b + de))) := by
  rw [pk_add, pk_sub]
  refine pk_congr fun r hr => ?_
  rw [sprd_at0 hD, sprd_congr hD (fun r hr => dl_at0 (n0 := n0) hD hr (wg b W (j + 1) e)) de, sprd_congr hD (fun r hr => dl_at0 (n0 := n0) hD hr (wg b W (j + 1) s)) ds, sprd_at0 hD, sprd_at0 hD]
  exact (hd_step hb W hD (back_lt hD) j s e ds de h1 h2).symm
/-- what a sum x becomes at n0 -/
theorem back_sum {D n0 r : Nat} {x : Int} (hr : r < D) (h : x % (D : Int) = ((back D r (n0 : Int) : Nat) : Int)) (h0 : 0 ≤ (n0 : Int) + x) (h1 : (n0 : Int) + x < (D : Int)) : (r : Int) = (n0 : Int) + x := by
  have h2 := (back_iff (x := x) (y := (n0 : Int)) (by omega : 0 < D) hr).mpr h
  rw [Int.add_comm, Int.emod_eq_of_lt h0 h1] at h2
  exact h2.symm
theorem stay_hd {b n0 : Nat} (hb : 2 ≤ b) (W : Nat → Int) {D : Nat} {j s e : Nat} (hse : s ≤ e) (hN : 2 * n0 < D) (bd : ∀ m, m ≤ e * b → (wg b W j m).natAbs ≤ n0) (bd1 : ∀ m, m ≤ e → (wg b W (j + 1) m).natAbs ≤ n0) :
    Stay D (at0 D n0 (hd b W D (j + 1) s e)) b (W j) := fun r hr hg k hk => by
  obtain ⟨n, a1, a2, a3⟩ := hd_some hse hg
  have b1 := bd1 n (by omega)
  have er := back_sum hr a3 (by omega) (by omega)
  have hm : n * b + k ≤ e * b := by
    have : (n + 1) * b ≤ e * b := Nat.mul_le_mul_right b a2
    rw [Nat.add_mul, Nat.one_mul] at this
    omega
  have b2 := bd (n * b + k) hm
  rw [wg_snoc hb W j n k hk] at b2
  omega
theorem stay_dl {b n0 : Nat} (hb : 2 ≤ b) (W : Nat → Int) {D : Nat} {j e de : Nat} (hN : 2 * n0 < D) (hde : de ≤ b) (bd : ∀ k, k < de → (wg b W j (e * b + k)).natAbs ≤ n0) (bd1 : (wg b W (j + 1) e).natAbs ≤ n0) :
    Stay D (dl D ((n0 : Int) + wg b W (j + 1) e)) de (W j) := fun r hr hg k hk => by
  have er : (r : Int) = (n0 : Int) + wg b W (j + 1) e := by
    unfold dl at hg
    by_cases c : ((n0 : Int) + wg b W (j + 1) e) % (D : Int) = (r : Int)
    · rw [Int.emod_eq_of_lt (by omega) (by omega)] at c; exact c.symm
    · rw [if_neg c] at hg; exact absurd rfl hg
  have b2 := bd k hk
  rw [wg_snoc hb W j e k (by omega)] at b2
  omega
end M

set_option Elab.async false
set_option linter.all false
namespace M
/-! sums of figures in turn -/
def InTurn (W : Nat → Int) : Prop := ∀ j, (W j = 1 ∧ W (j + 1) = -1) ∨ (W j = -1 ∧ W (j + 1) = 1)
theorem turn_in {b : Nat} (hb : 2 ≤ b) {W : Nat → Int} (h : InTurn W) : ∀ (k j n : Nat), n < b ^ k →
    (W j = 1 → -(((k / 2) * (b - 1) : Nat) : Int) ≤ wg b W j n ∧ wg b W j n ≤ ((((k + 1) / 2) * (b - 1) : Nat) : Int)) ∧
    (W j = -1 → -((((k + 1) / 2) * (b - 1) : Nat) : Int) ≤ wg b W j n ∧ wg b W j n ≤ (((k / 2) * (b - 1) : Nat) : Int))
  | 0, j, n, hn => by
    have : n = 0 := by rw [Nat.pow_zero] at hn; omega
    subst this
    rw [wg_zero]
    exact ⟨fun _ => ⟨by simp, by simp⟩, fun _ => ⟨by simp, by simp⟩⟩
  | k + 1, j, n, hn => by
    have hn2 : n / b < b ^ k := Nat.div_lt_of_lt_mul (by rw [Nat.mul_comm, ← Nat.pow_succ]; exact hn)
    obtain ⟨i1, i2⟩ := turn_in hb h k (j + 1) (n / b) hn2
    have hm := Nat.mod_lt n (show 0 < b by omega)
    have e2 : (k + 1 + 1) / 2 = k / 2 + 1 := by omega
    have e3 : (k / 2 + 1) * (b - 1) = k / 2 * (b - 1) + (b - 1) := by rw [Nat.add_mul, Nat.one_mul]
    rw [wg_step hb W j n, e2, e3]
    generalize k / 2 * (b - 1) = p at *
    generalize (k + 1) / 2 * (b - 1) = q at *
    generalize wg b W (j + 1) (n / b) = x at *
    refine ⟨fun hj => ?_, fun hj => ?_⟩
    · rcases h j with ⟨_, z⟩ | ⟨z, _⟩
      · obtain ⟨a1, a2⟩ := i2 z
        rw [hj]
        omega
      · omega
    · rcases h j with ⟨z, _⟩ | ⟨_, z⟩
      · omega
      · obtain ⟨a1, a2⟩ := i1 z
        rw [hj]
        omega
theorem turn_abs {b : Nat} (hb : 2 ≤ b) {W : Nat → Int} (h : InTurn W) {k j n : Nat} (hn : n < b ^ k) : (wg b W j n).natAbs ≤ (k + 1) / 2 * (b - 1) := by
  obtain ⟨i1, i2⟩ := turn_in hb h k j n hn
  have hk : k / 2 * (b - 1) ≤ (k + 1) / 2 * (b - 1) := Nat.mul_le_mul_right _ (by omega)
  rcases h j with ⟨z, _⟩ | ⟨z, _⟩
  · obtain ⟨a1, a2⟩ := i1 z; omega
  · obtain ⟨a1, a2⟩ := i2 z; omega
theorem wg_single {b : Nat} (hb : 2 ≤ b) (W : Nat → Int) (j : Nat) : wg b W j 1 = W j := by
  have h := wg_snoc hb W j 0 1 (by omega)
  rw [Nat.zero_mul, Nat.zero_add, wg_zero, Int.add_zero] at h
  rw [h]
  exact Int.one_mul _
/-- every head of last + 1 has a sum within the reach -/
theorem turn_heads {b l : Nat} (hb : 2 ≤ b) {W : Nat → Int} (h : InTurn W) {j m : Nat} (hm : m * b ^ j ≤ l + 1) : (wg b W j m).natAbs ≤ ((digs b l).length + 1) / 2 * (b - 1) := by
  have hl := lt_len hb l
  have hbj : 0 < b ^ j := Nat.pow_pos (by omega)
  have hml : m ≤ l + 1 := Nat.le_trans (Nat.le_mul_of_pos_right m hbj) hm
  generalize hL : (digs b l).length = L at *
  rcases Nat.lt_or_ge m (b ^ L) with c | c
  · exact turn_abs hb h c
  · have hm1 : m = b ^ L := by omega
    have hL0 : L ≠ 0 := fun z => by
      rw [z] at hL
      exact digs_ne b l (List.eq_nil_of_length_eq_zero hL)
    have e : wg b W j m = W (j + L) := by
      have := wg_ahead hb W L j 1 0 (Nat.pow_pos (by omega))
      rw [Nat.one_mul, Nat.add_zero, wg_zero, Int.add_zero, wg_single hb] at this
      rw [hm1, this]
    rw [e]
    have h1 : 1 * 1 ≤ (L + 1) / 2 * (b - 1) := Nat.mul_le_mul (by omega) (by omega)
    rcases h (j + L) with ⟨z, _⟩ | ⟨z, _⟩ <;> rw [z] <;> omega
/-- how many numbers below n have the sum x -/
def tc (b : Nat) (W : Nat → Int) (n : Nat) (x : Int) : Int := sumI (fun i => if wg b W 0 i = x then 1 else 0) n
theorem tc_slot {b n0 : Nat} (W : Nat → Int) {D : Nat} {x : Int} {r N : Nat} (hN : 2 * n0 < D) (hr : (r : Int) = (n0 : Int) + x) (hx : x.natAbs ≤ n0) (bd : ∀ n, n < N → (wg b W 0 n).natAbs ≤ n0) : CR b W D 0 N (back D r (n0 : Int)) = tc b W N x := by
  have hrD : r < D := by omega
  unfold CR tc
  refine sumI_congr fun n hn => ?_
  have b1 := bd n hn
  by_cases c : wg b W 0 n = x
  · rw [if_pos c, if_pos]
    refine (back_iff (by omega) hrD).mp ?_
    rw [c, Int.add_comm, ← hr, Int.emod_eq_of_lt (by omega) (by omega)]
  · rw [if_neg c, if_neg]
    intro z
    have := back_sum hrD z (by omega) (by omega)
    omega
theorem tc_none {b n0 : Nat} (W : Nat → Int) {x : Int} {N : Nat} (hx : n0 < x.natAbs) (bd : ∀ n, n < N → (wg b W 0 n).natAbs ≤ n0) : tc b W N x = 0 := by
  unfold tc
  rw [sumI_congr (h := fun _ => (0 : Int)) (fun n hn => by
    have b1 := bd n hn
    rw [if_neg (fun z => by rw [z] at b1; omega)]), sumI_zero]
end M

set_option Elab.async false
set_option linter.all false
namespace M
/-! more of sums in turn -/
theorem turn_next {b : Nat} (hb : 2 ≤ b) {W : Nat → Int} (h : InTurn W) : ∀ n j, wg b W (j + 1) n = -wg b W j n := by
  have opp : ∀ j, W (j + 1) = -W j := fun j => by
    rcases h j with ⟨x, y⟩ | ⟨x, y⟩ <;> rw [x, y] <;> rfl
  refine digs_ind hb (fun n hn j => ?_) (fun n hn ih j => ?_)
  · rw [wg_step hb W (j + 1), wg_step hb W j, Nat.div_eq_of_lt hn, wg_zero, wg_zero, opp j, Int.mul_neg]
    omega
  · rw [wg_step hb W (j + 1), wg_step hb W j, ih (j + 1), opp j, Int.mul_neg]
    omega
theorem turn_rest {b : Nat} (hb : 2 ≤ b) {W : Nat → Int} (h : InTurn W) : ∀ (n : Nat) (j : Nat), W j = 1 → ∃ c : Int, (n : Int) - wg b W j n = c * ((b : Int) + 1) := by
  refine digs_ind hb (fun n hn j hj => ⟨0, ?_⟩) (fun n hn ih j hj => ?_)
  · rw [wg_step hb W j, Nat.div_eq_of_lt hn, wg_zero, hj, Nat.mod_eq_of_lt hn]
    omega
  · obtain ⟨c, hc⟩ := ih j hj
    refine ⟨((n / b : Nat) : Int) - c, ?_⟩
    rw [wg_step hb W j, turn_next hb h, hj]
    have hd : ((n / b : Nat) : Int) * (b : Int) + ((n % b : Nat) : Int) = (n : Int) := by
      have := Nat.div_add_mod n b
      rw [Nat.mul_comm] at this
      omega
    rw [Int.sub_mul, ← hc, Int.mul_add, Int.mul_one]
    omega
theorem tc_succ (b : Nat) (W : Nat → Int) (n : Nat) (x : Int) : tc b W (n + 1) x = tc b W n x + if wg b W 0 n = x then 1 else 0 := rfl
theorem tc_part (b : Nat) (W : Nat → Int) (f k : Nat) (x : Int) : tc b W (f + k) x - tc b W f x = sumI (fun i => if wg b W 0 (f + i) = x then 1 else 0) k := by
  unfold tc
  rw [sumI_shift]; omega
theorem pick_one {ns : List Int} (h : ns.Pairwise (· < ·)) {y : Int} (hy : y ∈ ns) : (ns.map fun x => if y = x then (1 : Int) else 0).sum = 1 := by
  induction ns with
  | nil => cases hy
  | cons z r ih =>
    obtain ⟨h1, h2⟩ := List.pairwise_cons.mp h
    rw [List.map_cons, List.sum_cons]
    by_cases c : y = z
    · rw [if_pos c]
      have : (r.map fun x => if y = x then (1 : Int) else 0).sum = 0 := by
        have none : ∀ l : List Int, (∀ x ∈ l, y < x) → (l.map fun x => if y = x then (1 : Int) else 0).sum = 0 := by
          intro l
          induction l with
          | nil => intro _; rfl
          | cons u v iv =>
            intro hl
            have hu := hl u (by simp)
            rw [List.map_cons, List.sum_cons, if_neg (by omega), iv fun x hx => hl x (by simp [hx])]
            rfl
        exact none r fun x hx => by rw [c]; exact h1 x hx
      rw [this]; rfl
    · rw [if_neg c, ih h2 (by rcases List.mem_cons.mp hy with q | q; exact absurd q c; exact q)]
      rfl
theorem tc_all {b : Nat} (W : Nat → Int) (f : Nat) {ns : List Int} (h : ns.Pairwise (· < ·)) : ∀ k, (∀ i, i < k → wg b W 0 (f + i) ∈ ns) → (ns.map fun x => tc b W (f + k) x - tc b W f x).sum = (k : Int)
  | 0, _ => by
    have e : (ns.map fun x => tc b W (f + 0) x - tc b W f x) = ns.map fun _ => (0 : Int) := List.map_congr_left fun x _ => by rw [Nat.add_zero]; omega
    rw [e]
    have none : ∀ l : List Int, (l.map fun _ => (0 : Int)).sum = 0 := by
      intro l
      induction l with
      | nil => rfl
      | cons u v iv => rw [List.map_cons, List.sum_cons, iv]; rfl
    exact none ns
  | k + 1, hk => by
    have i := tc_all W f h k fun i hi => hk i (by omega)
    have p := pick_one h (hk k (by omega))
    have add : ∀ l : List Int, (l.map fun x => tc b W (f + (k + 1)) x - tc b W f x).sum = (l.map fun x => tc b W (f + k) x - tc b W f x).sum + (l.map fun x => if wg b W 0 (f + k) = x then (1 : Int) else 0).sum := by
      intro l
      induction l with
      | nil => rfl
      | cons u v iv =>
        rw [List.map_cons, List.sum_cons, iv, List.map_cons, List.sum_cons, List.map_cons, List.sum_cons, ← Nat.add_assoc, tc_succ]
        omega
    rw [add, i, p]; rfl
end M

set_option Elab.async false
set_option linter.all false
namespace M
/-! how many fillings of p places have a sum and a rest -/
def fl (b D p s r : Nat) : Int := sumI (fun n => if dsum b n = s ∧ ((n : Nat) : Int) % (D : Int) = (r : Int) then 1 else 0) (b ^ p)
theorem fl_zero {b D s r : Nat} (hb : 2 ≤ b) : fl b D 0 s r = if s = 0 ∧ (0 : Int) % (D : Int) = (r : Int) then 1 else 0 := by
  show 0 + (if dsum b 0 = s ∧ ((0 : Nat) : Int) % (D : Int) = (r : Int) then (1 : Int) else 0) = _
  rw [dsum_zero hb]
  by_cases c : s = 0
  · subst c
    by_cases z : (0 : Int) % (D : Int) = (r : Int)
    · rw [if_pos ⟨rfl, z⟩, if_pos ⟨rfl, z⟩]; rfl
    · rw [if_neg fun q => z q.2, if_neg fun q => z q.2]; rfl
  · rw [if_neg fun q => c q.1.symm, if_neg fun q => c q.1]; rfl
theorem fl_succ {b D r : Nat} (hb : 2 ≤ b) (hD : 0 < D) (hr : r < D) (p s : Nat) : fl b D (p + 1) s r = sumI (fun f => if f ≤ s then fl b D p (s - f) (back D r ((f : Int) * ((b ^ p : Nat) : Int))) else 0) b := by
  unfold fl
  rw [Nat.pow_succ, Nat.mul_comm, sumI_rows]
  refine sumI_congr fun f hf => ?_
  have at_ : ∀ i : Nat, ((f * b ^ p + i : Nat) : Int) % (D : Int) = (r : Int) ↔ ((i : Nat) : Int) % (D : Int) = ((back D r ((f : Int) * ((b ^ p : Nat) : Int)) : Nat) : Int) := fun i => by
    have e : ((f * b ^ p + i : Nat) : Int) = (i : Int) + (f : Int) * ((b ^ p : Nat) : Int) := by rw [Int.natCast_add, Int.natCast_mul, Int.add_comm]
    rw [e]
    exact back_iff hD hr
  by_cases c : f ≤ s
  · rw [if_pos c]
    refine sumI_congr fun i hi => ?_
    rw [dsum_ahead hb hi, dsum_small hf]
    by_cases z : dsum b i = s - f ∧ ((i : Nat) : Int) % (D : Int) = ((back D r ((f : Int) * ((b ^ p : Nat) : Int)) : Nat) : Int)
    · rw [if_pos z, if_pos ⟨by omega, (at_ i).mpr z.2⟩]
    · rw [if_neg z, if_neg fun q => z ⟨by omega, (at_ i).mp q.2⟩]
  · rw [if_neg c]
    have : sumI (fun i => if dsum b (f * b ^ p + i) = s ∧ ((f * b ^ p + i : Nat) : Int) % (D : Int) = (r : Int) then (1 : Int) else 0) (b ^ p) = sumI (fun _ => (0 : Int)) (b ^ p) := sumI_congr fun i hi => by
      rw [dsum_ahead hb hi, dsum_small hf, if_neg fun q => c (by omega)]
    rw [this, sumI_zero]
/-- the window that moves on with the sum, the rests around the wheel -/
theorem fl_win {b D r : Nat} (hb : 2 ≤ b) (hD : 0 < D) (hr : r < D) (p s : Nat) :
    fl b D (p + 1) s r = (if s = 0 then 0 else fl b D (p + 1) (s - 1) (back D r ((b ^ p : Nat) : Int))) + fl b D p s r - (if b ≤ s then fl b D p (s - b) (back D r ((b : Int) * ((b ^ p : Nat) : Int))) else 0) := by
  have nought : back D r (((0 : Nat) : Int) * ((b ^ p : Nat) : Int)) = r := by
    have : ((0 : Nat) : Int) * ((b ^ p : Nat) : Int) = 0 := Int.zero_mul _
    rw [this, back_zero hr]
  have step : ∀ f : Nat, back D (back D r ((b ^ p : Nat) : Int)) ((f : Int) * ((b ^ p : Nat) : Int)) = back D r (((f + 1 : Nat) : Int) * ((b ^ p : Nat) : Int)) := fun f => by
    rw [back_back hD, Int.natCast_add, Int.add_mul]
    congr 1
    have : ((1 : Nat) : Int) * ((b ^ p : Nat) : Int) = ((b ^ p : Nat) : Int) := Int.one_mul _
    rw [this, Int.add_comm]
  generalize hY : ((b ^ p : Nat) : Int) = Y at *
  have full := fl_succ hb hD hr p s
  have full1 := fl_succ hb hD (back_lt (y := Y) (r := r) hD) p (s - 1)
  rw [hY] at full full1
  obtain ⟨c, rfl⟩ : ∃ c, b = c + 1 := ⟨b - 1, by omega⟩
  rw [full, sumI_front, if_pos (Nat.zero_le _), Nat.sub_zero, nought]
  by_cases z : s = 0
  · subst z
    have : sumI (fun j => if j + 1 ≤ 0 then fl (c + 1) D p (0 - (j + 1)) (back D r (((j + 1 : Nat) : Int) * Y)) else 0) c = sumI (fun _ => (0 : Int)) c := sumI_congr fun j _ => if_neg (by omega)
    rw [if_pos rfl, if_neg (by omega), this, sumI_zero]
    omega
  · rw [if_neg z, full1]
    have e1 : sumI (fun j => if j + 1 ≤ s then fl (c + 1) D p (s - (j + 1)) (back D r (((j + 1 : Nat) : Int) * Y)) else 0) c = sumI (fun f => if f ≤ s - 1 then fl (c + 1) D p (s - 1 - f) (back D (back D r Y) ((f : Int) * Y)) else 0) c := sumI_congr fun j _ => by
      by_cases k : j + 1 ≤ s
      · rw [if_pos k, if_pos (by omega), step, show s - (j + 1) = s - 1 - j from by omega]
      · rw [if_neg k, if_neg (by omega)]
    have e2 : sumI (fun f => if f ≤ s - 1 then fl (c + 1) D p (s - 1 - f) (back D (back D r Y) ((f : Int) * Y)) else 0) (c + 1) = sumI (fun f => if f ≤ s - 1 then fl (c + 1) D p (s - 1 - f) (back D (back D r Y) ((f : Int) * Y)) else 0) c + (if c + 1 ≤ s then fl (c + 1) D p (s - (c + 1)) (back D r (((c + 1 : Nat) : Int) * Y)) else 0) := by
      show _ + (if c ≤ s - 1 then fl (c + 1) D p (s - 1 - c) (back D (back D r Y) ((c : Int) * Y)) else 0) = _
      congr 1
      by_cases k : c + 1 ≤ s
      · rw [if_pos k, if_pos (by omega), step, show s - (c + 1) = s - 1 - c from by omega]
      · rw [if_neg k, if_neg (by omega)]
    rw [e1, e2]
    omega
theorem fl_fits (b D p s r : Nat) : 0 ≤ fl b D p s r ∧ fl b D p s r ≤ ((b ^ p : Nat) : Int) := by
  unfold fl
  generalize b ^ p = n
  induction n with
  | zero => exact ⟨Int.le_refl 0, Int.le_refl 0⟩
  | succ n ih =>
    obtain ⟨i1, i2⟩ := ih
    show 0 ≤ sumI _ n + (if dsum b n = s ∧ ((n : Nat) : Int) % (D : Int) = (r : Int) then (1 : Int) else 0) ∧ sumI _ n + (if dsum b n = s ∧ ((n : Nat) : Int) % (D : Int) = (r : Int) then (1 : Int) else 0) ≤ ((n + 1 : Nat) : Int)
    split
    · exact ⟨by omega, by omega⟩
    · exact ⟨by omega, by omega⟩
end M
namespace M
open L2
theorem fl_none {b D p s r : Nat} (hb : 2 ≤ b) (h : p * (b - 1) < s) : fl b D p s r = 0 := by
  unfold fl
  rw [sumI_congr (h := fun _ => (0 : Int)) (fun n hn => by
    have := dsum_many hb p n hn
    rw [Nat.mul_comm] at this
    rw [if_neg fun q => by omega]), sumI_zero]
theorem back_mod {D r : Nat} {y z : Int} (h : y % (D : Int) = z % (D : Int)) : back D r y = back D r z := by
  unfold back
  rw [Int.sub_emod, h, ← Int.sub_emod]
/-- rows by sums, each of counts by rests -/
def flV (w D b p len : Nat) : List V := (List.range len).map fun s => V.int (pk w D (fl b D p s))
theorem flV_len (w D b p len : Nat) : (flV w D b p len).length = len := by unfold flV; rw [List.length_map, List.length_range]
theorem flV_get {w D b p len s : Nat} (h : s < len) : (flV w D b p len)[s]? = some (V.int (pk w D (fl b D p s))) := by
  unfold flV
  rw [List.getElem?_map, List.getElem?_range h]; rfl
theorem fl_row {w b D : Nat} (hb : 2 ≤ b) (hD : 0 < D) {y : Int} (p s : Nat) (hy : y % (D : Int) = ((b ^ p : Nat) : Int) % (D : Int)) :
    pk w D (fl b D p s) + (if s = 0 then 0 else pk w D fun r => fl b D (p + 1) (s - 1) (back D r y)) - (if b ≤ s then pk w D fun r => fl b D p (s - b) (back D r (y * (b : Int))) else 0) = pk w D (fl b D (p + 1) s) := by
  have hy2 : (y * (b : Int)) % (D : Int) = ((b : Int) * ((b ^ p : Nat) : Int)) % (D : Int) := by
    rw [Int.mul_emod, hy, ← Int.mul_emod, Int.mul_comm]
  have e1 : (if s = 0 then (0 : Int) else pk w D fun r => fl b D (p + 1) (s - 1) (back D r y)) = pk w D fun r => if s = 0 then 0 else fl b D (p + 1) (s - 1) (back D r ((b ^ p : Nat) : Int)) := by
    by_cases c : s = 0
    · rw [if_pos c]
      exact (pk_none fun r _ => by rw [if_pos c]).symm
    · rw [if_neg c]
      exact pk_congr fun r _ => by rw [if_neg c, back_mod hy]
  have e2 : (if b ≤ s then pk w D fun r => fl b D p (s - b) (back D r (y * (b : Int))) else (0 : Int)) = pk w D fun r => if b ≤ s then fl b D p (s - b) (back D r ((b : Int) * ((b ^ p : Nat) : Int))) else 0 := by
    by_cases c : b ≤ s
    · rw [if_pos c]
      exact pk_congr fun r _ => by rw [if_pos c, back_mod hy2]
    · rw [if_neg c]
      exact (pk_none fun r _ => by rw [if_neg c]).symm
  rw [e1, e2, pk_add, pk_sub]
  refine pk_congr fun r hr => ?_
  rw [fl_win hb hD hr p s]
  omega
end M

set_option Elab.async false
set_option linter.all false
namespace M
/-! numbers with a told sum and a told rest; numbers divided by their own sum -/
def cbi (b D t r n : Nat) : Int := if dsum b n = t ∧ ((n : Nat) : Int) % (D : Int) = (r : Int) then 1 else 0
def cb (b D t r N : Nat) : Int := sumI (cbi b D t r) N
theorem blk_both {b D t r p s : Nat} (hb : 2 ≤ b) (hD : 0 < D) (hr : r < D) (d : b ^ p ∣ s) : sumI (fun i => cbi b D t r (s + i)) (b ^ p) = if dsum b s ≤ t then fl b D p (t - dsum b s) (back D r (s : Int)) else 0 := by
  by_cases c : dsum b s ≤ t
  · rw [if_pos c]
    unfold fl
    refine sumI_congr fun i hi => ?_
    unfold cbi
    have e := blk_dsum hb d hi
    have k := back_iff (x := (i : Int)) (y := (s : Int)) hD hr
    have e2 : ((s + i : Nat) : Int) = (i : Int) + (s : Int) := by omega
    rw [e, e2]
    by_cases q : dsum b i = t - dsum b s ∧ ((i : Nat) : Int) % (D : Int) = ((back D r (s : Int) : Nat) : Int)
    · rw [if_pos q, if_pos ⟨by omega, k.mpr q.2⟩]
    · rw [if_neg q, if_neg fun z => q ⟨by omega, k.mp z.2⟩]
  · rw [if_neg c, sumI_congr (h := fun _ => (0 : Int)) (fun i hi => ?_), sumI_zero]
    unfold cbi
    have e := blk_dsum hb d hi
    exact if_neg fun z => by omega
/-- the blocks of a stretch: the first i of them -/
def cbs (b D t r : Nat) (xs : List (Nat × Nat)) : Int := (xs.map fun x => if dsum b x.1 ≤ t then fl b D x.2 (t - dsum b x.1) (back D r (x.1 : Int)) else 0).sum
theorem chain_both {b D t r : Nat} (hb : 2 ≤ b) (hD : 0 < D) (hr : r < D) : ∀ {xs : List (Nat × Nat)} {s e : Nat}, Chain b s xs e → cbs b D t r xs = cb b D t r e - cb b D t r s := by
  intro xs s e h
  have k := (h.sum (cbi b D t r)).2
  unfold cb
  rw [← k]
  unfold cbs
  have mem : ∀ (xs : List (Nat × Nat)) (s e : Nat), Chain b s xs e → (xs.map fun x => if dsum b x.1 ≤ t then fl b D x.2 (t - dsum b x.1) (back D r (x.1 : Int)) else 0) = xs.map fun x => sumI (fun i => cbi b D t r (x.1 + i)) (b ^ x.2) := by
    intro xs
    induction xs with
    | nil => intro s e _; rfl
    | cons x l ih =>
      intro s e h
      obtain ⟨h1, h2, h3⟩ := h
      rw [List.map_cons, List.map_cons, ih _ _ h3, blk_both hb hD hr (by rw [h1]; exact h2)]
  rw [mem xs s e h]
theorem cbs_snoc (b D t r : Nat) (xs : List (Nat × Nat)) (x : Nat × Nat) : cbs b D t r (xs ++ [x]) = cbs b D t r xs + if dsum b x.1 ≤ t then fl b D x.2 (t - dsum b x.1) (back D r (x.1 : Int)) else 0 := by
  unfold cbs
  rw [List.map_append, List.sum_append]
  show _ + (_ + 0) = _
  rw [Int.add_zero]
theorem cb_nonneg (b D t r : Nat) : ∀ N, 0 ≤ cb b D t r N ∧ cb b D t r N ≤ N
  | 0 => ⟨Int.le_refl _, Int.le_refl _⟩
  | N + 1 => by
    obtain ⟨h1, h2⟩ := cb_nonneg b D t r N
    have e : cb b D t r (N + 1) = cb b D t r N + cbi b D t r N := rfl
    have f : 0 ≤ cbi b D t r N ∧ cbi b D t r N ≤ 1 := by unfold cbi; split <;> omega
    omega
/-- divided by their own sum -/
def dvi (b n : Nat) : Int := if 1 ≤ dsum b n ∧ n % dsum b n = 0 then 1 else 0
def dv (b N : Nat) : Int := sumI (dvi b) N
theorem dvi_sum (b n : Nat) : ∀ G : Nat, sumI (fun k => cbi b (k + 1) (k + 1) 0 n) G = if dsum b n ≤ G then dvi b n else 0
  | 0 => by
    by_cases c : dsum b n ≤ 0
    · rw [if_pos c]
      unfold dvi
      rw [if_neg (by omega)]
      rfl
    · rw [if_neg c]
      rfl
  | G + 1 => by
    have e : sumI (fun k => cbi b (k + 1) (k + 1) 0 n) (G + 1) = sumI (fun k => cbi b (k + 1) (k + 1) 0 n) G + cbi b (G + 1) (G + 1) 0 n := rfl
    rw [e, dvi_sum b n G]
    unfold cbi dvi
    by_cases c : dsum b n = G + 1
    · rw [if_neg (by omega), if_pos (by omega : dsum b n ≤ G + 1), c]
      have k : (((n : Nat) : Int) % ((G + 1 : Nat) : Int) = ((0 : Nat) : Int)) ↔ n % (G + 1) = 0 := by
        rw [← Int.natCast_emod]
        omega
      by_cases z : n % (G + 1) = 0
      · rw [if_pos ⟨rfl, k.mpr z⟩, if_pos ⟨by omega, z⟩]
        rfl
      · rw [if_neg (fun q => z (k.mp q.2)), if_neg (fun q => z q.2)]
        rfl
    · rw [if_neg (show ¬ (dsum b n = G + 1 ∧ ((n : Nat) : Int) % ((G + 1 : Nat) : Int) = ((0 : Nat) : Int)) from fun q => c q.1)]
      by_cases l : dsum b n ≤ G
      · rw [if_pos l, if_pos (show dsum b n ≤ G + 1 by omega)]
        omega
      · rw [if_neg l, if_neg (show ¬ dsum b n ≤ G + 1 by omega)]
        rfl
theorem dv_sum {b G N : Nat} (h : ∀ n, n < N → dsum b n ≤ G) : sumI (fun k => cb b (k + 1) (k + 1) 0 N) G = dv b N := by
  unfold cb dv
  rw [sumI_swap (fun k n => cbi b (k + 1) (k + 1) 0 n) N G]
  refine sumI_congr fun n hn => ?_
  rw [dvi_sum, if_pos (h n hn)]
end M

set_option Elab.async false
set_option linter.all false
namespace M
/-! a stretch in two parts -/
theorem recs_join {b f c l : Nat} (hb : 2 ≤ b) (hfc : f ≤ c) (hcl : c ≤ l) : recs b f (up b l) = recs b f (up b c) ++ recs b (c + 1) (up b l) := by
  have none : ∀ k, k ≤ up b c → recs b (c + 1) k = [] := by
    intro k
    induction k with
    | zero => intro _; rfl
    | succ k ih =>
      intro h
      have := (up_iff (l := c) (s := k) hb).mpr (by omega)
      rw [recs_succ, ih (by omega), if_neg (by omega)]
      rfl
  have all : ∀ j, recs b f (up b c + j) = recs b f (up b c) ++ recs b (c + 1) (up b c + j) := by
    intro j
    induction j with
    | zero => rw [Nat.add_zero, none _ (Nat.le_refl _), List.append_nil]
    | succ j ih =>
      have gt : ¬ frec b (up b c + j) ≤ c := fun h => by
        have := (up_iff (l := c) hb).mp h
        omega
      rw [← Nat.add_assoc, recs_succ, recs_succ, ih, if_pos (by omega), if_pos (by omega), List.append_assoc]
  have le : up b c ≤ up b l := by
    rcases Nat.eq_zero_or_pos (up b c) with z | z
    · omega
    · have h1 := (up_iff (l := c) (s := up b c - 1) hb).mpr (by omega)
      have h2 := (up_iff (l := l) (s := up b c - 1) hb).mp (by omega)
      omega
  have k := all (up b l - up b c)
  rw [show up b c + (up b l - up b c) = up b l by omega] at k
  exact k
theorem told_join {b f c l : Nat} (hb : 2 ≤ b) (hfc : f ≤ c) (hcl : c ≤ l) : told b f l = (told b f c ++ told b (c + 1) l).take 60 := by
  unfold told
  rw [recs_join hb hfc hcl]
  generalize recs b f (up b c) = A
  generalize recs b (c + 1) (up b l) = B
  rw [List.take_append, List.take_append, List.take_take, List.length_take, List.take_take]
  have e : 60 - A.length = min (60 - min 60 A.length) 60 := by omega
  rw [← e]
  rfl
/-- what the stages tell of the numbers below N, and of a stretch -/
def stg (b told D : Nat) (x : Int) (W V : Nat → Int) (N : Nat) : List Int :=
  [((tot b N : Nat) : Int), wt b W 0 N] ++ (List.range b).map (fun g => ((cnt b g N : Nat) : Int)) ++ [cs b N told, vs_ b N told] ++ (List.range D).map (fun r => CR b (fun _ => 1) D 0 N r) ++ (List.range D).map (fun r => CR b W D 0 N r) ++ [tc b V N x]
def dif (xs ys : List Int) : List Int := List.zipWith (fun a b => a - b) xs ys
theorem stg_len (b told D : Nat) (x : Int) (W V : Nat → Int) (N : Nat) : (stg b told D x W V N).length = b + 2 * D + 5 := by
  unfold stg
  simp only [List.length_append, List.length_map, List.length_range, List.length_cons, List.length_nil]
  omega
theorem dif_len {xs ys : List Int} (h : xs.length = ys.length) : (dif xs ys).length = ys.length := by
  unfold dif
  rw [List.length_zipWith]
  omega
theorem dif_add : ∀ {xs ys zs : List Int}, xs.length = ys.length → ys.length = zs.length → List.zipWith (fun a b => a + b) (dif ys zs) (dif xs ys) = dif xs zs
  | [], [], [], _, _ => rfl
  | x :: xs, y :: ys, z :: zs, h, k => by
    have ih := dif_add (xs := xs) (ys := ys) (zs := zs) (by simpa using h) (by simpa using k)
    unfold dif at ih ⊢
    rw [List.zipWith_cons_cons, List.zipWith_cons_cons, List.zipWith_cons_cons, List.zipWith_cons_cons, ih]
    congr 1
    omega
  | [], _ :: _, _, h, _ => by simp at h
  | _ :: _, [], _, h, _ => by simp at h
  | _, [], _ :: _, _, k => by simp at k
  | _, _ :: _, [], _, k => by simp at k
theorem dif_map (n : Nat) (g h : Nat → Int) : dif ((List.range n).map g) ((List.range n).map h) = (List.range n).map fun i => g i - h i := by
  unfold dif
  refine List.ext_getElem? fun i => ?_
  rw [List.getElem?_zipWith, List.getElem?_map, List.getElem?_map, List.getElem?_map]
  cases (List.range n)[i]? <;> rfl
theorem dif_app {a b c d : List Int} (h : a.length = c.length) : dif (a ++ b) (c ++ d) = dif a c ++ dif b d := by
  unfold dif
  rw [List.zipWith_append h]
/-- what is told of the stretch -/
theorem stg_dif (b told D : Nat) (x : Int) (W V : Nat → Int) (N M : Nat) : dif (stg b told D x W V N) (stg b told D x W V M) =
    [((tot b N : Nat) : Int) - ((tot b M : Nat) : Int), wt b W 0 N - wt b W 0 M] ++ (List.range b).map (fun g => ((cnt b g N : Nat) : Int) - ((cnt b g M : Nat) : Int)) ++ [cs b N told - cs b M told, vs_ b N told - vs_ b M told] ++ (List.range D).map (fun r => CR b (fun _ => 1) D 0 N r - CR b (fun _ => 1) D 0 M r) ++ (List.range D).map (fun r => CR b W D 0 N r - CR b W D 0 M r) ++ [tc b V N x - tc b V M x] := by
  unfold stg
  rw [dif_app (by simp), dif_app (by simp), dif_app (by simp), dif_app (by simp), dif_app (by simp), dif_map, dif_map, dif_map]
  rfl
end M

set_option Elab.async false
set_option linter.all false
namespace M
/-! one stretch by all stages: numbers put into buckets by what is told of each -/
theorem buckets (u : Nat → Int) (v : Nat → Nat → Int) {lo : Int} {n m : Nat} (bd : ∀ i, i < m → lo ≤ u i ∧ u i < lo + (n : Int)) : sumI (fun k => sumI (fun i => if u i = lo + (k : Int) then v k i else 0) m) n = sumI (fun i => v (u i - lo).toNat i) m := by
  rw [sumI_swap (fun k i => if u i = lo + (k : Int) then v k i else 0)]
  refine sumI_congr fun i hi => ?_
  obtain ⟨b1, b2⟩ := bd i hi
  have p := sumI_pick (u i - lo).toNat (fun k => v k i) n (by omega)
  refine Eq.trans (sumI_congr fun k hk => ?_) p
  by_cases c : k = (u i - lo).toNat
  · rw [if_pos c, if_pos (by omega)]
  · rw [if_neg c, if_neg (by omega)]
theorem bucket_of (u : Nat → Int) (h : Int → Int) {lo : Int} {n m : Nat} (bd : ∀ i, i < m → lo ≤ u i ∧ u i < lo + (n : Int)) : sumI (fun k => h (lo + (k : Int)) * sumI (fun i => if u i = lo + (k : Int) then 1 else 0) m) n = sumI (fun i => h (u i)) m := by
  have e := buckets u (fun k _ => h (lo + (k : Int))) bd
  refine Eq.trans (sumI_congr fun k _ => ?_) (e.trans (sumI_congr fun i hi => ?_))
  · rw [← sumI_mul]
    refine sumI_congr fun i _ => ?_
    by_cases c : u i = lo + (k : Int)
    · rw [if_pos c, if_pos c, Int.mul_one]
    · rw [if_neg c, if_neg c, Int.mul_zero]
  · obtain ⟨b1, b2⟩ := bd i hi
    show h (lo + (((u i - lo).toNat : Nat) : Int)) = h (u i)
    congr 1
    omega
/-- how many of m numbers from f on have the value x -/
def bk (u : Nat → Int) (f m : Nat) (x : Int) : Int := sumI (fun i => if u (f + i) = x then 1 else 0) m
theorem bk_many {u : Nat → Int} {f : Nat} {lo : Int} {n m : Nat} (bd : ∀ i, i < m → lo ≤ u (f + i) ∧ u (f + i) < lo + (n : Int)) : sumI (fun k => bk u f m (lo + (k : Int))) n = (m : Int) := by
  have e := bucket_of (fun i => u (f + i)) (fun _ => 1) bd
  rw [sumI_const, Int.mul_one] at e
  rw [← e]
  exact sumI_congr fun k _ => by rw [Int.one_mul]; rfl
theorem bk_sum {u : Nat → Int} {f : Nat} {lo : Int} {n m : Nat} (bd : ∀ i, i < m → lo ≤ u (f + i) ∧ u (f + i) < lo + (n : Int)) : sumI (fun k => (lo + (k : Int)) * bk u f m (lo + (k : Int))) n = sumI (fun i => u (f + i)) m := bucket_of (fun i => u (f + i)) (fun x => x) bd
theorem bk_rests {u : Nat → Int} {f : Nat} {lo : Int} {n m : Nat} (D r : Nat) (bd : ∀ i, i < m → lo ≤ u (f + i) ∧ u (f + i) < lo + (n : Int)) : sumI (fun k => if (lo + (k : Int)) % (D : Int) = (r : Int) then bk u f m (lo + (k : Int)) else 0) n = sumI (fun i => if u (f + i) % (D : Int) = (r : Int) then 1 else 0) m := by
  have e := bucket_of (fun i => u (f + i)) (fun x => if x % (D : Int) = (r : Int) then 1 else 0) bd
  rw [← e]
  refine sumI_congr fun k _ => ?_
  by_cases c : (lo + (k : Int)) % (D : Int) = (r : Int)
  · rw [if_pos c, if_pos c, Int.one_mul]; rfl
  · rw [if_neg c, if_neg c, Int.zero_mul]
theorem bk_pos {u : Nat → Int} {f m i : Nat} {x : Int} (hi : i < m) (e : u (f + i) = x) : 1 ≤ bk u f m x := by
  have h : ∀ n, (0 : Int) ≤ (fun i => if u (f + i) = x then (1 : Int) else 0) n := fun n => by
    show (0 : Int) ≤ if u (f + n) = x then (1 : Int) else 0
    split <;> omega
  have := (sumI_pos h m).2.2 i hi
  rw [if_pos e] at this
  exact this
theorem bk_range {u : Nat → Int} {f : Nat} {x : Int} : ∀ m : Nat, 0 ≤ bk u f m x ∧ bk u f m x ≤ m
  | 0 => ⟨Int.le_refl _, Int.le_refl _⟩
  | m + 1 => by
    obtain ⟨a, b⟩ := bk_range (u := u) (f := f) (x := x) m
    have e : bk u f (m + 1) x = bk u f m x + if u (f + m) = x then 1 else 0 := rfl
    rw [e]
    split <;> omega
/-- the sum of a number's figures as a whole number -/
def ds (b n : Nat) : Int := ((dsum b n : Nat) : Int)
theorem cs_bk {b f l : Nat} (h : f ≤ l) (s : Nat) : cs b (l + 1) s - cs b f s = bk (ds b) f (l + 1 - f) ((s : Nat) : Int) := by
  rw [cs_shift b f (l + 1) s (by omega)]
  unfold bk ds
  refine sumI_congr fun i _ => ?_
  by_cases c : dsum b (f + i) = s
  · rw [if_pos c, if_pos (by rw [c])]
  · rw [if_neg c, if_neg (by omega)]
theorem tc_bk {b f l : Nat} (W : Nat → Int) (h : f ≤ l) (x : Int) : tc b W (l + 1) x - tc b W f x = bk (wg b W 0) f (l + 1 - f) x := by
  have e := tc_part b W f (l + 1 - f) x
  rw [show f + (l + 1 - f) = l + 1 by omega] at e
  exact e
theorem CR_part {b f l : Nat} (W : Nat → Int) (D r : Nat) (h : f ≤ l) : CR b W D 0 (l + 1) r - CR b W D 0 f r = sumI (fun i => if wg b W 0 (f + i) % (D : Int) = (r : Int) then 1 else 0) (l + 1 - f) := by
  have e := sumI_shift (fun n => if wg b W 0 n % (D : Int) = (r : Int) then (1 : Int) else 0) f (l + 1 - f)
  rw [show f + (l + 1 - f) = l + 1 by omega] at e
  unfold CR
  rw [e]; omega
theorem wt_part {b f l : Nat} (W : Nat → Int) (h : f ≤ l) : wt b W 0 (l + 1) - wt b W 0 f = sumI (fun i => wg b W 0 (f + i)) (l + 1 - f) := by
  have e := sumI_shift (wg b W 0) f (l + 1 - f)
  rw [show f + (l + 1 - f) = l + 1 by omega] at e
  unfold wt
  rw [e]; omega
theorem tot_part {b f l : Nat} (h : f ≤ l) : ((tot b (l + 1) : Nat) : Int) - ((tot b f : Nat) : Int) = sumI (fun i => ds b (f + i)) (l + 1 - f) := by
  have k : ∀ m, ((tot b (f + m) : Nat) : Int) = ((tot b f : Nat) : Int) + sumI (fun i => ds b (f + i)) m := by
    intro m
    induction m with
    | zero => show _ = _ + (0 : Int); rw [Nat.add_zero, Int.add_zero]
    | succ m ih =>
      rw [← Nat.add_assoc, tot_succ, Int.natCast_add, ih]
      show _ = _ + (sumI (fun i => ds b (f + i)) m + ds b (f + m))
      show _ + ((dsum b (f + m) : Nat) : Int) = _ + (_ + ((dsum b (f + m) : Nat) : Int))
      omega
  have e := k (l + 1 - f)
  rw [show f + (l + 1 - f) = l + 1 by omega] at e
  rw [e]; omega
/-- the values of all numbers with the sums lo, lo + 1, .. come to all of them -/
theorem vs_parts {b f l lo n : Nat} (h : f ≤ l) (bd : ∀ i, i < l + 1 - f → lo ≤ dsum b (f + i) ∧ dsum b (f + i) < lo + n) : 2 * sumI (fun k => vs_ b (l + 1) (lo + k) - vs_ b f (lo + k)) n = ((f : Int) + (l : Int)) * ((l : Int) - (f : Int) + 1) := by
  have e1 : sumI (fun k => vs_ b (l + 1) (lo + k) - vs_ b f (lo + k)) n = sumI (fun i => ((f + i : Nat) : Int)) (l + 1 - f) := by
    have e := buckets (fun i => ds b (f + i)) (fun _ i => ((f + i : Nat) : Int)) (lo := (lo : Int)) (n := n) (m := l + 1 - f) (fun i hi => by
      have := bd i hi
      unfold ds
      omega)
    refine Eq.trans (sumI_congr fun k _ => ?_) e
    rw [vs_shift b f (l + 1) (lo + k) (by omega)]
    refine sumI_congr fun i _ => ?_
    unfold ds
    by_cases c : dsum b (f + i) = lo + k
    · rw [if_pos c, if_pos (by omega)]
    · rw [if_neg c, if_neg (by omega)]
  rw [e1]
  have e2 : ∀ m : Nat, 2 * sumI (fun i => ((f + i : Nat) : Int)) m = (m : Int) * (2 * (f : Int) + (m : Int) - 1) := by
    intro m
    induction m with
    | zero => show 2 * (0 : Int) = 0 * _; rw [Int.zero_mul]; rfl
    | succ m ih =>
      show 2 * (sumI (fun i => ((f + i : Nat) : Int)) m + ((f + m : Nat) : Int)) = _
      rw [Int.mul_add, ih, Int.natCast_add, Int.natCast_add]
      generalize (f : Int) = F
      generalize (m : Int) = N
      show N * (2 * F + N - 1) + 2 * (F + N) = (N + 1) * (2 * F + (N + 1) - 1)
      rw [Int.add_mul, Int.one_mul, show 2 * F + (N + 1) - 1 = (2 * F + N - 1) + 1 by omega, Int.mul_add N, Int.mul_one]
      omega
  rw [e2 (l + 1 - f), Int.mul_comm]
  have c1 : ((l + 1 - f : Nat) : Int) = (l : Int) - (f : Int) + 1 := by omega
  rw [c1]
  congr 1
  omega
/-- by the base less one the sum has the number's rest -/
theorem ds_rest {b : Nat} (hb : 2 ≤ b) (n : Nat) : ds b n % ((b - 1 : Nat) : Int) = (n : Int) % ((b - 1 : Nat) : Int) := by
  obtain ⟨k, e⟩ := dsum_mod hb n
  have e' : (n : Int) = ds b n + ((b - 1 : Nat) : Int) * (k : Int) := by
    unfold ds
    rw [← Int.natCast_mul, ← Int.natCast_add, ← e]
  rw [e', Int.add_mul_emod_self_left]
/-- how many numbers of a stretch have a rest -/
theorem rest_many {D r : Nat} (hD : 0 < D) (hr : r < D) (f : Nat) : ∀ m : Nat, sumI (fun i => if ((f + i : Nat) : Int) % (D : Int) = (r : Int) then (1 : Int) else 0) m = ((f : Int) + (m : Int) - 1 - (r : Int)) / (D : Int) - ((f : Int) - 1 - (r : Int)) / (D : Int)
  | 0 => by
    show (0 : Int) = _
    rw [show (f : Int) + ((0 : Nat) : Int) - 1 - (r : Int) = (f : Int) - 1 - (r : Int) by omega]
    omega
  | m + 1 => by
    show sumI (fun i => if ((f + i : Nat) : Int) % (D : Int) = (r : Int) then (1 : Int) else 0) m + (if ((f + m : Nat) : Int) % (D : Int) = (r : Int) then (1 : Int) else 0) = _
    rw [rest_many hD hr f m]
    have hx : (f : Int) + ((m + 1 : Nat) : Int) - 1 - (r : Int) = ((f + m : Nat) : Int) - (r : Int) := by omega
    have hy : (f : Int) + (m : Int) - 1 - (r : Int) = ((f + m : Nat) : Int) - (r : Int) - 1 := by omega
    rw [hx, hy]
    generalize ((f + m : Nat) : Int) = X
    have hD' : (0 : Int) < (D : Int) := by omega
    have k1 := Int.emod_nonneg X (show (D : Int) ≠ 0 by omega)
    have k2 := Int.emod_lt_of_pos X hD'
    have k3 := Int.mul_ediv_add_emod X (D : Int)
    have at_ : ∀ q y : Int, 0 ≤ y → y < (D : Int) → ((D : Int) * q + y) / (D : Int) = q := fun q y h1 h2 => by
      rw [Int.add_comm, Int.add_mul_ediv_left _ _ (by omega), Int.ediv_eq_zero_of_lt h1 h2, Int.zero_add]
    generalize X / (D : Int) = q at k3
    generalize X % (D : Int) = z at k1 k2 k3
    subst k3
    by_cases c : z = (r : Int)
    · rw [if_pos c]
      have a1 := at_ q 0 (Int.le_refl _) hD'
      have a2 := at_ (q - 1) ((D : Int) - 1) (by omega) (by omega)
      rw [Int.mul_sub, Int.mul_one] at a2
      rw [show (D : Int) * q + z - (r : Int) = (D : Int) * q + 0 by omega, a1, show (D : Int) * q + 0 - 1 = (D : Int) * q - (D : Int) + ((D : Int) - 1) by omega, a2]
      omega
    · rw [if_neg c]
      rcases Int.lt_or_gt_of_ne c with g | g
      · have a1 := at_ (q - 1) ((D : Int) + z - (r : Int)) (by omega) (by omega)
        have a2 := at_ (q - 1) ((D : Int) + z - (r : Int) - 1) (by omega) (by omega)
        rw [Int.mul_sub, Int.mul_one] at a1 a2
        rw [show (D : Int) * q + z - (r : Int) = (D : Int) * q - (D : Int) + ((D : Int) + z - (r : Int)) by omega, a1, show (D : Int) * q - (D : Int) + ((D : Int) + z - (r : Int)) - 1 = (D : Int) * q - (D : Int) + ((D : Int) + z - (r : Int) - 1) by omega, a2]
        omega
      · have a1 := at_ q (z - (r : Int)) (by omega) (by omega)
        have a2 := at_ q (z - (r : Int) - 1) (by omega) (by omega)
        rw [show (D : Int) * q + z - (r : Int) = (D : Int) * q + (z - (r : Int)) by omega, a1, show (D : Int) * q + (z - (r : Int)) - 1 = (D : Int) * q + (z - (r : Int) - 1) by omega, a2]
        omega
/-- the rests by the base less one -/
theorem CR_by {b f l r : Nat} (hb : 2 ≤ b) (hr : r < b - 1) (h : f ≤ l) {W : Nat → Int} (hW : ∀ j, W j = 1) : CR b W (b - 1) 0 (l + 1) r - CR b W (b - 1) 0 f r = ((l : Int) - (r : Int)) / ((b - 1 : Nat) : Int) - ((f : Int) - 1 - (r : Int)) / ((b - 1 : Nat) : Int) := by
  rw [CR_part W (b - 1) r h]
  have e := rest_many (D := b - 1) (by omega) hr f (l + 1 - f)
  rw [show (f : Int) + ((l + 1 - f : Nat) : Int) - 1 - (r : Int) = (l : Int) - (r : Int) by omega] at e
  rw [← e]
  refine sumI_congr fun i _ => ?_
  have k := ds_rest hb (f + i)
  rw [wg_one b hW, ← k]
  rfl
/-- both told, by the base less one -/
theorem cb_by {b t r : Nat} (hb : 2 ≤ b) (N : Nat) : cb b (b - 1) t r N = cs b N t * (if ((t : Nat) : Int) % ((b - 1 : Nat) : Int) = (r : Int) then 1 else 0) := by
  unfold cb cs
  rw [Int.mul_comm, ← sumI_mul]
  refine sumI_congr fun n _ => ?_
  unfold cbi
  have k := ds_rest hb n
  unfold ds at k
  by_cases c : dsum b n = t
  · rw [if_pos c, Int.mul_one]
    rw [c] at k
    by_cases z : ((t : Nat) : Int) % ((b - 1 : Nat) : Int) = (r : Int)
    · rw [if_pos z, if_pos ⟨c, by rw [← k]; exact z⟩]
    · rw [if_neg z, if_neg fun q => z (by rw [k]; exact q.2)]
  · rw [if_neg c, if_neg fun q => c q.1, Int.mul_zero]
theorem wt_tot (b : Nat) {W : Nat → Int} (hW : ∀ j, W j = 1) : ∀ N, wt b W 0 N = ((tot b N : Nat) : Int)
  | 0 => rfl
  | N + 1 => by
    rw [tot_succ, Int.natCast_add, ← wt_tot b hW N, ← wg_one b hW 0 N]
    rfl
theorem vI_more (n : Nat) (g : Nat → Int) : vI (n + 1) g = vI n g ++ [.int (g n)] := by
  unfold vI
  rw [List.range_succ, List.map_append]
  rfl
theorem vI_sum (n : Nat) (g : Nat → Int) : ((List.range n).map g).sum = sumI g n := list_sumI g n
theorem dsum_1600 {b n : Nat} (hb : 2 ≤ b) (hb2 : b ≤ 16) (h : n ≤ 1000000000000000000000000000001) : dsum b n ≤ 1600 := by
  have h1 := dsum_many hb 104 n (Nat.lt_of_lt_of_le (Nat.lt_of_le_of_lt h (by decide +kernel : (1000000000000000000000000000001 : Nat) < 2 ^ 104)) (Nat.pow_le_pow_left hb 104))
  have h2 : (b - 1) * 104 ≤ 15 * 104 := Nat.mul_le_mul (by omega) (Nat.le_refl _)
  omega
/-- figures as often as written come to the total -/
theorem fig_tot {b : Nat} (hb : 2 ≤ b) (N M : Nat) : sumI (fun g => (g : Int) * (((cnt b g N : Nat) : Int) - ((cnt b g M : Nat) : Int))) b = ((tot b N : Nat) : Int) - ((tot b M : Nat) : Int) := by
  have k : ∀ N : Nat, sumI (fun g => (g : Int) * ((cnt b g N : Nat) : Int)) b = ((tot b N : Nat) : Int) := fun N => by
    rw [← cnt_total hb N]
    have : ∀ m : Nat, sumI (fun g => (g : Int) * ((cnt b g N : Nat) : Int)) m = ((sumTo (fun f => f * cnt b f N) m : Nat) : Int) := by
      intro m
      induction m with
      | zero => rfl
      | succ m ih =>
        show sumI (fun g => (g : Int) * ((cnt b g N : Nat) : Int)) m + (m : Int) * ((cnt b m N : Nat) : Int) = ((sumTo (fun f => f * cnt b f N) m + m * cnt b m N : Nat) : Int)
        rw [ih, Int.natCast_add, Int.natCast_mul]
    exact this b
  rw [← k N, ← k M, ← sumI_sub]
  exact sumI_congr fun g _ => Int.mul_sub _ _ _
end M

set_option Elab.async false
set_option linter.all false
namespace M
/-! rows of bits on the wheel: which sums the fillings with each rest have -/
/-- row: D slots of w bits; the bit s of the slot r stands where R r s -/
def BR (w D row : Nat) (R : Nat → Nat → Prop) : Prop := row < 2 ^ (w * D) ∧ ∀ r s, r < D → s < w → (row.testBit (w * r + s) = true ↔ R r s)
/-- a slot as a number -/
def sl (w row r : Nat) : Nat := row / 2 ^ (w * r) % 2 ^ w
theorem sl_bit {w row r s : Nat} (h : s < w) : (sl w row r).testBit s = row.testBit (w * r + s) := by
  unfold sl
  rw [Nat.testBit_mod_two_pow, Nat.testBit_div_two_pow]
  simp [h, Nat.add_comm]
theorem sl_lt (w row r : Nat) : sl w row r < 2 ^ w := Nat.mod_lt _ (Nat.pow_pos (by decide))
theorem sl_fits (w D row : Nat) : Fits w D fun r => ((sl w row r : Nat) : Int) := fun r _ => ⟨Int.natCast_nonneg _, by have := sl_lt w row r; show ((sl w row r : Nat) : Int) < ((2 ^ w : Nat) : Int); omega⟩
/-- a row is the row of its slots -/
theorem row_pk {w : Nat} : ∀ {D row : Nat}, row < 2 ^ (w * D) → ((row : Nat) : Int) = pk w D fun r => ((sl w row r : Nat) : Int)
  | 0, row, h => by
    rw [Nat.mul_zero, Nat.pow_zero] at h
    have : row = 0 := by omega
    subst this
    rfl
  | D + 1, row, h => by
    have hp : 0 < 2 ^ (w * D) := Nat.pow_pos (by decide)
    have e1 : row / 2 ^ (w * D) < 2 ^ w := by
      rw [Nat.div_lt_iff_lt_mul hp, ← Nat.pow_add]
      rw [Nat.mul_add, Nat.mul_one, Nat.add_comm] at h
      exact h
    have ih := row_pk (w := w) (D := D) (row := row % 2 ^ (w * D)) (Nat.mod_lt _ hp)
    have low : ∀ r, r < D → sl w (row % 2 ^ (w * D)) r = sl w row r := fun r hr => by
      refine Nat.eq_of_testBit_eq fun s => ?_
      rcases Nat.lt_or_ge s w with c | c
      · rw [sl_bit c, sl_bit c, Nat.testBit_mod_two_pow]
        have : w * r + s < w * D := by
          have : w * (r + 1) ≤ w * D := Nat.mul_le_mul_left w hr
          rw [Nat.mul_add, Nat.mul_one] at this
          omega
        simp [this]
      · have h1 := Nat.testBit_lt_two_pow (Nat.lt_of_lt_of_le (sl_lt w (row % 2 ^ (w * D)) r) (Nat.pow_le_pow_right (by decide) c))
        have h2 := Nat.testBit_lt_two_pow (Nat.lt_of_lt_of_le (sl_lt w row r) (Nat.pow_le_pow_right (by decide) c))
        rw [h1, h2]
    have e2 : pk w (D + 1) (fun r => ((sl w row r : Nat) : Int)) = pk w D (fun r => ((sl w row r : Nat) : Int)) + ((sl w row D : Nat) : Int) * ((2 ^ (w * D) : Nat) : Int) := rfl
    have e3 : sl w row D = row / 2 ^ (w * D) := Nat.mod_eq_of_lt e1
    rw [e2, pk_congr (h := fun r => ((sl w (row % 2 ^ (w * D)) r : Nat) : Int)) (fun r hr => by rw [low r hr]), ← ih, e3]
    have := Nat.mod_add_div row (2 ^ (w * D))
    rw [← Int.natCast_mul, ← Int.natCast_add]
    congr 1
    rw [Nat.mul_comm (row / 2 ^ (w * D))]
    omega
/-- a packed row of numbers is a row -/
theorem pk_row {w D : Nat} {g : Nat → Int} (h : Fits w D g) : ∃ row : Nat, pk w D g = (row : Int) ∧ row < 2 ^ (w * D) ∧ ∀ r, r < D → ((sl w row r : Nat) : Int) = g r := by
  obtain ⟨b1, b2⟩ := pk_bound h
  refine ⟨(pk w D g).toNat, by omega, by omega, fun r hr => ?_⟩
  have e := pk_slot h hr
  have e2 : pk w D g = (((pk w D g).toNat : Nat) : Int) := by omega
  rw [e2] at e
  rw [← e]
  unfold sl
  rw [Int.natCast_emod, Int.natCast_ediv]
/-- around the wheel -/
theorem BR.moved {w D row : Nat} {R : Nat → Nat → Prop} (h : BR w D row R) (hD : 0 < D) (y : Int) : ∃ row2 : Nat, (pk w D fun r => ((sl w row (back D r y) : Nat) : Int)) = (row2 : Int) ∧ BR w D row2 fun r s => R (back D r y) s := by
  obtain ⟨row2, e, l, k⟩ := pk_row (w := w) (D := D) (g := fun r => ((sl w row (back D r y) : Nat) : Int)) (fun r hr => sl_fits w D row (back D r y) (back_lt hD))
  refine ⟨row2, e, l, fun r s hr hs => ?_⟩
  have e2 : sl w row2 r = sl w row (back D r y) := Int.ofNat.inj (k r hr)
  rw [← sl_bit hs, e2, sl_bit hs]
  exact h.2 _ _ (back_lt hD) hs
/-- each bit so many sums further on -/
theorem BR.shl {w D row m : Nat} {R : Nat → Nat → Prop} (h : BR w D row R) (fit : ∀ r s, r < D → s < w → R r s → s + m < w) (hm : m < w) : BR w D (row * 2 ^ m) fun r s => m ≤ s ∧ R r (s - m) := by
  have hw : ∀ i, row.testBit i = true → ∃ r s, r < D ∧ s < w ∧ i = w * r + s ∧ R r s := fun i hi => by
    have hl : i < w * D := by
      rcases Nat.lt_or_ge i (w * D) with c | c
      · exact c
      · have := Nat.testBit_lt_two_pow (Nat.lt_of_lt_of_le h.1 (Nat.pow_le_pow_right (by decide) c))
        rw [this] at hi
        cases hi
    have hs := Nat.mod_lt i (show 0 < w by omega)
    have hr : i / w < D := Nat.div_lt_of_lt_mul hl
    have e := Nat.div_add_mod i w
    exact ⟨i / w, i % w, hr, hs, e.symm, (h.2 _ _ hr hs).mp (by rw [e]; exact hi)⟩
  have top : row * 2 ^ m < 2 ^ (w * D) := by
    refine Nat.lt_pow_two_of_testBit _ fun i hi => ?_
    rw [Nat.testBit_mul_two_pow]
    rcases Nat.lt_or_ge i m with c | c
    · simp; omega
    · cases z : row.testBit (i - m) with
      | false => simp
      | true =>
        obtain ⟨r, s, hr, hs, e, hR⟩ := hw _ z
        have := fit r s hr hs hR
        have h2 : w * (r + 1) ≤ w * D := Nat.mul_le_mul_left w hr
        rw [Nat.mul_add, Nat.mul_one] at h2
        omega
  refine ⟨top, fun r s hr hs => ?_⟩
  rw [Nat.testBit_mul_two_pow]
  constructor
  · intro q
    have q1 : m ≤ w * r + s ∧ row.testBit (w * r + s - m) = true := by simpa using q
    obtain ⟨r2, s2, hr2, hs2, e, hR⟩ := hw _ q1.2
    have f := fit r2 s2 hr2 hs2 hR
    have e2 : w * r + s = w * r2 + (s2 + m) := by omega
    have er : r = r2 := by
      have a1 : (w * r + s) / w = r := by rw [Nat.add_comm, Nat.add_mul_div_left _ _ (by omega), Nat.div_eq_of_lt hs, Nat.zero_add]
      have a2 : (w * r2 + (s2 + m)) / w = r2 := by rw [Nat.add_comm, Nat.add_mul_div_left _ _ (by omega), Nat.div_eq_of_lt f, Nat.zero_add]
      rw [← a1, ← a2, e2]
    subst er
    have : s = s2 + m := by omega
    subst this
    exact ⟨by omega, by rw [Nat.add_sub_cancel]; exact hR⟩
  · rintro ⟨q1, q2⟩
    have b := (h.2 r (s - m) hr (by omega)).mpr q2
    have e : w * r + s - m = w * r + (s - m) := by omega
    have : decide (m ≤ w * r + s) = true := by simp; omega
    rw [e, b, this]
    rfl
theorem BR.lor {w D row row2 : Nat} {R R2 : Nat → Nat → Prop} (h : BR w D row R) (k : BR w D row2 R2) : BR w D (row ||| row2) fun r s => R r s ∨ R2 r s :=
  ⟨Nat.or_lt_two_pow h.1 k.1, fun r s hr hs => by rw [Nat.testBit_or, Bool.or_eq_true, h.2 r s hr hs, k.2 r s hr hs]⟩
theorem BR.land {w D row row2 : Nat} {R R2 : Nat → Nat → Prop} (h : BR w D row R) (k : BR w D row2 R2) : BR w D (row &&& row2) fun r s => R r s ∧ R2 r s :=
  ⟨Nat.and_lt_two_pow _ k.1, fun r s hr hs => by rw [Nat.testBit_and, Bool.and_eq_true, h.2 r s hr hs, k.2 r s hr hs]⟩
theorem BR.congr {w D row : Nat} {R R2 : Nat → Nat → Prop} (h : BR w D row R) (e : ∀ r s, r < D → s < w → (R r s ↔ R2 r s)) : BR w D row R2 := ⟨h.1, fun r s hr hs => (h.2 r s hr hs).trans (e r s hr hs)⟩
theorem BR.uniq {w D row row2 : Nat} {R R2 : Nat → Nat → Prop} (hw : 0 < w) (h : BR w D row R) (k : BR w D row2 R2) (e : ∀ r s, r < D → s < w → (R r s ↔ R2 r s)) : row = row2 := by
  refine Nat.eq_of_testBit_eq fun i => ?_
  rcases Nat.lt_or_ge i (w * D) with c | c
  · have hs := Nat.mod_lt i hw
    have hr : i / w < D := Nat.div_lt_of_lt_mul c
    have q := Nat.div_add_mod i w
    have a := h.2 _ _ hr hs
    have b := k.2 _ _ hr hs
    rw [q] at a b
    have := e _ _ hr hs
    rw [Bool.eq_iff_iff, a, b, this]
  · rw [Nat.testBit_lt_two_pow (Nat.lt_of_lt_of_le h.1 (Nat.pow_le_pow_right (by decide) c)), Nat.testBit_lt_two_pow (Nat.lt_of_lt_of_le k.1 (Nat.pow_le_pow_right (by decide) c))]
/-- the first row: no places, the sum 0 at the rest 0 -/
theorem BR.one {w D : Nat} (hw : 0 < w) (hD : 0 < D) : BR w D 1 fun r s => r = 0 ∧ s = 0 := by
  have hp : 0 < w * D := Nat.mul_pos hw hD
  refine ⟨Nat.one_lt_two_pow (by omega), fun r s hr hs => ?_⟩
  rw [Nat.testBit_one_eq_true_iff_self_eq_zero]
  constructor
  · intro q
    have q1 : w * r = 0 := by omega
    rcases Nat.mul_eq_zero.mp q1 with z | z
    · omega
    · exact ⟨z, by omega⟩
  · rintro ⟨rfl, rfl⟩
    rfl
/-- all sums to the told one at each rest -/
theorem BR.mask {w D told : Nat} (h : told < w) : ∃ row : Nat, (pk w D fun _ => ((2 ^ (told + 1) - 1 : Nat) : Int)) = (row : Int) ∧ BR w D row fun _ s => s ≤ told := by
  have hl : 2 ^ (told + 1) - 1 < 2 ^ w := by
    have h1 : 2 ^ (told + 1) ≤ 2 ^ w := Nat.pow_le_pow_right (by decide) h
    have h2 : 0 < 2 ^ (told + 1) := Nat.pow_pos (by decide)
    omega
  obtain ⟨row, e, l, k⟩ := pk_row (w := w) (D := D) (g := fun _ => ((2 ^ (told + 1) - 1 : Nat) : Int)) (fun r _ => ⟨Int.natCast_nonneg _, by show ((2 ^ (told + 1) - 1 : Nat) : Int) < ((2 ^ w : Nat) : Int); omega⟩)
  refine ⟨row, e, l, fun r s hr hs => ?_⟩
  have e2 : sl w row r = 2 ^ (told + 1) - 1 := Int.ofNat.inj (k r hr)
  rw [← sl_bit hs, e2, Nat.testBit_two_pow_sub_one]
  simp
  omega
/-- how many bits stand -/
def pc (row : Nat) : Nat → Nat := sumTo fun i => if row.testBit i = true then 1 else 0
theorem pc_le (row : Nat) : ∀ n, pc row n ≤ n
  | 0 => Nat.le_refl _
  | n + 1 => by
    have := pc_le row n
    show pc row n + (if row.testBit n = true then 1 else 0) ≤ n + 1
    split <;> omega
theorem pc_mono {row row2 : Nat} (h : ∀ i, row.testBit i = true → row2.testBit i = true) : ∀ n, pc row n ≤ pc row2 n
  | 0 => Nat.le_refl _
  | n + 1 => by
    have ih := pc_mono h n
    show pc row n + (if row.testBit n = true then 1 else 0) ≤ pc row2 n + (if row2.testBit n = true then 1 else 0)
    by_cases c : row.testBit n = true
    · rw [if_pos c, if_pos (h n c)]; omega
    · rw [if_neg c]; omega
theorem pc_more {row row2 : Nat} (h : ∀ i, row.testBit i = true → row2.testBit i = true) : ∀ n, (∃ i, i < n ∧ row2.testBit i = true ∧ ¬ row.testBit i = true) → pc row n + 1 ≤ pc row2 n
  | 0, q => by obtain ⟨i, hi, _⟩ := q; omega
  | n + 1, q => by
    show pc row n + (if row.testBit n = true then 1 else 0) + 1 ≤ pc row2 n + (if row2.testBit n = true then 1 else 0)
    obtain ⟨i, hi, h1, h2⟩ := q
    rcases Nat.lt_or_ge i n with c | c
    · have ih := pc_more h n ⟨i, c, h1, h2⟩
      by_cases z : row.testBit n = true
      · rw [if_pos z, if_pos (h n z)]; omega
      · rw [if_neg z]; omega
    · have e : i = n := by omega
      subst e
      have ih := pc_mono h i
      rw [if_neg h2, if_pos h1]; omega
theorem pc_grow {w D row row2 : Nat} {R R2 : Nat → Nat → Prop} (h : BR w D row R) (k : BR w D row2 R2) (hw : 0 < w) (sub : ∀ r s, r < D → s < w → R r s → R2 r s) (ne : row ≠ row2) : pc row (w * D) + 1 ≤ pc row2 (w * D) := by
  have inc : ∀ i, row.testBit i = true → row2.testBit i = true := fun i hi => by
    rcases Nat.lt_or_ge i (w * D) with c | c
    · have hs := Nat.mod_lt i hw
      have hr : i / w < D := Nat.div_lt_of_lt_mul c
      have q := Nat.div_add_mod i w
      have a := h.2 _ _ hr hs
      have b := k.2 _ _ hr hs
      rw [q] at a b
      exact b.mpr (sub _ _ hr hs (a.mp hi))
    · rw [Nat.testBit_lt_two_pow (Nat.lt_of_lt_of_le h.1 (Nat.pow_le_pow_right (by decide) c))] at hi
      cases hi
  refine pc_more inc _ ?_
  refine Classical.byContradiction fun no => ne ?_
  refine BR.uniq hw h k fun r s hr hs => ⟨sub r s hr hs, fun q2 => ?_⟩
  refine Classical.byContradiction fun q => no ⟨w * r + s, ?_, (k.2 r s hr hs).mpr q2, fun z => q ((h.2 r s hr hs).mp z)⟩
  have : w * (r + 1) ≤ w * D := Nat.mul_le_mul_left w hr
  rw [Nat.mul_add, Nat.mul_one] at this
  omega
end M

set_option Elab.async false
set_option linter.all false
namespace M
/-! least multiples with a told sum -/
/-- some filling of k places has the rest r and the sum s -/
def rc (b D k r s : Nat) : Prop := ∃ n, n < b ^ k ∧ dsum b n = s ∧ ((n : Nat) : Int) % (D : Int) = (r : Int)
theorem rc_zero {b D r s : Nat} (hb : 2 ≤ b) : rc b D 0 r s ↔ r = 0 ∧ s = 0 := by
  constructor
  · rintro ⟨n, hn, e1, e2⟩
    rw [Nat.pow_zero] at hn
    have : n = 0 := by omega
    subst this
    rw [dsum_zero hb] at e1
    have e3 : (0 : Int) % (D : Int) = 0 := Int.zero_emod _
    have e4 : ((0 : Nat) : Int) = 0 := rfl
    rw [e4, e3] at e2
    omega
  · rintro ⟨rfl, rfl⟩
    exact ⟨0, by rw [Nat.pow_zero]; omega, dsum_zero hb, Int.zero_emod _⟩
theorem back_of_mod {D r : Nat} {y z : Int} (h : y % (D : Int) = z % (D : Int)) : back D r y = back D r z := by
  unfold back
  rw [Int.sub_emod, h, ← Int.sub_emod]
theorem back_mul_mod {D r : Nat} {y z : Int} (f : Nat) (h : y % (D : Int) = z % (D : Int)) : back D r ((f : Int) * y) = back D r ((f : Int) * z) := back_of_mod (by rw [Int.mul_emod, h, ← Int.mul_emod])
/-- f figures of the worth y ahead -/
def Spr (D F : Nat) (y : Int) (R : Nat → Nat → Prop) (r s : Nat) : Prop := ∃ f, f < F ∧ f ≤ s ∧ R (back D r ((f : Int) * y)) (s - f)
theorem Spr_one {D r s : Nat} {y : Int} {R : Nat → Nat → Prop} (hr : r < D) : Spr D 1 y R r s ↔ R r s := by
  have e : back D r (((0 : Nat) : Int) * y) = r := by
    rw [show ((0 : Nat) : Int) * y = 0 from Int.zero_mul _, back_zero hr]
  constructor
  · rintro ⟨f, h1, h2, h3⟩
    have : f = 0 := by omega
    subst this
    rw [e] at h3
    exact h3
  · intro h
    exact ⟨0, by omega, by omega, by rw [e]; exact h⟩
theorem Spr_more {D F m r s : Nat} {y : Int} {R : Nat → Nat → Prop} (hD : 0 < D) (hm : m ≤ F) : (Spr D F y R r s ∨ (m ≤ s ∧ Spr D F y R (back D r ((m : Int) * y)) (s - m))) ↔ Spr D (F + m) y R r s := by
  have e : ∀ f : Nat, back D (back D r ((m : Int) * y)) ((f : Int) * y) = back D r (((m + f : Nat) : Int) * y) := fun f => by
    rw [back_back hD, ← Int.add_mul, ← Int.natCast_add]
  constructor
  · rintro (⟨f, h1, h2, h3⟩ | ⟨hs, f, h1, h2, h3⟩)
    · exact ⟨f, by omega, h2, h3⟩
    · rw [e] at h3
      exact ⟨m + f, by omega, by omega, by rw [show s - (m + f) = s - m - f by omega]; exact h3⟩
  · rintro ⟨f, h1, h2, h3⟩
    rcases Nat.lt_or_ge f F with c | c
    · exact .inl ⟨f, c, h2, h3⟩
    · exact .inr ⟨by omega, f - m, by omega, by omega, by rw [e, show m + (f - m) = f by omega, show s - m - (f - m) = s - f by omega]; exact h3⟩
theorem Spr_mod {D F r s : Nat} {y z : Int} {R : Nat → Nat → Prop} (h : y % (D : Int) = z % (D : Int)) : Spr D F y R r s ↔ Spr D F z R r s := by
  unfold Spr
  constructor
  · rintro ⟨f, h1, h2, h3⟩; exact ⟨f, h1, h2, by rw [← back_mul_mod f h]; exact h3⟩
  · rintro ⟨f, h1, h2, h3⟩; exact ⟨f, h1, h2, by rw [back_mul_mod f h]; exact h3⟩
theorem Spr_congr {D F r s : Nat} {y : Int} {R R2 : Nat → Nat → Prop} (hD : 0 < D) (h : ∀ r s, r < D → (R r s ↔ R2 r s)) : Spr D F y R r s ↔ Spr D F y R2 r s := by
  unfold Spr
  constructor
  · rintro ⟨f, h1, h2, h3⟩; exact ⟨f, h1, h2, (h _ _ (back_lt hD)).mp h3⟩
  · rintro ⟨f, h1, h2, h3⟩; exact ⟨f, h1, h2, (h _ _ (back_lt hD)).mpr h3⟩
theorem rc_succ {b D k r s : Nat} (hb : 2 ≤ b) (hD : 0 < D) (hr : r < D) : rc b D (k + 1) r s ↔ Spr D b ((b ^ k : Nat) : Int) (rc b D k) r s := by
  have at_ : ∀ f i : Nat, ((f * b ^ k + i : Nat) : Int) % (D : Int) = (r : Int) ↔ ((i : Nat) : Int) % (D : Int) = ((back D r ((f : Int) * ((b ^ k : Nat) : Int)) : Nat) : Int) := fun f i => by
    have e : ((f * b ^ k + i : Nat) : Int) = (i : Int) + (f : Int) * ((b ^ k : Nat) : Int) := by rw [Int.natCast_add, Int.natCast_mul, Int.add_comm]
    rw [e]
    exact back_iff hD hr
  have hp : 0 < b ^ k := Nat.pow_pos (by omega)
  constructor
  · rintro ⟨n, hn, e1, e2⟩
    have hq : n / b ^ k < b := by
      rw [Nat.div_lt_iff_lt_mul hp]
      rw [Nat.pow_succ, Nat.mul_comm] at hn
      exact hn
    have hm := Nat.mod_lt n hp
    have e := Nat.div_add_mod n (b ^ k)
    rw [Nat.mul_comm] at e
    rw [← e] at e1 e2
    rw [dsum_ahead hb hm, dsum_small hq] at e1
    exact ⟨n / b ^ k, hq, by omega, n % b ^ k, hm, by omega, (at_ _ _).mp e2⟩
  · rintro ⟨f, h1, h2, i, hi, e1, e2⟩
    refine ⟨f * b ^ k + i, ?_, ?_, (at_ _ _).mpr e2⟩
    · have : (f + 1) * b ^ k ≤ b * b ^ k := Nat.mul_le_mul_right _ h1
      rw [Nat.add_mul, Nat.one_mul] at this
      rw [Nat.pow_succ, Nat.mul_comm (b ^ k)]
      omega
    · rw [dsum_ahead hb hi, dsum_small h1]; omega
/-- the same, to the told sum -/
def rt (b D told k r s : Nat) : Prop := rc b D k r s ∧ s ≤ told
theorem rt_succ {b D told k r s : Nat} {wo : Int} (hb : 2 ≤ b) (hD : 0 < D) (hr : r < D) (hwo : wo % (D : Int) = ((b ^ k : Nat) : Int) % (D : Int)) : rt b D told (k + 1) r s ↔ (Spr D b wo (rt b D told k) r s ∧ s ≤ told) := by
  unfold rt
  rw [rc_succ hb hD hr, Spr_mod (z := ((b ^ k : Nat) : Int)) hwo]
  constructor
  · rintro ⟨⟨f, h1, h2, h3⟩, h4⟩; exact ⟨⟨f, h1, h2, h3, by omega⟩, h4⟩
  · rintro ⟨⟨f, h1, h2, h3, _⟩, h4⟩; exact ⟨⟨f, h1, h2, h3⟩, h4⟩
theorem rt_up {b D told k r s : Nat} (hb : 2 ≤ b) (h : rt b D told k r s) : rt b D told (k + 1) r s := by
  obtain ⟨⟨n, h1, h2, h3⟩, h4⟩ := h
  refine ⟨⟨n, ?_, h2, h3⟩, h4⟩
  have := Nat.pow_le_pow_right (show 0 < b by omega) (Nat.le_succ k)
  exact Nat.lt_of_lt_of_le h1 this
theorem pigeon (f : Nat → Nat) (D : Nat) (h : ∀ i, f i < D) : ∃ i j, i < j ∧ j ≤ D ∧ f i = f j := by
  refine Classical.byContradiction fun no => ?_
  have nd : ((List.range (D + 1)).map f).Nodup := by
    rw [List.nodup_iff_pairwise_ne, List.pairwise_iff_getElem]
    intro i j hi hj hij
    rw [List.length_map, List.length_range] at hi hj
    rw [List.getElem_map, List.getElem_map, List.getElem_range, List.getElem_range]
    exact fun e => no ⟨i, j, hij, by omega, e⟩
  have l := nodup_len _ (List.range D) nd fun x hx => by
    obtain ⟨i, _, rfl⟩ := List.mem_map.mp hx
    exact List.mem_range.mpr (h i)
  rw [List.length_map, List.length_range, List.length_range] at l
  omega
/-- the worths of D places in a row are all that are still to come -/
theorem worths_again {b D k : Nat} (hD : 0 < D) : ∀ m, k ≤ m → ∃ t, k ≤ t ∧ t < k + D ∧ b ^ t % D = b ^ m % D := by
  intro m
  induction m using Nat.strongRecOn with
  | ind m ih =>
    intro hm
    rcases Nat.lt_or_ge m (k + D) with c | c
    · exact ⟨m, hm, c, rfl⟩
    · obtain ⟨i, j, hij, hj, e⟩ := pigeon (fun i => b ^ (k + i) % D) D (fun i => Nat.mod_lt _ hD)
      obtain ⟨t, t1, t2, t3⟩ := ih (m - (j - i)) (by omega) (by omega)
      refine ⟨t, t1, t2, t3.trans ?_⟩
      have e1 : m - (j - i) = (k + i) + (m - (k + j)) := by omega
      have e2 : m = (k + j) + (m - (k + j)) := by omega
      rw [e1, Nat.pow_add, Nat.mul_mod, e, ← Nat.mul_mod, ← Nat.pow_add, ← e2]
theorem int_mod {x y D : Nat} (h : x % D = y % D) : ((x : Nat) : Int) % (D : Int) = ((y : Nat) : Int) % (D : Int) := by
  rw [← Int.natCast_emod, ← Int.natCast_emod, h]
theorem rt_still {b D told k : Nat} (hb : 2 ≤ b) (hD : 0 < D) (h : ∀ j, k ≤ j → j < k + D → ∀ r s, r < D → (rt b D told (j + 1) r s ↔ rt b D told j r s)) : ∀ m, k ≤ m → ∀ r s, r < D → (rt b D told m r s ↔ rt b D told k r s) := by
  have first : ∀ d, d ≤ D → ∀ r s, r < D → (rt b D told (k + d) r s ↔ rt b D told k r s) := by
    intro d
    induction d with
    | zero => intro _ r s _; exact Iff.rfl
    | succ d ih =>
      intro hd r s hr
      exact (h (k + d) (by omega) (by omega) r s hr).trans (ih (by omega) r s hr)
  intro m hm
  obtain ⟨d, rfl⟩ : ∃ d, m = k + d := ⟨m - k, by omega⟩
  clear hm
  induction d with
  | zero => intro r s _; exact Iff.rfl
  | succ d ih =>
    intro r s hr
    obtain ⟨t, t1, t2, t3⟩ := worths_again (b := b) (k := k) hD (k + d) (by omega)
    have e : rt b D told (k + d + 1) r s ↔ rt b D told (t + 1) r s := by
      rw [rt_succ hb hD hr (wo := ((b ^ t : Nat) : Int)) (int_mod t3), rt_succ hb hD hr (k := t) (wo := ((b ^ t : Nat) : Int)) rfl]
      have ft := first (t - k) (by omega)
      rw [show k + (t - k) = t by omega] at ft
      rw [Spr_congr hD fun r s hr => (ih r s hr).trans (ft r s hr).symm]
    have f2 := first (t + 1 - k) (by omega) r s hr
    rw [show k + (t + 1 - k) = t + 1 by omega] at f2
    exact e.trans f2
/-- a multiple with the told sum -/
def Mul (b D told n : Nat) : Prop := dsum b n = told ∧ n % D = 0
theorem Mul.rc {b D told n : Nat} (h : Mul b D told n) {k : Nat} (hk : n < b ^ k) : rc b D k 0 told := ⟨n, hk, h.1, by rw [← Int.natCast_emod, h.2]⟩
theorem rc_mul {b D told k : Nat} (h : rc b D k 0 told) : ∃ n, n < b ^ k ∧ Mul b D told n := by
  obtain ⟨n, h1, h2, h3⟩ := h
  refine ⟨n, h1, h2, ?_⟩
  rw [← Int.natCast_emod] at h3
  exact Int.ofNat.inj h3
theorem no_multiple {b D told k : Nat} (hb : 2 ≤ b) (hD : 0 < D) (h : ∀ j, k ≤ j → j < k + D → ∀ r s, r < D → (rt b D told (j + 1) r s ↔ rt b D told j r s)) (no : ¬ rt b D told k 0 told) : ∀ n, ¬ Mul b D told n := fun n hn => by
  have l1 : n < b ^ n := Nat.lt_pow_self (by omega)
  have l2 : b ^ n ≤ b ^ (k + n) := Nat.pow_le_pow_right (by omega) (by omega)
  exact no ((rt_still hb hD h (k + n) (by omega) 0 told hD).mp ⟨hn.rc (Nat.lt_of_lt_of_le l1 l2), Nat.le_refl _⟩)
/-- the least one is known down to the last j places -/
structure Gr (b D told K j N rest left : Nat) : Prop where
  le : j ≤ K
  small : N < b ^ (K - j)
  sum : dsum b N + left = told
  rs : ((N * b ^ j + rest : Nat) : Int) % (D : Int) = 0
  lt : rest < D
  low : ∀ n, n < b ^ K → Mul b D told n → N * b ^ j ≤ n
  ex : rc b D j rest left
theorem Gr.first {b D told K : Nat} (hb : 2 ≤ b) (hD : 0 < D) (h : rc b D K 0 told) : Gr b D told K K 0 0 told :=
  ⟨Nat.le_refl _, by rw [Nat.sub_self, Nat.pow_zero]; omega, by rw [dsum_zero hb]; omega, by rw [Nat.zero_mul]; exact Int.zero_emod _, hD, fun n _ _ => by rw [Nat.zero_mul]; omega, h⟩
theorem Gr.last {b D told K N rest left : Nat} (hb : 2 ≤ b) (g : Gr b D told K 0 N rest left) : Mul b D told N ∧ N < b ^ K ∧ ∀ n, Mul b D told n → N ≤ n := by
  obtain ⟨e1, e2⟩ := (rc_zero hb).mp g.ex
  have s := g.sum
  have q := g.rs
  have m := g.small
  rw [e1, Nat.pow_zero, Nat.mul_one, Nat.add_zero, ← Int.natCast_emod] at q
  rw [Nat.sub_zero] at m
  refine ⟨⟨by omega, Int.ofNat.inj q⟩, m, fun n hn => ?_⟩
  rcases Nat.lt_or_ge n (b ^ K) with c | c
  · have := g.low n c hn
    rw [Nat.pow_zero, Nat.mul_one] at this
    exact this
  · omega
theorem Gr.next {b D told K j N rest left f : Nat} {wo : Int} (hb : 2 ≤ b) (hD : 0 < D) (g : Gr b D told K (j + 1) N rest left) (hwo : wo % (D : Int) = ((b ^ j : Nat) : Int) % (D : Int)) (hf : f < b) (hl : f ≤ left)
    (yes : rc b D j (back D rest ((f : Int) * wo)) (left - f)) (no : ∀ e, e < f → ¬ rc b D j (back D rest ((e : Int) * wo)) (left - e)) : Gr b D told K j (N * b + f) (back D rest ((f : Int) * wo)) (left - f) := by
  obtain ⟨h1, h2, h3, h4, h5, h6, h7⟩ := g
  have hp : 0 < b ^ j := Nat.pow_pos (by omega)
  have bw : ∀ e : Nat, back D rest ((e : Int) * wo) = back D rest ((e : Int) * ((b ^ j : Nat) : Int)) := fun e => back_mul_mod e hwo
  have ej : N * b ^ (j + 1) = N * b * b ^ j := by rw [Nat.pow_succ, Nat.mul_comm (b ^ j) b, Nat.mul_assoc]
  refine ⟨by omega, ?_, ?_, ?_, back_lt hD, fun n hn hM => ?_, yes⟩
  · have e : K - j = (K - (j + 1)) + 1 := by omega
    rw [e, Nat.pow_succ]
    have : (N + 1) * b ≤ b ^ (K - (j + 1)) * b := Nat.mul_le_mul_right b h2
    rw [Nat.add_mul, Nat.one_mul] at this
    omega
  · rw [dsum_snoc hb hf]; omega
  · rw [bw]
    have e := (back_iff (D := D) (r := rest) (x := ((back D rest ((f : Int) * ((b ^ j : Nat) : Int)) : Nat) : Int)) (y := (f : Int) * ((b ^ j : Nat) : Int)) hD h5).mpr (Int.emod_eq_of_lt (Int.natCast_nonneg _) (by have := back_lt (D := D) (r := rest) (y := (f : Int) * ((b ^ j : Nat) : Int)) hD; omega))
    have e2 : (((N * b + f) * b ^ j + back D rest ((f : Int) * ((b ^ j : Nat) : Int)) : Nat) : Int) = ((N * b ^ (j + 1) : Nat) : Int) + (((back D rest ((f : Int) * ((b ^ j : Nat) : Int)) : Nat) : Int) + (f : Int) * ((b ^ j : Nat) : Int)) := by
      rw [ej, Nat.add_mul, Int.natCast_add, Int.natCast_add, Int.natCast_mul f]
      omega
    rw [e2, Int.add_emod, e]
    rw [Int.natCast_add, Int.add_emod, Int.emod_eq_of_lt (Int.natCast_nonneg rest) (by omega)] at h4
    exact h4
  · have k := h6 n hn hM
    rw [ej] at k
    rw [Nat.add_mul]
    rcases Nat.lt_or_ge n (N * b * b ^ j + b * b ^ j) with c | c
    · obtain ⟨m, rfl⟩ : ∃ m, n = N * b * b ^ j + m := ⟨n - N * b * b ^ j, by omega⟩
      have hm : m < b * b ^ j := by omega
      have hq : m / b ^ j < b := by
        rw [Nat.div_lt_iff_lt_mul hp]
        exact hm
      have hr := Nat.mod_lt m hp
      have em := Nat.div_add_mod m (b ^ j)
      rw [Nat.mul_comm] at em
      generalize m / b ^ j = q at hq em
      generalize m % b ^ j = z at hr em
      subst em
      have hM2 := hM
      obtain ⟨d1, d2⟩ := hM2
      have zl : q * b ^ j + z < b ^ (j + 1) := by rw [Nat.pow_succ, Nat.mul_comm (b ^ j) b]; exact hm
      rw [← ej, dsum_ahead hb zl, dsum_ahead hb hr, dsum_small hq] at d1
      have d3 : ((N * b ^ (j + 1) + (q * b ^ j + z) : Nat) : Int) % (D : Int) = 0 := by
        rw [ej, ← Int.natCast_emod, d2]; rfl
      have d4 : ((q * b ^ j + z : Nat) : Int) % (D : Int) = (rest : Int) := by
        have h5' : (rest : Int) % (D : Int) = (rest : Int) := Int.emod_eq_of_lt (Int.natCast_nonneg _) (by omega)
        rw [← h5']
        refine Int.emod_eq_emod_iff_emod_sub_eq_zero.mpr ?_
        have e : ((q * b ^ j + z : Nat) : Int) - (rest : Int) = ((N * b ^ (j + 1) + (q * b ^ j + z) : Nat) : Int) - ((N * b ^ (j + 1) + rest : Nat) : Int) := by omega
        have h4' : ((N * b ^ (j + 1) + rest : Nat) : Int) % (D : Int) = 0 := by rw [Int.natCast_add]; exact h4
        rw [e, Int.sub_emod, d3, h4', Int.sub_zero, Int.zero_emod]
      have d5 : ((z : Nat) : Int) % (D : Int) = ((back D rest ((q : Int) * wo) : Nat) : Int) := by
        rw [bw]
        refine (back_iff hD h5).mp ?_
        rw [← d4, Int.natCast_add, Int.natCast_mul, Int.add_comm]
      have fq : f ≤ q := by
        rcases Nat.lt_or_ge q f with cq | cq
        · exact absurd ⟨z, hr, by omega, d5⟩ (no q cq)
        · exact cq
      have := Nat.mul_le_mul_right (b ^ j) fq
      omega
    · have : f * b ^ j ≤ b * b ^ j := Nat.mul_le_mul_right _ (by omega)
      omega
end M
namespace M
theorem pk_first {w D : Nat} (hD : 0 < D) (x : Int) : pk w D (fun r => if r = 0 then x else 0) = x := by
  unfold pk
  have e := sumI_pick 0 (fun r => x * ((2 ^ (w * r) : Nat) : Int)) D hD
  rw [Nat.mul_zero, Nat.pow_zero] at e
  refine Eq.trans (sumI_congr fun r _ => ?_) (e.trans (Int.mul_one x))
  dsimp only
  by_cases c : r = 0
  · rw [if_pos c, if_pos c]
  · rw [if_neg c, if_neg c, Int.zero_mul]
theorem back_nought {D r i : Nat} (hr : r < D) (hi : i < D) : back D r (i : Int) = 0 ↔ r = i := by
  have hb := back_rot (D := D) (r := r) (s := i) (y := (i : Int)) hr (Int.emod_eq_of_lt (Int.natCast_nonneg _) (by omega))
  rw [hb]
  by_cases c : r < i
  · rw [if_pos c]; omega
  · rw [if_neg c]; omega
theorem mask_sum (w D : Nat) (x : Int) : ((List.range D).map fun i : Nat => pk w D fun r => if back D r (i : Int) = 0 then x else 0).sum = pk w D fun _ => x := by
  rw [list_sumI]
  refine sumI_congr fun i hi => ?_
  unfold pk
  have e := sumI_pick i (fun r => x * ((2 ^ (w * r) : Nat) : Int)) D hi
  rw [← e]
  refine sumI_congr fun r hr => ?_
  dsimp only
  by_cases c : r = i
  · rw [if_pos ((back_nought hr hi).mpr c), if_pos c]
  · rw [if_neg (fun z => c ((back_nought hr hi).mp z)), if_neg c, Int.zero_mul]
theorem rc_up {b D k m r s : Nat} (hb : 2 ≤ b) (h : k ≤ m) (q : rc b D k r s) : rc b D m r s := by
  obtain ⟨n, h1, h2, h3⟩ := q
  exact ⟨n, Nat.lt_of_lt_of_le h1 (Nat.pow_le_pow_right (by omega) h), h2, h3⟩
end M
namespace M
open L2 in
theorem at_end {xs : List V} {v : V} {n : Nat} (h : xs[n]? = some v) (hl : xs.length = n + 1) : atI xs (-1) = some v := by
  have e : ixN xs.length (-1) = some n := by
    unfold ixN
    rw [hl, if_neg (by omega), if_pos (by omega)]
    exact congrArg some (by omega)
  unfold atI
  rw [e]
  exact h
theorem back_int {D r : Nat} (hD : 0 < D) (y : Int) : ((r : Int) - y) % (D : Int) = ((back D r y : Nat) : Int) := by
  have h1 := Int.emod_nonneg ((r : Int) - y) (show (D : Int) ≠ 0 by omega)
  unfold back
  omega
end M
namespace M
/-- the rests of the worths of n places, the last place first -/
def wor (b D : Nat) (n : Nat) : List Int := (List.range n).map fun j => (((b ^ j % D : Nat)) : Int)
theorem wor_len (b D n : Nat) : (wor b D n).length = n := by unfold wor; rw [List.length_map, List.length_range]
theorem wor_more (b D n : Nat) : wor b D (n + 1) = wor b D n ++ [((b ^ n % D : Nat) : Int)] := by unfold wor; rw [List.range_succ, List.map_append]; rfl
theorem wor_next {b D j : Nat} : (((b ^ j % D : Nat)) : Int) * (b : Int) % (D : Int) = ((b ^ (j + 1) % D : Nat) : Int) := by
  rw [← Int.natCast_mul, ← Int.natCast_emod, Nat.pow_succ, Nat.mul_mod (b ^ j) b D, Nat.mul_mod (b ^ j % D) b D, Nat.mod_mod]
end M

set_option Elab.async false
set_option linter.all false
namespace M
open L2 PySem
/-! least sums -/
theorem dsum_one_more {b : Nat} (hb : 2 ≤ b) (n : Nat) : dsum b (n + 1) ≤ dsum b n + 1 := by
  have h := carr_eq (b := b) (x := n) (y := 1) (c := 0) hb (by omega)
  rw [Nat.add_zero, Nat.add_zero, dsum_small (show 1 < b by omega)] at h
  omega
theorem dsum_plus {b : Nat} (hb : 2 ≤ b) (m n : Nat) : dsum b (m + n) ≤ dsum b m + dsum b n := by
  have h := carr_eq (b := b) (x := m) (y := n) (c := 0) hb (by omega)
  rw [Nat.add_zero, Nat.add_zero] at h
  omega
theorem dsum_noughts {b : Nat} (hb : 2 ≤ b) (n i : Nat) : dsum b (n * b ^ i) = dsum b n := by
  have h := dsum_ahead (b := b) hb (p := i) (k := n) (i := 0) (Nat.pow_pos (by omega))
  rw [Nat.add_zero, dsum_zero hb, Nat.add_zero] at h
  exact h
theorem dsum_power {b : Nat} (hb : 2 ≤ b) (i : Nat) : dsum b (b ^ i) = 1 := by
  have h := dsum_noughts hb 1 i
  rw [Nat.one_mul, dsum_small (show 1 < b by omega)] at h
  exact h
theorem last_figure {b : Nat} (hb : 2 ≤ b) : ∀ n, 1 ≤ n → ∃ m i, n = m * b ^ i ∧ 0 < m % b ∧ 1 ≤ m := by
  intro n
  induction n using Nat.strongRecOn with
  | ind n ih =>
    intro hn
    by_cases c : n % b = 0
    · have e := Nat.div_add_mod n b
      have hq : 1 ≤ n / b := by
        rcases Nat.eq_zero_or_pos (n / b) with z | z
        · rw [z, c] at e; omega
        · exact z
      obtain ⟨m, i, e1, e2, e3⟩ := ih (n / b) (Nat.div_lt_self hn (by omega)) hq
      refine ⟨m, i + 1, ?_, e2, e3⟩
      rw [Nat.pow_succ, ← Nat.mul_assoc, ← e1, Nat.mul_comm]
      omega
    · refine ⟨n, 0, by rw [Nat.pow_zero, Nat.mul_one], by omega, hn⟩
theorem dsum_before {b m : Nat} (hb : 2 ≤ b) (h : 0 < m % b) : dsum b m = dsum b (m - 1) + 1 := by
  have e := Nat.div_add_mod m b
  have l := Nat.mod_lt m (show 0 < b by omega)
  have e1 := dsum_snoc (b := b) (n := m / b) (f := m % b) hb l
  have e2 := dsum_snoc (b := b) (n := m / b) (f := m % b - 1) hb (by omega)
  rw [Nat.mul_comm] at e1 e2
  rw [e] at e1
  rw [show b * (m / b) + (m % b - 1) = m - 1 by omega] at e2
  omega
/-- some number from 1 on has the rest r and a sum to t -/
def As (b D t r : Nat) : Prop := ∃ n, 1 ≤ n ∧ n % D = r ∧ dsum b n ≤ t
theorem As.lt {b D t r : Nat} (hD : 0 < D) (h : As b D t r) : r < D := by
  obtain ⟨n, _, rfl, _⟩ := h
  exact Nat.mod_lt _ hD
theorem As.more {b D t u r : Nat} (h : As b D t r) (k : t ≤ u) : As b D u r := by
  obtain ⟨n, h1, h2, h3⟩ := h
  exact ⟨n, h1, h2, by omega⟩
theorem As.none_ {b D r : Nat} (hb : 2 ≤ b) : ¬ As b D 0 r := by
  rintro ⟨n, h1, _, h3⟩
  have := dsum_pos hb n h1
  omega
theorem mul_rest (x y D : Nat) : x % D * y % D = x * y % D := by
  rw [Nat.mul_mod, Nat.mod_mod, ← Nat.mul_mod]
theorem As.noughts {b D t r : Nat} (hb : 2 ≤ b) (h : As b D t r) (i : Nat) : As b D t (r * b ^ i % D) := by
  obtain ⟨n, h1, rfl, h3⟩ := h
  refine ⟨n * b ^ i, Nat.mul_pos h1 (Nat.pow_pos (by omega)), (mul_rest n (b ^ i) D).symm, by rw [dsum_noughts hb]; exact h3⟩
theorem As.one {b D t r : Nat} (hb : 2 ≤ b) (h : As b D t r) : As b D (t + 1) ((r + 1) % D) := by
  obtain ⟨n, h1, rfl, h3⟩ := h
  refine ⟨n + 1, by omega, by rw [Nat.mod_add_mod], ?_⟩
  have := dsum_one_more hb n
  omega
/-- the first step -/
theorem As.first {b D r : Nat} (hb : 2 ≤ b) : As b D 1 r ↔ ∃ i, r = 1 % D * b ^ i % D := by
  constructor
  · rintro ⟨n, h1, rfl, h3⟩
    obtain ⟨m, i, e1, e2, e3⟩ := last_figure hb n h1
    have e4 := dsum_before hb e2
    rw [e1, dsum_noughts hb] at h3
    have z : m - 1 = 0 := by
      rcases Nat.eq_zero_or_pos (m - 1) with c | c
      · exact c
      · have := dsum_pos hb _ c; omega
    have : m = 1 := by omega
    subst this
    refine ⟨i, ?_⟩
    rw [mul_rest, e1]
  · rintro ⟨i, rfl⟩
    exact ⟨b ^ i, Nat.pow_pos (by omega), by rw [mul_rest, Nat.one_mul], by rw [dsum_power hb]; omega⟩
/-- one step more: from those that are new add 1, and noughts behind -/
theorem As.step {b D t r : Nat} (hb : 2 ≤ b) (ht : 1 ≤ t) : As b D (t + 1) r ↔ As b D t r ∨ ∃ q, (As b D t q ∧ ¬ As b D (t - 1) q) ∧ ∃ i, r = (q + 1) % D * b ^ i % D := by
  constructor
  · rintro ⟨n, h1, rfl, h3⟩
    by_cases c : dsum b n ≤ t
    · exact .inl ⟨n, h1, rfl, c⟩
    obtain ⟨m, i, e1, e2, e3⟩ := last_figure hb n h1
    have e4 := dsum_before hb e2
    have e5 : dsum b m = t + 1 := by
      rw [e1, dsum_noughts hb] at h3 c
      omega
    have m2 : 1 ≤ m - 1 := by
      rcases Nat.eq_zero_or_pos (m - 1) with z | z
      · rw [z, dsum_zero hb] at e4; omega
      · exact z
    have em : (m - 1) % D = (m - 1) % D := rfl
    have er : ∀ x : Nat, x % D = (m - 1) % D → (x + 1) % D = m % D := fun x hx => by
      have : m = (m - 1) + 1 := by omega
      rw [this, Nat.add_mod, hx, ← Nat.add_mod]
    by_cases k : As b D (t - 1) ((m - 1) % D)
    · refine .inl ?_
      have a1 := k.one hb
      rw [show t - 1 + 1 = t by omega, er _ (Nat.mod_mod _ _)] at a1
      have a2 := a1.noughts hb i
      rw [mul_rest, ← e1] at a2
      exact a2
    · refine .inr ⟨(m - 1) % D, ⟨⟨m - 1, m2, rfl, by omega⟩, k⟩, i, ?_⟩
      rw [er _ (Nat.mod_mod _ _), mul_rest, ← e1]
  · rintro (h | ⟨q, ⟨h, _⟩, i, rfl⟩)
    · exact h.more (by omega)
    · exact (h.one hb).noughts hb i
/-- the least sum of a multiple from 1 times on -/
def Lsum (b D t : Nat) : Prop := (∃ n, 1 ≤ n ∧ Mul b D t n) ∧ ∀ s, s < t → ∀ n, 1 ≤ n → ¬ Mul b D s n
theorem Lsum.of {b D t : Nat} (h : As b D t 0) (no : ∀ s, s < t → ¬ As b D s 0) : Lsum b D t := by
  obtain ⟨n, h1, h2, h3⟩ := h
  refine ⟨⟨n, h1, ?_, h2⟩, fun s hs m hm q => no s hs ⟨m, hm, q.2, by rw [q.1]; exact Nat.le_refl _⟩⟩
  rcases Nat.lt_or_ge (dsum b n) t with c | c
  · exact absurd ⟨n, h1, h2, Nat.le_refl _⟩ (no _ c)
  · omega
theorem Lsum.uniq {b D t u : Nat} (h : Lsum b D t) (k : Lsum b D u) : t = u := by
  obtain ⟨⟨n, h1, h2⟩, h3⟩ := h
  obtain ⟨⟨m, k1, k2⟩, k3⟩ := k
  rcases Nat.lt_trichotomy t u with c | c | c
  · exact absurd h2 (k3 _ c n h1)
  · exact c
  · exact absurd k2 (h3 _ c m k1)
theorem Lsum.pos {b D t : Nat} (hb : 2 ≤ b) (h : Lsum b D t) : 1 ≤ t := by
  obtain ⟨⟨n, h1, h2, _⟩, _⟩ := h
  have := dsum_pos hb n h1
  omega
theorem Lsum.le {b D t : Nat} (hb : 2 ≤ b) (hD : 0 < D) (h : Lsum b D t) : t ≤ D := by
  rcases Nat.lt_or_ge D t with c | c
  · have := dsum_le hb D
    exact absurd ⟨rfl, Nat.mod_self D⟩ (h.2 (dsum b D) (by omega) D hD)
  · exact c
theorem Lsum.times {b D t u : Nat} (hb : 2 ≤ b) (h : Lsum b D t) (k : Lsum b (D * b) u) : t = u := by
  obtain ⟨⟨n, h1, h2, h3⟩, h4⟩ := h
  obtain ⟨⟨m, k1, k2, k3⟩, k4⟩ := k
  have a1 : u ≤ t := by
    rcases Nat.lt_or_ge t u with c | c
    · refine absurd ⟨?_, ?_⟩ (k4 t c (n * b) (Nat.mul_pos h1 (by omega)))
      · have := dsum_noughts hb n 1
        rw [Nat.pow_one] at this
        omega
      · rw [Nat.mul_mod_mul_right, h3, Nat.zero_mul]
    · exact c
  have a2 : t ≤ u := by
    rcases Nat.lt_or_ge u t with c | c
    · refine absurd ⟨k2, ?_⟩ (h4 u c m k1)
      have : D ∣ m := Nat.dvd_trans (Nat.dvd_mul_right D b) (Nat.dvd_of_mod_eq_zero k3)
      exact Nat.mod_eq_zero_of_dvd this
    · exact c
  omega
/-! sums of so many powers -/
inductive Pw (b : Nat) : Nat → Nat → Prop
  | one (i : Nat) : Pw b 1 (b ^ i)
  | more {t n : Nat} (i : Nat) : Pw b t n → Pw b (t + 1) (n + b ^ i)
theorem Pw.pos {b t n : Nat} (hb : 2 ≤ b) (h : Pw b t n) : 1 ≤ n := by
  cases h with
  | one i => exact Nat.pow_pos (by omega)
  | more i h => have : 0 < b ^ i := Nat.pow_pos (by omega); omega
theorem Pw.sum {b t n : Nat} (hb : 2 ≤ b) (h : Pw b t n) : dsum b n ≤ t := by
  induction h with
  | one i => rw [dsum_power hb]; omega
  | @more t n i h ih =>
    have := dsum_plus hb n (b ^ i)
    rw [dsum_power hb] at this
    omega
theorem Pw.up {b t n : Nat} (h : Pw b t n) (i : Nat) : Pw b t (n * b ^ i) := by
  induction h with
  | one j => rw [← Nat.pow_add]; exact .one _
  | more j h ih => rw [Nat.add_mul, ← Nat.pow_add]; exact .more _ ih
theorem Pw.of {b : Nat} (hb : 2 ≤ b) : ∀ n, 1 ≤ n → Pw b (dsum b n) n := by
  intro n
  induction n using Nat.strongRecOn with
  | ind n ih =>
    intro hn
    obtain ⟨m, i, e1, e2, e3⟩ := last_figure hb n hn
    have e4 := dsum_before hb e2
    have key : Pw b (dsum b m) m := by
      rcases Nat.eq_zero_or_pos (m - 1) with z | z
      · have : m = 1 := by omega
        subst this
        rw [dsum_small (show 1 < b by omega)]
        have := Pw.one (b := b) 0
        rw [Nat.pow_zero] at this
        exact this
      · have le : m ≤ n := by
          rw [e1]
          exact Nat.le_mul_of_pos_right m (Nat.pow_pos (by omega))
        have k := ih (m - 1) (by omega) z
        have k2 := Pw.more 0 k
        rw [Nat.pow_zero, show m - 1 + 1 = m by omega] at k2
        rw [e4]
        exact k2
    have k3 := key.up i
    rw [← e1] at k3
    have e5 : dsum b n = dsum b m := by rw [e1, dsum_noughts hb]
    rw [e5]
    exact k3
/-- rests of the sums of t powers -/
def Pr (b D t r : Nat) : Prop := ∃ n, Pw b t n ∧ n % D = r
theorem Pr.first {b D r : Nat} (hD : 0 < D) : Pr b D 1 r ↔ ∃ i, i < D ∧ r = b ^ i % D := by
  constructor
  · rintro ⟨n, h, rfl⟩
    have : ∃ i, n = b ^ i := by
      cases h with
      | one i => exact ⟨i, rfl⟩
      | more i h => cases h
    obtain ⟨i, rfl⟩ := this
    obtain ⟨t, _, t2, t3⟩ := worths_again (b := b) (k := 0) hD i (Nat.zero_le _)
    exact ⟨t, by omega, t3.symm⟩
  · rintro ⟨i, _, rfl⟩
    exact ⟨b ^ i, .one i, rfl⟩
theorem Pr.step {b D t r : Nat} (hD : 0 < D) (ht : 1 ≤ t) : Pr b D (t + 1) r ↔ ∃ x y, Pr b D t x ∧ Pr b D 1 y ∧ r = (x + y) % D := by
  constructor
  · rintro ⟨n, h, rfl⟩
    cases h with
    | one i => omega
    | more i h =>
      rename_i m
      exact ⟨m % D, b ^ i % D, ⟨m, h, rfl⟩, ⟨b ^ i, .one i, rfl⟩, Nat.add_mod _ _ _⟩
  · rintro ⟨x, y, ⟨m, h, rfl⟩, ⟨k, h2, rfl⟩, rfl⟩
    have : ∃ i, k = b ^ i := by
      cases h2 with
      | one i => exact ⟨i, rfl⟩
      | more i h => cases h
    obtain ⟨i, rfl⟩ := this
    exact ⟨m + b ^ i, .more i h, Nat.add_mod _ _ _⟩
theorem Pr.sum {b D t : Nat} (hb : 2 ≤ b) (h : Pr b D t 0) (no : ∀ s, s < t → ¬ Pr b D s 0) : Lsum b D t := by
  have of_ : ∀ n, 1 ≤ n → n % D = 0 → Pr b D (dsum b n) 0 := fun n hn hm => ⟨n, Pw.of hb n hn, hm⟩
  obtain ⟨n, h1, h2⟩ := h
  have p := h1.pos hb
  have l := h1.sum hb
  refine ⟨⟨n, p, ?_, h2⟩, fun s hs m hm q => no s hs (by rw [← q.1]; exact of_ m hm q.2)⟩
  rcases Nat.lt_or_ge (dsum b n) t with c | c
  · exact absurd (of_ n p h2) (no _ c)
  · omega
theorem Pr.ends {b D : Nat} (hb : 2 ≤ b) (hD : 0 < D) : Pr b D (dsum b D) 0 := ⟨D, Pw.of hb D hD, Nat.mod_self D⟩
theorem As.ends {b D : Nat} (hD : 0 < D) : As b D (dsum b D) 0 := ⟨D, hD, Nat.mod_self D, Nat.le_refl _⟩
/-! dicts that hold rests -/
def met (ks : List Nat) : List (Key × V) := ks.map fun r : Nat => ((Sum.inl (r : Int) : Key), V.bl true)
theorem met_len (ks : List Nat) : (met ks).length = ks.length := List.length_map ..
theorem met_has : ∀ {ks : List Nat} {r : Nat}, r ∈ ks → valV (met ks) (Sum.inl (r : Int) : Key) = some (.bl true)
  | [], _, h => nomatch h
  | k :: ks, r, h => by
    by_cases c : k = r
    · subst c
      exact valV_pos (p := ((Sum.inl (k : Int) : Key), V.bl true)) rfl
    · have h2 : r ∈ ks := by
        rcases List.mem_cons.mp h with z | z
        · exact absurd z.symm c
        · exact z
      refine (valV_neg (p := ((Sum.inl (k : Int) : Key), V.bl true)) (fun z => c ?_)).trans (met_has h2)
      have z' : (k : Int) = (r : Int) := Sum.inl.inj z
      omega
theorem met_no {ks : List Nat} {r : Nat} (h : r ∉ ks) : valV (met ks) (Sum.inl (r : Int) : Key) = none := by
  cases e : valV (met ks) (Sum.inl (r : Int) : Key) with
  | none => rfl
  | some v =>
    have m := valV_in e
    unfold met at m
    rw [List.map_map] at m
    obtain ⟨k, hk, ek⟩ := List.mem_map.mp m
    have z' : (k : Int) = (r : Int) := Sum.inl.inj ek
    have : k = r := by omega
    subst this
    exact absurd hk h
theorem met_put {ks : List Nat} {r : Nat} (h : r ∉ ks) : putK (met ks) (Sum.inl (r : Int)) (.bl true) = met (ks ++ [r]) := by
  rw [putK_new _ (met_no h)]
  unfold met
  rw [List.map_append]
  rfl
theorem met_again {ks : List Nat} {r : Nat} (h : r ∈ ks) : putK (met ks) (Sum.inl (r : Int)) (.bl true) = met ks := by
  unfold putK
  have : ((met ks).any fun kv => decide (kv.1 = (Sum.inl (r : Int) : Key))) = true := by rw [valV_any, met_has h]; rfl
  rw [if_pos this]
  have id_ : ∀ kv ∈ met ks, (if kv.1 = (Sum.inl (r : Int) : Key) then (kv.1, V.bl true) else kv) = kv := fun kv hk => by
    unfold met at hk
    obtain ⟨k, _, rfl⟩ := List.mem_map.mp hk
    split <;> rfl
  rw [List.map_congr_left id_, List.map_id']
theorem few_of {ks : List Nat} {D : Nat} (nd : ks.Nodup) (h : ∀ r ∈ ks, r < D) : ks.length ≤ D := by
  have := nodup_len ks (List.range D) nd fun x hx => List.mem_range.mpr (h x hx)
  rw [List.length_range] at this
  exact this
end M
namespace M
open L2 PySem
theorem met_add {ks : List Nat} (nd : ks.Nodup) (r : Nat) : ∃ ls, putK (met ks) (Sum.inl (r : Int)) (.bl true) = met ls ∧ ls.Nodup ∧ ∀ x, x ∈ ls ↔ x ∈ ks ∨ x = r := by
  by_cases c : r ∈ ks
  · refine ⟨ks, met_again c, nd, fun x => ⟨.inl, ?_⟩⟩
    rintro (z | rfl)
    · exact z
    · exact c
  · exact ⟨ks ++ [r], met_put c, nd_snoc nd c, fun x => by rw [List.mem_append, List.mem_singleton]⟩
theorem met_keys (ks : List Nat) : ((met ks).map fun kv => kV kv.1) = vN ks := by
  unfold met vN
  rw [List.map_map]
  rfl
theorem met_get {ks : List Nat} {i : Nat} {k : Key} {v : V} (h : (met ks)[i]? = some (k, v)) : ∃ r, ks[i]? = some r ∧ k = .inl (r : Int) := by
  unfold met at h
  rw [List.getElem?_map] at h
  cases e : ks[i]? with
  | none => rw [e] at h; cases h
  | some r => rw [e] at h; cases h; exact ⟨r, rfl, rfl⟩
end M
namespace M
theorem digs_few {b : Nat} (hb : 2 ≤ b) : ∀ n k, n < b ^ (k + 1) → (digs b n).length ≤ k + 1 := by
  refine digs_ind hb (P := fun n => ∀ k, n < b ^ (k + 1) → (digs b n).length ≤ k + 1) (fun n h k hk => ?_) (fun n h ih k hk => ?_)
  · rw [digs_small h]
    show 1 ≤ k + 1
    omega
  · rw [digs_big hb h, List.length_cons]
    rcases k with _ | k
    · rw [Nat.zero_add, Nat.pow_one] at hk
      omega
    · have := ih k (Nat.div_lt_of_lt_mul (by rw [Nat.mul_comm, ← Nat.pow_succ]; exact hk))
      omega
/-- so many figures are no trouble -/
def Wide (b n : Nat) : Prop := (digs b n).length ≤ 500000
theorem Wide.of {b n : Nat} (hb : 2 ≤ b) (h : n < b ^ 500000) : Wide b n := digs_few hb n 499999 h
theorem Wide.big {b n : Nat} (hb : 2 ≤ b) (h : Big n) : Wide b n := Nat.le_trans (digs_big_len hb h) (by decide)
end M
namespace M
theorem lsum_one : Lsum 10 1 1 := ⟨⟨1, Nat.le_refl _, dsum_small (by decide), rfl⟩, fun s hs n hn q => by
  have := dsum_pos (b := 10) (by decide) n hn
  have := q.1
  omega⟩
theorem lsum_nine : Lsum 10 9 9 := ⟨⟨9, by decide, dsum_small (by decide), rfl⟩, fun s hs n hn q => by
  have h1 := dsum_pos (b := 10) (by decide) n hn
  have h2 := q.1
  have h3 := q.2
  obtain ⟨k, e⟩ := dsum_mod (b := 10) (by decide) n
  have e2 : n = dsum 10 n + 9 * k := e
  omega⟩
theorem ten_eleven : ∀ i : Nat, 10 ^ i % 11 = 1 ∨ 10 ^ i % 11 = 10
  | 0 => .inl rfl
  | i + 1 => by
    rw [Nat.pow_succ, Nat.mul_mod]
    rcases ten_eleven i with e | e <;> rw [e]
    · exact .inr rfl
    · exact .inl rfl
theorem lsum_eleven : Lsum 10 11 2 := by
  refine Lsum.of ⟨11, by decide, rfl, ?_⟩ fun s hs h => ?_
  · have e : dsum 10 11 = 2 := by
      rw [dsum_big (by decide) (by decide), show 11 / 10 = 1 from rfl, dsum_small (show 1 < 10 by decide)]
    rw [e]; exact Nat.le_refl _
  · have h1 := h.more (show s ≤ 1 by omega)
    obtain ⟨i, e⟩ := (As.first (by decide)).mp h1
    rw [mul_rest, Nat.one_mul] at e
    rcases ten_eleven i with z | z <;> omega
end M

set_option Elab.async false
set_option linter.all false
set_option maxRecDepth 100000
namespace M
open PySem L2 Z
/-! lines of words: what split makes of them -/
def inter (c : Nat) : List (List Nat) → List Nat
  | [] => []
  | [x] => x
  | x :: y :: r => x ++ c :: inter c (y :: r)
theorem head_eq {c : Nat} : ∀ {x y s t : List Nat}, c ∉ x → c ∉ y → x ++ c :: s = y ++ c :: t → x = y ∧ s = t
  | [], [], s, t, _, _, h => ⟨rfl, (List.cons.inj h).2⟩
  | [], b :: y, s, t, _, hy, h => absurd (List.cons.inj h).1 (fun z => hy (z ▸ List.mem_cons_self ..))
  | a :: x, [], s, t, hx, _, h => absurd (List.cons.inj h).1 (fun z => hx (z ▸ List.mem_cons_self ..))
  | a :: x, b :: y, s, t, hx, hy, h => by
    obtain ⟨e1, e2⟩ := List.cons.inj h
    obtain ⟨e3, e4⟩ := head_eq (fun z => hx (List.mem_cons_of_mem _ z)) (fun z => hy (List.mem_cons_of_mem _ z)) e2
    exact ⟨by rw [e1, e3], e4⟩
theorem inter_inj {c : Nat} : ∀ {l m : List (List Nat)}, l ≠ [] → m ≠ [] → (∀ p ∈ l, c ∉ p) → (∀ p ∈ m, c ∉ p) → inter c l = inter c m → l = m
  | [], _, h, _, _, _, _ => absurd rfl h
  | _ :: _, [], _, h, _, _, _ => absurd rfl h
  | [x], [y], _, _, _, _, h => by rw [show x = y from h]
  | [x], y :: z :: r, _, _, hl, _, h => by
    have e : x = y ++ c :: inter c (z :: r) := h
    exact absurd (show c ∈ x by rw [e]; simp) (hl x (List.mem_cons_self ..))
  | x :: w :: q, [y], _, _, _, hm, h => by
    have e : x ++ c :: inter c (w :: q) = y := h
    exact absurd (show c ∈ y by rw [← e]; simp) (hm y (List.mem_cons_self ..))
  | x :: w :: q, y :: z :: r, _, _, hl, hm, h => by
    obtain ⟨e1, e2⟩ := head_eq (hl x (List.mem_cons_self ..)) (hm y (List.mem_cons_self ..)) (show x ++ c :: inter c (w :: q) = y ++ c :: inter c (z :: r) from h)
    rw [e1, inter_inj (by simp) (by simp) (fun p hp => hl p (List.mem_cons_of_mem _ hp)) (fun p hp => hm p (List.mem_cons_of_mem _ hp)) e2]
theorem join_inter (c : Nat) : ∀ l : List Str, (Str.join ⟨#[c]⟩ l).cps.toList = inter c (l.map fun p => p.cps.toList)
  | [] => rfl
  | [x] => rfl
  | x :: y :: r => by
    show (x ++ ⟨#[c]⟩ ++ Str.join ⟨#[c]⟩ (y :: r)).cps.toList = x.cps.toList ++ c :: inter c ((y :: r).map fun p => p.cps.toList)
    rw [← join_inter c (y :: r), PySem.Str.cps_append, PySem.Str.cps_append]
    simp
theorem split_ne (x y : Str) : Txt.split x y ≠ [] := fun z => by
  have := PyProof.Rows.split_pos x y
  rw [z] at this
  exact absurd this (by decide)
theorem split_join (c : Nat) (l : List Str) (ne : l ≠ []) (free : ∀ p ∈ l, c ∉ p.cps.toList) : Txt.split (Str.join ⟨#[c]⟩ l) ⟨#[c]⟩ = l := by
  have e := PySem.StrLaws.join_split (Str.join ⟨#[c]⟩ l) ⟨#[c]⟩
  have e2 := congrArg (fun z : Str => z.cps.toList) e
  rw [join_inter, join_inter] at e2
  have e3 := inter_inj (by simpa using split_ne _ _) (by simpa using ne) (fun p hp => ?_) (fun p hp => ?_) e2
  · have inj : ∀ {a b : List Str}, (a.map fun p => p.cps.toList) = (b.map fun p => p.cps.toList) → a = b := fun {a b} h =>
      List.map_inj_right (fun x y z => PySem.Str.ext' (Array.toList_inj.mp z)) |>.mp h
    exact inj e3
  · obtain ⟨q, hq, rfl⟩ := List.mem_map.mp hp
    exact PySem.StrLaws.split_free _ c q hq
  · obtain ⟨q, hq, rfl⟩ := List.mem_map.mp hp
    exact free q hq
/-- a number as it is written -/
def sh (b n : Nat) : Str := tx (digs b n).reverse
theorem chr_free : ∀ d : Nat, d < 36 → chr d ≠ 32 := by decide +kernel
theorem sh_free {b n : Nat} (hb : 2 ≤ b) (hb2 : b ≤ 36) : 32 ∉ (sh b n).cps.toList := by
  unfold sh tx
  intro m
  have m : 32 ∈ (digs b n).reverse.map chr := by simpa using m
  obtain ⟨d, hd, e⟩ := List.mem_map.mp m
  exact chr_free d (by have := digs_lt hb n d (List.mem_reverse.mp hd); omega) e
theorem sp_is : Str.ofString " " = ⟨#[32]⟩ := by decide +kernel
/-- a word and one more behind it -/
theorem split_two {w t : Str} (hw : 32 ∉ w.cps.toList) (ht : 32 ∉ t.cps.toList) : Txt.split (w ++ Str.ofString " " ++ t) (Str.ofString " ") = [w, t] := by
  rw [sp_is]
  refine split_join 32 [w, t] (by simp) fun p hp => ?_
  simp only [List.mem_cons, List.not_mem_nil, or_false] at hp
  rcases hp with rfl | rfl
  · exact hw
  · exact ht
theorem split_one {w : Str} (hw : 32 ∉ w.cps.toList) : Txt.split w (Str.ofString " ") = [w] := by
  rw [sp_is]
  refine split_join 32 [w] (by simp) fun p hp => ?_
  simp only [List.mem_cons, List.not_mem_nil, or_false] at hp
  rw [hp]
  exact hw
theorem sh_ten : ∀ b : Nat, b ≤ 100 → Str.ofString (toString (b : Int)) = sh 10 b := by decide +kernel
/-! ### what a kept number's desk is asked -/
inductive Deed where
  | add (m : Nat)
  | less (m : Nat)
  | base (B : Nat)
  | showN
  | sumN
  | carN
namespace Deed
def word : Deed → Str
  | .add _ => Str.ofString "add"
  | .less _ => Str.ofString "less"
  | .base _ => Str.ofString "base"
  | .showN => Str.ofString "show"
  | .sumN => Str.ofString "sum"
  | .carN => Str.ofString "carries"
def ms : Deed → List Nat
  | .add m => [m]
  | .less m => [m]
  | _ => []
def ks : Deed → List Nat
  | .base B => [B]
  | _ => []
def lims : Deed → List (Int × Int)
  | .base _ => [(2, 16)]
  | _ => []
def line (b : Nat) : Deed → Str
  | .add m => Str.ofString "add " ++ sh b m
  | .less m => Str.ofString "less " ++ sh b m
  | .base B => Str.ofString "base " ++ sh 10 B
  | .showN => Str.ofString "show"
  | .sumN => Str.ofString "sum"
  | .carN => Str.ofString "carries"
def Ok (n : Nat) : Deed → Prop
  | .add m => n + m ≤ 1000000000000000000000000000000
  | .less m => m ≤ n
  | .base B => 2 ≤ B ∧ B ≤ 16
  | _ => True
/-- base, number and carries behind it, and the rows that are told -/
def b2 (b : Nat) : Deed → Nat
  | .base B => B
  | _ => b
def n2 (n : Nat) : Deed → Nat
  | .add m => n + m
  | .less m => n - m
  | .base _ => 0
  | _ => n
def c2 (b n c : Nat) : Deed → Nat
  | .add m => c + carr b n m 0
  | .base _ => 0
  | _ => c
def out (b n c : Nat) : Deed → List Str
  | .showN => [sh b n]
  | .sumN => [Str.ofString (toString ((dsum b n : Nat) : Int))]
  | .carN => [Str.ofString (toString (c : Int))]
  | _ => []
def asks : Deed → Bool
  | .showN => true
  | .sumN => true
  | .carN => true
  | _ => false
theorem split_line {b : Nat} (hb : 2 ≤ b) (hb2 : b ≤ 16) (D : Deed) : Txt.split (D.line b) (Str.ofString " ") = D.word :: (D.ms.map (sh b) ++ D.ks.map (sh 10)) := by
  have f : ∀ w : Str, w.cps.toList.contains 32 = false → 32 ∉ w.cps.toList := fun w h m => by
    rw [List.contains_iff_mem.mpr m] at h
    cases h
  cases D with
  | add m =>
    have e : Str.ofString "add " = Str.ofString "add" ++ Str.ofString " " := by decide +kernel
    show Txt.split (Str.ofString "add " ++ sh b m) _ = _
    rw [e]
    exact split_two (f _ (by decide +kernel)) (sh_free hb (by omega))
  | less m =>
    have e : Str.ofString "less " = Str.ofString "less" ++ Str.ofString " " := by decide +kernel
    show Txt.split (Str.ofString "less " ++ sh b m) _ = _
    rw [e]
    exact split_two (f _ (by decide +kernel)) (sh_free hb (by omega))
  | base B =>
    have e : Str.ofString "base " = Str.ofString "base" ++ Str.ofString " " := by decide +kernel
    show Txt.split (Str.ofString "base " ++ sh 10 B) _ = _
    rw [e]
    exact split_two (f _ (by decide +kernel)) (sh_free (by omega) (by omega))
  | showN => exact split_one (f (Str.ofString "show") (by decide +kernel))
  | sumN => exact split_one (f (Str.ofString "sum") (by decide +kernel))
  | carN => exact split_one (f (Str.ofString "carries") (by decide +kernel))
theorem sh_len {b n : Nat} (hb : 2 ≤ b) (hn : n ≤ 1000000000000000000000000000000) : (sh b n).length ≤ 4000 := by
  unfold sh
  rw [tx_len, List.length_reverse]
  exact digs_big_len hb (Big.of (Nat.le_trans hn (by decide +kernel)))
theorem line_len {b n : Nat} (hb : 2 ≤ b) (hn : n ≤ 1000000000000000000000000000000) {D : Deed} (ok : D.Ok n) : (D.line b).length + 2 ≤ 16777216 := by
  have a (x y : Str) : (x ++ y).length = x.length + y.length := PySem.Str.length_append x y
  cases D with
  | add m =>
    have := sh_len (b := b) (n := m) hb (by have : n + m ≤ 1000000000000000000000000000000 := ok; omega)
    have e : (Str.ofString "add ").length = 4 := by decide +kernel
    show (Str.ofString "add " ++ sh b m).length + 2 ≤ _
    rw [a, e]; omega
  | less m =>
    have := sh_len (b := b) (n := m) hb (by have : m ≤ n := ok; omega)
    have e : (Str.ofString "less ").length = 5 := by decide +kernel
    show (Str.ofString "less " ++ sh b m).length + 2 ≤ _
    rw [a, e]; omega
  | base B =>
    have := sh_len (b := 10) (n := B) (by omega) (by have : 2 ≤ B ∧ B ≤ 16 := ok; omega)
    have e : (Str.ofString "base ").length = 5 := by decide +kernel
    show (Str.ofString "base " ++ sh 10 B).length + 2 ≤ _
    rw [a, e]; omega
  | showN => show (Str.ofString "show").length + 2 ≤ _; decide +kernel
  | sumN => show (Str.ofString "sum").length + 2 ≤ _; decide +kernel
  | carN => show (Str.ofString "carries").length + 2 ≤ _; decide +kernel
theorem few {n : Nat} (hn : n ≤ 1000000000000000000000000000000) : ∀ D : Deed, D.Ok n → D.ms.length ≤ 2 ∧ (∀ m, m ∈ D.ms → m ≤ 1000000000000000000000000000000) ∧ D.ks.length = D.lims.length ∧ D.lims.length ≤ 2 ∧
    (∀ (i k : Nat) (lo hi : Int), D.ks[i]? = some k → D.lims[i]? = some (lo, hi) → lo ≤ (k : Int) ∧ (k : Int) ≤ hi ∧ hi ≤ 1000000000000000000000000000000)
  | .add m, ok => by
    have ok : n + m ≤ 1000000000000000000000000000000 := ok
    refine ⟨Nat.le_of_ble_eq_true rfl, fun x hx => ?_, rfl, Nat.le_of_ble_eq_true rfl, fun i k lo hi h => ?_⟩
    · rw [List.mem_singleton.mp hx]; omega
    · cases h
  | .less m, ok => by
    have ok : m ≤ n := ok
    refine ⟨Nat.le_of_ble_eq_true rfl, fun x hx => ?_, rfl, Nat.le_of_ble_eq_true rfl, fun i k lo hi h => ?_⟩
    · rw [List.mem_singleton.mp hx]; omega
    · cases h
  | .base B, ok => by
    have ok : 2 ≤ B ∧ B ≤ 16 := ok
    refine ⟨Nat.le_of_ble_eq_true rfl, fun x hx => ?_, rfl, Nat.le_of_ble_eq_true rfl, fun i k lo hi h1 h2 => ?_⟩
    · cases hx
    · cases i with
      | zero =>
        cases h1
        cases h2
        omega
      | succ i => cases h1
  | .showN, _ => by
    refine ⟨Nat.le_of_ble_eq_true rfl, fun x hx => ?_, rfl, Nat.le_of_ble_eq_true rfl, fun i k lo hi h => ?_⟩
    · cases hx
    · cases h
  | .sumN, _ => by
    refine ⟨Nat.le_of_ble_eq_true rfl, fun x hx => ?_, rfl, Nat.le_of_ble_eq_true rfl, fun i k lo hi h => ?_⟩
    · cases hx
    · cases h
  | .carN, _ => by
    refine ⟨Nat.le_of_ble_eq_true rfl, fun x hx => ?_, rfl, Nat.le_of_ble_eq_true rfl, fun i k lo hi h => ?_⟩
    · cases hx
    · cases h
end Deed
theorem small_nat {n : Nat} (h : n ≤ 10 ^ 40) : (n : Int).natAbs.log2 < 1920 := by
  have e : (n : Int).natAbs = n := Int.natAbs_natCast n
  rw [e]
  by_cases z : n = 0
  · subst z; decide
  · exact (Nat.log2_lt z).mpr (Nat.lt_of_le_of_lt h (by decide +kernel))
/-! ### numbers in figures of ten -/
theorem chr_ten : ∀ d : Nat, d < 10 → chr d = 48 + d := by decide +kernel
theorem num_digs : ∀ n : Nat, TL.numL n = (digs 10 n).reverse.map chr := by
  intro n
  induction n using Nat.strongRecOn with
  | _ n ih =>
    by_cases h : n < 10
    · rw [TL.numL_lt h, digs_small h]
      show _ = [chr n]
      rw [chr_ten n h]
    · rw [TL.numL_step (by omega), digs_big (by omega) (by omega), List.reverse_cons, List.map_append, ih _ (by omega)]
      show _ = _ ++ [chr (n % 10)]
      rw [chr_ten _ (Nat.mod_lt _ (by omega))]
theorem dec_is (n : Nat) : Str.ofString (toString (n : Int)) = sh 10 n := by
  refine PySem.Str.ext' (Array.toList_inj.mp ?_)
  have e := TL.tl_num n
  refine (show (Str.ofString (toString (n : Int))).cps.toList = TL.numL n from e).trans ?_
  rw [num_digs]
  unfold sh tx
  simp
theorem chr_ok : ∀ d : Nat, d < 36 → chr d < 0x110000 := by decide +kernel
theorem sh_ok {b n : Nat} (hb : 2 ≤ b) (hb2 : b ≤ 36) : PySem.PyData.strOk (sh b n) = true := by
  unfold PySem.PyData.strOk sh tx
  rw [Array.all_eq_true_iff_forall_mem]
  intro c hc
  have hc : c ∈ (digs b n).reverse.map chr := by simpa using hc
  obtain ⟨d, hd, rfl⟩ := List.mem_map.mp hc
  exact decide_eq_true (chr_ok d (by have := digs_lt hb n d (List.mem_reverse.mp hd); omega))
theorem shaped_one {x : Str} (h : PySem.PyData.strOk x = true) : SeqAt.shaped (.list [.str x]) = true := by
  show (PySem.PyData.strOk x && true && decide ((PyData.list [.str x]).depth ≤ 64)) = true
  rw [h]
  rfl
theorem eqv_one (x : Str) : PyData.eqv (.list [.str x]) (.list [.str x]) = true := by
  show (PyData.eqv (.str x) (.str x) && true) = true
  have e : PyData.eqv (.str x) (.str x) = true := by
    show (x == x) = true
    simp
  rw [e]
  rfl
theorem carr_le {b n m : Nat} (hb : 2 ≤ b) : carr b n m 0 ≤ n + m := by
  have h := carr_eq (x := n) (y := m) (c := 0) hb (by omega)
  have h1 := dsum_le hb n
  have h2 := dsum_le hb m
  have h3 : carr b n m 0 * 1 ≤ carr b n m 0 * (b - 1) := Nat.mul_le_mul_left _ (by omega)
  omega
namespace Deed
theorem out_none {b n c : Nat} {D : Deed} (h : D.asks = false) : D.out b n c = [] := by
  cases D with
  | showN => cases h
  | sumN => cases h
  | carN => cases h
  | _ => rfl
theorem c2_le {b n c : Nat} {D : Deed} (hb : 2 ≤ b) (ok : D.Ok n) : D.c2 b n c ≤ c + 1000000000000000000000000000000 := by
  cases D with
  | add m =>
    have h := carr_le (b := b) (n := n) (m := m) hb
    have ok : n + m ≤ 1000000000000000000000000000000 := ok
    show c + carr b n m 0 ≤ _
    omega
  | base B => exact Nat.zero_le _
  | _ => exact Nat.le_add_right _ _
end Deed
/-! ### a line of any words -/
def words (l : List Str) : Str := Str.join ⟨#[32]⟩ l
theorem split_words {l : List Str} (ne : l ≠ []) (free : ∀ p ∈ l, 32 ∉ p.cps.toList) : Txt.split (words l) (Str.ofString " ") = l := by
  rw [sp_is]
  exact split_join 32 l ne free
theorem words_len : ∀ (l : List Str), (∀ p ∈ l, p.length ≤ 4000) → (words l).length ≤ 4001 * l.length
  | [], _ => Nat.zero_le _
  | [x], h => by
    have := h x (List.mem_cons_self ..)
    show x.length ≤ 4001 * 1
    omega
  | x :: y :: r, h => by
    have h1 := h x (List.mem_cons_self ..)
    have h2 := words_len (y :: r) (fun p hp => h p (List.mem_cons_of_mem _ hp))
    have e : words (x :: y :: r) = x ++ ⟨#[32]⟩ ++ words (y :: r) := rfl
    have l1 : (⟨#[32]⟩ : Str).length = 1 := rfl
    rw [e, PySem.Str.length_append, PySem.Str.length_append, l1]
    show _ ≤ 4001 * ((y :: r).length + 1)
    omega
theorem free_word {w : Str} (h : w.cps.toList.contains 32 = false) : 32 ∉ w.cps.toList := fun m => by
  rw [List.contains_iff_mem.mpr m] at h
  cases h
theorem words_two (w x : Str) : w ++ Str.ofString " " ++ x = words [w, x] := by
  rw [sp_is]
  rfl
theorem words_three (w x y : Str) : w ++ (Str.ofString " " ++ x ++ Str.ofString " " ++ y) = words [w, x, y] := by
  rw [sp_is]
  show _ = w ++ ⟨#[32]⟩ ++ (x ++ ⟨#[32]⟩ ++ y)
  simp only [PySem.Str.append_assoc]
theorem words_four (w x y z : Str) : w ++ (Str.ofString " " ++ x ++ Str.ofString " " ++ y) ++ Str.ofString " " ++ z = words [w, x, y, z] := by
  rw [sp_is]
  show _ = w ++ ⟨#[32]⟩ ++ (x ++ ⟨#[32]⟩ ++ (y ++ ⟨#[32]⟩ ++ z))
  simp only [PySem.Str.append_assoc]
theorem base_is (x : Str) : Str.ofString "base " ++ x = words [Str.ofString "base", x] := by
  have e : Str.ofString "base " = Str.ofString "base" ++ Str.ofString " " := by decide +kernel
  rw [e, words_two]
end M

set_option Elab.async false
set_option linter.all false
set_option maxRecDepth 100000
namespace M
open PySem L2 Z
/-! what a desk is asked beside its kept number -/
inductive Ask where
  | total (f l : Nat)
  | with_ (f l t : Nat)
  | nth (t p : Nat)
  | beside (n : Nat)
  | rests (f l d : Nat)
  | ends (f l : Nat)
  | multiple (d t : Nat)
def I (x : Int) : Str := Str.ofString (toString x)
theorem tot_small (b : Nat) (hb : 2 ≤ b) : ∀ N, tot b N ≤ N * N
  | 0 => Nat.le_refl _
  | N + 1 => by
    have h := tot_small b hb N
    have d := dsum_le hb N
    rw [tot_succ, Nat.add_mul, Nat.mul_add]
    omega
theorem small_int {x : Int} (h : x.natAbs < 2 ^ 250) : x.natAbs.log2 < 1920 := by
  by_cases z : x.natAbs = 0
  · rw [z]; decide
  · exact Nat.lt_trans ((Nat.log2_lt z).mpr h) (by decide)
theorem few30 {x : Int} (h0 : 0 ≤ x) (h : x ≤ 2000000000000000000000000000000) : x.natAbs.log2 < 1920 := small_int (by have : (2000000000000000000000000000000 : Nat) < 2 ^ 250 := by decide +kernel
                                                                                                                       omega)
theorem I_len {x : Int} (h0 : 0 ≤ x) (h : x ≤ 2000000000000000000000000000000) : (I x).length ≤ 4000 := by
  obtain ⟨n, rfl⟩ : ∃ n : Nat, x = (n : Int) := ⟨x.toNat, by omega⟩
  show (Str.ofString (toString (n : Int))).length ≤ 4000
  rw [dec_is]
  unfold sh
  rw [tx_len, List.length_reverse]
  exact digs_big_len (by decide) (Big.of (Nat.le_trans (by omega : n ≤ 2000000000000000000000000000000) (by decide +kernel)))
theorem join_words (ys : List Str) : Txt.join (Str.ofString " ") ys = words ys := by
  have e : Txt.join (Str.ofString " ") ys = Str.join (Str.ofString " ") ys := PySem.StrLaws.glued_eq_join _ ys
  rw [e, sp_is]
  rfl
namespace Ask
def word : Ask → Str
  | .total _ _ => Str.ofString "total"
  | .with_ _ _ _ => Str.ofString "with"
  | .nth _ _ => Str.ofString "nth"
  | .beside _ => Str.ofString "beside"
  | .rests _ _ _ => Str.ofString "rests"
  | .ends _ _ => Str.ofString "ends"
  | .multiple _ _ => Str.ofString "multiple"
def ms : Ask → List Nat
  | .total f l => [f, l]
  | .with_ f l _ => [f, l]
  | .beside n => [n]
  | .rests f l _ => [f, l]
  | .ends f l => [f, l]
  | _ => []
def ks : Ask → List Nat
  | .with_ _ _ t => [t]
  | .nth t p => [t, p]
  | .rests _ _ d => [d]
  | .multiple d t => [d, t]
  | _ => []
def lims : Ask → List (Int × Int)
  | .with_ _ _ _ => [(0, 1000000)]
  | .nth _ _ => [(0, 300), (0, 1000000000000000000000000000000)]
  | .rests _ _ _ => [(1, 60)]
  | .multiple _ _ => [(1, 60), (1, 100)]
  | _ => []
def line (b : Nat) (A : Ask) : Str := words (A.word :: (A.ms.map (sh b) ++ A.ks.map (sh 10)))
def Ok : Ask → Prop
  | .total f l => f ≤ l ∧ l ≤ 1000000000000000000000000000000
  | .with_ f l t => f ≤ l ∧ l ≤ 1000000000000000000000000000000 ∧ t ≤ 1000000
  | .nth t p => t ≤ 300 ∧ p ≤ 1000000000000000000000000000000
  | .beside n => n ≤ 1000000000000000000000000000000
  | .rests f l d => f ≤ l ∧ l ≤ 1000000000000000000000000000000 ∧ 1 ≤ d ∧ d ≤ 60
  | .ends f l => f ≤ l ∧ l ≤ 1000000000000000000000000000000
  | .multiple d t => 1 ≤ d ∧ d ≤ 60 ∧ 1 ≤ t ∧ t ≤ 100
/-- the rows that are told -/
def Out (b : Nat) : Ask → List Str → Prop
  | .total f l, ts => ts = [I (((tot b (l + 1) : Nat) : Int) - ((tot b f : Nat) : Int))]
  | .with_ f l t, ts => ts = [I (cs b (l + 1) t - cs b f t)]
  | .nth t p, ts => (cw b 200 t ≤ (p : Int) ∧ ts = [Str.ofString "none"]) ∨ ((p : Int) < cw b 200 t ∧ ∃ n, dsum b n = t ∧ cs b n t = (p : Int) ∧ n < b ^ 200 ∧ ts = [sh b n])
  | .beside n, ts => ∃ x y : Str, (((∀ m, m < n → dsum b m ≠ dsum b n) ∧ x = Str.ofString "none") ∨ ∃ l, NextL b n l ∧ x = sh b l) ∧ ((n = 0 ∧ y = Str.ofString "none") ∨ ∃ g, NextG b n g ∧ y = sh b g) ∧ ts = [words [x, y]]
  | .rests f l d, ts => ts = [words ((List.range d).map fun r => I (CR b (fun _ => 1) d 0 (l + 1) r - CR b (fun _ => 1) d 0 f r))]
  | .ends f l, ts => ∃ gs gn ls ln, GEnd b f (l + 1) gs gn ∧ LEnd b f (l + 1) ls ln ∧ ts = [I (gs : Int) ++ Str.ofString " " ++ sh b gn, I (ls : Int) ++ Str.ofString " " ++ sh b ln]
  | .multiple d t, ts => (∃ n, Mul b d t n ∧ (∀ m, Mul b d t m → n ≤ m) ∧ n < b ^ 500000 ∧ ts = [sh b n]) ∨ ((∀ n, ¬ Mul b d t n) ∧ ts = [Str.ofString "none"])
theorem Out.uniq {b : Nat} (hb : 2 ≤ b) {A : Ask} (ok : A.Ok) {ts us : List Str} (h : Out b A ts) (k : Out b A us) : ts = us := by
  cases A with
  | total f l => exact Eq.trans h (Eq.symm k)
  | with_ f l t => exact Eq.trans h (Eq.symm k)
  | rests f l d => exact Eq.trans h (Eq.symm k)
  | nth t p =>
    rcases h with ⟨h1, rfl⟩ | ⟨h1, n, h2, h3, _, rfl⟩ <;> rcases k with ⟨k1, rfl⟩ | ⟨k1, m, k2, k3, _, rfl⟩
    · rfl
    · omega
    · omega
    · rw [place_uniq h2 k2 (by rw [h3, k3])]
  | beside n =>
    obtain ⟨x, y, h1, h2, rfl⟩ := h
    obtain ⟨x2, y2, k1, k2, rfl⟩ := k
    have ex : x = x2 := by
      rcases h1 with ⟨a, rfl⟩ | ⟨l, a, rfl⟩ <;> rcases k1 with ⟨c, rfl⟩ | ⟨m, c, rfl⟩
      · rfl
      · exact absurd c.2.1 (a m c.1)
      · exact absurd a.2.1 (c l a.1)
      · rw [a.uniq c]
    have nog : n = 0 → ∀ m, ¬ NextG b n m := fun z m c => by
      have p := c.2.1
      have q := dsum_pos hb m (by have := c.1; omega)
      rw [z, dsum_zero hb] at p
      omega
    have ey : y = y2 := by
      rcases h2 with ⟨a, rfl⟩ | ⟨l, a, rfl⟩ <;> rcases k2 with ⟨c, rfl⟩ | ⟨m, c, rfl⟩
      · rfl
      · exact absurd c (nog a m)
      · exact absurd a (nog c l)
      · rw [a.uniq c]
    rw [ex, ey]
  | ends f l =>
    obtain ⟨gs, gn, ls, ln, h1, h2, rfl⟩ := h
    obtain ⟨gs2, gn2, ls2, ln2, k1, k2, rfl⟩ := k
    have hf : f < l + 1 := Nat.lt_succ_of_le ok.1
    obtain ⟨rfl, rfl⟩ := h1.uniq hf k1
    obtain ⟨rfl, rfl⟩ := h2.uniq hf k2
    rfl
  | multiple d t =>
    rcases h with ⟨n, h1, h2, _, rfl⟩ | ⟨h1, rfl⟩ <;> rcases k with ⟨m, k1, k2, _, rfl⟩ | ⟨k1, rfl⟩
    · have : n = m := Nat.le_antisymm (h2 _ k1) (k2 _ h1)
      rw [this]
    · exact absurd h1 (k1 n)
    · exact absurd k1 (h1 m)
    · rfl
theorem line_facts {b : Nat} (hb : 2 ≤ b) (hb2 : b ≤ 16) {z : Str} {ms ks : List Nat} (zf : 32 ∉ z.cps.toList ∧ z.length ≤ 10) (hm : ms.length ≤ 2 ∧ ∀ m ∈ ms, m ≤ 1000000000000000000000000000000) (hk : ks.length ≤ 2 ∧ ∀ k ∈ ks, k ≤ 1000000000000000000000000000000) :
    Txt.split (words (z :: (ms.map (sh b) ++ ks.map (sh 10)))) (Str.ofString " ") = z :: (ms.map (sh b) ++ ks.map (sh 10)) ∧ (words (z :: (ms.map (sh b) ++ ks.map (sh 10)))).length + 2 ≤ 16777216 := by
  have free : ∀ p ∈ z :: (ms.map (sh b) ++ ks.map (sh 10)), 32 ∉ p.cps.toList ∧ p.length ≤ 4000 := fun p hp => by
    rcases List.mem_cons.mp hp with rfl | hp
    · exact ⟨zf.1, by omega⟩
    · rcases List.mem_append.mp hp with hp | hp
      · obtain ⟨m, hm2, rfl⟩ := List.mem_map.mp hp
        exact ⟨sh_free hb (by omega), Deed.sh_len hb (hm.2 m hm2)⟩
      · obtain ⟨k, hk2, rfl⟩ := List.mem_map.mp hp
        exact ⟨sh_free (by omega) (by omega), Deed.sh_len (by omega) (hk.2 k hk2)⟩
  refine ⟨split_words (by simp) (fun p hp => (free p hp).1), ?_⟩
  have h := words_len (z :: (ms.map (sh b) ++ ks.map (sh 10))) (fun p hp => (free p hp).2)
  rw [List.length_cons, List.length_append, List.length_map, List.length_map] at h
  omega
theorem word_ok (A : Ask) : 32 ∉ A.word.cps.toList ∧ A.word.length ≤ 10 := by
  have fr : ∀ w : Str, w.cps.toList.contains 32 = false → 32 ∉ w.cps.toList := fun w h m => by
    rw [List.contains_iff_mem.mpr m] at h
    cases h
  cases A with
  | total f l => exact (show 32 ∉ (Str.ofString "total").cps.toList ∧ (Str.ofString "total").length ≤ 10 from ⟨fr _ (by decide +kernel), by decide +kernel⟩)
  | with_ f l t => exact (show 32 ∉ (Str.ofString "with").cps.toList ∧ (Str.ofString "with").length ≤ 10 from ⟨fr _ (by decide +kernel), by decide +kernel⟩)
  | nth t p => exact (show 32 ∉ (Str.ofString "nth").cps.toList ∧ (Str.ofString "nth").length ≤ 10 from ⟨fr _ (by decide +kernel), by decide +kernel⟩)
  | beside n => exact (show 32 ∉ (Str.ofString "beside").cps.toList ∧ (Str.ofString "beside").length ≤ 10 from ⟨fr _ (by decide +kernel), by decide +kernel⟩)
  | rests f l d => exact (show 32 ∉ (Str.ofString "rests").cps.toList ∧ (Str.ofString "rests").length ≤ 10 from ⟨fr _ (by decide +kernel), by decide +kernel⟩)
  | ends f l => exact (show 32 ∉ (Str.ofString "ends").cps.toList ∧ (Str.ofString "ends").length ≤ 10 from ⟨fr _ (by decide +kernel), by decide +kernel⟩)
  | multiple d t => exact (show 32 ∉ (Str.ofString "multiple").cps.toList ∧ (Str.ofString "multiple").length ≤ 10 from ⟨fr _ (by decide +kernel), by decide +kernel⟩)
theorem few : ∀ A : Ask, A.Ok → (A.ms.length ≤ 2 ∧ ∀ m ∈ A.ms, m ≤ 1000000000000000000000000000000) ∧ (A.ks.length ≤ 2 ∧ ∀ k ∈ A.ks, k ≤ 1000000000000000000000000000000) ∧ A.ks.length = A.lims.length ∧
    (∀ (i k : Nat) (lo hi : Int), A.ks[i]? = some k → A.lims[i]? = some (lo, hi) → lo ≤ (k : Int) ∧ (k : Int) ≤ hi ∧ hi ≤ 1000000000000000000000000000000) := by
  have two : ∀ x y k : Nat, x ≤ 1000000000000000000000000000000 → y ≤ 1000000000000000000000000000000 → k ∈ [x, y] → k ≤ 1000000000000000000000000000000 := fun x y k h1 h2 h => by
    simp only [List.mem_cons, List.not_mem_nil, or_false] at h
    omega
  have one : ∀ x k : Nat, x ≤ 1000000000000000000000000000000 → k ∈ [x] → k ≤ 1000000000000000000000000000000 := fun x k h1 h => by
    rw [List.mem_singleton.mp h]; exact h1
  have l1 : ∀ (x : Nat) (a c : Int), a ≤ (x : Int) → (x : Int) ≤ c → c ≤ 1000000000000000000000000000000 → ∀ (i k : Nat) (lo hi : Int), [x][i]? = some k → [(a, c)][i]? = some (lo, hi) → lo ≤ (k : Int) ∧ (k : Int) ≤ hi ∧ hi ≤ 1000000000000000000000000000000 := fun x a c h1 h2 h3 i k lo hi e1 e2 => by
    rcases i with _ | i
    · cases e1; cases e2; exact ⟨h1, h2, h3⟩
    · simp at e1
  have l2 : ∀ (x y : Nat) (a c e g : Int), a ≤ (x : Int) → (x : Int) ≤ c → c ≤ 1000000000000000000000000000000 → e ≤ (y : Int) → (y : Int) ≤ g → g ≤ 1000000000000000000000000000000 → ∀ (i k : Nat) (lo hi : Int), [x, y][i]? = some k → [(a, c), (e, g)][i]? = some (lo, hi) → lo ≤ (k : Int) ∧ (k : Int) ≤ hi ∧ hi ≤ 1000000000000000000000000000000 := fun x y a c e g h1 h2 h3 h4 h5 h6 i k lo hi e1 e2 => by
    rcases i with _ | _ | i
    · cases e1; cases e2; exact ⟨h1, h2, h3⟩
    · cases e1; cases e2; exact ⟨h4, h5, h6⟩
    · simp at e1
  intro A ok
  cases A with
  | total f l =>
    obtain ⟨o1, o2⟩ := ok
    exact ⟨⟨Nat.le_refl _, fun m h => two f l m (by omega) o2 h⟩, ⟨Nat.zero_le _, fun k h => nomatch h⟩, rfl, fun i k lo hi e => by simp [ks] at e⟩
  | with_ f l t =>
    obtain ⟨o1, o2, o3⟩ := ok
    exact ⟨⟨Nat.le_refl _, fun m h => two f l m (by omega) o2 h⟩, ⟨Nat.le_of_ble_eq_true rfl, fun k h => one t k (by omega) h⟩, rfl, l1 t 0 1000000 (by omega) (by omega) (by omega)⟩
  | nth t p =>
    obtain ⟨o1, o2⟩ := ok
    exact ⟨⟨Nat.zero_le _, fun k h => nomatch h⟩, ⟨Nat.le_refl _, fun m h => two t p m (by omega) o2 h⟩, rfl, l2 t p 0 300 0 1000000000000000000000000000000 (by omega) (by omega) (by omega) (by omega) (by omega) (by omega)⟩
  | beside n =>
    exact ⟨⟨Nat.le_of_ble_eq_true rfl, fun k h => one n k ok h⟩, ⟨Nat.zero_le _, fun k h => nomatch h⟩, rfl, fun i k lo hi e => by simp [ks] at e⟩
  | rests f l d =>
    obtain ⟨o1, o2, o3, o4⟩ := ok
    exact ⟨⟨Nat.le_refl _, fun m h => two f l m (by omega) o2 h⟩, ⟨Nat.le_of_ble_eq_true rfl, fun k h => one d k (by omega) h⟩, rfl, l1 d 1 60 (by omega) (by omega) (by omega)⟩
  | ends f l =>
    obtain ⟨o1, o2⟩ := ok
    exact ⟨⟨Nat.le_refl _, fun m h => two f l m (by omega) o2 h⟩, ⟨Nat.zero_le _, fun k h => nomatch h⟩, rfl, fun i k lo hi e => by simp [ks] at e⟩
  | multiple d t =>
    obtain ⟨o1, o2, o3, o4⟩ := ok
    exact ⟨⟨Nat.zero_le _, fun k h => nomatch h⟩, ⟨Nat.le_refl _, fun m h => two d t m (by omega) (by omega) h⟩, rfl, l2 d t 1 60 1 100 (by omega) (by omega) (by omega) (by omega) (by omega) (by omega)⟩
end Ask
end M
namespace M
open PySem L2 Z
theorem ext_list {x y : Str} (h : x.cps.toList = y.cps.toList) : x = y := PySem.Str.ext' (Array.toList_inj.mp h)
theorem app_list (x y : Str) : (x ++ y).cps.toList = x.cps.toList ++ y.cps.toList := by
  rw [PySem.Str.cps_append]
  simp
theorem wrd_list (l : List Str) : (words l).cps.toList = inter 32 (l.map fun p => p.cps.toList) := join_inter 32 l
theorem spc_list : (Str.ofString " ").cps.toList = [32] := by decide +kernel
/-- a line of a word with a blank behind it and two more -/
theorem line_two {w z : Str} (e : w.cps.toList = z.cps.toList ++ [32]) (x y : Str) : w ++ (x ++ Str.ofString " " ++ y) = words [z, x, y] := ext_list (by
  rw [wrd_list, app_list, app_list, app_list, e, spc_list]
  simp [inter])
theorem line_tri {w z : Str} (e : w.cps.toList = z.cps.toList ++ [32]) (x y u : Str) : w ++ (x ++ Str.ofString " " ++ y) ++ (Str.ofString " " ++ u) = words [z, x, y, u] := ext_list (by
  rw [wrd_list, app_list, app_list, app_list, app_list, app_list, e, spc_list]
  simp [inter])
theorem line_uno {w z : Str} (e : w.cps.toList = z.cps.toList ++ [32]) (x : Str) : w ++ x = words [z, x] := ext_list (by
  rw [wrd_list, app_list, e]
  simp [inter])
theorem line_duo {w z : Str} (e : w.cps.toList = z.cps.toList ++ [32]) (x y : Str) : w ++ x ++ Str.ofString " " ++ y = words [z, x, y] := ext_list (by
  rw [wrd_list, app_list, app_list, app_list, e, spc_list]
  simp [inter])
theorem I_nat (n : Nat) : I (n : Int) = sh 10 n := dec_is n
end M
namespace M
open PySem L2 Z
theorem sum_lens : ∀ ys : List Str, (∀ y ∈ ys, y.length ≤ 4000) → (ys.map fun x : Str => x.length).sum ≤ 4000 * ys.length
  | [], _ => Nat.le_refl _
  | y :: r, hy => by
    rw [List.map_cons, List.sum_cons, List.length_cons]
    have := hy y (List.mem_cons_self ..)
    have := sum_lens r fun z hz => hy z (List.mem_cons_of_mem _ hz)
    omega
end M
namespace M
open PySem L2 Z
theorem ok_app {x y : Str} (hx : PyData.strOk x = true) (hy : PyData.strOk y = true) : PyData.strOk (x ++ y) = true := by
  unfold PyData.strOk at *
  rw [Array.all_eq_true_iff_forall_mem] at *
  rw [PySem.Str.cps_append]
  intro c hc
  rcases Array.mem_append.mp hc with h | h
  · exact hx c h
  · exact hy c h
theorem ok_spc : PyData.strOk (Str.ofString " ") = true := by decide +kernel
theorem ok_none : PyData.strOk (Str.ofString "none") = true := by decide +kernel
theorem ok_I {x : Int} (h : 0 ≤ x) : PyData.strOk (I x) = true := by
  obtain ⟨n, rfl⟩ : ∃ n : Nat, x = (n : Int) := ⟨x.toNat, by omega⟩
  rw [I_nat]
  exact sh_ok (by decide) (by decide)
theorem ok_words : ∀ l : List Str, (∀ x ∈ l, PyData.strOk x = true) → PyData.strOk (words l) = true
  | [], _ => by decide +kernel
  | [x], h => h x (List.mem_cons_self ..)
  | x :: y :: r, h => by
    have ih := ok_words (y :: r) fun z hz => h z (List.mem_cons_of_mem _ hz)
    have e : words (x :: y :: r) = x ++ ⟨#[32]⟩ ++ words (y :: r) := rfl
    rw [e, ← sp_is]
    exact ok_app (ok_app (h x (List.mem_cons_self ..)) ok_spc) ih
theorem tot_up (b f : Nat) : ∀ k, tot b f ≤ tot b (f + k)
  | 0 => Nat.le_refl _
  | k + 1 => by
    have := tot_up b f k
    rw [← Nat.add_assoc, tot_succ]
    omega
theorem Ask.Out.good {b : Nat} (hb : 2 ≤ b) (hb2 : b ≤ 16) {A : Ask} (ok : A.Ok) {ts : List Str} (h : A.Out b ts) : ts ≠ [] ∧ ∀ x ∈ ts, PyData.strOk x = true := by
  have one : ∀ x : Str, PyData.strOk x = true → [x] ≠ [] ∧ ∀ y ∈ [x], PyData.strOk y = true := fun x hx => ⟨by simp, fun y hy => by rw [List.mem_singleton.mp hy]; exact hx⟩
  have oks : ∀ n, PyData.strOk (sh b n) = true := fun n => sh_ok hb (by omega)
  cases A with
  | total f l =>
    obtain rfl : ts = _ := h
    have := tot_up b f (l + 1 - f)
    rw [show f + (l + 1 - f) = l + 1 by have := ok.1; omega] at this
    exact one _ (ok_I (by omega))
  | with_ f l t =>
    obtain rfl : ts = _ := h
    have m := cs_mono (b := b) (s := t) (show f ≤ l + 1 by have := ok.1; omega)
    exact one _ (ok_I (by omega))
  | nth t p =>
    rcases h with ⟨_, rfl⟩ | ⟨_, n, _, _, _, rfl⟩
    · exact one _ ok_none
    · exact one _ (oks n)
  | beside n =>
    obtain ⟨x, y, h1, h2, rfl⟩ := h
    refine one _ (ok_words _ fun z hz => ?_)
    simp only [List.mem_cons, List.not_mem_nil, or_false] at hz
    rcases hz with rfl | rfl
    · rcases h1 with ⟨_, rfl⟩ | ⟨l, _, rfl⟩
      · exact ok_none
      · exact oks l
    · rcases h2 with ⟨_, rfl⟩ | ⟨l, _, rfl⟩
      · exact ok_none
      · exact oks l
  | rests f l d =>
    obtain rfl : ts = _ := h
    refine one _ (ok_words _ fun z hz => ?_)
    obtain ⟨r, _, rfl⟩ := List.mem_map.mp hz
    have h := CR_diff (b := b) (fun _ => 1) d 0 f r (l + 1 - f)
    rw [show f + (l + 1 - f) = l + 1 by have := ok.1; omega] at h
    exact ok_I h.1
  | ends f l =>
    obtain ⟨gs, gn, ls, ln, _, _, rfl⟩ := h
    refine ⟨by simp, fun z hz => ?_⟩
    simp only [List.mem_cons, List.not_mem_nil, or_false] at hz
    rcases hz with rfl | rfl
    · exact ok_app (ok_app (ok_I (Int.natCast_nonneg _)) ok_spc) (oks _)
    · exact ok_app (ok_app (ok_I (Int.natCast_nonneg _)) ok_spc) (oks _)
  | multiple d t =>
    rcases h with ⟨n, _, _, _, rfl⟩ | ⟨_, rfl⟩
    · exact one _ (oks n)
    · exact one _ ok_none
theorem lay_strs : ∀ ts : List Str, (∀ x ∈ ts, PyData.strOk x = true) → PyData.canLayAll0 (ts.map PyData.str) = true ∧ PyData.depthAll (ts.map PyData.str) ≤ 1
  | [], _ => ⟨rfl, by simp [PyData.depthAll]⟩
  | x :: r, h => by
    obtain ⟨a, c⟩ := lay_strs r fun z hz => h z (List.mem_cons_of_mem _ hz)
    refine ⟨?_, ?_⟩
    · show (PyData.canLay0 (.str x) && PyData.canLayAll0 (r.map PyData.str)) = true
      rw [a, show PyData.canLay0 (.str x) = PyData.strOk x from rfl, h x (List.mem_cons_self ..)]
      rfl
    · rw [List.map_cons]
      simp only [PyData.depthAll, PyData.depth]
      omega
theorem shaped_strs {ts : List Str} (h : ∀ x ∈ ts, PyData.strOk x = true) : SeqAt.shaped (.list (ts.map PyData.str)) = true := by
  obtain ⟨a, c⟩ := lay_strs ts h
  show (PyData.canLayAll0 (ts.map PyData.str) && decide ((PyData.list (ts.map PyData.str)).depth ≤ 64)) = true
  rw [a]
  have : (PyData.list (ts.map PyData.str)).depth ≤ 64 := by
    simp only [PyData.depth]
    omega
  simp [this]
theorem eqv_all : ∀ ts : List Str, PyData.eqvAll (ts.map PyData.str) (ts.map PyData.str) = true
  | [] => rfl
  | x :: r => by
    show (PyData.eqv (.str x) (.str x) && PyData.eqvAll (r.map PyData.str) (r.map PyData.str)) = true
    rw [eqv_all r, show PyData.eqv (.str x) (.str x) = (x == x) from rfl]
    simp
theorem eqv_strs (ts : List Str) : PyData.eqv (.list (ts.map PyData.str)) (.list (ts.map PyData.str)) = true := eqv_all ts
end M
namespace M
open PySem L2 Z
/-- what is asked of a desk, a line and the rows that are told -/
def Asked (b n c : Nat) (line : Str) (ts : List Str) : Prop := (∃ D : Deed, D.asks = true ∧ line = D.line b ∧ ts = D.out b n c) ∨ ∃ A : Ask, A.Ok ∧ line = A.line b ∧ A.Out b ts
theorem Asked.good {b n c : Nat} {line : Str} {ts : List Str} (hb : 2 ≤ b) (hb2 : b ≤ 16) (h : Asked b n c line ts) : ts ≠ [] ∧ ∀ x ∈ ts, PyData.strOk x = true := by
  have one : ∀ x : Str, PyData.strOk x = true → [x] ≠ [] ∧ ∀ y ∈ [x], PyData.strOk y = true := fun x hx => ⟨by simp, fun y hy => by rw [List.mem_singleton.mp hy]; exact hx⟩
  rcases h with ⟨D, a, _, rfl⟩ | ⟨A, ok, _, out⟩
  · cases D with
    | showN => exact one _ (sh_ok hb (by omega))
    | sumN => exact one _ (ok_I (Int.natCast_nonneg _))
    | carN => exact one _ (ok_I (Int.natCast_nonneg _))
    | add m => cases a
    | less m => cases a
    | base B => cases a
  · exact out.good hb hb2 ok
end M

set_option Elab.async false
set_option linter.all false
set_option maxRecDepth 100000
namespace M
open PySem L2 Z
/-! texts that write numbers, and those that write none -/
def fg (c : Nat) : Int := Txt.find sgs ⟨#[c]⟩
def fg16 (c : Nat) : Int := Txt.find sg16 ⟨#[c]⟩
theorem find_no {s : Str} {c : Nat} (h : c ∉ s.cps.toList) : Txt.find s ⟨#[c]⟩ = -1 := by
  unfold Txt.find
  rw [PySem.W.occ_nil_of_no]
  intro i hi
  cases e : PySem.Builtin.Str.subAt s ⟨#[c]⟩ i with
  | false => rfl
  | true =>
    have m : c ∈ (⟨#[c]⟩ : Str).cps := by simp
    rw [← beq_iff_eq.mp e] at m
    obtain ⟨k, hk, e2⟩ := Array.mem_extract_iff_getElem.mp m
    exact absurd (by rw [← e2]; exact Array.mem_toList_iff.mpr (Array.getElem_mem _)) h
theorem sgs_list : sgs.cps.toList = (List.range 36).map chr := by decide +kernel
theorem sg16_list : sg16.cps.toList = (List.range 16).map chr := by decide +kernel
theorem fg_chr : ∀ d : Nat, d < 36 → fg (chr d) = (d : Int) := sg_find
theorem fg16_chr : ∀ d : Nat, d < 36 → fg16 (chr d) = if d < 16 then (d : Int) else -1 := by decide +kernel
theorem fg_out {c : Nat} (h : ¬ ∃ d, d < 36 ∧ c = chr d) : fg c = -1 ∧ fg16 c = -1 := by
  constructor
  · refine find_no fun m => h ?_
    rw [sgs_list] at m
    obtain ⟨d, hd, e⟩ := List.mem_map.mp m
    exact ⟨d, List.mem_range.mp hd, e.symm⟩
  · refine find_no fun m => h ?_
    rw [sg16_list] at m
    obtain ⟨d, hd, e⟩ := List.mem_map.mp m
    exact ⟨d, by have := List.mem_range.mp hd; omega, e.symm⟩
/-- c is no figure of the base -/
def Bad (b c : Nat) : Prop := fg c < 0 ∨ (b : Int) ≤ fg c
theorem fg_same {b : Nat} (hb : b ≤ 16) (c : Nat) : (fg16 c < 0 ∨ (b : Int) ≤ fg16 c ↔ Bad b c) ∧ (¬ Bad b c → fg16 c = fg c) := by
  unfold Bad
  by_cases h : ∃ d, d < 36 ∧ c = chr d
  · obtain ⟨d, hd, rfl⟩ := h
    rw [fg_chr d hd, fg16_chr d hd]
    by_cases k : d < 16
    · rw [if_pos k]
      exact ⟨Iff.rfl, fun _ => rfl⟩
    · rw [if_neg k]
      exact ⟨⟨fun _ => .inr (by omega), fun _ => .inl (by omega)⟩, fun z => absurd (.inr (by omega)) z⟩
  · obtain ⟨e1, e2⟩ := fg_out h
    rw [e1, e2]
    exact ⟨Iff.rfl, fun _ => rfl⟩
/-- the number that signs tell -/
def num (b : Nat) (cs : List Nat) : Int := cs.foldl (fun n c => n * (b : Int) + fg c) 0
theorem num_take {b : Nat} {cs : List Nat} {i c : Nat} (h : cs[i]? = some c) : num b (cs.take (i + 1)) = num b (cs.take i) * (b : Int) + fg c := by
  unfold num
  rw [List.take_add_one, h, List.foldl_append]
  rfl
def Lead (t : Str) : Prop := t.cps[0]? = some 48 ∧ 1 < t.length
def Plain (b : Nat) (t : Str) (k : Nat) : Prop := ∀ (i c : Nat), i < k → t.cps[i]? = some c → ¬ Bad b c
theorem Plain.zero {b : Nat} {t : Str} : Plain b t 0 := fun i c h => absurd h (by omega)
theorem Plain.next {b : Nat} {t : Str} {k c : Nat} (h : Plain b t k) (e : t.cps[k]? = some c) (g : ¬ Bad b c) : Plain b t (k + 1) := fun i d hi hd => by
  by_cases z : i = k
  · subst z
    rw [e] at hd
    cases hd
    exact g
  · exact h i d (by omega) hd
def Taken (b : Nat) (t : Str) (n : Int) : Prop := (t ≠ "" ∧ ¬ Lead t) ∧ Plain b t t.cps.size ∧ n = num b t.cps.toList
def Refused (b : Nat) (t : Str) (k : Nat) : Prop := ((t = "" ∨ Lead t) ∧ k = 0) ∨ ((t ≠ "" ∧ ¬ Lead t) ∧ Plain b t k ∧ ∃ c, t.cps[k]? = some c ∧ Bad b c)
theorem heard (b : Nat) (t : Str) : (∃ n, Taken b t n) ∨ ∃ k, Refused b t k := by
  by_cases h : t = "" ∨ Lead t
  · exact .inr ⟨0, .inl ⟨h, rfl⟩⟩
  have h2 : t ≠ "" ∧ ¬ Lead t := ⟨fun z => h (.inl z), fun z => h (.inr z)⟩
  have all : ∀ k, k ≤ t.cps.size → Plain b t k ∨ ∃ k, Refused b t k := by
    intro k
    induction k with
    | zero => exact fun _ => .inl Plain.zero
    | succ k ih =>
      intro hk
      rcases ih (by omega) with p | r
      · obtain ⟨c, hc⟩ : ∃ c, t.cps[k]? = some c := ⟨_, Array.getElem?_eq_getElem (by omega)⟩
        by_cases g : Bad b c
        · exact .inr ⟨k, .inr ⟨h2, p, c, hc, g⟩⟩
        · exact .inl (p.next hc g)
      · exact .inr r
  rcases all _ (Nat.le_refl _) with p | r
  · exact .inl ⟨_, h2, p, rfl⟩
  · exact .inr r
theorem Refused.le {b : Nat} {t : Str} {k : Nat} (h : Refused b t k) : k ≤ t.length := by
  rcases h with ⟨_, rfl⟩ | ⟨_, _, c, hc, _⟩
  · omega
  · exact Nat.le_of_lt (Array.getElem?_eq_some_iff.mp hc).1
theorem small_place {k : Nat} (h : k ≤ 16777216) : (k : Int).natAbs.log2 < 1920 := by
  have e : (k : Int).natAbs = k := Int.natAbs_natCast k
  rw [e]
  by_cases z : k = 0
  · subst z; decide
  · exact (Nat.log2_lt z).mpr (Nat.lt_of_le_of_lt h (by decide +kernel))
/-- the pieces of a text that is cut in two -/
theorem cut_len (u : Str) (lo hi : Option Int) : (cutS u lo hi).length = min (HT.sIx u.length u.length hi - HT.sIx u.length 0 lo) (u.length - HT.sIx u.length 0 lo) := by
  have e : u.length = u.cps.toList.length := (Array.length_toList).symm
  unfold cutS
  show (List.toArray _).size = _
  rw [List.size_toArray, List.length_take, List.length_drop, ← e]
theorem cut_to (u : Str) (p : Nat) (h : p ≤ u.length) : (cutS u none (some (p : Int))).length = p := by
  rw [cut_len, HT.sIx_nat]
  show min (min p u.length - 0) (u.length - 0) = p
  omega
theorem cut_from (u : Str) (p : Nat) : (cutS u (some (p : Int)) none).length = u.length - p := by
  rw [cut_len, HT.sIx_nat]
  show min (u.length - min p u.length) (u.length - min p u.length) = u.length - p
  omega
theorem app_len (a b : Str) : (a ++ b).length = a.length + b.length := PySem.Str.length_append a b
theorem one_len (z : Nat) : (⟨#[z]⟩ : Str).length = 1 := rfl
theorem cut_one (t : Str) : cutS t none (some 1) = "0" ↔ t.cps[0]? = some 48 := by
  have e0 : ("0" : Str) = ⟨#[48]⟩ := by decide +kernel
  have e1 : cutS t none (some 1) = ⟨(t.cps.toList.take 1).toArray⟩ := by
    unfold cutS
    have s : HT.sIx t.length t.length (some 1) = min 1 t.length := HT.sIx_nat t.length t.length 1
    rw [s]
    show (⟨(List.take (min 1 t.length - 0) (List.drop 0 t.cps.toList)).toArray⟩ : Str) = _
    have l : t.length = t.cps.toList.length := (Array.length_toList).symm
    rw [List.drop_zero, Nat.sub_zero, l]
    congr 2
    rw [← List.take_take, List.take_length]
  rw [e1, e0, ← Array.getElem?_toList]
  cases t.cps.toList with
  | nil => simp
  | cons a r =>
    simp
theorem excl {b : Nat} {t : Str} {n : Int} {k : Nat} (h : Taken b t n) (r : Refused b t k) : False := by
  obtain ⟨⟨h1, h2⟩, pl, _⟩ := h
  rcases r with ⟨z | z, _⟩ | ⟨_, _, c, hc, bad⟩
  · exact h1 z
  · exact h2 z
  · exact pl k c (Array.getElem?_eq_some_iff.mp hc).1 hc bad
theorem Taken.eq {b : Nat} {t : Str} {n m : Int} (h : Taken b t n) (h2 : Taken b t m) : n = m := h.2.2.trans h2.2.2.symm
theorem Refused.eq {b : Nat} {t : Str} {k j : Nat} (h : Refused b t k) (h2 : Refused b t j) : k = j := by
  rcases h with ⟨z, rfl⟩ | ⟨z, pl, c, hc, bad⟩
  · rcases h2 with ⟨_, rfl⟩ | ⟨y, _⟩
    · rfl
    · exact (z.elim y.1 y.2).elim
  · rcases h2 with ⟨y, _⟩ | ⟨y, pl2, c2, hc2, bad2⟩
    · exact (y.elim z.1 z.2).elim
    · rcases Nat.lt_trichotomy k j with l | l | l
      · exact absurd bad (pl2 k c l hc)
      · exact l
      · exact absurd bad2 (pl j c2 l hc2)
end M

set_option Elab.async false
set_option linter.all false
set_option maxRecDepth 100000
namespace M
open PySem L2 Z
/-! texts far above, read and refused; lines that stand with them -/
theorem chr_bad : ∀ d : Nat, d < 36 → (chr d = 48 ↔ d = 0) ∧ chr d ≠ 32 := by decide +kernel
theorem tx_list (l : List Nat) : (tx l).cps.toList = l.map chr := rfl
theorem tx_get {l : List Nat} {i c : Nat} (h : (tx l).cps[i]? = some c) : ∃ d ∈ l, c = chr d ∧ l[i]? = some d := by
  rw [← Array.getElem?_toList, tx_list, List.getElem?_map] at h
  cases e : l[i]? with
  | none => rw [e] at h; cases h
  | some d => rw [e] at h; cases h; exact ⟨d, List.mem_of_getElem? e, rfl, rfl⟩
theorem not_bad {b d : Nat} (hb : b ≤ 36) (h : d < b) : ¬ Bad b (chr d) := by
  unfold Bad
  rw [fg_chr d (by omega)]
  omega
theorem tx_taken {b : Nat} (hb : b ≤ 36) {g : Nat} {r : List Nat} (h : ∀ d ∈ g :: r, d < b) (hg : 1 ≤ g ∨ r = []) : Taken b (tx (g :: r)) (num b (tx (g :: r)).cps.toList) := by
  refine ⟨⟨fun z => ?_, fun z => ?_⟩, fun i c _ hc => ?_, rfl⟩
  · have n0 : ((g :: r).map chr).length = 0 := congrArg (fun t : Str => t.cps.toList.length) z
    rw [List.length_map] at n0
    exact absurd n0 (by show r.length + 1 ≠ 0; omega)
  · obtain ⟨d, hd, e, e2⟩ := tx_get z.1
    obtain rfl : g = d := Option.some.inj e2
    have g0 := ((chr_bad g (by have := h g (List.mem_cons_self ..); omega)).1).mp e.symm
    rcases hg with hg | rfl
    · omega
    · have := z.2
      exact absurd this (by show ¬ 1 < 1; omega)
  · obtain ⟨d, hd, rfl, _⟩ := tx_get hc
    exact not_bad hb (h d hd)
theorem sh_taken {b n : Nat} (hb : 2 ≤ b) (hb2 : b ≤ 36) (hn : n < b) : ∃ v, Taken b (sh b n) v := by
  have e : sh b n = tx [n] := by
    unfold sh
    rw [digs_small hn]
    rfl
  rw [e]
  exact ⟨_, tx_taken hb2 (fun d hd => by rw [List.mem_singleton.mp hd]; exact hn) (.inr rfl)⟩
/-- what is refused of texts in their order: a place, or none where one is too great -/
def Gone (b : Nat) (ts : List Str) : Option Nat → Prop
  | some k => ∃ pre t post, ts = pre ++ t :: post ∧ (∀ x ∈ pre, ∃ n, Taken b x n) ∧ Refused b t k
  | none => (∀ x ∈ ts, ∃ n, Taken b x n) ∧ ∃ x ∈ ts, ∃ n, Taken b x n ∧ 1000000000000000000000000000000 < n
/-- the first i texts are read as ns -/
def Read (b : Nat) (ts : List Str) (ns : List Int) (i : Nat) : Prop := ns.length = i ∧ ∀ (j : Nat) (t : Str), j < i → ts[j]? = some t → ∃ n, ns[j]? = some n ∧ Taken b t n
theorem Read.zero {b : Nat} {ts : List Str} : Read b ts [] 0 := ⟨rfl, fun j t h => absurd h (by omega)⟩
theorem Read.next {b : Nat} {ts : List Str} {ns : List Int} {i : Nat} (h : Read b ts ns i) {t : Str} {n : Int} (e : ts[i]? = some t) (k : Taken b t n) : Read b ts (ns ++ [n]) (i + 1) := by
  refine ⟨by rw [List.length_append, h.1]; rfl, fun j u hj hu => ?_⟩
  by_cases z : j = i
  · subst z
    rw [e] at hu
    cases hu
    exact ⟨n, by rw [List.getElem?_append_right (by rw [h.1]; exact Nat.le_refl _), h.1, Nat.sub_self]; rfl, k⟩
  · obtain ⟨m, h1, h2⟩ := h.2 j u (by omega) hu
    exact ⟨m, by rw [List.getElem?_append_left (by rw [h.1]; omega)]; exact h1, h2⟩
theorem Gone.at {b : Nat} {ts : List Str} {o : Option Nat} (h : Gone b ts o) {ns : List Int} {i k : Nat} {t : Str} (r : Read b ts ns i) (e : ts[i]? = some t) (rf : Refused b t k) : o = some k := by
  cases o with
  | none =>
    obtain ⟨n, tk⟩ := h.1 t (List.mem_of_getElem? e)
    exact (excl tk rf).elim
  | some k2 =>
    obtain ⟨pre, t2, post, rfl, hp, r2⟩ := h
    rcases Nat.lt_trichotomy i pre.length with l | l | l
    · rw [List.getElem?_append_left l] at e
      obtain ⟨n, tk⟩ := hp t (List.mem_of_getElem? e)
      exact (excl tk rf).elim
    · subst l
      rw [List.getElem?_append_right (Nat.le_refl _), Nat.sub_self] at e
      cases e
      rw [rf.eq r2]
    · have e2 : (pre ++ t2 :: post)[pre.length]? = some t2 := by
        rw [List.getElem?_append_right (Nat.le_refl _), Nat.sub_self]
        rfl
      obtain ⟨n, _, tk⟩ := r.2 _ t2 l e2
      exact (excl tk r2).elim
theorem Gone.all {b : Nat} {ts : List Str} {o : Option Nat} (h : Gone b ts o) {ns : List Int} (r : Read b ts ns ts.length) : o = none ∧ ∃ n ∈ ns, 1000000000000000000000000000000 < n := by
  cases o with
  | none =>
    obtain ⟨_, x, hx, n, tk, hn⟩ := h
    obtain ⟨j, hj, e⟩ := List.getElem_of_mem hx
    obtain ⟨m, e1, e2⟩ := r.2 j x hj (by rw [List.getElem?_eq_getElem hj, e])
    rw [← e2.eq tk] at hn
    exact ⟨rfl, m, List.mem_of_getElem? e1, hn⟩
  | some k2 =>
    obtain ⟨pre, t2, post, rfl, hp, r2⟩ := h
    have e2 : (pre ++ t2 :: post)[pre.length]? = some t2 := by
      rw [List.getElem?_append_right (Nat.le_refl _), Nat.sub_self]
      rfl
    obtain ⟨n, _, tk⟩ := r.2 _ t2 (by rw [List.length_append]; show _ < _ + (_ + 1); omega) e2
    exact (excl tk r2).elim
theorem str_ext {a b : Str} (h : a.cps.toList = b.cps.toList) : a = b := PySem.Str.ext' (Array.toList_inj.mp h)
theorem cat_list (a b : Str) : (a ++ b).cps.toList = a.cps.toList ++ b.cps.toList := by
  rw [PySem.Str.cps_append, Array.toList_append]
theorem cutTo_list (t : Str) (p : Nat) : (cutS t none (some (p : Int))).cps.toList = t.cps.toList.take p := by
  unfold cutS
  rw [HT.sIx_nat]
  show List.take (min p t.length - 0) (List.drop 0 t.cps.toList) = _
  have l : t.length = t.cps.toList.length := (Array.length_toList).symm
  rw [List.drop_zero, Nat.sub_zero, l, ← List.take_take, List.take_length]
theorem cutFrom_list (t : Str) (p : Nat) : (cutS t (some (p : Int)) none).cps.toList = t.cps.toList.drop p := by
  unfold cutS
  rw [HT.sIx_nat]
  show List.take (t.length - min p t.length) (List.drop (min p t.length) t.cps.toList) = _
  have l : t.length = t.cps.toList.length := (Array.length_toList).symm
  rw [l]
  by_cases h : p ≤ t.cps.toList.length
  · rw [Nat.min_eq_left h, List.take_of_length_le (by rw [List.length_drop]; exact Nat.le_refl _)]
  · rw [Nat.min_eq_right (by omega), List.drop_eq_nil_of_le (Nat.le_refl _), List.drop_eq_nil_of_le (by omega)]
    rw [List.take_nil]
/-- one sign put in another's place -/
theorem put_list (t : Str) (p c : Nat) (h : p < t.length) : (cutS t none (some (p : Int)) ++ ⟨#[c]⟩ ++ cutS t (some ((p + 1 : Nat) : Int)) none).cps.toList = t.cps.toList.set p c := by
  have l : t.length = t.cps.toList.length := (Array.length_toList).symm
  rw [cat_list, cat_list, cutTo_list, cutFrom_list, List.set_eq_take_append_cons_drop, if_pos (by omega), List.append_assoc]
  rfl
theorem put_len (t : Str) (p c : Nat) (h : p < t.length) : (cutS t none (some (p : Int)) ++ ⟨#[c]⟩ ++ cutS t (some ((p + 1 : Nat) : Int)) none).length = t.length := by
  have e := congrArg List.length (put_list t p c h)
  rw [List.length_set] at e
  exact e
/-- a text's signs: none is a blank -/
def Free (t : Str) : Prop := 32 ∉ t.cps.toList
theorem free_put {t : Str} {p c : Nat} (h : p < t.length) (f : Free t) (hc : c ≠ 32) : Free (cutS t none (some (p : Int)) ++ ⟨#[c]⟩ ++ cutS t (some ((p + 1 : Nat) : Int)) none) := fun m => by
  rw [put_list t p c h] at m
  rcases List.mem_or_eq_of_mem_set m with m | m
  · exact f m
  · exact hc m.symm
theorem tx_free {b : Nat} (hb : b ≤ 36) {l : List Nat} (h : ∀ d ∈ l, d < b) : Free (tx l) := fun m => by
  rw [tx_list] at m
  obtain ⟨d, hd, e⟩ := List.mem_map.mp m
  exact (chr_bad d (by have := h d hd; omega)).2 e
/-- spoilt at p: up to there as t was, then no figure -/
def Spoilt (b : Nat) (t u : Str) (p : Nat) : Prop := (∀ i, i < p → u.cps[i]? = t.cps[i]?) ∧ ∃ c, u.cps[p]? = some c ∧ Bad b c ∧ c ≠ 48
theorem Spoilt.gone {b : Nat} {t u : Str} {p : Nat} {n : Int} (h : Spoilt b t u p) (k : Taken b t n) (h0 : t.cps[0]? ≠ some 48) (hp : p < t.length) : Refused b u p := by
  obtain ⟨h1, c, hc, bad, nc⟩ := h
  refine .inr ⟨⟨fun z => ?_, fun z => ?_⟩, fun i d hi hd => ?_, c, hc, bad⟩
  · rw [z] at hc
    cases hc
  · have z0 := z.1
    by_cases e : p = 0
    · subst e
      rw [hc] at z0
      exact nc (Option.some.inj z0)
    · rw [h1 0 (by omega)] at z0
      exact h0 z0
  · rw [h1 i hi] at hd
    exact k.2.1 i d (by show i < t.length; omega) hd
theorem spoil_put {b : Nat} {t : Str} {p c : Nat} (h : p < t.length) (bad : Bad b c) (nc : c ≠ 48) : Spoilt b t (cutS t none (some (p : Int)) ++ ⟨#[c]⟩ ++ cutS t (some ((p + 1 : Nat) : Int)) none) p := by
  have l : t.length = t.cps.toList.length := (Array.length_toList).symm
  refine ⟨fun i hi => ?_, c, ?_, bad, nc⟩
  · rw [← Array.getElem?_toList, ← Array.getElem?_toList, put_list t p c h, List.getElem?_set_ne (by omega)]
  · rw [← Array.getElem?_toList, put_list t p c h, List.getElem?_set_self (by omega)]
theorem Spoilt.put {b : Nat} {t u : Str} {p q c : Nat} (h : Spoilt b t u p) (hq : q < u.length) (hpq : p < q) : Spoilt b t (cutS u none (some (q : Int)) ++ ⟨#[c]⟩ ++ cutS u (some ((q + 1 : Nat) : Int)) none) p := by
  obtain ⟨h1, d, hd, r⟩ := h
  refine ⟨fun i hi => ?_, d, ?_, r⟩
  · rw [← h1 i hi, ← Array.getElem?_toList, ← Array.getElem?_toList, put_list u q c hq, List.getElem?_set_ne (by omega)]
  · rw [← hd, ← Array.getElem?_toList, ← Array.getElem?_toList, put_list u q c hq, List.getElem?_set_ne (by omega)]
theorem strange_chr : ∀ b ∈ List.range 17, 2 ≤ b → ∀ z ∈ (Str.ofString "gzA~!-+._ghij" ++ cutS (Str.ofString "0123456789abcdef") (some (b : Int)) none).cps.toList, ((∃ d ∈ List.range 36, z = chr d ∧ b ≤ d) ∨ ∀ d ∈ List.range 36, z ≠ chr d) ∧ z ≠ 48 ∧ z ≠ 32 := by decide +kernel
theorem strange_bad {b : Nat} (h2 : 2 ≤ b) (hb : b ≤ 16) {z : Nat} (hz : z ∈ (Str.ofString "gzA~!-+._ghij" ++ cutS (Str.ofString "0123456789abcdef") (some (b : Int)) none).cps.toList) : Bad b z ∧ z ≠ 48 ∧ z ≠ 32 := by
  obtain ⟨k, r⟩ := strange_chr b (List.mem_range.mpr (by omega)) h2 z hz
  refine ⟨?_, r⟩
  rcases k with ⟨d, hd, rfl, bd⟩ | k
  · exact .inr (by rw [fg_chr d (List.mem_range.mp hd)]; omega)
  · refine .inl ?_
    rw [(fg_out fun ⟨d, hd, e⟩ => k d (List.mem_range.mpr hd) e).1]
    decide
theorem strange_len : ∀ b ∈ List.range 17, (Str.ofString "gzA~!-+._ghij" ++ cutS (Str.ofString "0123456789abcdef") (some (b : Int)) none).length = 29 - b := by decide +kernel
/-- the lines -/
theorem line1 (w t : Str) : w ++ Str.ofString " " ++ t = words [w, t] := words_two w t
theorem words_list (l : List Str) : (words l).cps.toList = inter 32 (l.map fun p => p.cps.toList) := join_inter 32 l
/-- the words behind which numbers in the base stand, n of them, and what else -/
def WordNo (z : Str) (n : Nat) (ks : List Nat) : Prop :=
  (n = 1 ∧ ks = [] ∧ (z = Str.ofString "add" ∨ z = Str.ofString "less" ∨ z = Str.ofString "beside")) ∨ (n = 2 ∧ ks = [] ∧ (z = Str.ofString "total" ∨ z = Str.ofString "ends")) ∨
    (n = 2 ∧ z = Str.ofString "with" ∧ ∃ t, ks = [t] ∧ t ≤ 1000000) ∨ (n = 2 ∧ z = Str.ofString "rests" ∧ ∃ t, ks = [t] ∧ 1 ≤ t ∧ t ≤ 60)
theorem WordNo.free {z : Str} {n : Nat} {ks : List Nat} (h : WordNo z n ks) : 32 ∉ z.cps.toList ∧ z.length ≤ 10 := by
  rcases h with ⟨_, _, rfl | rfl | rfl⟩ | ⟨_, _, rfl | rfl⟩ | ⟨_, rfl, _⟩ | ⟨_, rfl, _⟩ <;> exact ⟨free_word (by decide +kernel), by decide +kernel⟩
theorem WordNo.few {z : Str} {n : Nat} {ks : List Nat} (h : WordNo z n ks) : n ≤ 2 ∧ ks.length ≤ 1 ∧ ∀ k ∈ ks, k ≤ 1000000 := by
  rcases h with ⟨rfl, rfl, _⟩ | ⟨rfl, rfl, _⟩ | ⟨rfl, _, t, rfl, h⟩ | ⟨rfl, _, t, rfl, _, h⟩
  · exact ⟨by omega, Nat.zero_le _, fun k hk => nomatch hk⟩
  · exact ⟨by omega, Nat.zero_le _, fun k hk => nomatch hk⟩
  · exact ⟨by omega, Nat.le_refl _, fun k hk => by rw [List.mem_singleton.mp hk]; omega⟩
  · exact ⟨by omega, Nat.le_refl _, fun k hk => by rw [List.mem_singleton.mp hk]; omega⟩
theorem tx_snoc (l : List Nat) (f : Nat) : tx l ++ ⟨#[chr f]⟩ = tx (l ++ [f]) := str_ext (by
  rw [cat_list, tx_list, tx_list, List.map_append]
  rfl)
/-- what becomes of a text -/
def Far (b : Nat) (t : Str) : Option Nat → Prop
  | some k => Refused b t k
  | none => ∃ m, Taken b t m ∧ 1000000000000000000000000000000 < m
theorem Far.one {b : Nat} {t : Str} {o : Option Nat} (h : Far b t o) : Gone b [t] o := by
  cases o with
  | none =>
    obtain ⟨m, tk, hm⟩ := h
    exact ⟨fun x hx => by rw [List.mem_singleton.mp hx]; exact ⟨m, tk⟩, t, List.mem_singleton.mpr rfl, m, tk, hm⟩
  | some k => exact ⟨[], t, [], rfl, fun x hx => (nomatch hx), h⟩
theorem Far.behind {b : Nat} {t u : Str} {o : Option Nat} {v : Int} (h : Far b t o) (hu : Taken b u v) : Gone b [u, t] o := by
  cases o with
  | none =>
    obtain ⟨m, tk, hm⟩ := h
    refine ⟨fun x hx => ?_, t, by simp, m, tk, hm⟩
    simp only [List.mem_cons, List.not_mem_nil, or_false] at hx
    rcases hx with rfl | rfl
    · exact ⟨v, hu⟩
    · exact ⟨m, tk⟩
  | some k => exact ⟨[u], t, [], rfl, fun x hx => by rw [List.mem_singleton.mp hx]; exact ⟨v, hu⟩, h⟩
theorem Far.ahead {b : Nat} {t u : Str} {o : Option Nat} {v : Int} (h : Far b t o) (hu : Taken b u v) : Gone b [t, u] o := by
  cases o with
  | none =>
    obtain ⟨m, tk, hm⟩ := h
    refine ⟨fun x hx => ?_, t, by simp, m, tk, hm⟩
    simp only [List.mem_cons, List.not_mem_nil, or_false] at hx
    rcases hx with rfl | rfl
    · exact ⟨m, tk⟩
    · exact ⟨v, hu⟩
  | some k => exact ⟨[], t, [u], rfl, fun x hx => (nomatch hx), h⟩
theorem few_taken {b : Nat} (h2 : 2 ≤ b) (hb : b ≤ 16) : (∃ v, Taken b (Str.ofString "0") v) ∧ ∃ v, Taken b (Str.ofString "1") v := by
  have e0 : Str.ofString "0" = tx [0] := by decide +kernel
  have e1 : Str.ofString "1" = tx [1] := by decide +kernel
  rw [e0, e1]
  exact ⟨⟨_, tx_taken (by omega) (fun d hd => by rw [List.mem_singleton.mp hd]; omega) (.inr rfl)⟩, ⟨_, tx_taken (by omega) (fun d hd => by rw [List.mem_singleton.mp hd]; omega) (.inr rfl)⟩⟩
/-- a line with the text t, and nothing else that is refused -/
def NoLine (t y : Str) : Prop := ∃ (z : Str) (ts : List Str) (ks : List Nat), y = words (z :: (ts ++ ks.map (sh 10))) ∧ WordNo z ts.length ks ∧ (ts = [t] ∨ ∃ u, (u = Str.ofString "0" ∨ u = Str.ofString "1") ∧ (ts = [u, t] ∨ ts = [t, u]))
theorem NoLine.gone {b : Nat} {t : Str} {ts : List Str} {o : Option Nat} (h2 : 2 ≤ b) (hb : b ≤ 16) (h : Far b t o) (k : ts = [t] ∨ ∃ u, (u = Str.ofString "0" ∨ u = Str.ofString "1") ∧ (ts = [u, t] ∨ ts = [t, u])) (ft : Free t) (lt : t.length ≤ 4000) :
    Gone b ts o ∧ ∀ x ∈ ts, Free x ∧ x.length ≤ 4000 := by
  obtain ⟨⟨v0, t0⟩, ⟨v1, t1⟩⟩ := few_taken h2 hb
  have f0 : Free (Str.ofString "0") ∧ (Str.ofString "0").length ≤ 4000 := ⟨free_word (by decide +kernel), by decide +kernel⟩
  have f1 : Free (Str.ofString "1") ∧ (Str.ofString "1").length ≤ 4000 := ⟨free_word (by decide +kernel), by decide +kernel⟩
  have two : ∀ u, Free u ∧ u.length ≤ 4000 → (∀ x ∈ [u, t], Free x ∧ x.length ≤ 4000) ∧ ∀ x ∈ [t, u], Free x ∧ x.length ≤ 4000 := fun u fu => by
    constructor <;> (intro x hx; simp only [List.mem_cons, List.not_mem_nil, or_false] at hx; rcases hx with rfl | rfl <;> first | exact fu | exact ⟨ft, lt⟩)
  rcases k with rfl | ⟨u, rfl | rfl, rfl | rfl⟩
  · exact ⟨h.one, fun x hx => by rw [List.mem_singleton.mp hx]; exact ⟨ft, lt⟩⟩
  · exact ⟨h.behind t0, (two _ f0).1⟩
  · exact ⟨h.ahead t0, (two _ f0).2⟩
  · exact ⟨h.behind t1, (two _ f1).1⟩
  · exact ⟨h.ahead t1, (two _ f1).2⟩
theorem no_lines (t : Str) : ∀ y ∈ [Str.ofString "add " ++ t, Str.ofString "less " ++ t, Str.ofString "beside " ++ t, Str.ofString "total 0 " ++ t, Str.ofString "total " ++ t ++ Str.ofString " 0"] ++ [Str.ofString "with 0 " ++ t ++ Str.ofString " 5", Str.ofString "with " ++ t ++ Str.ofString " 1 5", Str.ofString "rests " ++ t ++ Str.ofString " 1 7"] ++ [Str.ofString "rests 0 " ++ t ++ Str.ofString " 7", Str.ofString "ends 0 " ++ t, Str.ofString "ends " ++ t ++ Str.ofString " 0"], NoLine t y := by
  have one : ∀ (w z : String), (Str.ofString w).cps.toList = (Str.ofString z).cps.toList ++ [32] → Str.ofString w ++ t = words [Str.ofString z, t] := fun w z e => str_ext (by rw [words_list, cat_list, e, List.append_assoc]; rfl)
  have beh : ∀ (w z u : String), (Str.ofString w).cps.toList = (Str.ofString z).cps.toList ++ 32 :: ((Str.ofString u).cps.toList ++ [32]) → Str.ofString w ++ t = words [Str.ofString z, Str.ofString u, t] := fun w z u e => str_ext (by
    rw [words_list, cat_list, e, List.append_assoc]
    show _ ++ (32 :: ((_ ++ [32]) ++ _)) = _
    rw [List.append_assoc]
    rfl)
  have ahd : ∀ (w v z u : String), (Str.ofString w).cps.toList = (Str.ofString z).cps.toList ++ [32] → (Str.ofString v).cps.toList = 32 :: (Str.ofString u).cps.toList → Str.ofString w ++ t ++ Str.ofString v = words [Str.ofString z, t, Str.ofString u] := fun w v z u e e2 => str_ext (by
    rw [words_list, cat_list, cat_list, e, e2, List.append_assoc, List.append_assoc]
    rfl)
  have beh2 : ∀ (w v z u : String) (k : Nat), (Str.ofString w).cps.toList = (Str.ofString z).cps.toList ++ 32 :: ((Str.ofString u).cps.toList ++ [32]) → (Str.ofString v).cps.toList = 32 :: (sh 10 k).cps.toList → Str.ofString w ++ t ++ Str.ofString v = words [Str.ofString z, Str.ofString u, t, sh 10 k] := fun w v z u k e e2 => str_ext (by
    rw [words_list, cat_list, cat_list, e, e2, List.append_assoc, List.append_assoc]
    show _ ++ (32 :: ((_ ++ [32]) ++ _)) = _
    rw [List.append_assoc]
    rfl)
  have ahd2 : ∀ (w v z u : String) (k : Nat), (Str.ofString w).cps.toList = (Str.ofString z).cps.toList ++ [32] → (Str.ofString v).cps.toList = 32 :: ((Str.ofString u).cps.toList ++ 32 :: (sh 10 k).cps.toList) → Str.ofString w ++ t ++ Str.ofString v = words [Str.ofString z, t, Str.ofString u, sh 10 k] := fun w v z u k e e2 => str_ext (by
    rw [words_list, cat_list, cat_list, e, e2, List.append_assoc, List.append_assoc]
    rfl)
  intro y hy
  simp only [List.mem_append, List.mem_cons, List.not_mem_nil, or_false] at hy
  rcases hy with ((rfl | rfl | rfl | rfl | rfl) | (rfl | rfl | rfl)) | (rfl | rfl | rfl)
  · exact ⟨_, [t], [], one "add " "add" (by decide +kernel), .inl ⟨rfl, rfl, .inl rfl⟩, .inl rfl⟩
  · exact ⟨_, [t], [], one "less " "less" (by decide +kernel), .inl ⟨rfl, rfl, .inr (.inl rfl)⟩, .inl rfl⟩
  · exact ⟨_, [t], [], one "beside " "beside" (by decide +kernel), .inl ⟨rfl, rfl, .inr (.inr rfl)⟩, .inl rfl⟩
  · exact ⟨_, [_, t], [], beh "total 0 " "total" "0" (by decide +kernel), .inr (.inl ⟨rfl, rfl, .inl rfl⟩), .inr ⟨_, .inl rfl, .inl rfl⟩⟩
  · exact ⟨_, [t, _], [], ahd "total " " 0" "total" "0" (by decide +kernel) (by decide +kernel), .inr (.inl ⟨rfl, rfl, .inl rfl⟩), .inr ⟨_, .inl rfl, .inr rfl⟩⟩
  · exact ⟨_, [_, t], [5], beh2 "with 0 " " 5" "with" "0" 5 (by decide +kernel) (by decide +kernel), .inr (.inr (.inl ⟨rfl, rfl, 5, rfl, by decide⟩)), .inr ⟨_, .inl rfl, .inl rfl⟩⟩
  · exact ⟨_, [t, _], [5], ahd2 "with " " 1 5" "with" "1" 5 (by decide +kernel) (by decide +kernel), .inr (.inr (.inl ⟨rfl, rfl, 5, rfl, by decide⟩)), .inr ⟨_, .inr rfl, .inr rfl⟩⟩
  · exact ⟨_, [t, _], [7], ahd2 "rests " " 1 7" "rests" "1" 7 (by decide +kernel) (by decide +kernel), .inr (.inr (.inr ⟨rfl, rfl, 7, rfl, by decide, by decide⟩)), .inr ⟨_, .inr rfl, .inr rfl⟩⟩
  · exact ⟨_, [_, t], [7], beh2 "rests 0 " " 7" "rests" "0" 7 (by decide +kernel) (by decide +kernel), .inr (.inr (.inr ⟨rfl, rfl, 7, rfl, by decide, by decide⟩)), .inr ⟨_, .inl rfl, .inl rfl⟩⟩
  · exact ⟨_, [_, t], [], beh "ends 0 " "ends" "0" (by decide +kernel), .inr (.inl ⟨rfl, rfl, .inr rfl⟩), .inr ⟨_, .inl rfl, .inl rfl⟩⟩
  · exact ⟨_, [t, _], [], ahd "ends " " 0" "ends" "0" (by decide +kernel) (by decide +kernel), .inr (.inl ⟨rfl, rfl, .inr rfl⟩), .inr ⟨_, .inl rfl, .inr rfl⟩⟩
theorem sh_one {b : Nat} (hb : 2 ≤ b) : sh b 1 = Str.ofString "1" := by
  unfold sh
  rw [digs_small (by omega : 1 < b)]
  decide +kernel
theorem add_one {b : Nat} (hb : 2 ≤ b) : Str.ofString "add 1" = (Deed.add 1).line b := by
  show _ = Str.ofString "add " ++ sh b 1
  rw [sh_one hb]
  decide +kernel
theorem dec_zero : Str.ofString (toString ((0 : Nat) : Int)) = Str.ofString "0" := by
  rw [dec_is]
  decide +kernel
theorem carr_one {b : Nat} (hb : 2 ≤ b) : carr b 0 1 0 = 0 := carr_of hb (by
  rw [Nat.zero_mul, dsum_zero hb]
  show 0 + dsum b 1 + 0 = dsum b 1 + 0
  omega)
theorem num_snoc (b : Nat) (cs : List Nat) (c : Nat) : num b (cs ++ [c]) = num b cs * (b : Int) + fg c := by
  unfold num
  rw [List.foldl_append]
  rfl
theorem num_ones : ∀ n : Nat, num 2 ((List.replicate n 1).map chr) = 1 * 2 ^ n - 1
  | 0 => rfl
  | n + 1 => by
    rw [List.replicate_succ', List.map_append]
    show num 2 ((List.replicate n 1).map chr ++ [chr 1]) = _
    rw [num_snoc, num_ones n, fg_chr 1 (by decide), Int.pow_succ]
    omega
theorem ones_taken : Taken 2 (repS (Str.ofString "1") 101) (1 * 2 ^ 101 - 1) := by
  have e : repS (Str.ofString "1") 101 = tx (1 :: List.replicate 100 1) := by decide +kernel
  have k := tx_taken (b := 2) (g := 1) (r := List.replicate 100 1) (by omega) (fun d hd => by
    rcases List.mem_cons.mp hd with rfl | hd
    · omega
    · rw [(List.mem_replicate.mp hd).2]; omega) (.inl (Nat.le_refl _))
  rw [e]
  have v := num_ones 101
  rw [tx_list] at k
  rw [show (1 :: List.replicate 100 1) = List.replicate 101 1 from rfl] at k ⊢
  rw [v] at k
  exact k
end M

set_option Elab.async false
set_option linter.all false
set_option maxRecDepth 100000
namespace M
open PySem L2 Z
/-! the desk by itself -/
theorem hex_in : ∀ b : Nat, b < 17 → ∀ d : Nat, d < b → chr d ∈ (Str.ofString "0123456789abcdef").cps.toList.take b := by decide +kernel
theorem hex_cut {b d : Nat} (hb : b ≤ 16) (hd : d < b) : decide (chr d ∈ (cutS (Str.ofString "0123456789abcdef") none (some (b : Int))).cps.toList) = true := by
  rw [cutTo_list]
  exact decide_eq_true (hex_in b (by omega) d hd)
theorem hex_find {d : Nat} (h : d < 16) : (Txt.find (Str.ofString "0123456789abcdef") ⟨#[chr d]⟩ : Int) = (d : Int) := (fg16_chr d (by omega)).trans (if_pos h)
theorem sh_zero (b : Nat) (hb : 2 ≤ b) : sh b 0 = Str.ofString "0" := by
  unfold sh
  rw [digs_small (by omega)]
  exact (by decide +kernel : tx [0] = Str.ofString "0")
theorem chr_no : ∀ d : Nat, d < 16 → chr d ≠ 110 := by decide +kernel
theorem sh_none {b n : Nat} (hb : 2 ≤ b) (hb2 : b ≤ 16) : sh b n ≠ Str.ofString "none" := fun e => by
  have m : 110 ∈ (Str.ofString "none").cps.toList := by decide +kernel
  rw [← e] at m
  unfold sh tx at m
  have m : 110 ∈ (digs b n).reverse.map chr := by simpa using m
  obtain ⟨d, hd, e2⟩ := List.mem_map.mp m
  exact chr_no d (by have := digs_lt hb n d (List.mem_reverse.mp hd); omega) e2
theorem split_sh {b n : Nat} (hb : 2 ≤ b) (hb2 : b ≤ 36) : Txt.split (sh b n) (Str.ofString " ") = [sh b n] := split_one (sh_free hb hb2)
theorem none_free : 32 ∉ (Str.ofString "none").cps.toList := by decide +kernel
theorem split_none : Txt.split (Str.ofString "none") (Str.ofString " ") = [Str.ofString "none"] := split_one none_free
theorem I_free {x : Int} (h : 0 ≤ x) : 32 ∉ (I x).cps.toList := by
  obtain ⟨n, rfl⟩ : ∃ n : Nat, x = (n : Int) := ⟨x.toNat, by omega⟩
  rw [I_nat]
  exact sh_free (by decide) (by decide)
theorem CR_all {b D N : Nat} (W : Nat → Int) (hD : 0 < D) : sumI (fun r => CR b W D 0 N r) D = (N : Int) := by
  unfold CR
  rw [sumI_swap (fun r n => if wg b W 0 n % (D : Int) = (r : Int) then (1 : Int) else 0)]
  have e : sumI (fun n => sumI (fun r => if wg b W 0 n % (D : Int) = (r : Int) then (1 : Int) else 0) D) N = sumI (fun _ => (1 : Int)) N := sumI_congr fun n _ => by
    have h1 := Int.emod_nonneg (wg b W 0 n) (show (D : Int) ≠ 0 by omega)
    have h2 := Int.emod_lt_of_pos (wg b W 0 n) (show (0 : Int) < (D : Int) by omega)
    have p := sumI_pick (wg b W 0 n % (D : Int)).toNat (fun _ => (1 : Int)) D (by omega)
    refine Eq.trans (sumI_congr fun r _ => ?_) p
    by_cases c : r = (wg b W 0 n % (D : Int)).toNat
    · rw [if_pos c, if_pos (by omega)]
    · rw [if_neg c, if_neg (by omega)]
  rw [e, sumI_const, Int.mul_one]
theorem CR_last {b D n r : Nat} : CR b (fun _ => 1) D 0 (n + 1) r - CR b (fun _ => 1) D 0 n r = if ((dsum b n : Nat) : Int) % (D : Int) = (r : Int) then 1 else 0 := by
  have e : CR b (fun _ => 1) D 0 (n + 1) r = CR b (fun _ => 1) D 0 n r + if wg b (fun _ => 1) 0 n % (D : Int) = (r : Int) then 1 else 0 := rfl
  rw [e, wg_one b (fun _ => rfl)]
  omega
theorem CR_pos (b : Nat) (W : Nat → Int) (D N r : Nat) : 0 ≤ CR b W D 0 N r ∧ CR b W D 0 N r ≤ (N : Int) := by
  have h := CR_diff (b := b) W D 0 0 r N
  rw [CR_zero, Nat.zero_add, Int.sub_zero] at h
  exact h
theorem cs_low {b s : Nat} (hb : 2 ≤ b) (hs : 1 ≤ s) : ∀ k : Nat, cs b (k + 1) s ≤ (k : Int)
  | 0 => by
    rw [cs_step]
    have e : cs b 0 s = 0 := rfl
    rw [e, dsum_zero hb, if_neg (by omega)]
    decide
  | k + 1 => by
    have := cs_low hb hs k
    rw [cs_step]
    split <;> omega
theorem cs_few {b n : Nat} (hb : 2 ≤ b) (hn : 1 ≤ n) : cs b n (dsum b n) ≤ (n : Int) - 1 := by
  obtain ⟨k, rfl⟩ : ∃ k, n = k + 1 := ⟨n - 1, by omega⟩
  have := cs_low hb (dsum_pos hb (k + 1) hn) k
  omega
/-! what the desk tells of one number -/
theorem cs_has (b s p : Nat) : ∀ N, (p : Int) < cs b N s → ∃ m, m < N ∧ dsum b m = s ∧ cs b m s = (p : Int)
  | 0, h => by
    have e : cs b 0 s = 0 := rfl
    omega
  | N + 1, h => by
    rw [cs_step] at h
    by_cases c : (p : Int) < cs b N s
    · obtain ⟨m, h1, h2⟩ := cs_has b s p N c
      exact ⟨m, by omega, h2⟩
    · by_cases e : dsum b N = s
      · rw [if_pos e] at h
        exact ⟨N, by omega, e, by omega⟩
      · rw [if_neg e] at h
        omega
theorem nth_has {b s p : Nat} (h : (p : Int) < cw b 200 s) : ∃ m, Ask.Out b (.nth s p) [sh b m] ∧ dsum b m = s ∧ cs b m s = (p : Int) := by
  obtain ⟨m, h1, h2, h3⟩ := cs_has b s p (b ^ 200) h
  exact ⟨m, .inr ⟨h, m, h2, h3, h1, rfl⟩, h2, h3⟩
theorem nextG_place {b n g : Nat} (h1 : dsum b g = dsum b n) (h2 : cs b g (dsum b n) = cs b n (dsum b n) + 1) : NextG b n g := by
  have h := nextL_place (b := b) (n := g) (l := n) h1.symm (by rw [h1]; omega)
  exact ⟨h.1, h1, fun m a1 a2 => by rw [← h1]; exact h.2.2 m a1 a2⟩
theorem first_none {b n : Nat} (h : cs b n (dsum b n) = 0) : ∀ m, m < n → dsum b m ≠ dsum b n := fun m hm e => by
  have s1 := cs_step b m (dsum b n)
  rw [if_pos e] at s1
  have m1 := cs_mono (b := b) (s := dsum b n) (show m + 1 ≤ n by omega)
  have m2 := cs_nonneg b m (dsum b n)
  omega
/-- a word of a row -/
def Word (x : Str) : Prop := 32 ∉ x.cps.toList ∧ x.length ≤ 4000 ∧ PyData.strOk x = true
theorem word_none : Word (Str.ofString "none") := ⟨none_free, by decide +kernel, ok_none⟩
theorem word_sh {b m : Nat} (hb : 2 ≤ b) (hb2 : b ≤ 16) (h : m ≤ 100000000000000000000000000000000) : Word (sh b m) := by
  refine ⟨sh_free hb (by omega), ?_, sh_ok hb (by omega)⟩
  have := digs_big_len hb (Big.of (Nat.le_trans h (by decide +kernel)))
  have e : sh b m = tx (digs b m).reverse := rfl
  rw [e, tx_len, List.length_reverse]
  omega
theorem places {b n : Nat} (hb : 2 ≤ b) (hb2 : b ≤ 16) (hn : n ≤ 1000000000000000000000000000000) : ∃ (P : Nat) (x y : Str), P + 1 ≤ 1000000000000000000000000000000 ∧ Ask.Out b (.with_ 0 n (dsum b n)) [sh 10 (P + 1)] ∧ Ask.Out b (.nth (dsum b n) P) [sh b n] ∧ (P = 0 → x = Str.ofString "none") ∧ (∀ p, P = p + 1 → Ask.Out b (.nth (dsum b n) p) [x]) ∧ Ask.Out b (.nth (dsum b n) (P + 1)) [y] ∧ Ask.Out b (.beside n) [words [x, y]] ∧ Word x ∧ Word y := by
  obtain ⟨P, hP⟩ : ∃ P : Nat, cs b n (dsum b n) = (P : Int) := ⟨(cs b n (dsum b n)).toNat, by have := cs_nonneg b n (dsum b n); omega⟩
  have s1 := cs_step b n (dsum b n)
  rw [if_pos rfl] at s1
  have ew : Ask.Out b (.with_ 0 n (dsum b n)) [sh 10 (P + 1)] := by
    show [sh 10 (P + 1)] = [I (cs b (n + 1) (dsum b n) - cs b 0 (dsum b n))]
    have e0 : cs b 0 (dsum b n) = 0 := rfl
    rw [e0, s1, hP, ← I_nat]
    rw [show (P : Int) + 1 - 0 = ((P + 1 : Nat) : Int) by omega]
  have n0 : (P : Int) < cw b 200 (dsum b n) := by
    have := cs_cw b (dsum b n) (n + 1) 200 (pow200 hb (by omega))
    omega
  have en : Ask.Out b (.nth (dsum b n) P) [sh b n] := .inr ⟨n0, n, rfl, hP, by
    have := pow200 (n := n + 1) hb (by omega)
    omega, rfl⟩
  rcases Nat.eq_zero_or_pos n with z | h0
  · subst z
    have z0 : P = 0 := by
      have e0 : cs b 0 (dsum b 0) = 0 := rfl
      omega
    subst z0
    have e1 : cs b (b ^ 200) (dsum b 0) = cs b 1 (dsum b 0) := cs_same (Nat.pow_pos (by omega)) fun i a1 _ e => by
      have := dsum_pos hb i (by omega)
      rw [dsum_zero hb] at e
      omega
    refine ⟨0, Str.ofString "none", Str.ofString "none", by omega, ew, en, fun _ => rfl, fun p e => by omega, .inl ⟨?_, rfl⟩, ⟨_, _, .inl ⟨fun m hm => by omega, rfl⟩, .inl ⟨rfl, rfl⟩, rfl⟩, word_none, word_none⟩
    show cs b (b ^ 200) (dsum b 0) ≤ _
    rw [e1]
    have s2 : cs b 1 (dsum b 0) = cs b 0 (dsum b 0) + 1 := s1
    omega
  · have room := next_room hb hb2 h0 hn
    have few := cs_few hb h0
    obtain ⟨g, og, g1, g2⟩ := nth_has (b := b) (s := dsum b n) (p := P + 1) (by omega)
    have G : NextG b n g := nextG_place g1 (by omega)
    have gl := G.le_times hb h0
    have gl2 : n * b ≤ n * 16 := Nat.mul_le_mul_left _ hb2
    have wy : Word (sh b g) := word_sh hb hb2 (by omega)
    rcases Nat.eq_zero_or_pos P with z | hp
    · subst z
      exact ⟨0, Str.ofString "none", sh b g, by omega, ew, en, fun _ => rfl, fun p e => by omega, og, ⟨_, _, .inl ⟨first_none hP, rfl⟩, .inr ⟨g, G, rfl⟩, rfl⟩, word_none, wy⟩
    · obtain ⟨l, ol, l1, l2⟩ := nth_has (b := b) (s := dsum b n) (p := P - 1) (by omega)
      have L : NextL b n l := nextL_place l1 (by omega)
      refine ⟨P, sh b l, sh b g, by omega, ew, en, fun z => by omega, fun p e => ?_, og, ⟨_, _, .inr ⟨l, L, rfl⟩, .inr ⟨g, G, rfl⟩, rfl⟩, word_sh hb hb2 (by have := L.1; omega), wy⟩
      rw [show p = P - 1 by omega]
      exact ol
/-- the desk's answer to a row, whatever it is, is one of F -/
def Told (b n c : Nat) (line : Str) (F : List Str → Prop) : Prop := (∃ D : Deed, D.asks = true ∧ line = D.line b ∧ F (D.out b n c)) ∨ ∃ A : Ask, A.Ok ∧ line = A.line b ∧ ∀ ts, A.Out b ts → F ts
theorem Told.of {b n c : Nat} {line : Str} {A : Ask} {ts : List Str} (hb : 2 ≤ b) (ok : A.Ok) (el : line = A.line b) (out : A.Out b ts) : Told b n c line (fun us => us = ts) := .inr ⟨A, ok, el, fun _ h => h.uniq hb ok out⟩
theorem out_total (b n : Nat) : Ask.Out b (.total n n) [I ((dsum b n : Nat) : Int)] := by
  show [I ((dsum b n : Nat) : Int)] = [I (((tot b (n + 1) : Nat) : Int) - ((tot b n : Nat) : Int))]
  have e : tot b (n + 1) = tot b n + dsum b n := rfl
  rw [e, show ((tot b n + dsum b n : Nat) : Int) - (tot b n : Nat) = (dsum b n : Nat) by omega]
theorem out_ends (b n : Nat) : Ask.Out b (.ends n n) [I ((dsum b n : Nat) : Int) ++ Str.ofString " " ++ sh b n, I ((dsum b n : Nat) : Int) ++ Str.ofString " " ++ sh b n] := ⟨dsum b n, n, dsum b n, n, ⟨Nat.le_refl _, .inl (Nat.lt_succ_self _), rfl, fun m a1 a2 => by rw [show m = n by omega]; exact Nat.le_refl _, fun m a1 a2 => by omega⟩, ⟨Nat.le_refl _, .inl (Nat.lt_succ_self _), rfl, fun m a1 a2 => by rw [show m = n by omega]; exact Nat.le_refl _, fun m a1 a2 => by omega⟩, rfl⟩
def aloneR (b n D : Nat) : List Nat := (List.range D).map fun r => if r = dsum b n % D then 1 else 0
theorem out_alone (b n D : Nat) : Ask.Out b (.rests n n D) [words ((aloneR b n D).map (sh 10))] := by
  show _ = [words ((List.range D).map fun r => I (CR b (fun _ => 1) D 0 (n + 1) r - CR b (fun _ => 1) D 0 n r))]
  unfold aloneR
  rw [List.map_map]
  have e : ((sh 10 ∘ fun r => if r = dsum b n % D then 1 else 0) : Nat → Str) = fun r => I (CR b (fun _ => 1) D 0 (n + 1) r - CR b (fun _ => 1) D 0 n r) := by
    funext r
    show sh 10 (if r = dsum b n % D then 1 else 0) = _
    rw [CR_last, ← I_nat, ← Int.natCast_emod]
    by_cases c : r = dsum b n % D
    · rw [if_pos c, if_pos (by omega)]; rfl
    · rw [if_neg c, if_neg (by omega)]; rfl
  rw [e]
theorem out_rests {b n D : Nat} (hD : 0 < D) : ∃ vs : List Nat, Ask.Out b (.rests 0 n D) [words (vs.map (sh 10))] ∧ vs.length = D ∧ vs.sum = n + 1 ∧ ∀ v ∈ vs, v ≤ n + 1 := by
  have pos := fun r => CR_pos b (fun _ => 1) D (n + 1) r
  refine ⟨(List.range D).map fun r => (CR b (fun _ => 1) D 0 (n + 1) r).toNat, ?_, by rw [List.length_map, List.length_range], ?_, fun v hv => ?_⟩
  · show _ = [words ((List.range D).map fun r => I (CR b (fun _ => 1) D 0 (n + 1) r - CR b (fun _ => 1) D 0 0 r))]
    rw [List.map_map]
    have e : ((sh 10 ∘ fun r => (CR b (fun _ => 1) D 0 (n + 1) r).toNat) : Nat → Str) = fun r => I (CR b (fun _ => 1) D 0 (n + 1) r - CR b (fun _ => 1) D 0 0 r) := by
      funext r
      show sh 10 _ = _
      rw [CR_zero, Int.sub_zero, ← I_nat, Int.toNat_of_nonneg (pos r).1]
    rw [e]
  · have all := CR_all (b := b) (N := n + 1) (fun _ => 1) hD
    have e : ∀ (g : Nat → Int) (N : Nat), (∀ r, 0 ≤ g r) → ((((List.range N).map fun r => (g r).toNat).sum : Nat) : Int) = sumI g N := fun g N hg => by
      induction N with
      | zero => rfl
      | succ N ih =>
        rw [List.range_succ, List.map_append, List.sum_append, Int.natCast_add, ih]
        show sumI g N + ((((g N).toNat + 0 : Nat)) : Int) = sumI g N + g N
        have := hg N
        omega
    have e2 := e (fun r => CR b (fun _ => 1) D 0 (n + 1) r) D fun r => (pos r).1
    rw [all] at e2
    omega
  · obtain ⟨r, _, rfl⟩ := List.mem_map.mp hv
    have := (pos r).2
    omega
theorem word_len (ys : List Str) (h : ∀ y ∈ ys, y.length ≤ 4000) : (words ys).length ≤ 4001 * ys.length := words_len ys h
theorem split_wds {l : List Str} (ne : l ≠ []) (h : ∀ p ∈ l, Word p) : Txt.split (words l) (Str.ofString " ") = l := split_words ne fun p hp => (h p hp).1
theorem eqv_off {x y : Str} (h : x ≠ y) : PyData.eqv (.list [.str x]) (.list [.str y]) = false := by
  show (PyData.eqv (.str x) (.str y) && _) = false
  have : PyData.eqv (.str x) (.str y) = false := by
    show decide (x = y) = false
    exact decide_eq_false h
  rw [this]
  rfl
end M

set_option Elab.async false
set_option linter.all false
set_option maxRecDepth 100000
namespace M
open PySem L2 Z
/-! the least number with a sum and a rest, sought among states in the order of the numbers -/
/-- what counts of a number: its rest and its sum -/
def st (b d n : Nat) : Nat × Nat := (n % d, dsum b n)
theorem st_next {b d x y f : Nat} (hb : 2 ≤ b) (hf : f < b) (h : st b d x = st b d y) : st b d (x * b + f) = st b d (y * b + f) := by
  have h1 : x % d = y % d := congrArg Prod.fst h
  have h2 : dsum b x = dsum b y := congrArg Prod.snd h
  unfold st
  rw [dsum_snoc hb hf, dsum_snoc hb hf, h2]
  rw [Nat.add_mod, Nat.mul_mod, h1, ← Nat.mul_mod, ← Nat.add_mod]
/-- where the search stands: X looked at, R still to come of this round, F of the next one -/
structure Srch (b d t : Nat) (X R0 R F : List Nat) : Prop where
  pos : ∀ n, n ∈ X ∨ n ∈ R ∨ n ∈ F → 1 ≤ n ∧ dsum b n ≤ t ∧ (digs b n).length ≤ X.length + 1
  step : ∀ x ∈ X, ∀ f, f < b → dsum b x + f ≤ t → x * b + f ∈ R ∨ x * b + f ∈ F ∨ ∃ z ∈ X, z ≤ x * b + f ∧ st b d z = st b d (x * b + f)
  one : ∀ f, 1 ≤ f → f < b → f ≤ t → f ∈ R ∨ f ∈ F ∨ ∃ z ∈ X, z ≤ f ∧ st b d z = st b d f
  sortR : R.Pairwise (· < ·)
  sortF : F.Pairwise (· < ·)
  cross : ∀ r ∈ R, ∀ p ∈ F, r < p
  low : ∀ x ∈ X, ∀ p, p ∈ R ∨ p ∈ F → x < p
  sub : ∀ r ∈ R, r ∈ R0
  spread : ∀ v ∈ R0, ∀ p ∈ R0, p < v * b
  src : ∀ p ∈ F, ∃ x ∈ X, x ∈ R0 ∧ ∃ f, f < b ∧ p = x * b + f
  dist : (X.map (st b d)).Nodup
  miss : ∀ x ∈ X, st b d x ≠ (0, t)
theorem Srch.all {b d t : Nat} {X R0 R F : List Nat} (hb : 2 ≤ b) (h : Srch b d t X R0 R F) : ∀ m, 1 ≤ m → dsum b m ≤ t → (∀ p, p ∈ R ∨ p ∈ F → m < p) → ∃ z ∈ X, z ≤ m ∧ st b d z = st b d m := by
  intro m
  induction m using Nat.strongRecOn with
  | _ m ih =>
    intro h1 h2 h3
    by_cases c : m < b
    · have ht : m ≤ t := by rw [dsum_small c] at h2; exact h2
      rcases h.one m h1 c ht with k | k | k
      · exact absurd (h3 m (.inl k)) (Nat.lt_irrefl _)
      · exact absurd (h3 m (.inr k)) (Nat.lt_irrefl _)
      · exact k
    · have q1 : 1 ≤ m / b := Nat.div_pos (by omega) (by omega)
      have q2 : m / b < m := Nat.div_lt_self (by omega) (by omega)
      have f1 : m % b < b := Nat.mod_lt _ (by omega)
      have em : m / b * b + m % b = m := Nat.div_add_mod' m b
      have ds : dsum b m = dsum b (m / b) + m % b := by rw [dsum_step hb m]; omega
      obtain ⟨z, hz, zl, zs⟩ := ih (m / b) q2 q1 (by omega) (fun p hp => by have := h3 p hp; omega)
      have zd : dsum b z = dsum b (m / b) := congrArg Prod.snd zs
      have zm : z * b + m % b ≤ m := by
        have := Nat.mul_le_mul_right b zl
        omega
      have zn : st b d (z * b + m % b) = st b d m := by
        have := st_next (d := d) hb f1 zs
        rw [em] at this
        exact this
      rcases h.step z hz (m % b) f1 (by omega) with k | k | ⟨w, hw, wl, ws⟩
      · exact absurd (h3 _ (.inl k)) (by omega)
      · exact absurd (h3 _ (.inr k)) (by omega)
      · exact ⟨w, hw, Nat.le_trans wl zm, ws.trans zn⟩
/-- the first one of the state sought is the least -/
theorem Srch.least {b d t v : Nat} {X R0 R F : List Nat} (hb : 2 ≤ b) (ht : 1 ≤ t) (h : Srch b d t X R0 (v :: R) F) (e : st b d v = (0, t)) : Mul b d t v ∧ ∀ m, Mul b d t m → v ≤ m := by
  refine ⟨⟨congrArg Prod.snd e, congrArg Prod.fst e⟩, fun m hm => ?_⟩
  rcases Nat.lt_or_ge m v with c | c
  · exfalso
    have m1 : 1 ≤ m := by
      rcases Nat.eq_zero_or_pos m with z | z
      · have := hm.1
        rw [z, dsum_zero hb] at this
        omega
      · exact z
    have vmin : ∀ p, p ∈ v :: R ∨ p ∈ F → m < p := fun p hp => by
      rcases hp with hp | hp
      · rcases List.mem_cons.mp hp with e | e
        · omega
        · have := (List.pairwise_cons.mp h.sortR).1 p e
          omega
      · have := h.cross v (List.mem_cons_self ..) p hp
        omega
    obtain ⟨z, hz, _, zs⟩ := h.all hb m m1 (by rw [hm.1]; exact Nat.le_refl _) vmin
    refine h.miss z hz (zs.trans ?_)
    unfold st
    rw [hm.1, hm.2]
  · exact c
/-- nothing is left: no such number -/
theorem Srch.none_ {b d t : Nat} {X R0 : List Nat} (hb : 2 ≤ b) (ht : 1 ≤ t) (h : Srch b d t X R0 [] []) : ∀ m, ¬ Mul b d t m := fun m hm => by
  have m1 : 1 ≤ m := by
    rcases Nat.eq_zero_or_pos m with z | z
    · have := hm.1
      rw [z, dsum_zero hb] at this
      omega
    · exact z
  obtain ⟨z, hz, _, zs⟩ := h.all hb m m1 (by rw [hm.1]; exact Nat.le_refl _) (fun p hp => by rcases hp with hp | hp <;> cases hp)
  refine h.miss z hz (zs.trans ?_)
  unfold st
  rw [hm.1, hm.2]
/-- a state that was met -/
theorem Srch.met {b d t v : Nat} {X R0 R F : List Nat} (h : Srch b d t X R0 (v :: R) F) (m : st b d v ∈ X.map (st b d)) : Srch b d t X R0 R F := by
  obtain ⟨z, hz, zs⟩ := List.mem_map.mp m
  have zv : z ≤ v := Nat.le_of_lt (h.low z hz v (.inl (List.mem_cons_self ..)))
  refine ⟨fun n hn => h.pos n (hn.imp id fun k => k.imp (List.mem_cons_of_mem _) id), fun x hx f hf hl => ?_, fun f h1 h2 h3 => ?_, (List.pairwise_cons.mp h.sortR).2, h.sortF, fun r hr => h.cross r (List.mem_cons_of_mem _ hr), fun x hx p hp => h.low x hx p (hp.imp (List.mem_cons_of_mem _) id), fun r hr => h.sub r (List.mem_cons_of_mem _ hr), h.spread, h.src, h.dist, h.miss⟩
  · rcases h.step x hx f hf hl with k | k | k
    · rcases List.mem_cons.mp k with e | e
      · exact .inr (.inr ⟨z, hz, by omega, by rw [e]; exact zs⟩)
      · exact .inl e
    · exact .inr (.inl k)
    · exact .inr (.inr k)
  · rcases h.one f h1 h2 h3 with k | k | k
    · rcases List.mem_cons.mp k with e | e
      · exact .inr (.inr ⟨z, hz, by omega, by rw [e]; exact zs⟩)
      · exact .inl e
    · exact .inr (.inl k)
    · exact .inr (.inr k)
/-- a number with one figure more, as far as the sum goes -/
def ext (b t v n : Nat) : List Nat := ((List.range n).filter fun f => decide (dsum b v + f ≤ t)).map fun f => v * b + f
theorem ext_succ (b t v n : Nat) : ext b t v (n + 1) = ext b t v n ++ if dsum b v + n ≤ t then [v * b + n] else [] := by
  unfold ext
  rw [List.range_succ, List.filter_append, List.map_append]
  by_cases c : dsum b v + n ≤ t
  · rw [if_pos c]
    simp [c]
  · rw [if_neg c]
    simp [c]
theorem ext_len (b t v n : Nat) : (ext b t v n).length ≤ n := by
  unfold ext
  rw [List.length_map]
  exact Nat.le_trans (List.length_filter_le _ _) (by rw [List.length_range]; exact Nat.le_refl _)
theorem ext_mem {b t v n p : Nat} : p ∈ ext b t v n ↔ ∃ f, f < n ∧ dsum b v + f ≤ t ∧ p = v * b + f := by
  unfold ext
  constructor
  · intro h
    obtain ⟨f, hf, e⟩ := List.mem_map.mp h
    obtain ⟨h1, h2⟩ := List.mem_filter.mp hf
    exact ⟨f, List.mem_range.mp h1, of_decide_eq_true h2, e.symm⟩
  · rintro ⟨f, h1, h2, rfl⟩
    exact List.mem_map.mpr ⟨f, List.mem_filter.mpr ⟨List.mem_range.mpr h1, decide_eq_true h2⟩, rfl⟩
theorem ext_sort (b t v : Nat) : ∀ n, (ext b t v n).Pairwise (· < ·)
  | 0 => List.Pairwise.nil
  | n + 1 => by
    rw [ext_succ]
    by_cases c : dsum b v + n ≤ t
    · rw [if_pos c, List.pairwise_append]
      refine ⟨ext_sort b t v n, List.pairwise_singleton _ _, fun a ha p hp => ?_⟩
      obtain ⟨f, hf, _, e⟩ := ext_mem.mp ha
      rw [List.mem_singleton.mp hp, e]
      omega
    · rw [if_neg c, List.append_nil]
      exact ext_sort b t v n
theorem digs_snoc1 {b n f : Nat} (hb : 2 ≤ b) (hf : f < b) (hn : 1 ≤ n) : digs b (n * b + f) = f :: digs b n := by
  have l : b ≤ n * b + f := by
    have := Nat.mul_le_mul_right b hn
    omega
  rw [digs_big hb l, Nat.mul_comm n b, Nat.mul_add_mod, Nat.mod_eq_of_lt hf, Nat.mul_add_div (by omega), Nat.div_eq_of_lt hf, Nat.add_zero]
/-- a state that is new -/
theorem Srch.new_ {b d t v : Nat} {X R0 R F : List Nat} (hb : 2 ≤ b) (h : Srch b d t X R0 (v :: R) F) (m : st b d v ∉ X.map (st b d)) (ne : st b d v ≠ (0, t)) : Srch b d t (X ++ [v]) R0 R (F ++ ext b t v b) := by
  have vin := h.pos v (.inr (.inl (List.mem_cons_self ..)))
  have v0 : v ∈ R0 := h.sub v (List.mem_cons_self ..)
  have vX : ∀ {n : Nat}, n ∈ X ++ [v] ↔ n ∈ X ∨ n = v := fun {n} => by rw [List.mem_append, List.mem_singleton]
  have fF : ∀ {p : Nat}, p ∈ F ++ ext b t v b ↔ p ∈ F ∨ p ∈ ext b t v b := fun {p} => List.mem_append
  have lenX : (X ++ [v]).length = X.length + 1 := by rw [List.length_append]; rfl
  have lowR : ∀ r ∈ R, v < r := (List.pairwise_cons.mp h.sortR).1
  have lowF : ∀ p ∈ F, v < p := fun p hp => h.cross v (List.mem_cons_self ..) p hp
  have vb : v < v * b := by
    have := Nat.mul_le_mul_left v hb
    omega
  have belowF : ∀ p ∈ F, p < v * b := fun p hp => by
    obtain ⟨x, hx, _, f, hf, e⟩ := h.src p hp
    have := h.low x hx v (.inl (List.mem_cons_self ..))
    have := Nat.mul_le_mul_right b (show x + 1 ≤ v by omega)
    rw [Nat.add_mul] at this
    omega
  refine ⟨fun n hn => ?_, fun x hx f hf hl => ?_, fun f h1 h2 h3 => ?_, (List.pairwise_cons.mp h.sortR).2, ?_, fun r hr p hp => ?_, fun x hx p hp => ?_, fun r hr => h.sub r (List.mem_cons_of_mem _ hr), h.spread, fun p hp => ?_, ?_, fun x hx => ?_⟩
  · rw [lenX]
    have old : n ∈ X ∨ n ∈ v :: R ∨ n ∈ F → 1 ≤ n ∧ dsum b n ≤ t ∧ (digs b n).length ≤ X.length + 1 + 1 := fun k => by
      obtain ⟨a, c, e⟩ := h.pos n k
      exact ⟨a, c, by omega⟩
    rcases hn with k | k | k
    · rcases vX.mp k with k | rfl
      · exact old (.inl k)
      · exact old (.inr (.inl (List.mem_cons_self ..)))
    · exact old (.inr (.inl (List.mem_cons_of_mem _ k)))
    · rcases fF.mp k with k | k
      · exact old (.inr (.inr k))
      · obtain ⟨f, hf, hl, rfl⟩ := ext_mem.mp k
        refine ⟨by omega, by rw [dsum_snoc hb hf]; exact hl, ?_⟩
        rw [digs_snoc1 hb hf vin.1, List.length_cons]
        have := vin.2.2
        omega
  · rcases vX.mp hx with k | rfl
    · rcases h.step x k f hf hl with k | k | ⟨z, hz, a, c⟩
      · rcases List.mem_cons.mp k with e | e
        · exact .inr (.inr ⟨v, vX.mpr (.inr rfl), by omega, by rw [e]⟩)
        · exact .inl e
      · exact .inr (.inl (fF.mpr (.inl k)))
      · exact .inr (.inr ⟨z, vX.mpr (.inl hz), a, c⟩)
    · exact .inr (.inl (fF.mpr (.inr (ext_mem.mpr ⟨f, hf, hl, rfl⟩))))
  · rcases h.one f h1 h2 h3 with k | k | ⟨z, hz, a, c⟩
    · rcases List.mem_cons.mp k with e | e
      · exact .inr (.inr ⟨v, vX.mpr (.inr rfl), by omega, by rw [e]⟩)
      · exact .inl e
    · exact .inr (.inl (fF.mpr (.inl k)))
    · exact .inr (.inr ⟨z, vX.mpr (.inl hz), a, c⟩)
  · rw [List.pairwise_append]
    refine ⟨h.sortF, ext_sort b t v b, fun a ha p hp => ?_⟩
    obtain ⟨f, hf, hl, rfl⟩ := ext_mem.mp hp
    have := belowF a ha
    omega
  · rcases fF.mp hp with k | k
    · exact h.cross r (List.mem_cons_of_mem _ hr) p k
    · obtain ⟨f, hf, hl, rfl⟩ := ext_mem.mp k
      have := h.spread v v0 r (h.sub r (List.mem_cons_of_mem _ hr))
      omega
  · rcases vX.mp hx with k | rfl
    · rcases hp with hp | hp
      · exact h.low x k p (.inl (List.mem_cons_of_mem _ hp))
      · rcases fF.mp hp with hp | hp
        · exact h.low x k p (.inr hp)
        · obtain ⟨f, hf, hl, rfl⟩ := ext_mem.mp hp
          have := h.low x k v (.inl (List.mem_cons_self ..))
          omega
    · rcases hp with hp | hp
      · exact lowR p hp
      · rcases fF.mp hp with hp | hp
        · exact lowF p hp
        · obtain ⟨f, hf, hl, rfl⟩ := ext_mem.mp hp
          omega
  · rcases fF.mp hp with k | k
    · obtain ⟨x, hx, a, c⟩ := h.src p k
      exact ⟨x, vX.mpr (.inl hx), a, c⟩
    · obtain ⟨f, hf, hl, e⟩ := ext_mem.mp k
      exact ⟨v, vX.mpr (.inr rfl), v0, f, hf, e⟩
  · rw [List.map_append, List.nodup_append]
    refine ⟨h.dist, ?_, fun a ha c hc => ?_⟩
    · show [st b d v].Nodup
      simp
    · have : c = st b d v := List.mem_singleton.mp hc
      rw [this]
      exact fun z => m (by rw [← z]; exact ha)
  · rcases vX.mp hx with k | rfl
    · exact h.miss x k
    · exact ne
/-- the next round -/
theorem Srch.round {b d t : Nat} {X R0 F : List Nat} (hb : 2 ≤ b) (h : Srch b d t X R0 [] F) : Srch b d t X F F [] := by
  refine ⟨fun n hn => h.pos n (hn.imp id fun k => k.elim .inr fun z => nomatch z), fun x hx f hf hl => ?_, fun f h1 h2 h3 => ?_, h.sortF, List.Pairwise.nil, (fun r _ p hp => nomatch hp), fun x hx p hp => h.low x hx p (hp.elim .inr fun z => nomatch z), fun r hr => hr, fun v hv p hp => ?_, (fun p hp => nomatch hp), h.dist, h.miss⟩
  · rcases h.step x hx f hf hl with k | k | k
    · cases k
    · exact .inl k
    · exact .inr (.inr k)
  · rcases h.one f h1 h2 h3 with k | k | k
    · cases k
    · exact .inl k
    · exact .inr (.inr k)
  · obtain ⟨x, _, x0, f, hf, rfl⟩ := h.src v hv
    obtain ⟨y, _, y0, g, hg, rfl⟩ := h.src p hp
    have s := h.spread x x0 y y0
    have s2 := Nat.mul_le_mul_right b (show y + 1 ≤ x * b by omega)
    rw [Nat.add_mul] at s2
    have s3 : x * b * b ≤ (x * b + f) * b := Nat.mul_le_mul_right b (by omega)
    omega
def ones (b t n : Nat) : List Nat := ((List.range n).map (· + 1)).filter fun f => decide (f ≤ t)
theorem ones_succ (b t n : Nat) : ones b t (n + 1) = ones b t n ++ if n + 1 ≤ t then [n + 1] else [] := by
  unfold ones
  rw [List.range_succ, List.map_append, List.filter_append]
  by_cases c : n + 1 ≤ t
  · rw [if_pos c]
    simp [c]
  · rw [if_neg c]
    simp [c]
theorem ones_mem {b t n p : Nat} : p ∈ ones b t n ↔ 1 ≤ p ∧ p ≤ n ∧ p ≤ t := by
  unfold ones
  constructor
  · intro h
    obtain ⟨h1, h2⟩ := List.mem_filter.mp h
    obtain ⟨k, hk, rfl⟩ := List.mem_map.mp h1
    have := List.mem_range.mp hk
    exact ⟨by omega, by omega, of_decide_eq_true h2⟩
  · rintro ⟨h1, h2, h3⟩
    exact List.mem_filter.mpr ⟨List.mem_map.mpr ⟨p - 1, List.mem_range.mpr (by omega), by omega⟩, decide_eq_true h3⟩
theorem ones_len (b t n : Nat) : (ones b t n).length ≤ n := by
  unfold ones
  exact Nat.le_trans (List.length_filter_le _ _) (by rw [List.length_map, List.length_range]; exact Nat.le_refl _)
theorem ones_sort (b t : Nat) : ∀ n, (ones b t n).Pairwise (· < ·)
  | 0 => List.Pairwise.nil
  | n + 1 => by
    rw [ones_succ]
    by_cases c : n + 1 ≤ t
    · rw [if_pos c, List.pairwise_append]
      refine ⟨ones_sort b t n, List.pairwise_singleton _ _, fun a ha p hp => ?_⟩
      have := (ones_mem.mp ha).2.1
      rw [List.mem_singleton.mp hp]
      omega
    · rw [if_neg c, List.append_nil]
      exact ones_sort b t n
theorem Srch.start {b d t : Nat} (hb : 2 ≤ b) : Srch b d t [] (ones b t (b - 1)) (ones b t (b - 1)) [] := by
  refine ⟨fun n hn => ?_, (fun x hx => nomatch hx), fun f h1 h2 h3 => .inl (ones_mem.mpr ⟨h1, by omega, h3⟩), ones_sort b t _, List.Pairwise.nil, (fun r _ p hp => nomatch hp), (fun x hx => nomatch hx), fun r hr => hr, fun v hv p hp => ?_, (fun p hp => nomatch hp), List.Pairwise.nil, (fun x hx => nomatch hx)⟩
  · rcases hn with k | k | k
    · cases k
    · obtain ⟨a, c, e⟩ := ones_mem.mp k
      have l : n < b := by omega
      refine ⟨a, by rw [dsum_small l]; exact e, by rw [digs_small l]; exact Nat.le_refl _⟩
    · cases k
  · have := ones_mem.mp hv
    have h2 := ones_mem.mp hp
    have := Nat.mul_le_mul_right b this.1
    omega
theorem few_nodup : ∀ (N : Nat) (ys : List Nat), ys.Nodup → (∀ y ∈ ys, y < N) → ys.length ≤ N
  | 0, ys, _, h => by
    cases ys with
    | nil => exact Nat.le_refl _
    | cons y r => exact absurd (h y (List.mem_cons_self ..)) (Nat.not_lt_zero _)
  | N + 1, ys, nd, h => by
    have e := few_nodup N (ys.erase N) (nd.erase N) (fun y hy => by
      have a := (List.Nodup.mem_erase_iff nd).mp hy
      have := h y a.2
      have := a.1
      omega)
    by_cases c : N ∈ ys
    · rw [List.length_erase_of_mem c] at e
      omega
    · rw [List.erase_of_not_mem c] at e
      omega
theorem Srch.few {b d t : Nat} {X R0 R F : List Nat} (hd : 1 ≤ d) (h : Srch b d t X R0 R F) : X.length ≤ d * (t + 1) := by
  have nd : ((X.map (st b d)).map fun q => q.1 * (t + 1) + q.2).Nodup := by
    unfold List.Nodup
    rw [List.pairwise_map]
    refine List.Pairwise.imp_of_mem (fun {p q} hp hq ne e => ne ?_) h.dist
    have bd : ∀ z, z ∈ X.map (st b d) → z.2 ≤ t := fun z hz => by
      obtain ⟨x, hx, rfl⟩ := List.mem_map.mp hz
      exact (h.pos x (.inl hx)).2.1
    have p2 := bd p hp
    have q2 := bd q hq
    have e : p.1 * (t + 1) + p.2 = q.1 * (t + 1) + q.2 := e
    rcases Nat.lt_trichotomy p.1 q.1 with c | c | c
    · have := Nat.mul_le_mul_right (t + 1) (show p.1 + 1 ≤ q.1 by omega)
      rw [Nat.add_mul] at this
      omega
    · rw [c] at e
      exact Prod.ext c (by omega)
    · have := Nat.mul_le_mul_right (t + 1) (show q.1 + 1 ≤ p.1 by omega)
      rw [Nat.add_mul] at this
      omega
  have l := few_nodup (d * (t + 1)) _ nd (fun y hy => by
    obtain ⟨q, hq, rfl⟩ := List.mem_map.mp hy
    obtain ⟨x, hx, rfl⟩ := List.mem_map.mp hq
    have h1 : x % d < d := Nat.mod_lt _ hd
    have h2 := (h.pos x (.inl hx)).2.1
    have h3 := Nat.mul_le_mul_right (t + 1) (show x % d + 1 ≤ d by omega)
    rw [Nat.add_mul] at h3
    show x % d * (t + 1) + dsum b x < _
    omega)
  rw [List.length_map, List.length_map] at l
  exact l
end M

set_option Elab.async false
set_option linter.all false
set_option maxRecDepth 100000
namespace M
open PySem L2 Z
/-! rows of counts by windows; numbers ahead by their places -/
theorem cw_window {b : Nat} (hb : 2 ≤ b) (p : Nat) : ∀ j, sumI (cw b p) (j + 1) - sumI (cw b p) (j + 1 - b) = cw b (p + 1) j
  | 0 => by
    rw [cw_win hb p 0, if_pos rfl, if_neg (by omega), show 0 + 1 - b = 0 by omega]
    show (0 + cw b p 0) - 0 = 0 + cw b p 0 - 0
    rfl
  | j + 1 => by
    have ih := cw_window hb p j
    rw [cw_win hb p (j + 1), if_neg (by omega), show j + 1 - 1 = j by omega, ← ih]
    have e1 : sumI (cw b p) (j + 1 + 1) = sumI (cw b p) (j + 1) + cw b p (j + 1) := rfl
    by_cases c : b ≤ j + 1
    · rw [if_pos c]
      have e2 : sumI (cw b p) (j + 1 + 1 - b) = sumI (cw b p) (j + 1 - b) + cw b p (j + 1 - b) := by
        rw [show j + 1 + 1 - b = (j + 1 - b) + 1 by omega]
        rfl
      rw [e1, e2]
      omega
    · rw [if_neg c, show j + 1 + 1 - b = 0 by omega, show j + 1 - b = 0 by omega, e1]
      omega
theorem part_sum (f : Nat → Int) {lo hi N : Nat} (h : lo ≤ hi) (h2 : hi ≤ N) : ((((List.range N).map f).drop lo).take (hi - lo)).sum = sumI f hi - sumI f lo := by
  have tk : ∀ k, k ≤ N → (((List.range N).map f).take k).sum = sumI f k := fun k hk => by
    rw [← List.map_take, List.take_range, Nat.min_eq_left hk, vI_sum]
  have e := List.take_add (l := (List.range N).map f) (i := lo) (j := hi - lo)
  rw [show lo + (hi - lo) = hi by omega] at e
  have s := congrArg List.sum e
  rw [List.sum_append, tk hi h2, tk lo (by omega)] at s
  omega
theorem cut_ints (xs : List Int) (lo hi : Nat) : cutV (xs.map V.int) (some (lo : Int)) (some (hi : Int)) = ((xs.drop (min lo xs.length)).take (min hi xs.length - min lo xs.length)).map V.int := by
  unfold cutV
  rw [HT.sIx_nat, HT.sIx_nat, List.length_map, List.map_take, List.map_drop]
theorem row0 (b t : Nat) (hb : 2 ≤ b) : V.int 1 :: vI t (fun _ => 0) = vI (t + 1) (cw b 0) := by
  unfold vI
  rw [List.range_succ_eq_map, List.map_cons, List.map_map]
  rw [cw_zero b 0 hb, if_pos rfl]
  refine congrArg (V.int 1 :: ·) (List.map_congr_left fun i _ => ?_)
  show V.int 0 = V.int (cw b 0 (i + 1))
  rw [cw_zero b (i + 1) hb, if_neg (by omega)]
theorem digs_div {b : Nat} (hb : 2 ≤ b) : ∀ (k n f : Nat), (digs b n)[k]? = some f → f = n / b ^ k % b
  | 0, n, f, h => by
    rw [Nat.pow_zero, Nat.div_one]
    by_cases c : n < b
    · rw [digs_small c] at h
      rw [Nat.mod_eq_of_lt c]
      exact (Option.some.inj h).symm
    · rw [digs_big hb (by omega)] at h
      exact (Option.some.inj h).symm
  | k + 1, n, f, h => by
    by_cases c : n < b
    · rw [digs_small c] at h
      cases h
    · rw [digs_big hb (by omega)] at h
      have := digs_div hb k (n / b) f h
      rw [this, Nat.pow_succ, Nat.mul_comm, Nat.div_div_eq_div_mul]
theorem digs_room {b : Nat} (hb : 2 ≤ b) : ∀ n, n < b ^ (digs b n).length := by
  refine digs_ind hb (fun n h => ?_) (fun n h ih => ?_)
  · rw [digs_small h]
    show n < b ^ 1
    rw [Nat.pow_one]
    exact h
  · rw [digs_big hb h, List.length_cons, Nat.pow_succ]
    have h2 := Nat.div_add_mod' n b
    have h3 := Nat.mod_lt n (show 0 < b by omega)
    have := Nat.mul_le_mul_right b (show n / b + 1 ≤ b ^ (digs b (n / b)).length by omega)
    rw [Nat.add_mul] at this
    omega
theorem digs_cap {b : Nat} (hb : 2 ≤ b) : ∀ n k, n < b ^ (k + 1) → (digs b n).length ≤ k + 1 := by
  refine digs_ind hb (fun n h k _ => ?_) (fun n h ih k hk => ?_)
  · rw [digs_small h]
    show 1 ≤ k + 1
    omega
  · rw [digs_big hb h, List.length_cons]
    cases k with
    | zero =>
      rw [Nat.zero_add, Nat.pow_one] at hk
      omega
    | succ k =>
      have := ih k (Nat.div_lt_of_lt_mul (by rw [Nat.mul_comm, ← Nat.pow_succ]; exact hk))
      omega
end M

set_option Elab.async false
set_option linter.all false
set_option maxRecDepth 100000
namespace M
open PySem L2 Z
/-! the states that were met, as keys; what is still to be looked at, as data -/
def keyT (q : Nat × Nat) : List Key := [Sum.inl (q.1 : Int), Sum.inl (q.2 : Int)]
theorem keyT_inj {q r : Nat × Nat} (h : keyT q = keyT r) : q = r := by
  unfold keyT at h
  injection h with h1 h2
  injection h2 with h2 _
  have a := Sum.inl.inj h1
  have c := Sum.inl.inj h2
  exact Prod.ext (by omega) (by omega)
def smet (qs : List (Nat × Nat)) : List (List Key × V) := qs.map fun q => (keyT q, V.bl true)
theorem smet_len (qs : List (Nat × Nat)) : (smet qs).length = qs.length := List.length_map ..
theorem smet_has : ∀ {qs : List (Nat × Nat)} {r : Nat × Nat}, r ∈ qs → valV (smet qs) (keyT r) = some (.bl true)
  | k :: qs, r, h => by
    by_cases c : k = r
    · subst c
      exact valV_pos (p := (keyT k, V.bl true)) rfl
    · have h2 : r ∈ qs := by
        rcases List.mem_cons.mp h with e | e
        · exact absurd e.symm c
        · exact e
      exact (valV_neg (p := (keyT k, V.bl true)) (fun z => c (keyT_inj z))).trans (smet_has h2)
theorem smet_no {qs : List (Nat × Nat)} {r : Nat × Nat} (h : r ∉ qs) : valV (smet qs) (keyT r) = none := by
  cases e : valV (smet qs) (keyT r) with
  | none => rfl
  | some v =>
    have m := valV_in e
    unfold smet at m
    rw [List.map_map] at m
    obtain ⟨q, hq, z⟩ := List.mem_map.mp m
    have z : keyT q = keyT r := z
    rw [keyT_inj z] at hq
    exact absurd hq h
theorem smet_put {qs : List (Nat × Nat)} {r : Nat × Nat} (h : r ∉ qs) : putK (smet qs) (keyT r) (.bl true) = smet (qs ++ [r]) := by
  rw [putK_new _ (smet_no h)]
  unfold smet
  rw [List.map_append]
  rfl
def entD (b d n : Nat) : PyData := .tuple [.tuple [.int ((n % d : Nat) : Int), .int ((dsum b n : Nat) : Int)], .list ((digs b n).reverse.map fun x : Nat => PyData.int (x : Int))]
theorem lay_ints : ∀ l : List Nat, PyData.canLayAll0 (l.map fun x : Nat => PyData.int (x : Int)) = true ∧ PyData.depthAll (l.map fun x : Nat => PyData.int (x : Int)) ≤ 1
  | [] => ⟨rfl, by simp [PyData.depthAll]⟩
  | x :: r => by
    obtain ⟨a, c⟩ := lay_ints r
    refine ⟨?_, ?_⟩
    · show (PyData.canLay0 (.int (x : Int)) && PyData.canLayAll0 (r.map fun x : Nat => PyData.int (x : Int))) = true
      rw [a]
      rfl
    · rw [List.map_cons]
      simp only [PyData.depthAll, PyData.depth]
      omega
theorem lay_ents (b d : Nat) : ∀ R : List Nat, PyData.canLayAll0 (R.map (entD b d)) = true ∧ PyData.depthAll (R.map (entD b d)) ≤ 4
  | [] => ⟨rfl, by simp [PyData.depthAll]⟩
  | n :: r => by
    obtain ⟨a, c⟩ := lay_ents b d r
    obtain ⟨a2, c2⟩ := lay_ints (digs b n).reverse
    refine ⟨?_, ?_⟩
    · show (PyData.canLay0 (entD b d n) && PyData.canLayAll0 (r.map (entD b d))) = true
      have e : PyData.canLay0 (entD b d n) = (true && (PyData.canLayAll0 ((digs b n).reverse.map fun x : Nat => PyData.int (x : Int)) && true)) := rfl
      rw [a, e, a2]
      rfl
    · have dn : (entD b d n).depth ≤ 3 := by
        unfold entD
        simp only [PyData.depthAll, PyData.depth]
        omega
      rw [List.map_cons]
      simp only [PyData.depthAll]
      omega
theorem shaped_ents (b d : Nat) (R : List Nat) : SeqAt.shaped (.list (R.map (entD b d))) = true := by
  obtain ⟨a, c⟩ := lay_ents b d R
  show (PyData.canLayAll0 (R.map (entD b d)) && decide ((PyData.list (R.map (entD b d))).depth ≤ 64)) = true
  rw [a]
  have : (PyData.list (R.map (entD b d))).depth ≤ 64 := by
    simp only [PyData.depth]
    omega
  simp [this]
theorem st_eqv (r s t : Nat) : PyData.eqv (.tuple [.int (r : Int), .int (s : Int)]) (.tuple [.int 0, .int (t : Int)]) = true ↔ (r, s) = (0, t) := by
  have e : PyData.eqv (.tuple [.int (r : Int), .int (s : Int)]) (.tuple [.int 0, .int (t : Int)]) = (((r : Int) == 0) && (((s : Int) == (t : Int)) && true)) := rfl
  rw [e]
  constructor
  · intro h
    simp at h
    exact Prod.ext (by omega) (by omega)
  · intro h
    have h1 : r = 0 := congrArg Prod.fst h
    have h2 : s = t := congrArg Prod.snd h
    simp [h1, h2]
end M

set_option Elab.async false
set_option linter.all false
set_option maxRecDepth 100000
namespace M
open PySem L2 Z
/-! counts by sum and rest, in a dict -/
abbrev Tly := List ((Nat × Nat) × Int)
def encT (es : Tly) : List (List Key × V) := es.map fun e => (keyT e.1, V.int e.2)
def wsum (es : Tly) (g : Nat × Nat → Int) : Int := (es.map fun e => e.2 * g e.1).sum
def look : Tly → Nat × Nat → Option Int
  | [], _ => none
  | e :: es, k => if e.1 = k then some e.2 else look es k
def bump : Tly → Nat × Nat → Int → Tly
  | [], k, c => [(k, c)]
  | e :: es, k, c => if e.1 = k then (e.1, e.2 + c) :: es else e :: bump es k c
theorem look_val : ∀ (es : Tly) (k : Nat × Nat), valV (encT es) (keyT k) = (look es k).map V.int
  | [], k => rfl
  | e :: es, k => by
    by_cases c : e.1 = k
    · subst c
      refine (valV_pos (p := (keyT e.1, V.int e.2)) rfl).trans ?_
      unfold look
      rw [if_pos rfl]
      rfl
    · refine (valV_neg (p := (keyT e.1, V.int e.2)) (fun z => c (keyT_inj z))).trans ((look_val es k).trans ?_)
      rw [show look (e :: es) k = look es k from if_neg c]
theorem look_none : ∀ {es : Tly} {k : Nat × Nat}, look es k = none ↔ k ∉ es.map (·.1)
  | [], k => ⟨fun _ h => (by cases h), fun _ => rfl⟩
  | e :: es, k => by
    by_cases c : e.1 = k
    · rw [show look (e :: es) k = some e.2 from if_pos c]
      exact ⟨fun h => (by cases h), fun h => absurd (show k ∈ (e :: es).map (·.1) by rw [List.map_cons, c]; exact List.mem_cons_self ..) h⟩
    · rw [show look (e :: es) k = look es k from if_neg c, look_none, List.map_cons, List.mem_cons]
      exact ⟨fun h z => z.elim (fun y => c y.symm) h, fun h z => h (.inr z)⟩
theorem bump_new : ∀ {es : Tly} {k : Nat × Nat} (c : Int), k ∉ es.map (·.1) → bump es k c = es ++ [(k, c)]
  | [], k, c, _ => rfl
  | e :: es, k, c, h => by
    rw [List.map_cons, List.mem_cons] at h
    rw [show bump (e :: es) k c = e :: bump es k c from if_neg fun z => h (.inl z.symm), bump_new c fun z => h (.inr z)]
    rfl
theorem put_keep (k : Nat × Nat) (v : V) : ∀ (es : Tly), k ∉ es.map (·.1) → (encT es).map (fun kv => if kv.1 = keyT k then (kv.1, v) else kv) = encT es
  | [], _ => rfl
  | e :: es, h => by
    rw [List.map_cons, List.mem_cons] at h
    have ih := put_keep k v es fun z => h (.inr z)
    show (if keyT e.1 = keyT k then (keyT e.1, v) else (keyT e.1, V.int e.2)) :: (encT es).map (fun kv => if kv.1 = keyT k then (kv.1, v) else kv) = _
    rw [if_neg fun z => h (.inl (keyT_inj z).symm), ih]
    rfl
theorem put_old (k : Nat × Nat) (c : Int) : ∀ (es : Tly) (x : Int), (es.map (·.1)).Nodup → look es k = some x → (encT es).map (fun kv => if kv.1 = keyT k then (kv.1, V.int (x + c)) else kv) = encT (bump es k c)
  | [], x, _, h => by cases h
  | e :: es, x, nd, h => by
    rw [List.map_cons, List.nodup_cons] at nd
    show (if keyT e.1 = keyT k then (keyT e.1, V.int (x + c)) else (keyT e.1, V.int e.2)) :: (encT es).map (fun kv => if kv.1 = keyT k then (kv.1, V.int (x + c)) else kv) = _
    by_cases z : e.1 = k
    · rw [show look (e :: es) k = some e.2 from if_pos z] at h
      cases h
      rw [if_pos (congrArg keyT z), put_keep k _ es (by rw [← z]; exact nd.1), show bump (e :: es) k c = (e.1, e.2 + c) :: es from if_pos z]
      rfl
    · rw [show look (e :: es) k = look es k from if_neg z] at h
      rw [if_neg fun y => z (keyT_inj y), put_old k c es x nd.2 h, show bump (e :: es) k c = e :: bump es k c from if_neg z]
      rfl
theorem bump_put {es : Tly} {k : Nat × Nat} (c : Int) (nd : (es.map (·.1)).Nodup) : putK (encT es) (keyT k) (.int ((look es k).getD 0 + c)) = encT (bump es k c) := by
  have lv := look_val es k
  cases h : look es k with
  | none =>
    rw [h] at lv
    rw [putK_new _ lv, bump_new c (look_none.mp h)]
    show encT es ++ [(keyT k, V.int (0 + c))] = encT (es ++ [(k, c)])
    unfold encT
    rw [Int.zero_add, List.map_append]
    rfl
  | some x =>
    rw [h] at lv
    unfold putK
    rw [if_pos (by rw [valV_any, lv]; rfl)]
    exact put_old k c es x nd h
theorem wsum_bump (k : Nat × Nat) (c : Int) (g : Nat × Nat → Int) : ∀ es : Tly, wsum (bump es k c) g = wsum es g + c * g k
  | [] => by
    show c * g k + 0 = 0 + c * g k
    omega
  | e :: es => by
    by_cases z : e.1 = k
    · rw [show bump (e :: es) k c = (e.1, e.2 + c) :: es from if_pos z]
      show (e.2 + c) * g e.1 + wsum es g = e.2 * g e.1 + wsum es g + c * g k
      rw [Int.add_mul, z]
      omega
    · rw [show bump (e :: es) k c = e :: bump es k c from if_neg z]
      show e.2 * g e.1 + wsum (bump es k c) g = e.2 * g e.1 + wsum es g + c * g k
      rw [wsum_bump k c g es]
      omega
theorem keys_bump (k : Nat × Nat) (c : Int) : ∀ es : Tly, (∀ q, q ∈ (bump es k c).map (·.1) ↔ q ∈ es.map (·.1) ∨ q = k) ∧ ((es.map (·.1)).Nodup → ((bump es k c).map (·.1)).Nodup)
  | [] => ⟨fun q => by simp [bump], fun _ => by simp [bump]⟩
  | e :: es => by
    obtain ⟨h1, h2⟩ := keys_bump k c es
    by_cases z : e.1 = k
    · rw [show bump (e :: es) k c = (e.1, e.2 + c) :: es from if_pos z]
      refine ⟨fun q => ?_, fun nd => nd⟩
      simp only [List.map_cons, List.mem_cons]
      exact ⟨fun h => .inl h, fun h => h.elim id fun y => .inl (y.trans z.symm)⟩
    · rw [show bump (e :: es) k c = e :: bump es k c from if_neg z]
      refine ⟨fun q => ?_, fun nd => ?_⟩
      · simp only [List.map_cons, List.mem_cons]
        rw [h1 q]
        exact ⟨fun h => h.elim (fun y => .inl (.inl y)) fun y => y.elim (fun w => .inl (.inr w)) .inr, fun h => h.elim (fun y => y.elim .inl fun w => .inr (.inl w)) fun w => .inr (.inr w)⟩
      · rw [List.map_cons, List.nodup_cons] at nd ⊢
        exact ⟨fun h => ((h1 _).mp h).elim nd.1 z, h2 nd.2⟩
theorem look_wsum (k : Nat × Nat) : ∀ es : Tly, (es.map (·.1)).Nodup → wsum es (fun q => if q = k then 1 else 0) = (look es k).getD 0
  | [], _ => rfl
  | e :: es, nd => by
    rw [List.map_cons, List.nodup_cons] at nd
    show e.2 * (if e.1 = k then 1 else 0) + wsum es (fun q => if q = k then 1 else 0) = _
    rw [look_wsum k es nd.2]
    by_cases z : e.1 = k
    · rw [if_pos z, show look (e :: es) k = some e.2 from if_pos z, look_none.mpr (by rw [← z]; exact nd.1)]
      show e.2 * 1 + 0 = e.2
      omega
    · rw [if_neg z, show look (e :: es) k = look es k from if_neg z]
      omega
/-- a tally: what it comes to when its keys are weighed -/
structure Pt (D t : Nat) (es : Tly) (S : (Nat × Nat → Int) → Int) : Prop where
  nd : (es.map (·.1)).Nodup
  sm : ∀ q, q ∈ es.map (·.1) → q.1 ≤ 1199 ∧ q.2 < D
  eq : ∀ g : Nat × Nat → Int, (∀ q, t < q.1 → g q = 0) → wsum es g = S g
theorem Pt.nil {D t : Nat} : Pt D t [] fun _ => 0 := ⟨List.Pairwise.nil, fun q h => (nomatch h), fun g _ => rfl⟩
theorem Pt.bump {D t : Nat} {es : Tly} {S : (Nat × Nat → Int) → Int} (h : Pt D t es S) {k : Nat × Nat} (c : Int) (h1 : k.1 ≤ 1199) (h2 : k.2 < D) : Pt D t (bump es k c) fun g => S g + c * g k := by
  refine ⟨(keys_bump k c es).2 h.nd, fun q hq => ?_, fun g hg => by rw [wsum_bump, h.eq g hg]⟩
  rcases ((keys_bump k c es).1 q).mp hq with z | rfl
  · exact h.sm q z
  · exact ⟨h1, h2⟩
theorem Pt.to {D t : Nat} {es : Tly} {S S' : (Nat × Nat → Int) → Int} (h : Pt D t es S) (e : ∀ g : Nat × Nat → Int, (∀ q, t < q.1 → g q = 0) → S g = S' g) : Pt D t es S' := ⟨h.nd, h.sm, fun g hg => (h.eq g hg).trans (e g hg)⟩
theorem Pt.few {D t : Nat} {es : Tly} {S : (Nat × Nat → Int) → Int} (h : Pt D t es S) (hD : D ≤ 60) : es.length ≤ 72000 := by
  have nd : ((es.map (·.1)).map fun q => q.1 * 60 + q.2).Nodup := by
    have hd := h.nd
    unfold List.Nodup at hd ⊢
    rw [List.pairwise_map]
    refine List.Pairwise.imp_of_mem (fun {p q} hp hq ne e => ne ?_) hd
    have a := (h.sm p hp).2
    have c := (h.sm q hq).2
    have e : p.1 * 60 + p.2 = q.1 * 60 + q.2 := e
    exact Prod.ext (by omega) (by omega)
  have l := few_nodup 72000 _ nd (fun y hy => by
    obtain ⟨q, hq, rfl⟩ := List.mem_map.mp hy
    have := h.sm q hq
    show q.1 * 60 + q.2 < _
    omega)
  rw [List.length_map, List.length_map] at l
  exact l
/-- the numbers below N, by sum and rest -/
def stN (b D x : Nat) : Nat × Nat := (dsum b x, x % D)
def Tal (b D t : Nat) (es : Tly) (N : Nat) : Prop := Pt D t es fun g => sumI (fun x => g (stN b D x)) N
theorem sumI_more (g : Nat → Int) {m n : Nat} (h : m ≤ n) (z : ∀ i, m ≤ i → i < n → g i = 0) : sumI g n = sumI g m := by
  have e := sumI_shift g m (n - m)
  rw [show m + (n - m) = n by omega] at e
  rw [e, sumI_congr (h := fun _ => 0) (fun i hi => z (m + i) (by omega) (by omega)), sumI_zero, Int.add_zero]
theorem st_digit {b D x f : Nat} (hb : 2 ≤ b) (hf : f < b) : stN b D (x * b + f) = (dsum b x + f, (x % D * b + f) % D) := by
  unfold stN
  rw [dsum_snoc hb hf]
  refine Prod.ext rfl ?_
  show (x * b + f) % D = (x % D * b + f) % D
  rw [Nat.add_mod (x * b), Nat.mul_mod x b, Nat.add_mod (x % D * b), Nat.mul_mod (x % D) b, Nat.mod_mod]
/-- one figure more behind all of them -/
theorem Tal.wide {b D t N : Nat} {es more : Tly} (hb : 2 ≤ b) (h : Tal b D t es N) (k : Pt D t more fun g => (es.map fun e => e.2 * sumI (fun one => g (e.1.1 + one, (e.1.2 * b + one) % D)) (min b (t + 1 - e.1.1))).sum) : Tal b D t more (N * b) := by
  refine k.to fun g hg => ?_
  have e1 := h.eq (fun q => sumI (fun one => g (q.1 + one, (q.2 * b + one) % D)) b) (fun q hq => by
    have : sumI (fun one => g (q.1 + one, (q.2 * b + one) % D)) b = sumI (fun _ => 0) b := sumI_congr fun i _ => hg _ (by show t < q.1 + i; omega)
    show sumI (fun one => g (q.1 + one, (q.2 * b + one) % D)) b = 0
    rw [this, sumI_zero])
  have e2 : (es.map fun e => e.2 * sumI (fun one => g (e.1.1 + one, (e.1.2 * b + one) % D)) (min b (t + 1 - e.1.1))) = es.map fun e => e.2 * sumI (fun one => g (e.1.1 + one, (e.1.2 * b + one) % D)) b := List.map_congr_left fun e _ => by
    rw [sumI_more _ (Nat.min_le_left b (t + 1 - e.1.1)) fun i h1 h2 => hg _ (by show t < e.1.1 + i; omega)]
  show (es.map fun e => e.2 * sumI (fun one => g (e.1.1 + one, (e.1.2 * b + one) % D)) (min b (t + 1 - e.1.1))).sum = _
  rw [e2]
  refine Eq.trans e1 ?_
  show sumI (fun x => sumI (fun one => g ((stN b D x).1 + one, ((stN b D x).2 * b + one) % D)) b) N = _
  rw [sumI_rows]
  exact sumI_congr fun x _ => sumI_congr fun f hf => by rw [st_digit hb hf]; rfl
theorem Tal.look {b D t N s r : Nat} {es : Tly} (h : Tal b D t es N) (hs : s ≤ t) : (look es (s, r)).getD 0 = cb b D s r N := by
  rw [← look_wsum (s, r) es h.nd, h.eq _ fun q hq => if_neg fun z => by rw [z] at hq; exact absurd hs (by show ¬ s ≤ t; have hq : t < s := hq; omega)]
  refine sumI_congr fun x _ => ?_
  show (if stN b D x = (s, r) then (1 : Int) else 0) = cbi b D s r x
  unfold cbi stN
  by_cases c : dsum b x = s ∧ ((x : Nat) : Int) % (D : Int) = (r : Int)
  · have c2 : x % D = r := by
      have := c.2
      rw [← Int.natCast_emod] at this
      exact Int.ofNat.inj this
    rw [if_pos c, if_pos (Prod.ext c.1 c2)]
  · rw [if_neg c, if_neg fun z => c ⟨congrArg Prod.fst z, by rw [← Int.natCast_emod]; exact congrArg (fun p : Nat × Nat => (p.2 : Int)) z⟩]
end M

set_option Elab.async false
set_option linter.all false
set_option maxRecDepth 100000
namespace M
open PySem L2 Z
/-! counts by sum, with something beside them, in a dict of whole numbers -/
/-- what stands at a key: a pair, its first the count -/
def Duo (H : Hp) (v : V) (c : Int) : Prop := ∃ (a : Addr) (t : Int), v = .ref a ∧ H a = some (.tup [.int c, .int t])
def Enc (H : Hp) : Tly → List (Key × V) → Prop
  | [], kvs => kvs = []
  | e :: es, kvs => ∃ v r, kvs = (Sum.inl (e.1.1 : Int), v) :: r ∧ e.1.2 = 0 ∧ Duo H v e.2 ∧ Enc H es r
theorem Duo.same {H H' : Hp} {v : V} {c : Int} (h : Duo H v c) (S : ∀ a x y, H a = some (.tup [.int x, .int y]) → H' a = some (.tup [.int x, .int y])) : Duo H' v c := by
  obtain ⟨a, t, e, h⟩ := h
  exact ⟨a, t, e, S a c t h⟩
theorem Enc.same {H H' : Hp} (S : ∀ a x y, H a = some (.tup [.int x, .int y]) → H' a = some (.tup [.int x, .int y])) : ∀ {es : Tly} {kvs : List (Key × V)}, Enc H es kvs → Enc H' es kvs
  | [], _, h => h
  | _ :: _, _, ⟨v, r, e, z, d, h⟩ => ⟨v, r, e, z, d.same S, Enc.same S h⟩
theorem Enc.len {H : Hp} : ∀ {es : Tly} {kvs : List (Key × V)}, Enc H es kvs → kvs.length = es.length
  | [], _, h => by rw [show _ = [] from h]; rfl
  | _ :: _, _, ⟨v, r, e, z, d, h⟩ => by rw [e, List.length_cons, List.length_cons, Enc.len h]
theorem Enc.keys {H : Hp} : ∀ {es : Tly} {kvs : List (Key × V)}, Enc H es kvs → kvs.map Prod.fst = (es.map fun e => (e.1.1 : Int)).map Sum.inl
  | [], _, h => by rw [show _ = [] from h]; rfl
  | e :: es, _, ⟨v, r, q, z, d, h⟩ => by rw [q, List.map_cons, List.map_cons, List.map_cons, Enc.keys h]
theorem Enc.at_ {H : Hp} : ∀ {es : Tly} {kvs : List (Key × V)} {i : Nat} {k : Key} {v : V}, Enc H es kvs → kvs[i]? = some (k, v) → ∃ e, es[i]? = some e ∧ e.1.2 = 0 ∧ k = Sum.inl (e.1.1 : Int) ∧ Duo H v e.2
  | [], _, i, k, v, h, g => by rw [show _ = [] from h] at g; simp at g
  | e :: es, _, 0, k, v, ⟨u, r, q, z, d, h⟩, g => by
    rw [q] at g
    cases g
    exact ⟨e, rfl, z, rfl, d⟩
  | e :: es, _, i + 1, k, v, ⟨u, r, q, z, d, h⟩, g => by
    rw [q] at g
    obtain ⟨e2, a⟩ := Enc.at_ (es := es) h (show r[i]? = some (k, v) from g)
    exact ⟨e2, a⟩
theorem key0 {q : Nat × Nat} (h : q.2 = 0) : q = (q.1, 0) := Prod.ext rfl h
theorem Enc.look {H : Hp} : ∀ {es : Tly} {kvs : List (Key × V)}, Enc H es kvs → ∀ k : Nat, (M.look es (k, 0) = none ∧ valV kvs (Sum.inl (k : Int) : Key) = none) ∨ ∃ c v, M.look es (k, 0) = some c ∧ valV kvs (Sum.inl (k : Int) : Key) = some v ∧ Duo H v c
  | [], _, h, k => by rw [show _ = [] from h]; exact .inl ⟨rfl, rfl⟩
  | e :: es, _, ⟨u, r, q, z, d, h⟩, k => by
    rw [q]
    by_cases c : e.1 = (k, 0)
    · refine .inr ⟨e.2, u, if_pos c, valV_pos (p := ((Sum.inl (e.1.1 : Int) : Key), u)) ?_, d⟩
      show (Sum.inl (e.1.1 : Int) : Key) = Sum.inl (k : Int)
      rw [c]
    · have v0 : valV ((Sum.inl (e.1.1 : Int), u) :: r) (Sum.inl (k : Int) : Key) = valV r (Sum.inl (k : Int) : Key) := valV_neg (p := ((Sum.inl (e.1.1 : Int) : Key), u)) fun y => c (by
        have y2 : (e.1.1 : Int) = (k : Int) := Sum.inl.inj y
        rw [key0 z, show e.1.1 = k by omega])
      rw [v0, show M.look (e :: es) (k, 0) = M.look es (k, 0) from if_neg c]
      exact Enc.look h k
theorem Enc.keep {H : Hp} (k : Nat) (v : V) : ∀ {es : Tly} {kvs : List (Key × V)}, Enc H es kvs → (k, 0) ∉ es.map (·.1) → kvs.map (fun kv => if kv.1 = Sum.inl (k : Int) then (kv.1, v) else kv) = kvs
  | [], _, h, _ => by rw [show _ = [] from h]; rfl
  | e :: es, _, ⟨u, r, q, z, d, h⟩, n => by
    rw [List.map_cons, List.mem_cons] at n
    rw [q, List.map_cons, Enc.keep k v h fun y => n (.inr y), if_neg fun y => n (.inl (by
      have y2 : (e.1.1 : Int) = (k : Int) := Sum.inl.inj y
      rw [key0 z, show e.1.1 = k by omega]))]
theorem Enc.old {H : Hp} (k : Nat) (c x : Int) (v : V) : ∀ {es : Tly} {kvs : List (Key × V)}, Enc H es kvs → (es.map (·.1)).Nodup → M.look es (k, 0) = some x → Duo H v (x + c) → Enc H (bump es (k, 0) c) (kvs.map fun kv => if kv.1 = Sum.inl (k : Int) then (kv.1, v) else kv)
  | [], _, _, _, h, _ => by cases h
  | e :: es, _, ⟨u, r, q, z, d, h⟩, nd, l, dv => by
    rw [List.map_cons, List.nodup_cons] at nd
    rw [q, List.map_cons]
    by_cases y : e.1 = (k, 0)
    · rw [show M.look (e :: es) (k, 0) = some e.2 from if_pos y] at l
      cases l
      rw [show bump (e :: es) (k, 0) c = (e.1, e.2 + c) :: es from if_pos y, h.keep k v (by rw [← y]; exact nd.1), if_pos (show (Sum.inl (e.1.1 : Int) : Key) = Sum.inl (k : Int) by rw [y])]
      exact ⟨v, r, rfl, z, dv, h⟩
    · rw [show M.look (e :: es) (k, 0) = M.look es (k, 0) from if_neg y] at l
      rw [show bump (e :: es) (k, 0) c = e :: bump es (k, 0) c from if_neg y, if_neg fun w => y (by
        have y2 : (e.1.1 : Int) = (k : Int) := Sum.inl.inj w
        rw [key0 z, show e.1.1 = k by omega])]
      exact ⟨u, _, rfl, z, d, Enc.old k c x v h nd.2 l dv⟩
theorem Enc.more {H : Hp} {e : (Nat × Nat) × Int} {v : V} (z : e.1.2 = 0) (d : Duo H v e.2) : ∀ {es : Tly} {kvs : List (Key × V)}, Enc H es kvs → Enc H (es ++ [e]) (kvs ++ [(Sum.inl (e.1.1 : Int), v)])
  | [], _, h => by rw [show _ = [] from h]; exact ⟨v, [], rfl, z, d, rfl⟩
  | _ :: _, _, ⟨u, r, q, z2, d2, h⟩ => ⟨u, _, by rw [q]; rfl, z2, d2, Enc.more z d h⟩
theorem Enc.put {H : Hp} {es : Tly} {kvs : List (Key × V)} (h : Enc H es kvs) (nd : (es.map (·.1)).Nodup) (k : Nat) (c : Int) {v : V} (d : Duo H v ((M.look es (k, 0)).getD 0 + c)) : Enc H (bump es (k, 0) c) (putK kvs (Sum.inl (k : Int)) v) := by
  rcases h.look k with ⟨l, n⟩ | ⟨x, u, l, n, _⟩
  · rw [putK_new _ n, bump_new c (look_none.mp l)]
    rw [l] at d
    exact h.more (e := ((k, 0), c)) rfl (by have z : (none : Option Int).getD 0 + c = c := Int.zero_add c; rw [z] at d; exact d)
  · unfold putK
    rw [if_pos (by rw [valV_any, n]; rfl)]
    rw [l] at d
    exact h.old k c x v nd l d
/-! what the counts come to -/
def one1 (x : Nat) : Nat × Nat := (x, 0)
/-- counts of the numbers below N -/
def TalO (b : Nat) (es : Tly) (N : Nat) : Prop := Pt 1 1199 es fun g => sumI (fun x => g (dsum b x, 0)) N
def TalK (H : Hp) (p : Addr) (b N : Nat) : Prop := ∃ es kvs, H p = some (.dK kvs) ∧ Enc H es kvs ∧ TalO b es N
theorem pt_zero {t : Nat} {es : Tly} {S : (Nat × Nat → Int) → Int} (h : Pt 1 t es S) : ∀ e ∈ es, e.1 = (e.1.1, 0) := fun e m => key0 (by
  have := (h.sm _ (List.mem_map_of_mem m)).2
  omega)
theorem TalO.wide {b N : Nat} {es more : Tly} (hb : 2 ≤ b) (h : TalO b es N) (k : Pt 1 1199 more fun g => (es.map fun e => e.2 * sumI (fun one => g (e.1.1 + one, 0)) b).sum) : TalO b more (N * b) := by
  refine k.to fun g hg => ?_
  refine (h.eq (fun q => sumI (fun one => g (q.1 + one, 0)) b) (fun q hq => by
    have : sumI (fun one => g (q.1 + one, 0)) b = sumI (fun _ => 0) b := sumI_congr fun i _ => hg _ (by show 1199 < q.1 + i; omega)
    show sumI (fun one => g (q.1 + one, 0)) b = 0
    rw [this, sumI_zero])).trans ?_
  show sumI (fun x => sumI (fun one => g (dsum b x + one, 0)) b) N = _
  rw [sumI_rows]
  exact sumI_congr fun x _ => sumI_congr fun f hf => by rw [dsum_snoc hb hf]
theorem dsum_low {b : Nat} (hb : 2 ≤ b) (m : Nat) : ∀ p y, y < b ^ p → dsum b (m * b ^ p + y) = dsum b m + dsum b y
  | 0, y, h => by
    have : y = 0 := by rw [Nat.pow_zero] at h; omega
    subst this
    rw [Nat.pow_zero, Nat.mul_one, dsum_zero hb, Nat.add_zero, Nat.add_zero]
  | p + 1, y, h => by
    have hb0 : 0 < b := by omega
    have hy : y / b < b ^ p := by
      rw [Nat.div_lt_iff_lt_mul hb0, ← Nat.pow_succ]
      exact h
    have e : m * b ^ (p + 1) + y = (m * b ^ p + y / b) * b + y % b := by
      rw [Nat.add_mul, Nat.pow_succ, ← Nat.mul_assoc, Nat.add_assoc, Nat.mul_comm (y / b), Nat.div_add_mod]
    have e2 : y = y / b * b + y % b := by rw [Nat.mul_comm, Nat.div_add_mod]
    rw [e, dsum_snoc hb (Nat.mod_lt _ hb0), dsum_low hb m p _ hy]
    have e3 : dsum b y = dsum b (y / b) + y % b := by
      have := dsum_snoc hb (n := y / b) (Nat.mod_lt y hb0)
      rw [← e2] at this
      exact this
    omega
/-- a lesser figure at a place, free ones behind it -/
theorem TalO.above {b U d p : Nat} {es was more : Tly} (hb : 2 ≤ b) (hd : d ≤ b) (h : TalO b es (b ^ p)) (w : TalO b was (U * b ^ (p + 1))) (k : Pt 1 1199 more fun g => wsum was g + sumI (fun f => (es.map fun e => e.2 * g (dsum b U + f + e.1.1, 0)).sum) d) : TalO b more ((U * b + d) * b ^ p) := by
  refine k.to fun g hg => ?_
  have e1 : sumI (fun f => (es.map fun e => e.2 * g (dsum b U + f + e.1.1, 0)).sum) d = sumI (fun f => sumI (fun x => g (dsum b U + f + dsum b x, 0)) (b ^ p)) d := sumI_congr fun f _ =>
    (h.eq (fun q => g (dsum b U + f + q.1, 0)) fun q hq => hg _ (by show 1199 < dsum b U + f + q.1; omega))
  rw [e1, w.eq g hg, show (U * b + d) * b ^ p = U * b ^ (p + 1) + d * b ^ p by rw [Nat.add_mul, Nat.pow_succ, Nat.mul_assoc, Nat.mul_comm b], sumI_shift, sumI_rows (fun r => g (dsum b (U * b ^ (p + 1) + r), 0)) (b ^ p) d]
  refine congrArg _ (sumI_congr fun f hf => sumI_congr fun x hx => ?_)
  have e : U * b ^ (p + 1) + (f * b ^ p + x) = (U * b + f) * b ^ p + x := by
    rw [Nat.add_mul, Nat.pow_succ, Nat.mul_assoc, Nat.mul_comm b, Nat.add_assoc]
  rw [e, dsum_low hb _ p x hx, dsum_snoc hb (by omega : f < b)]
theorem TalO.look {b N s : Nat} {es : Tly} (h : TalO b es N) (hs : s ≤ 1199) : (M.look es (s, 0)).getD 0 = cs b N s := by
  rw [← look_wsum (s, 0) es h.nd, h.eq _ fun q hq => if_neg fun z => by rw [z] at hq; exact absurd hs (by show ¬ s ≤ 1199; have hq : 1199 < s := hq; omega)]
  refine sumI_congr fun x _ => ?_
  show (if (dsum b x, 0) = (s, 0) then (1 : Int) else 0) = if dsum b x = s then 1 else 0
  by_cases c : dsum b x = s
  · rw [if_pos c, if_pos (by rw [c])]
  · rw [if_neg c, if_neg fun z => c (congrArg Prod.fst z)]
theorem TalO.few {b N : Nat} {es : Tly} (h : TalO b es N) : es.length ≤ 72000 := Pt.few h (by decide)
/-- keys to a bound -/
def Kb (es : Tly) (m : Nat) : Prop := ∀ q, q ∈ es.map (·.1) → q.1 ≤ m
theorem Kb.bump {es : Tly} {m : Nat} (h : Kb es m) {k : Nat × Nat} (c : Int) (h1 : k.1 ≤ m) : Kb (bump es k c) m := fun q hq => (((keys_bump k c es).1 q).mp hq).elim (h q) fun e => e ▸ h1
/-- a dict of counts that come to S -/
def Row (H : Hp) (p : Addr) (m : Nat) (S : (Nat × Nat → Int) → Int) : Prop := ∃ es kvs, H p = some (.dK kvs) ∧ Enc H es kvs ∧ Pt 1 1199 es S ∧ Kb es m
theorem Row.nil {H : Hp} {p : Addr} {m : Nat} (h : H p = some (.dK [])) : Row H p m fun _ => 0 := ⟨[], [], h, rfl, Pt.nil, fun q h => (nomatch h)⟩
theorem Row.same {H H' : Hp} {p : Addr} {m : Nat} {S : (Nat × Nat → Int) → Int} (h : Row H p m S) (s : Same H H') : Row H' p m S := by
  obtain ⟨es, kvs, a, b, c, d⟩ := h
  exact ⟨es, kvs, s _ _ a, b.same fun a x y e => s _ _ e, c, d⟩
theorem Row.keep {H H' : Hp} {p q : Addr} {m : Nat} {S : (Nat × Nat → Int) → Int} (h : Row H p m S) (ne : p ≠ q) (nq : ∀ xs, H q ≠ some (.tup xs)) (s : Keep q H H') : Row H' p m S := by
  obtain ⟨es, kvs, a, b, c, d⟩ := h
  exact ⟨es, kvs, s _ _ ne a, b.same fun a x y e => s _ _ (fun z => nq _ (z ▸ e)) e, c, d⟩
theorem Row.to {H : Hp} {p : Addr} {m m2 : Nat} {S S2 : (Nat × Nat → Int) → Int} (h : Row H p m S) (hm : m ≤ m2) (e : ∀ g, S g = S2 g) : Row H p m2 S2 := by
  obtain ⟨es, kvs, a, b, c, d⟩ := h
  exact ⟨es, kvs, a, b, c.to fun g _ => e g, fun q hq => Nat.le_trans (d q hq) hm⟩
/-- what a key of it says, or that it is none -/
theorem enc_val {H : Hp} {es : Tly} {kvs : List (Key × V)} (h : Enc H es kvs) (k : Nat) {a0 : Addr} (h0 : H a0 = some (.tup [.int 0, .int 0])) : ∃ (a : Addr) (t : Int), (valV kvs (Sum.inl (k : Int) : Key)).getD (.ref a0) = .ref a ∧ H a = some (.tup [.int ((M.look es (k, 0)).getD 0), .int t]) := by
  rcases h.look k with ⟨l, n⟩ | ⟨x, u, l, n, a, t, rfl, d⟩
  · rw [l, n]
    exact ⟨a0, 0, rfl, h0⟩
  · rw [l, n]
    exact ⟨a, t, rfl, d⟩
theorem low_sums {b n : Nat} (hb : 2 ≤ b) (hb2 : b ≤ 16) (h : n ≤ 1000000000000000000000000000001) : ((digs b n).length - 1 + 1) * (b - 1) ≤ 1199 ∧ (digs b n).length ≤ 100 := by
  have l0 : 0 < (digs b n).length := List.length_pos_iff.mpr (digs_ne b n)
  by_cases c : b ≤ 12
  · have l := digs_cap hb n 99 (Nat.lt_of_lt_of_le (Nat.lt_of_le_of_lt h (by decide +kernel : 1000000000000000000000000000001 < 2 ^ 100)) (Nat.pow_le_pow_left hb 100))
    have e : ((digs b n).length - 1 + 1) * (b - 1) ≤ 100 * 11 := Nat.mul_le_mul (by omega) (by omega)
    exact ⟨by omega, by omega⟩
  · have l := digs_cap hb n 29 (Nat.lt_of_lt_of_le (Nat.lt_of_le_of_lt h (by decide +kernel : 1000000000000000000000000000001 < 13 ^ 30)) (Nat.pow_le_pow_left (by omega) 30))
    have e : ((digs b n).length - 1 + 1) * (b - 1) ≤ 30 * 15 := Nat.mul_le_mul (by omega) (by omega)
    exact ⟨by omega, by omega⟩
/-- a stretch: how many of it have each sum -/
def Win (b f l : Nat) (es : Tly) : Prop := (es.map (·.1)).Nodup ∧ (∀ e ∈ es, e.1.2 = 0 ∧ e.1.1 ≤ 1199 ∧ e.2 = cs b (l + 1) e.1.1 - cs b f e.1.1 ∧ 0 < e.2) ∧ ∀ s, 0 < cs b (l + 1) s - cs b f s → (s, 0) ∈ es.map (·.1)
def WinK (H : Hp) (p : Addr) (b f l : Nat) : Prop := ∃ es kvs, H p = some (.dK kvs) ∧ Enc H es kvs ∧ Win b f l es
theorem mul_fit {i j : Int} (h : i.natAbs < 2 ^ 400 + 1) (k : j.natAbs < 2 ^ 400 + 1) : MulOk i j := .inr (.inr (by
  have l : ∀ n : Nat, n < 2 ^ 400 + 1 → n.log2 ≤ 401 := fun n hn => by
    by_cases z : n = 0
    · subst z
      decide
    · exact Nat.le_of_lt ((Nat.log2_lt z).mpr (Nat.lt_of_lt_of_le hn (by decide +kernel)))
  have a := l _ h
  have c := l _ k
  show _ + _ < 1000000
  omega))
theorem pow_fit {b L j x : Nat} (hb : b ≤ 16) (hL : L ≤ 100) (hj : j ≤ L) (hx : x ≤ b ^ j) : x < 2 ^ 400 + 1 := by
  have h1 : b ^ j ≤ 16 ^ j := Nat.pow_le_pow_left hb j
  have h2 : 16 ^ j ≤ 16 ^ 100 := Nat.pow_le_pow_right (by decide) (by omega)
  have h3 : (16 : Nat) ^ 100 = 2 ^ 400 := by decide +kernel
  omega
theorem look_mem : ∀ {es : Tly} {e : (Nat × Nat) × Int}, (es.map (·.1)).Nodup → e ∈ es → M.look es e.1 = some e.2
  | x :: es, e, nd, h => by
    rw [List.map_cons, List.nodup_cons] at nd
    by_cases c : x.1 = e.1
    · rcases List.mem_cons.mp h with z | z
      · subst z
        exact if_pos rfl
      · exact absurd (List.mem_map.mpr ⟨e, z, c.symm⟩) nd.1
    · rcases List.mem_cons.mp h with z | z
      · exact absurd (congrArg Prod.fst z).symm c
      · rw [show M.look (x :: es) e.1 = M.look es e.1 from if_neg c]
        exact look_mem nd.2 z
theorem TalO.at_ {b N : Nat} {es : Tly} (h : TalO b es N) {e : (Nat × Nat) × Int} (m : e ∈ es) : e.1 = (e.1.1, 0) ∧ e.1.1 ≤ 1199 ∧ e.2 = cs b N e.1.1 := by
  have z := pt_zero h e m
  have sm := (h.sm _ (List.mem_map_of_mem m)).1
  have l := h.look sm
  have lm := look_mem h.nd m
  rw [z] at lm
  rw [lm] at l
  exact ⟨z, sm, l⟩
theorem cs_room (b N s : Nat) : cs b N s ≤ (N : Int) := by
  induction N with
  | zero => exact Int.le_refl _
  | succ n ih =>
    have e : cs b (n + 1) s = cs b n s + (if dsum b n = s then 1 else 0) := rfl
    rw [e]
    split <;> omega
/-- one more at a key -/
theorem Row.get {H : Hp} {p a0 : Addr} {m : Nat} {S : (Nat × Nat → Int) → Int} (h : Row H p m S) (hm : m ≤ 1199) (k : Nat) (h0 : H a0 = some (.tup [.int 0, .int 0])) : ∃ kvs c a t, H p = some (.dK kvs) ∧ kvs.length < sizeLine ∧ (valV kvs (Sum.inl (k : Int) : Key)).getD (.ref a0) = .ref a ∧ H a = some (.tup [.int c, .int t]) ∧
    ∀ (d t2 : Int) (H' : Hp) (a2 : Addr), k ≤ m → Same H H' → H' a2 = some (.tup [.int (c + d), .int t2]) → Row (upd H' p (.dK (putK kvs (Sum.inl (k : Int)) (.ref a2)))) p m fun g => S g + d * g (k, 0) := by
  obtain ⟨es, kvs, hp, en, pt, kb⟩ := h
  obtain ⟨a, t, e1, e2⟩ := enc_val en k h0
  have few := Pt.few pt (by decide)
  refine ⟨kvs, _, a, t, hp, by rw [en.len, sizeLine_eq]; omega, e1, e2, fun d t2 H' a2 hk sm ha2 => ?_⟩
  have np : ∀ a x y, H' a = some (.tup [.int x, .int y]) → upd H' p (.dK (putK kvs (Sum.inl (k : Int)) (.ref a2))) a = some (.tup [.int x, .int y]) := fun a x y e => by
    rw [upd_ne fun z => by rw [z, sm _ _ hp] at e; cases e]
    exact e
  have en2 : Enc H' es kvs := en.same fun a x y e => sm _ _ e
  exact ⟨_, _, upd_same, (en2.put pt.nd k d ⟨a2, t2, rfl, ha2⟩).same np, pt.bump d (by show k ≤ 1199; omega) (by show 0 < 1; decide), kb.bump d hk⟩
theorem Row.to2 {H : Hp} {p : Addr} {m m2 : Nat} {S S2 : (Nat × Nat → Int) → Int} (h : Row H p m S) (hm : m ≤ m2) (e : ∀ g : Nat × Nat → Int, (∀ q, 1199 < q.1 → g q = 0) → S g = S2 g) : Row H p m2 S2 := by
  obtain ⟨es, kvs, a, b, c, d⟩ := h
  exact ⟨es, kvs, a, b, c.to e, fun q hq => Nat.le_trans (d q hq) hm⟩
theorem above_sum {b U d p : Nat} {es : Tly} (hb : 2 ≤ b) (hd : d ≤ b) (h : TalO b es (b ^ p)) (g : Nat × Nat → Int) (hg : ∀ q, 1199 < q.1 → g q = 0) : sumI (fun x => g (dsum b x, 0)) (U * b ^ (p + 1)) + sumI (fun f => (es.map fun e => e.2 * g (dsum b U + f + e.1.1, 0)).sum) d = sumI (fun x => g (dsum b x, 0)) ((U * b + d) * b ^ p) := by
  have e1 : sumI (fun f => (es.map fun e => e.2 * g (dsum b U + f + e.1.1, 0)).sum) d = sumI (fun f => sumI (fun x => g (dsum b U + f + dsum b x, 0)) (b ^ p)) d := sumI_congr fun f _ =>
    (h.eq (fun q => g (dsum b U + f + q.1, 0)) fun q hq => hg _ (by show 1199 < dsum b U + f + q.1; omega))
  rw [e1, show (U * b + d) * b ^ p = U * b ^ (p + 1) + d * b ^ p by rw [Nat.add_mul, Nat.pow_succ, Nat.mul_assoc, Nat.mul_comm b], sumI_shift, sumI_rows (fun r => g (dsum b (U * b ^ (p + 1) + r), 0)) (b ^ p) d]
  refine congrArg _ (sumI_congr fun f hf => sumI_congr fun x hx => ?_)
  have e : U * b ^ (p + 1) + (f * b ^ p + x) = (U * b + f) * b ^ p + x := by
    rw [Nat.add_mul, Nat.pow_succ, Nat.mul_assoc, Nat.mul_comm b, Nat.add_assoc]
  rw [e, dsum_low hb _ p x hx, dsum_snoc hb (by omega : f < b)]
theorem keep_again {G0 G5 G6 : Hp} {d c : Addr} {u : HO} {od : Obj} (K : Keep c G0 G5) (hd : G5 d = some u) (K2 : Keep c (upd G5 d (.frz od u)) G6) : Keep c G0 (upd G6 d u) := fun a o ha h => by
  have h5 := K a o ha h
  by_cases z : a = d
  · subst z
    rw [hd] at h5
    cases h5
    exact upd_same
  · rw [upd_ne z]
    exact K2 a o ha ((upd_ne z).trans h5)
theorem Row.other {H : Hp} {p r : Addr} {m : Nat} {S : (Nat × Nat → Int) → Int} {o u : HO} (h : Row H p m S) (ne : p ≠ r) (hr : H r = some o) (no : ∀ xs, o ≠ .tup xs) : Row (upd H r u) p m S := by
  obtain ⟨es, kvs, a, b, c, d⟩ := h
  exact ⟨es, kvs, (upd_ne ne).trans a, b.same fun q x y e => (upd_ne fun z => by rw [z, hr] at e; exact no _ (Option.some.inj e)).trans e, c, d⟩
theorem low_sum {b n : Nat} (hb : 2 ≤ b) (hb2 : b ≤ 16) (h : n ≤ 1000000000000000000000000000001) : dsum b n ≤ 1199 := by
  by_cases c : b ≤ 12
  · have l := (dsum_less hb (p := 100) (i := n) (Nat.lt_of_lt_of_le (Nat.lt_of_le_of_lt h (by decide +kernel : 1000000000000000000000000000001 < 2 ^ 100)) (Nat.pow_le_pow_left hb 100))).1
    have e : 100 * (b - 1) ≤ 100 * 11 := Nat.mul_le_mul_left _ (by omega)
    omega
  · have l := (dsum_less hb (p := 30) (i := n) (Nat.lt_of_lt_of_le (Nat.lt_of_le_of_lt h (by decide +kernel : 1000000000000000000000000000001 < 13 ^ 30)) (Nat.pow_le_pow_left (by omega) 30))).1
    have e : 30 * (b - 1) ≤ 30 * 15 := Nat.mul_le_mul_left _ (by omega)
    omega
/-- how many of a stretch have a sum -/
def dfc (b f l s : Nat) : Int := cs b (l + 1) s - cs b f s
def WinP (b f l : Nat) (P : Nat → Prop) (es : Tly) : Prop := (es.map (·.1)).Nodup ∧ (∀ e ∈ es, e.1.2 = 0 ∧ e.1.1 ≤ 1199 ∧ e.2 = dfc b f l e.1.1 ∧ 0 < e.2 ∧ P e.1.1) ∧ ∀ s, P s → 0 < dfc b f l s → (s, 0) ∈ es.map (·.1)
theorem WinP.nil {b f l : Nat} {P : Nat → Prop} (h : ∀ s, ¬ P s) : WinP b f l P [] := ⟨List.Pairwise.nil, fun e m => (nomatch m), fun s p => absurd p (h s)⟩
theorem WinP.no {b f l k : Nat} {P : Nat → Prop} {es : Tly} (h : WinP b f l P es) (n : ¬ P k) : (k, 0) ∉ es.map (·.1) := fun m => by
  obtain ⟨e, he, ek⟩ := List.mem_map.mp m
  have := (h.2.1 e he).2.2.2.2
  rw [ek] at this
  exact n this
theorem WinP.put {b f l k : Nat} {d : Int} {P P2 : Nat → Prop} {es : Tly} (h : WinP b f l P es) (n : ¬ P k) (hk : k ≤ 1199) (hd : d = dfc b f l k) (pos : 0 < d) (hP : ∀ s, P2 s ↔ P s ∨ s = k) : WinP b f l P2 (es ++ [((k, 0), d)]) := by
  obtain ⟨h1, h2, h3⟩ := h
  refine ⟨?_, fun e m => ?_, fun s p z => ?_⟩
  · have hn := WinP.no ⟨h1, h2, h3⟩ n
    rw [List.map_append, List.nodup_append]
    refine ⟨h1, List.pairwise_singleton .., fun a ha b hb e => hn ?_⟩
    have hb2 : b = (k, 0) := by simpa using hb
    rw [e, hb2] at ha
    exact ha
  · rcases List.mem_append.mp m with m | m
    · obtain ⟨a1, a2, a3, a4, a5⟩ := h2 e m
      exact ⟨a1, a2, a3, a4, (hP _).mpr (.inl a5)⟩
    · have : e = ((k, 0), d) := by simpa using m
      subst this
      exact ⟨rfl, hk, hd, pos, (hP _).mpr (.inr rfl)⟩
  · rw [List.map_append, List.mem_append]
    rcases (hP s).mp p with q | q
    · exact .inl (h3 s q z)
    · subst q
      exact .inr (List.mem_cons_self ..)
theorem WinP.skip {b f l k : Nat} {P P2 : Nat → Prop} {es : Tly} (h : WinP b f l P es) (no : ¬ 0 < dfc b f l k) (hP : ∀ s, P2 s ↔ P s ∨ s = k) : WinP b f l P2 es := by
  obtain ⟨h1, h2, h3⟩ := h
  refine ⟨h1, fun e m => ?_, fun s p z => ?_⟩
  · obtain ⟨a1, a2, a3, a4, a5⟩ := h2 e m
    exact ⟨a1, a2, a3, a4, (hP _).mpr (.inl a5)⟩
  · rcases (hP s).mp p with q | q
    · exact h3 s q z
    · subst q
      exact absurd z no
theorem WinP.win {b f l : Nat} {P : Nat → Prop} {es : Tly} (h : WinP b f l P es) (all : ∀ s, 0 < dfc b f l s → P s) : Win b f l es :=
  ⟨h.1, fun e m => ⟨(h.2.1 e m).1, (h.2.1 e m).2.1, (h.2.1 e m).2.2.1, (h.2.1 e m).2.2.2.1⟩, fun s z => h.2.2 s (all s z) z⟩
/-- a sum that some number of the stretch has is a key -/
theorem key_all {b f l s : Nat} {es : Tly} (hb : 2 ≤ b) (hb2 : b ≤ 16) (hl : l ≤ 1000000000000000000000000000000) (hf : f ≤ l) (h : TalO b es (l + 1)) (z : 0 < dfc b f l s) : s ≤ 1199 ∧ (s, 0) ∈ es.map (·.1) := by
  obtain ⟨n, a, c, rfl⟩ := (cs_some (b := b) (s := s) (by omega : f ≤ l + 1)).2.mp z
  have hs := low_sum hb hb2 (show n ≤ 1000000000000000000000000000001 by omega)
  refine ⟨hs, Classical.byContradiction fun no => ?_⟩
  have e := h.look hs
  rw [look_none.mpr no] at e
  have e0 : cs b (l + 1) (dsum b n) = 0 := e.symm
  have := cs_nonneg b f (dsum b n)
  unfold dfc at z
  omega
theorem dfc_pos {b f l n : Nat} (hf : f ≤ n) (hn : n ≤ l) : 0 < dfc b f l (dsum b n) := (cs_some (b := b) (s := dsum b n) (by omega : f ≤ l + 1)).2.mpr ⟨n, hf, by omega, rfl⟩
theorem Win.num {b f l : Nat} {es : Tly} (hf : f ≤ l) (w : Win b f l es) {e : (Nat × Nat) × Int} (m : e ∈ es) : ∃ n, f ≤ n ∧ n ≤ l ∧ dsum b n = e.1.1 := by
  obtain ⟨_, _, a, c⟩ := w.2.1 e m
  rw [a] at c
  obtain ⟨n, h1, h2, h3⟩ := (cs_some (b := b) (s := e.1.1) (by omega : f ≤ l + 1)).2.mp c
  exact ⟨n, h1, by omega, h3⟩
theorem Win.key {b f l n : Nat} {es : Tly} (w : Win b f l es) (hf : f ≤ n) (hn : n ≤ l) : ∃ e ∈ es, e.1 = (dsum b n, 0) := by
  have h := w.2.2 (dsum b n) (dfc_pos hf hn)
  obtain ⟨e, m, h⟩ := List.mem_map.mp h
  exact ⟨e, m, h⟩
theorem Win.some {b f l : Nat} {es : Tly} (w : Win b f l es) (hf : f ≤ l) : (es.map fun e => (e.1.1 : Int)) ≠ [] := fun z => by
  obtain ⟨e, m, _⟩ := w.key (Nat.le_refl f) hf
  rw [List.map_eq_nil_iff] at z
  rw [z] at m
  cases m
theorem Win.max {b f l gs gn : Nat} {es : Tly} (hf : f ≤ l) (w : Win b f l es) (g : GEnd b f (l + 1) gs gn) {m : Int} (hm : m ∈ es.map fun e => (e.1.1 : Int)) (top : ∀ j ∈ es.map (fun e => (e.1.1 : Int)), j ≤ m) : m = (gs : Int) := by
  obtain ⟨e, he, rfl⟩ := List.mem_map.mp hm
  obtain ⟨n, n1, n2, n3⟩ := w.num hf he
  obtain ⟨g1, g2, g3, g4, _⟩ := g
  obtain ⟨e2, he2, k2⟩ := w.key g1 (by omega : gn ≤ l)
  have := top _ (List.mem_map_of_mem he2)
  rw [k2, g3] at this
  have h4 := g4 n n1 (by omega)
  have this : ((gs : Nat) : Int) ≤ (e.1.1 : Int) := this
  omega
theorem Win.min {b f l gs gn : Nat} {es : Tly} (hf : f ≤ l) (w : Win b f l es) (g : LEnd b f (l + 1) gs gn) {m : Int} (hm : m ∈ es.map fun e => (e.1.1 : Int)) (top : ∀ j ∈ es.map (fun e => (e.1.1 : Int)), m ≤ j) : m = (gs : Int) := by
  obtain ⟨e, he, rfl⟩ := List.mem_map.mp hm
  obtain ⟨n, n1, n2, n3⟩ := w.num hf he
  obtain ⟨g1, g2, g3, g4, _⟩ := g
  obtain ⟨e2, he2, k2⟩ := w.key g1 (by omega : gn ≤ l)
  have := top _ (List.mem_map_of_mem he2)
  rw [k2, g3] at this
  have h4 := g4 n n1 (by omega)
  have this : (e.1.1 : Int) ≤ ((gs : Nat) : Int) := this
  omega
/-- what an end is: the first number of the stretch with its sum -/
def EndF (b f l s n : Nat) : Prop := f ≤ n ∧ n ≤ l ∧ dsum b n = s ∧ ∀ k, f ≤ k → k < n → dsum b k ≠ s
theorem GEnd.endF {b f l s n : Nat} (hf : f ≤ l) (h : GEnd b f (l + 1) s n) : EndF b f l s n := ⟨h.1, by have := h.2.1; omega, h.2.2.1, fun k a c => Nat.ne_of_lt (h.2.2.2.2 k a c)⟩
theorem LEnd.endF {b f l s n : Nat} (hf : f ≤ l) (h : LEnd b f (l + 1) s n) : EndF b f l s n := ⟨h.1, by have := h.2.1; omega, h.2.2.1, fun k a c => (Nat.ne_of_lt (h.2.2.2.2 k a c)).symm⟩
theorem Win.none {b f l n s : Nat} {es : Tly} (h : EndF b f l s n) (hn : f < n) (w : Win b f (n - 1) es) : look es (s, 0) = none := look_none.mpr fun m => by
  obtain ⟨e, he, k⟩ := List.mem_map.mp m
  obtain ⟨x, x1, x2, x3⟩ := w.num (by omega) he
  rw [k] at x3
  exact h.2.2.2 x x1 (by omega) x3
theorem sum_keys (h : Nat → Int) (N : Nat) : ∀ es : Tly, (es.map (·.1)).Nodup → (∀ e ∈ es, e.1.2 = 0 ∧ e.1.1 < N) → (es.map fun e => h e.1.1).sum = sumI (fun s => if (s, 0) ∈ es.map (·.1) then h s else 0) N
  | [], _, _ => by
    have e : sumI (fun s => if (s, 0) ∈ (([] : Tly).map (·.1)) then h s else 0) N = sumI (fun _ => 0) N := sumI_congr fun s _ => if_neg (by simp)
    rw [e, sumI_zero]
    rfl
  | e :: es, nd, k => by
    rw [List.map_cons, List.nodup_cons] at nd
    obtain ⟨k0, kN⟩ := k e (List.mem_cons_self ..)
    have ke := key0 k0
    have ih := sum_keys h N es nd.2 fun x m => k x (List.mem_cons_of_mem _ m)
    have q : sumI (fun s => if (s, 0) ∈ ((e :: es).map (·.1)) then h s else 0) N = sumI (fun s => (if s = e.1.1 then h s else 0) + if (s, 0) ∈ es.map (·.1) then h s else 0) N := sumI_congr fun s _ => by
      by_cases c : s = e.1.1
      · subst c
        have no : (e.1.1, 0) ∉ es.map (·.1) := by rw [← ke]; exact nd.1
        rw [if_pos rfl, if_neg no, if_pos (by rw [List.map_cons, ← ke]; exact List.mem_cons_self ..), Int.add_zero]
      · rw [if_neg c, Int.zero_add]
        by_cases d : (s, 0) ∈ es.map (·.1)
        · rw [if_pos d, if_pos (show (s, 0) ∈ (e :: es).map (·.1) by rw [List.map_cons]; exact List.mem_cons_of_mem _ d)]
        · rw [if_neg d, if_neg fun z => by
            rw [List.map_cons, List.mem_cons] at z
            rcases z with z | z
            · exact c (congrArg Prod.fst z)
            · exact d z]
    rw [q, sumI_add, sumI_pick e.1.1 h N kN, ← ih]
    rfl
theorem cs_sum {b N M : Nat} (g : Nat → Int) (h : ∀ n, n < N → dsum b n < M) : sumI (fun s => cs b N s * g s) M = sumI (fun n => g (dsum b n)) N := by
  have e1 : sumI (fun s => cs b N s * g s) M = sumI (fun s => sumI (fun n => if dsum b n = s then g s else 0) N) M := sumI_congr fun s _ => by
    unfold cs
    rw [Int.mul_comm, ← sumI_mul]
    exact sumI_congr fun n _ => by
      by_cases c : dsum b n = s
      · rw [if_pos c, if_pos c, Int.mul_one]
      · rw [if_neg c, if_neg c, Int.mul_zero]
  rw [e1, sumI_swap (fun s n => if dsum b n = s then g s else 0)]
  refine sumI_congr fun n hn => ?_
  have e2 : sumI (fun s => if dsum b n = s then g s else 0) M = sumI (fun s => if s = dsum b n then g s else 0) M := sumI_congr fun s _ => by
    by_cases c : dsum b n = s
    · rw [if_pos c, if_pos c.symm]
    · rw [if_neg c, if_neg fun z => c z.symm]
  rw [e2]
  exact sumI_pick (dsum b n) g M (h n hn)
theorem Win.sum {b f l : Nat} {es : Tly} (hb : 2 ≤ b) (hb2 : b ≤ 16) (hf : f ≤ l) (hl : l ≤ 1000000000000000000000000000000) (w : Win b f l es) (g : Nat → Int) : (es.map fun e => e.2 * g e.1.1).sum = sumI (fun n => g (dsum b n)) (l + 1) - sumI (fun n => g (dsum b n)) f := by
  have e0 : (es.map fun e => e.2 * g e.1.1) = es.map fun e => dfc b f l e.1.1 * g e.1.1 := List.map_congr_left fun e m => by rw [(w.2.1 e m).2.2.1]; rfl
  rw [e0, sum_keys (fun s => dfc b f l s * g s) 1200 es w.1 fun e m => ⟨(w.2.1 e m).1, by have := (w.2.1 e m).2.1; omega⟩]
  have e1 : sumI (fun s => if (s, 0) ∈ es.map (·.1) then dfc b f l s * g s else 0) 1200 = sumI (fun s => cs b (l + 1) s * g s - cs b f s * g s) 1200 := sumI_congr fun s _ => by
    rw [← Int.sub_mul]
    by_cases c : (s, 0) ∈ es.map (·.1)
    · rw [if_pos c]
      rfl
    · rw [if_neg c]
      have z : dfc b f l s = 0 := by
        have h0 := (cs_some (b := b) (s := s) (by omega : f ≤ l + 1)).1
        have h1 : ¬ 0 < dfc b f l s := fun z => c (w.2.2 s z)
        have h0 : 0 ≤ dfc b f l s := h0
        omega
      show 0 = dfc b f l s * g s
      rw [z, Int.zero_mul]
  rw [e1, sumI_sub, cs_sum g fun n hn => by have := low_sum hb hb2 (show n ≤ 1000000000000000000000000000001 by omega); omega, cs_sum g fun n hn => by have := low_sum hb hb2 (show n ≤ 1000000000000000000000000000001 by omega); omega]
theorem Win.look {b f l s : Nat} {es : Tly} (hf : f ≤ l) (w : Win b f l es) : (M.look es (s, 0)).getD 0 = dfc b f l s := by
  by_cases c : (s, 0) ∈ es.map (·.1)
  · obtain ⟨e, m, k⟩ := List.mem_map.mp c
    have h := look_mem w.1 m
    rw [k] at h
    rw [h]
    have h2 := (w.2.1 e m).2.2.1
    rw [k] at h2
    exact h2
  · rw [look_none.mpr c]
    have h0 : 0 ≤ dfc b f l s := (cs_some (b := b) (s := s) (by omega : f ≤ l + 1)).1
    have h1 : ¬ 0 < dfc b f l s := fun z => c (w.2.2 s z)
    show 0 = dfc b f l s
    omega
theorem tot_sum (b : Nat) : ∀ N, ((tot b N : Nat) : Int) = sumI (fun n => ((dsum b n : Nat) : Int)) N
  | 0 => rfl
  | N + 1 => by
    rw [tot_succ, Int.natCast_add, tot_sum b N]
    rfl
theorem Win.short {b f l : Nat} {es : Tly} (w : Win b f l es) : es.length ≤ 1200 := by
  have h0 : (es.map fun z => z.1.1).Nodup := by
    have hw := w.1
    unfold List.Nodup at hw ⊢
    rw [List.pairwise_map] at hw ⊢
    refine List.Pairwise.imp_of_mem (fun {x y} hx hy ne z => ne ?_) hw
    rw [key0 (w.2.1 x hx).1, key0 (w.2.1 y hy).1, z]
  have h1 := few_nodup 1200 _ h0 fun y hy => by
    obtain ⟨x, hx, rfl⟩ := List.mem_map.mp hy
    have := (w.2.1 x hx).2.1
    omega
  rw [List.length_map] at h1
  exact h1
def mw (D r x : Nat) : Int := if x % D = r then 1 else 0
theorem rest_sum (b D r N : Nat) : sumI (fun n => mw D r (dsum b n)) N = CR b (fun _ => 1) D 0 N r := by
  unfold CR
  refine sumI_congr fun n _ => ?_
  rw [wg_one b (fun _ => rfl), ← Int.natCast_emod]
  unfold mw
  by_cases c : dsum b n % D = r
  · rw [if_pos c, if_pos (by rw [c])]
  · rw [if_neg c, if_neg fun z => c (by omega)]
end M

set_option Elab.async false
set_option linter.all false
set_option maxRecDepth 100000
namespace M
open PySem L2 Z
/-! from which rests and sums so many figures more lead to a rest 0 and a sum -/
def lead (b d t k r s : Nat) : Prop := ∃ x, x < b ^ k ∧ (r * b ^ k + x) % d = 0 ∧ s + dsum b x = t
theorem lead_none {b d t r s : Nat} (hb : 2 ≤ b) : lead b d t 0 r s ↔ r % d = 0 ∧ s = t := by
  constructor
  · rintro ⟨x, h1, h2, h3⟩
    have : x = 0 := by rw [Nat.pow_zero] at h1; omega
    subst this
    rw [Nat.pow_zero, Nat.mul_one, Nat.add_zero] at h2
    rw [dsum_zero hb] at h3
    exact ⟨h2, by omega⟩
  · rintro ⟨h1, h2⟩
    exact ⟨0, by rw [Nat.pow_zero]; omega, by rw [Nat.pow_zero, Nat.mul_one, Nat.add_zero]; exact h1, by rw [dsum_zero hb]; omega⟩
theorem mod_put (d r f p x : Nat) : (r % d * p + x) % d = (r * p + x) % d := by
  rw [Nat.add_mod (r % d * p), Nat.mod_mul_mod, ← Nat.add_mod]
theorem lead_more {b d t k r s : Nat} (hb : 2 ≤ b) : lead b d t (k + 1) r s ↔ ∃ f, f < b ∧ lead b d t k ((r * b + f) % d) (s + f) := by
  have hp : 0 < b ^ k := Nat.pow_pos (by omega)
  have e0 : ∀ f y, r * b ^ (k + 1) + (f * b ^ k + y) = (r * b + f) * b ^ k + y := fun f y => by
    rw [Nat.add_mul, Nat.pow_succ, Nat.mul_assoc, Nat.mul_comm b, Nat.add_assoc]
  constructor
  · rintro ⟨x, h1, h2, h3⟩
    have hf : x / b ^ k < b := Nat.div_lt_of_lt_mul (by rw [← Nat.pow_succ]; exact h1)
    have hy : x % b ^ k < b ^ k := Nat.mod_lt _ hp
    have ex : x = x / b ^ k * b ^ k + x % b ^ k := (Nat.div_add_mod' x (b ^ k)).symm
    refine ⟨x / b ^ k, hf, x % b ^ k, hy, ?_, ?_⟩
    · rw [mod_put d _ 0, ← e0, ← ex]
      exact h2
    · rw [ex, dsum_low hb _ k _ hy, dsum_small hf] at h3
      omega
  · rintro ⟨f, hf, y, h1, h2, h3⟩
    refine ⟨f * b ^ k + y, ?_, ?_, ?_⟩
    · have := Nat.mul_le_mul_right (b ^ k) (show f + 1 ≤ b by omega)
      rw [Nat.pow_succ, Nat.mul_comm (b ^ k)]
      rw [Nat.add_mul] at this
      omega
    · rw [e0, ← mod_put d _ 0]
      exact h2
    · rw [dsum_low hb _ k _ h1, dsum_small hf]
      omega
/-- a first figure that leads to it: a multiple of so many figures more -/
theorem lead_mul {b d t k f : Nat} (hb : 2 ≤ b) (hf : f < b) : lead b d t k (f % d) f ↔ ∃ y, y < b ^ k ∧ Mul b d t (f * b ^ k + y) := by
  constructor
  · rintro ⟨y, h1, h2, h3⟩
    refine ⟨y, h1, ?_, ?_⟩
    · rw [dsum_low hb _ k _ h1, dsum_small hf]
      omega
    · rw [← mod_put d _ 0]
      exact h2
  · rintro ⟨y, h1, h2, h3⟩
    refine ⟨y, h1, ?_, ?_⟩
    · rw [mod_put d _ 0]
      exact h3
    · rw [dsum_low hb _ k _ h1, dsum_small hf] at h2
      omega
/-- so far written and a figure behind: it leads just where a multiple begins so -/
theorem lead_head {b d t j N f : Nat} (hb : 2 ≤ b) (hf : f < b) : lead b d t j ((N % d * b + f) % d) (dsum b N + f) ↔ ∃ y, y < b ^ j ∧ Mul b d t ((N * b + f) * b ^ j + y) := by
  have e : (N % d * b + f) % d = (N * b + f) % d := mod_put d N 0 b f
  rw [e]
  constructor
  · rintro ⟨y, h1, h2, h3⟩
    refine ⟨y, h1, ?_, ?_⟩
    · rw [dsum_low hb _ j _ h1, dsum_snoc hb hf]
      exact h3
    · rw [← mod_put d _ 0]
      exact h2
  · rintro ⟨y, h1, h2, h3⟩
    refine ⟨y, h1, ?_, ?_⟩
    · rw [mod_put d _ 0]
      exact h3
    · rw [dsum_low hb _ j _ h1, dsum_snoc hb hf] at h2
      exact h2
theorem lead_least {b d t m j : Nat} (hb : 2 ≤ b) (h : Mul b d t m) (least : ∀ k, Mul b d t k → m ≤ k) : lead b d t j ((m / b ^ (j + 1) % d * b + m / b ^ j % b) % d) (dsum b (m / b ^ (j + 1)) + m / b ^ j % b) ∧ ∀ f, f < m / b ^ j % b → ¬ lead b d t j ((m / b ^ (j + 1) % d * b + f) % d) (dsum b (m / b ^ (j + 1)) + f) := by
  have hp : 0 < b ^ j := Nat.pow_pos (by omega)
  have hf : m / b ^ j % b < b := Nat.mod_lt _ (by omega)
  have e1 : m / b ^ (j + 1) * b + m / b ^ j % b = m / b ^ j := by
    rw [Nat.pow_succ, ← Nat.div_div_eq_div_mul]
    exact Nat.div_add_mod' _ _
  have e2 : m / b ^ j * b ^ j + m % b ^ j = m := Nat.div_add_mod' _ _
  refine ⟨(lead_head hb hf).mpr ⟨m % b ^ j, Nat.mod_lt _ hp, by rw [e1, e2]; exact h⟩, fun f lt w => ?_⟩
  obtain ⟨y, h1, h2⟩ := (lead_head hb (by omega : f < b)).mp w
  have a := least _ h2
  have c := Nat.mul_le_mul_right (b ^ j) (show m / b ^ (j + 1) * b + f + 1 ≤ m / b ^ j by omega)
  rw [Nat.add_mul _ 1, Nat.one_mul] at c
  have c2 := Nat.le_trans c (Nat.div_mul_le_self m (b ^ j))
  generalize (m / b ^ (j + 1) * b + f) * b ^ j = A at a c2
  omega
/-- the least multiple stands where first a figure leads to one -/
theorem lead_first {b d t k m : Nat} (hb : 2 ≤ b) (h : Mul b d t m) (least : ∀ n, Mul b d t n → m ≤ n) (no : ∀ j, j < k → ∀ f, 1 ≤ f → f < b → ¬ lead b d t j (f % d) f) (yes : ∃ f, 1 ≤ f ∧ f < b ∧ lead b d t k (f % d) f) : b ^ k ≤ m ∧ m < b ^ (k + 1) := by
  have hp : 0 < b ^ k := Nat.pow_pos (by omega)
  refine ⟨?_, ?_⟩
  · refine Nat.le_of_not_lt fun lt => ?_
    have m0 : 0 < m := by
      obtain ⟨f, f1, fb, w⟩ := yes
      obtain ⟨y, y1, y2⟩ := (lead_mul hb fb).mp w
      refine Nat.pos_of_ne_zero fun z => ?_
      subst z
      have h0 := h.1
      rw [dsum_zero hb] at h0
      have hs := y2.1
      rw [dsum_low hb _ k _ y1, dsum_small fb] at hs
      omega
    obtain ⟨j, j1, j2⟩ : ∃ j, b ^ j ≤ m ∧ m < b ^ (j + 1) := by
      have base : ∀ n : Nat, m < b ^ n → ∃ j, b ^ j ≤ m ∧ m < b ^ (j + 1) := fun n => by
        induction n with
        | zero => intro h; rw [Nat.pow_zero] at h; omega
        | succ n ih =>
          intro h
          by_cases c : b ^ n ≤ m
          · exact ⟨n, c, h⟩
          · exact ih (by omega)
      exact base k lt
    have jk : j < k := Nat.lt_of_not_le fun le => by
      have := Nat.pow_le_pow_right (show 0 < b by omega) le
      omega
    have hq : 0 < b ^ j := Nat.pow_pos (by omega)
    have f1 : 1 ≤ m / b ^ j := (Nat.le_div_iff_mul_le hq).mpr (by omega)
    have fb : m / b ^ j < b := Nat.div_lt_of_lt_mul (by rw [← Nat.pow_succ]; exact j2)
    exact no j jk (m / b ^ j) f1 fb ((lead_mul hb fb).mpr ⟨m % b ^ j, Nat.mod_lt _ hq, by rw [Nat.div_add_mod']; exact h⟩)
  · obtain ⟨f, f1, fb, w⟩ := yes
    obtain ⟨y, y1, y2⟩ := (lead_mul hb fb).mp w
    have a := least _ y2
    have c := Nat.mul_le_mul_right (b ^ k) (show f + 1 ≤ b by omega)
    rw [Nat.add_mul, Nat.one_mul] at c
    rw [Nat.pow_succ, Nat.mul_comm (b ^ k)]
    omega
/-- what holds 0 and all that follows holds all numbers -/
theorem come_all {b d t : Nat} {K : Nat → Nat → Prop} (hb : 2 ≤ b) (h0 : K 0 0) (next : ∀ r s, K r s → ∀ f, f < b → s + f ≤ t → K ((r * b + f) % d) (s + f)) : ∀ n, dsum b n ≤ t → K (n % d) (dsum b n) := fun n => by
  induction n using Nat.strongRecOn with
  | ind n ih =>
    intro le
    by_cases c : n < b
    · have e := dsum_small c
      rw [e] at le ⊢
      have := next 0 0 h0 n c (by omega)
      rw [Nat.zero_mul, Nat.zero_add] at this
      exact this
    · have hf : n % b < b := Nat.mod_lt _ (by omega)
      have en : n / b * b + n % b = n := Nat.div_add_mod' n b
      have ds : dsum b n = dsum b (n / b) + n % b := by
        have := dsum_snoc hb (n := n / b) hf
        rw [en] at this
        exact this
      have lt : n / b < n := Nat.div_lt_self (by omega) (by omega)
      have k := next _ _ (ih (n / b) lt (by omega)) (n % b) hf (by omega)
      rw [← ds] at k
      have e : (n / b % d * b + n % b) % d = n % d := by
        rw [mod_put d (n / b) 0 b (n % b), en]
      rw [e] at k
      exact k
end M

set_option Elab.async false
set_option linter.all false
set_option maxRecDepth 100000
namespace M
open PySem L2 Z
/-! which rests and sums some number comes to; how long the least multiple is -/
def nx (b d : Nat) (q : Nat × Nat) (f : Nat) : Nat × Nat := ((q.1 * b + f) % d, q.2 + f)
theorem nx_st {b d n f : Nat} (hb : 2 ≤ b) (hf : f < b) : nx b d (st b d n) f = st b d (n * b + f) := by
  show ((n % d * b + f) % d, dsum b n + f) = ((n * b + f) % d, dsum b (n * b + f))
  rw [dsum_snoc hb hf, mod_put d n 0 b f]
/-- states met: those of W and B are still to be gone on from -/
structure Cm (b d t : Nat) (X W B : List (Nat × Nat)) : Prop where
  z : (0, 0) ∈ X
  nd : X.Nodup
  num : ∀ q ∈ X, q.2 ≤ t ∧ ∃ n, q = st b d n
  wb : ∀ q, q ∈ W ∨ q ∈ B → q ∈ X
  set : ∀ q ∈ X, q ∈ W ∨ q ∈ B ∨ ∀ f, f < b → q.2 + f ≤ t → nx b d q f ∈ X
theorem Cm.first {b d t : Nat} (hb : 2 ≤ b) : Cm b d t [(0, 0)] [(0, 0)] [] := by
  refine ⟨List.mem_singleton.mpr rfl, List.nodup_cons.mpr ⟨fun h => (nomatch h), List.nodup_nil⟩, fun q h => ?_, fun q h => h.elim id fun y => (nomatch y), fun q h => .inl h⟩
  rw [List.mem_singleton.mp h]
  refine ⟨Nat.zero_le _, 0, ?_⟩
  show (0, 0) = (0 % d, dsum b 0)
  rw [dsum_zero hb, Nat.zero_mod]
theorem Cm.add {b d t f : Nat} {X W B : List (Nat × Nat)} {q : Nat × Nat} (hb : 2 ≤ b) (h : Cm b d t X W B) (hq : q ∈ X) (hf : f < b) (hs : q.2 + f ≤ t) (no : nx b d q f ∉ X) : Cm b d t (X ++ [nx b d q f]) W (B ++ [nx b d q f]) := by
  have inX : ∀ {p}, p ∈ X → p ∈ X ++ [nx b d q f] := fun m => List.mem_append.mpr (.inl m)
  have last : nx b d q f ∈ X ++ [nx b d q f] := List.mem_append.mpr (.inr (List.mem_singleton.mpr rfl))
  refine ⟨inX h.z, ?_, fun p hp => ?_, fun p hp => ?_, fun p hp => ?_⟩
  · rw [List.nodup_append]
    refine ⟨h.nd, List.nodup_cons.mpr ⟨fun h => (nomatch h), List.nodup_nil⟩, fun a ha c hc e => ?_⟩
    rw [List.mem_singleton.mp hc] at e
    exact no (e ▸ ha)
  · rcases List.mem_append.mp hp with m | m
    · exact h.num p m
    · rw [List.mem_singleton.mp m]
      obtain ⟨_, n, e⟩ := h.num q hq
      refine ⟨hs, n * b + f, ?_⟩
      rw [e, nx_st hb hf]
  · rcases hp with m | m
    · exact inX (h.wb p (.inl m))
    · rcases List.mem_append.mp m with m | m
      · exact inX (h.wb p (.inr m))
      · rw [List.mem_singleton.mp m]; exact last
  · rcases List.mem_append.mp hp with m | m
    · rcases h.set p m with k | k | k
      · exact .inl k
      · exact .inr (.inl (List.mem_append.mpr (.inl k)))
      · exact .inr (.inr fun f h1 h2 => inX (k f h1 h2))
    · rw [List.mem_singleton.mp m]
      exact .inr (.inl (List.mem_append.mpr (.inr (List.mem_singleton.mpr rfl))))
theorem Cm.settle {b d t : Nat} {X W B : List (Nat × Nat)} {q : Nat × Nat} (h : Cm b d t X (q :: W) B) (k : ∀ f, f < b → q.2 + f ≤ t → nx b d q f ∈ X) : Cm b d t X W B := by
  refine ⟨h.z, h.nd, h.num, fun p hp => h.wb p (hp.imp (List.mem_cons_of_mem _) id), fun p hp => ?_⟩
  rcases h.set p hp with m | m | m
  · rcases List.mem_cons.mp m with e | m
    · rw [e]; exact .inr (.inr k)
    · exact .inl m
  · exact .inr (.inl m)
  · exact .inr (.inr m)
theorem Cm.turn {b d t : Nat} {X B : List (Nat × Nat)} (h : Cm b d t X [] B) : Cm b d t X B [] :=
  ⟨h.z, h.nd, h.num, fun p hp => h.wb p (hp.elim .inr fun y => (nomatch y)), fun p hp => (h.set p hp).elim (fun y => (nomatch y)) fun y => y.elim .inl fun k => .inr (.inr k)⟩
theorem Cm.ends {b d t : Nat} {X : List (Nat × Nat)} (hb : 2 ≤ b) (h : Cm b d t X [] []) : (0, t) ∈ X ↔ ∃ m, Mul b d t m := by
  constructor
  · intro m
    obtain ⟨_, n, e⟩ := h.num _ m
    exact ⟨n, (congrArg Prod.snd e).symm, (congrArg Prod.fst e).symm⟩
  · rintro ⟨m, m1, m2⟩
    have := come_all (K := fun r s => (r, s) ∈ X) (b := b) (d := d) (t := t) hb h.z (fun r s hk f hf hs => by
      rcases h.set _ hk with y | y | y
      · exact (nomatch y)
      · exact (nomatch y)
      · exact y f hf hs) m (by omega)
    rw [m1, m2] at this
    exact this
theorem Cm.few {b d t : Nat} {X W B : List (Nat × Nat)} (hd : 0 < d) (h : Cm b d t X W B) : X.length ≤ d * (t + 1) := by
  have nd2 : (X.map fun q => q.1 * (t + 1) + q.2).Nodup := by
    unfold List.Nodup
    rw [List.pairwise_map]
    refine h.nd.imp_of_mem fun {a c} ha hc ne e => ne ?_
    have a2 := (h.num a ha).1
    have c2 := (h.num c hc).1
    have e1 : (a.1 * (t + 1) + a.2) / (t + 1) = (c.1 * (t + 1) + c.2) / (t + 1) := by rw [e]
    rw [Nat.mul_comm a.1, Nat.mul_comm c.1, Nat.mul_add_div (by omega), Nat.mul_add_div (by omega), Nat.div_eq_of_lt (by omega), Nat.div_eq_of_lt (by omega)] at e1
    have e1 : a.1 = c.1 := e1
    rw [e1] at e
    exact Prod.ext e1 (by omega)
  have := few_of (D := d * (t + 1)) nd2 fun r hr => by
    obtain ⟨q, hq, rfl⟩ := List.mem_map.mp hr
    obtain ⟨q2, n, e⟩ := h.num q hq
    have q1 : q.1 < d := by rw [e]; exact Nat.mod_lt _ hd
    have := Nat.mul_le_mul_right (t + 1) (show q.1 + 1 ≤ d by omega)
    rw [Nat.add_mul, Nat.one_mul] at this
    omega
  rw [List.length_map] at this
  exact this
/-- the least one of all that are so -/
theorem least_in {P : Nat → Prop} (h : ∃ n, P n) : ∃ n, P n ∧ ∀ m, P m → n ≤ m := by
  obtain ⟨n, hn⟩ := h
  induction n using Nat.strongRecOn with
  | ind n ih =>
    by_cases c : ∃ m, m < n ∧ P m
    · obtain ⟨m, l, k⟩ := c
      exact ih m l k
    · exact ⟨n, hn, fun m k => Nat.le_of_not_lt fun l => c ⟨m, l, k⟩⟩
/-- the least multiple has not more figures than there are rests and sums -/
theorem least_short {b d t m : Nat} (hb : 2 ≤ b) (hd : 0 < d) (h : Mul b d t m) (least : ∀ n, Mul b d t n → m ≤ n) : m < b ^ (d * (t + 1)) := by
  refine Nat.lt_of_not_le fun le => ?_
  have split : ∀ j, dsum b m = dsum b (m / b ^ j) + dsum b (m % b ^ j) := fun j => by
    have := dsum_low hb (m / b ^ j) j (m % b ^ j) (Nat.mod_lt _ (Nat.pow_pos (by omega)))
    rw [Nat.div_add_mod'] at this
    exact this
  have small : ∀ j, dsum b (m / b ^ j) ≤ t := fun j => by
    have := split j
    rw [h.1] at this
    omega
  obtain ⟨i, j, ij, jC, e⟩ := pigeon (fun j => m / b ^ j % d * (t + 1) + dsum b (m / b ^ j)) (d * (t + 1)) fun j => by
    have := Nat.mul_le_mul_right (t + 1) (show m / b ^ j % d + 1 ≤ d from Nat.mod_lt _ hd)
    rw [Nat.add_mul, Nat.one_mul] at this
    have := small j
    show m / b ^ j % d * (t + 1) + dsum b (m / b ^ j) < _
    omega
  have e : m / b ^ i % d * (t + 1) + dsum b (m / b ^ i) = m / b ^ j % d * (t + 1) + dsum b (m / b ^ j) := e
  have si := small i
  have sj := small j
  have e1 : (m / b ^ i % d * (t + 1) + dsum b (m / b ^ i)) / (t + 1) = (m / b ^ j % d * (t + 1) + dsum b (m / b ^ j)) / (t + 1) := by rw [e]
  rw [Nat.mul_comm (m / b ^ i % d), Nat.mul_comm (m / b ^ j % d), Nat.mul_add_div (by omega), Nat.mul_add_div (by omega), Nat.div_eq_of_lt (show dsum b (m / b ^ i) < t + 1 by omega), Nat.div_eq_of_lt (show dsum b (m / b ^ j) < t + 1 by omega)] at e1
  have e1 : m / b ^ i % d = m / b ^ j % d := e1
  have e2 : dsum b (m / b ^ i) = dsum b (m / b ^ j) := by rw [e1] at e; omega
  have pi : 0 < b ^ i := Nat.pow_pos (by omega)
  have ri : m % b ^ i < b ^ i := Nat.mod_lt _ pi
  have new : Mul b d t (m / b ^ j * b ^ i + m % b ^ i) := by
    refine ⟨?_, ?_⟩
    · rw [dsum_low hb _ i _ ri, ← e2, ← split i]
      exact h.1
    · rw [← mod_put d _ 0, ← e1, mod_put d _ 0, Nat.div_add_mod']
      exact h.2
  have l := least _ new
  have lt : m / b ^ j < m / b ^ i := by
    have e3 : b ^ j = b ^ i * b ^ (j - i) := by rw [← Nat.pow_add]; congr 1; omega
    rw [e3, ← Nat.div_div_eq_div_mul]
    refine Nat.div_lt_self ?_ ?_
    · refine Nat.div_pos (Nat.le_trans (Nat.pow_le_pow_right (by omega) (by omega)) le) pi
    · exact Nat.one_lt_pow (by omega) (by omega)
  have g := Nat.mul_le_mul_right (b ^ i) (show m / b ^ j + 1 ≤ m / b ^ i from lt)
  rw [Nat.add_mul, Nat.one_mul] at g
  have := Nat.div_add_mod' m (b ^ i)
  omega
/-- the states that so many figures more lead to the end, as keys -/
def Ld (b d t k : Nat) (X : List (Nat × Nat)) : Prop := X.Nodup ∧ ∀ r s, (r, s) ∈ X ↔ r < d ∧ 1 ≤ s ∧ s ≤ t ∧ lead b d t k r s
theorem Ld.first {b d t : Nat} (hb : 2 ≤ b) (hd : 0 < d) (ht : 1 ≤ t) : Ld b d t 0 [(0, t)] := by
  refine ⟨List.nodup_cons.mpr ⟨fun h => (nomatch h), List.nodup_nil⟩, fun r s => ?_⟩
  rw [lead_none hb, List.mem_singleton]
  constructor
  · intro e
    have e1 : r = 0 := congrArg Prod.fst e
    have e2 : s = t := congrArg Prod.snd e
    subst e1 e2
    exact ⟨hd, ht, Nat.le_refl _, Nat.zero_mod _, rfl⟩
  · rintro ⟨h1, _, _, h2, h3⟩
    rw [Nat.mod_eq_of_lt h1] at h2
    rw [h2, h3]
theorem Ld.few {b d t k : Nat} {X : List (Nat × Nat)} (h : Ld b d t k X) : X.length ≤ d * (t + 1) := by
  have nd2 : (X.map fun q => q.1 * (t + 1) + q.2).Nodup := by
    unfold List.Nodup
    rw [List.pairwise_map]
    refine h.1.imp_of_mem fun {a c} ha hc ne e => ne ?_
    have a2 := ((h.2 a.1 a.2).mp ha).2.2.1
    have c2 := ((h.2 c.1 c.2).mp hc).2.2.1
    have e1 : (a.1 * (t + 1) + a.2) / (t + 1) = (c.1 * (t + 1) + c.2) / (t + 1) := by rw [e]
    rw [Nat.mul_comm a.1, Nat.mul_comm c.1, Nat.mul_add_div (by omega), Nat.mul_add_div (by omega), Nat.div_eq_of_lt (by omega), Nat.div_eq_of_lt (by omega)] at e1
    have e1 : a.1 = c.1 := e1
    rw [e1] at e
    exact Prod.ext e1 (by omega)
  have := few_of (D := d * (t + 1)) nd2 fun r hr => by
    obtain ⟨q, hq, rfl⟩ := List.mem_map.mp hr
    obtain ⟨q1, _, q2, _⟩ := (h.2 q.1 q.2).mp hq
    have := Nat.mul_le_mul_right (t + 1) (show q.1 + 1 ≤ d by omega)
    rw [Nat.add_mul, Nat.one_mul] at this
    omega
  rw [List.length_map] at this
  exact this
theorem smet_again {qs : List (Nat × Nat)} {r : Nat × Nat} (h : r ∈ qs) : putK (smet qs) (keyT r) (.bl true) = smet qs := by
  unfold putK
  rw [if_pos (by rw [valV_any, smet_has h]; rfl)]
  unfold smet
  rw [List.map_map]
  refine List.map_congr_left fun q _ => ?_
  show (if keyT q = keyT r then (keyT q, V.bl true) else (keyT q, V.bl true)) = _
  split <;> rfl
/-- one more key: the same dict, or one behind -/
theorem smet_add {qs : List (Nat × Nat)} (nd : qs.Nodup) (r : Nat × Nat) : ∃ ls, putK (smet qs) (keyT r) (.bl true) = smet ls ∧ ls.Nodup ∧ ls.length ≤ qs.length + 1 ∧ ∀ x, x ∈ ls ↔ x ∈ qs ∨ x = r := by
  by_cases c : r ∈ qs
  · exact ⟨qs, smet_again c, nd, Nat.le_succ _, fun x => ⟨.inl, fun h => h.elim id fun e => e ▸ c⟩⟩
  · refine ⟨qs ++ [r], smet_put c, ?_, by rw [List.length_append]; exact Nat.le_refl _, fun x => by rw [List.mem_append, List.mem_singleton]⟩
    rw [List.nodup_append]
    refine ⟨nd, List.nodup_cons.mpr ⟨fun h => (nomatch h), List.nodup_nil⟩, fun a ha x hx e => ?_⟩
    rw [List.mem_singleton.mp hx] at e
    exact c (e ▸ ha)
theorem pairs_few {d t : Nat} {X : List (Nat × Nat)} (nd : X.Nodup) (h : ∀ q ∈ X, q.1 < d ∧ q.2 ≤ t) : X.length ≤ d * (t + 1) := by
  have nd2 : (X.map fun q => q.1 * (t + 1) + q.2).Nodup := by
    unfold List.Nodup
    rw [List.pairwise_map]
    refine nd.imp_of_mem fun {a c} ha hc ne e => ne ?_
    have a2 := (h a ha).2
    have c2 := (h c hc).2
    have e1 : (a.1 * (t + 1) + a.2) / (t + 1) = (c.1 * (t + 1) + c.2) / (t + 1) := by rw [e]
    rw [Nat.mul_comm a.1, Nat.mul_comm c.1, Nat.mul_add_div (by omega), Nat.mul_add_div (by omega), Nat.div_eq_of_lt (by omega), Nat.div_eq_of_lt (by omega)] at e1
    have e1 : a.1 = c.1 := e1
    rw [e1] at e
    exact Prod.ext e1 (by omega)
  have := few_of (D := d * (t + 1)) nd2 fun r hr => by
    obtain ⟨q, hq, rfl⟩ := List.mem_map.mp hr
    obtain ⟨q1, q2⟩ := h q hq
    have := Nat.mul_le_mul_right (t + 1) (show q.1 + 1 ≤ d by omega)
    rw [Nat.add_mul, Nat.one_mul] at this
    omega
  rw [List.length_map] at this
  exact this
/-- keys told by what they are -/
def Kp (X : List (Nat × Nat)) (P : Nat → Nat → Prop) : Prop := X.Nodup ∧ ∀ r s, (r, s) ∈ X ↔ P r s
theorem Kp.none_ : Kp [] fun _ _ => False := ⟨List.nodup_nil, fun r s => ⟨fun h => (nomatch h), fun h => h.elim⟩⟩
theorem Kp.to {X : List (Nat × Nat)} {P P2 : Nat → Nat → Prop} (h : Kp X P) (e : ∀ r s, P r s ↔ P2 r s) : Kp X P2 := ⟨h.1, fun r s => (h.2 r s).trans (e r s)⟩
theorem Kp.add {X : List (Nat × Nat)} {P : Nat → Nat → Prop} (h : Kp X P) (r s : Nat) : ∃ ls, putK (smet X) (keyT (r, s)) (.bl true) = smet ls ∧ Kp ls fun r' s' => P r' s' ∨ (r' = r ∧ s' = s) := by
  obtain ⟨ls, e, nd, _, m⟩ := smet_add h.1 (r, s)
  refine ⟨ls, e, nd, fun r' s' => (m (r', s')).trans ?_⟩
  rw [h.2]
  exact ⟨fun k => k.imp id fun y => ⟨congrArg Prod.fst y, congrArg Prod.snd y⟩, fun k => k.imp id fun y => by rw [y.1, y.2]⟩
theorem lead_le {b d t k r s : Nat} (h : lead b d t k r s) : s ≤ t := by
  obtain ⟨x, _, _, e⟩ := h
  omega
/-- a row of leads from the one behind it -/
theorem lead_row {b d t k r s : Nat} {X : List (Nat × Nat)} (hb : 2 ≤ b) (hd : 0 < d) (h : Ld b d t k X) (hs : 1 ≤ s) : lead b d t (k + 1) r s ↔ ∃ f, f < min b (t - s + 1) ∧ s + f ≤ t ∧ nx b d (r, s) f ∈ X := by
  rw [lead_more hb]
  constructor
  · rintro ⟨f, hf, w⟩
    have := lead_le w
    exact ⟨f, by omega, this, (h.2 _ _).mpr ⟨Nat.mod_lt _ hd, by omega, this, w⟩⟩
  · rintro ⟨f, hf, _, w⟩
    exact ⟨f, by omega, ((h.2 _ _).mp w).2.2.2⟩
theorem log_in {b m : Nat} (hb : 2 ≤ b) (h : 0 < m) : ∃ L, b ^ L ≤ m ∧ m < b ^ (L + 1) := by
  have base : ∀ n : Nat, m < b ^ n → ∃ j, b ^ j ≤ m ∧ m < b ^ (j + 1) := fun n => by
    induction n with
    | zero => intro h; rw [Nat.pow_zero] at h; omega
    | succ n ih =>
      intro h
      by_cases c : b ^ n ≤ m
      · exact ⟨n, c, h⟩
      · exact ih (by omega)
  exact base m (Nat.lt_pow_self (by omega))
end M

set_option Elab.async false
set_option linter.all false
set_option maxRecDepth 100000
set_option maxHeartbeats 4000000
namespace Lw
open PySem L2 Z
local macro_rules | `(tactic| walk_at "ne") => `(tactic| first | assumption | (refine Ne.symm ?_; assumption) | (refine ne_of_none (by assumption) (by assumption)) | (refine Ne.symm ?_; refine ne_of_none (by assumption) (by assumption)))
local macro_rules | `(tactic| walk_at "hp") => `(tactic| first | assumption | (refine sameAt (by assumption) ?_; walk_at "hp") | (refine keepAt (by assumption) (by walk_at "ne") ?_; walk_at "hp"))
local macro_rules | `(tactic| walk_at "sc") => `(tactic| (try dsimp only); first | omega | assumption | (refine And.intro ?_ (Or.inl ?_) <;> omega) | with_reducible rfl | (exact Nat.le_of_ble_eq_true rfl) | (refine Or.inl (And.intro ?_ ?_) <;> omega) | (refine Or.inr (Or.inl (And.intro ?_ ?_)) <;> omega) | (refine And.intro ?_ (Or.inl ?_) <;> omega) | decide | (exact ⟨_, rfl⟩))
local macro_rules | `(tactic| walk_at "w") => `(tactic| conv => whnf)
local macro_rules | `(tactic| walk_at "go") => `(tactic| ((conv => whnf); repeat ((first | refine And.intro (by walk_at "sc") ?_ | refine ⟨_, _, .inl (.inl (by walk_at "hp")), by rfl, ?_⟩ | refine ⟨.inl ⟨rfl, _, .inl (.inl (by walk_at "hp"))⟩, ?_⟩); (conv => whnf))))
local macro_rules | `(tactic| walk_at "t2") => `(tactic| (refine ⟨_, _, rfl, .inl (.inl (by walk_at "hp")), rfl, ?_⟩; (conv => whnf); refine ⟨_, _, rfl, ?_⟩; (conv => whnf); refine ⟨_, _, rfl, ?_⟩; (conv => whnf); refine ⟨rfl, ?_⟩; walk_at "go"))
local macro_rules | `(tactic| walk_at "t3") => `(tactic| (refine ⟨_, _, rfl, .inl (.inl (by walk_at "hp")), rfl, ?_⟩; (conv => whnf); refine ⟨_, _, rfl, ?_⟩; (conv => whnf); refine ⟨_, _, rfl, ?_⟩; (conv => whnf); refine ⟨_, _, rfl, ?_⟩; (conv => whnf); refine ⟨rfl, ?_⟩; walk_at "go"))
local macro_rules | `(tactic| walk_at "t4") => `(tactic| (refine ⟨_, _, rfl, .inl (.inl (by walk_at "hp")), rfl, ?_⟩; (conv => whnf); refine ⟨_, _, rfl, ?_⟩; (conv => whnf); refine ⟨_, _, rfl, ?_⟩; (conv => whnf); refine ⟨_, _, rfl, ?_⟩; (conv => whnf); refine ⟨_, _, rfl, ?_⟩; (conv => whnf); refine ⟨rfl, ?_⟩; walk_at "go"))
def top (i : Nat) : Stmt := PySem.Challenge.pw_figuresums_k20_least_multiples.main.body.getD i (.Pass ⟨0, 0, 0, 0⟩)
structure Blt (mg : Str → Option Value) : Prop where
  b_abs : mg "abs" = none
  b_bool : mg "bool" = none
  b_int : mg "int" = none
  b_isinstance : mg "isinstance" = none
  b_len : mg "len" = none
  b_max : mg "max" = none
  b_min : mg "min" = none
  b_range : mg "range" = none
  b_str : mg "str" = none
  b_sum : mg "sum" = none
  b_tuple : mg "tuple" = none
  b_zip : mg "zip" = none
structure Cst (mg : Str → Option Value) : Prop where
  c_x : True
structure Ads where
  Line : Addr
  Wheel : Addr
structure Kls (K : PySem.W.Frag) (mg : Str → Option Value) (ad : Ads) : Prop where
  g_Line : mg "Line" = some (.ref ad.Line)
  g_Wheel : mg "Wheel" = some (.ref ad.Wheel)
  pg_Line : PySem.W.plainGet K ad.Line Str.empty = true
  hd_Line : PySem.W.hasDictIn K ad.Line = true
  po_Line : PySem.W.plainOver K ad.Line = true
  sa_Line : PySem.W.findIn K (.ref ad.Line) "__setattr__" = some (some (.builtin "object.__setattr__"))
  mk_Line : PySem.W.makesIn K ad.Line = true
  kp_Line : PySem.W.keepIn K (.ref ad.Line) = true
  na_Line_width : PySem.W.findIn K (.ref ad.Line) "width" = some none
  na_Line__slot_bits : PySem.W.findIn K (.ref ad.Line) "_slot_bits" = some none
  pg_Wheel : PySem.W.plainGet K ad.Wheel Str.empty = true
  hd_Wheel : PySem.W.hasDictIn K ad.Wheel = true
  po_Wheel : PySem.W.plainOver K ad.Wheel = true
  sa_Wheel : PySem.W.findIn K (.ref ad.Wheel) "__setattr__" = some (some (.builtin "object.__setattr__"))
  mk_Wheel : PySem.W.makesIn K ad.Wheel = true
  kp_Wheel : PySem.W.keepIn K (.ref ad.Wheel) = true
  na_Wheel_width : PySem.W.findIn K (.ref ad.Wheel) "width" = some none
  na_Wheel__slot_bits : PySem.W.findIn K (.ref ad.Wheel) "_slot_bits" = some none
  na_Wheel__divisor : PySem.W.findIn K (.ref ad.Wheel) "_divisor" = some none
  na_Wheel__whole : PySem.W.findIn K (.ref ad.Wheel) "_whole" = some none
  na_Wheel__all_bits : PySem.W.findIn K (.ref ad.Wheel) "_all_bits" = some none
theorem Kls.cls_Line {K : PySem.W.Frag} {mg : Str → Option Value} {ad : Ads} (k : Kls K mg ad) : Cls K ad.Line := ⟨k.pg_Line, k.hd_Line, k.po_Line, k.sa_Line⟩
theorem Kls.cls_Wheel {K : PySem.W.Frag} {mg : Str → Option Value} {ad : Ads} (k : Kls K mg ad) : Cls K ad.Wheel := ⟨k.pg_Wheel, k.hd_Wheel, k.po_Wheel, k.sa_Wheel⟩
section
variable {P : Program} {w : World} {K : PySem.W.Frag} {mg : Str → Option Value} {base : Heap} {ad : Ads}
/-- a wheel of D slots of w bits -/
def WFs (w D : Nat) : List (Str × V) := [("width", .int (w : Int)), ("_slot_bits", .int (2 ^ w - 1)), ("_divisor", .int (D : Int)), ("_whole", .int ((D * w : Nat) : Int)), ("_all_bits", .int (2 ^ (D * w) - 1))]
def WheelAt (C : Addr) (H : Hp) (p : Addr) (w D : Nat) : Prop := ∃ dx, H p = some (.ins C dx (WFs w D))
theorem WheelAt.same {C : Addr} {H H' : Hp} {p : Addr} {w D : Nat} (h : WheelAt C H p w D) (S : Same H H') : WheelAt C H' p w D := by
  obtain ⟨dx, e⟩ := h
  exact ⟨dx, S _ _ e⟩
theorem pow_int (k : Nat) : (1 : Int) * 2 ^ ((k : Int)).toNat - 1 = 2 ^ k - 1 := by rw [Int.toNat_natCast, Int.one_mul]
theorem two_pow (k : Nat) : (2 : Int) ^ k = ((2 ^ k : Nat) : Int) := by rw [Int.natCast_pow]; rfl
/-- the deck of k12 to k19 at d: its great number, its mixed one, at most n draws made -/
def Dk (H : Hp) (d : Addr) (n : Nat) : Prop := ∃ g m t : Int, H d = some (.lst [.int g, .int m, .int t]) ∧ 0 ≤ g ∧ 0 ≤ m ∧ m < 2147483648 ∧ 0 ≤ t ∧ t ≤ n
theorem Dk.same {H H' : Hp} {d : Addr} {n : Nat} (h : Dk H d n) (S : Same H H') : Dk H' d n := by
  obtain ⟨g, m, t, e, q⟩ := h
  exact ⟨g, m, t, S _ _ e, q⟩
theorem Dk.keep {H H' : Hp} {d p : Addr} {n : Nat} (h : Dk H d n) (S : Keep p H H') (ne : d ≠ p) : Dk H' d n := by
  obtain ⟨g, m, t, e, q⟩ := h
  exact ⟨g, m, t, S _ _ ne e, q⟩
theorem Dk.ne {H : Hp} {d p : Addr} {n : Nat} (h : Dk H d n) (np : H p = none) : d ≠ p := by
  obtain ⟨g, m, t, e, q⟩ := h
  exact ne_of_none e np
theorem Dk.le {H : Hp} {d : Addr} {n k : Nat} (h : Dk H d n) (l : n ≤ k) : Dk H d k := by
  obtain ⟨g, m, t, e, q1, q2, q3, q4, q5⟩ := h
  exact ⟨g, m, t, e, q1, q2, q3, q4, by omega⟩
theorem Dk.tup {H : Hp} {d t : Addr} {n : Nat} {xs : List V} (h : Dk H d n) (e : H t = some (.tup xs)) : t ≠ d := fun z => by
  obtain ⟨g, m, u, e2, _⟩ := h
  rw [z, e2] at e
  cases e
theorem at_ints {ns : List Int} {k : Int} (h0 : 0 ≤ k) (h : k < (ns.length : Int)) : ∃ v : Int, atI (ns.map V.int) k = some (.int v) ∧ ns[k.toNat]? = some v := by
  have hk : k.toNat < ns.length := by omega
  have ek : k = ((k.toNat : Nat) : Int) := by omega
  have q : atI (ns.map V.int) ((k.toNat : Nat) : Int) = some (.int ns[k.toNat]) := atI_nat (by rw [List.getElem?_map, List.getElem?_eq_getElem hk] <;> rfl)
  rw [← ek] at q
  exact ⟨_, q, List.getElem?_eq_getElem hk⟩
theorem cut63 {ns : List Int} (hn : ns.length ≤ 63) : cutV (ns.map V.int) none (some 63) = ns.map V.int := by
  have e2 : (ns.map V.int).length = ns.length := List.length_map _
  have e1 : HT.sIx (ns.map V.int).length (ns.map V.int).length (some 63) = ns.length := by
    rw [e2]
    exact (HT.sIx_nat ns.length ns.length 63).trans (by omega)
  unfold cutV
  rw [e1]
  show (ns.map V.int).take (ns.length - 0) = _
  rw [List.take_of_length_le (by omega)]

/-! _law_deck -/
abbrev s__law_deck : Stmt := top 11
abbrev ps__law_deck : List Str := ["script"]
theorem sc__law_deck : FnScope ["script", "great", "mixed", "cell"] ["script"] (defScope s__law_deck) := ⟨rfl, rfl, rfl, by decide +kernel, rfl, by decide +kernel, by decide +kernel⟩
def sp__law_deck (K : PySem.W.Frag) (_ : Ads) : Sp := fun vs H Q _ => ∃ (a : Addr) (ns : List Int), vs = [.ref a] ∧ SqL K H a (ns.map V.int) ∧ ns.length ≤ 63 ∧ (∀ z ∈ ns, PySem.Builtin.Int.intBits z ≤ 1048576) ∧ ∀ d H', H d = none → Same H H' → Dk H' d 0 → Q (.ref d) H'
theorem ok__law_deck (D : DefAt K mg "_law_deck" s__law_deck ps__law_deck) (B : Blt mg) (C : Cst mg) (KC : Kls K mg ad) : Cal P w K mg base 1 "_law_deck" ps__law_deck (sp__law_deck K ad) := by
  have sc := sc__law_deck
  refine mkCal D sc (fun vs H Q E h => ?_) (fun f cdv A outer s H vs Q E hr h => ?_)
  · obtain ⟨a, ns, rfl, hS, hn, hz, q⟩ := h
    rfl
  obtain ⟨a, ns, rfl, hS, hn, hz, q⟩ := h
  refine ⟨_, (pss_cons (ps_set (i := 1) sc.nd rfl (Or.inl rfl) pe_int)
    (pss_cons (ps_set (i := 2) sc.nd rfl (Or.inl rfl) (pe_op zadd (pe_op zmul pe_int (pe_callB zlen (by rfl) B.b_len (by decide +kernel) (pa_cons (zv 0) pa_nil))) pe_int))
    (pss_cons (ps_for PassesOwn.never rfl (pi_list (pe_slice zslL (zv 0) po_none (zpo pe_int))) (pg_name (i := 3) sc.nd rfl (Or.inl rfl)) (pss_one (zps_if (zpc zge (pe_callB zabs (by rfl) B.b_abs (by decide +kernel) (pa_cons (zv 3) pa_nil)) (zpow (r := 1000000000000000000) (by decide +kernel) (by decide))) (pss_one (ps_set (i := 1) sc.nd rfl (Or.inl rfl) (pe_op zadd (pe_op zshl (zv 1) pe_int) (pe_callB zabs (by rfl) B.b_abs (by decide +kernel) (pa_cons (zv 3) pa_nil))))) (pss_one (ps_set (i := 2) sc.nd rfl (Or.inl rfl) (pe_op zmod (pe_op zadd (pe_op zmul (zv 2) pe_int) (zv 3)) pe_int))))))
    (pss_one (ps_ret (zlst (pa_cons (zv 1) (pa_cons (zv 2) (pa_cons pe_int pa_nil))))))))), ?_⟩
  have hz' : ∃ B : Nat, B ≤ 1048576 ∧ ∀ z ∈ ns, z.natAbs < 2 ^ B := ⟨1048576, Nat.le_refl _, fun z h => Z.bits_lt (hz z h)⟩
  obtain ⟨B, hB, hzB⟩ := hz'
  walk_at "go"
  refine ⟨_, .inl hS, ?_⟩
  walk_at "go"
  refine ⟨_, hS, fun c H1 nc hc S1 => ?_⟩
  rw [cut63 hn] at hc
  walk_at "w"
  refine ⟨_, rfl, ⟨_, .inl (.inl hc)⟩, for_list (xs := ns.map V.int) (fun i σ H' => ∃ (g m : Int) (v3 : Option V), σ = [some (.ref a), some (.int g), some (.int m), v3] ∧ 0 ≤ g ∧ g.natAbs < 2 ^ (B + 206 * i) ∧ (0 ≤ m ∧ m < 2147483648) ∧ H' = H1) ?_ (fun i σ H' hi h => ?_) (fun i y σ H' hy h => ?_) (fun σ H' h => ?_)⟩
  · exact ⟨0, _, _, rfl, by omega, Nat.pow_pos (by decide), ⟨by rw [List.length_map]; omega, by rw [List.length_map]; omega⟩, rfl⟩
  · obtain ⟨_, _, _, _, _, _, _, e⟩ := h
    rw [e]; exact .inl (.inl hc)
  · obtain ⟨g, m, v3, rfl, hg0, hg, hm, rfl⟩ := h
    have hi : i < ns.length := by
      have := (List.getElem?_eq_some_iff.mp hy).1
      rw [List.length_map] at this; exact this
    rw [List.getElem?_map] at hy
    cases hc2 : ns[i]? with
    | none => rw [hc2] at hy; cases hy
    | some cell =>
      rw [hc2] at hy; cases hy
      have hcell := hzB cell (List.mem_of_getElem? hc2)
      have hgrow : 2 ^ (B + 206 * i) ≤ 2 ^ (B + 206 * (i + 1)) := Nat.pow_le_pow_right (by decide) (by omega)
      walk_at "w"
      refine fun k hk1 hk2 => ?_
      have hk : 0 ≤ k ∧ k.natAbs = cell.natAbs := by
        rcases Int.lt_or_le cell 0 with z | z
        · have := hk2 z; omega
        · have := hk1 z; omega
      walk_at "w"
      refine ⟨fun c1 => ?_, fun c1 => ?_⟩
      · walk_at "w"
        refine ⟨⟨by omega, B + 206 * i, hg, by omega⟩, ?_⟩
        walk_at "w"
        refine fun k2 hk3 hk4 => ?_
        have hk5 : 0 ≤ k2 ∧ k2.natAbs = cell.natAbs := by
          rcases Int.lt_or_le cell 0 with z | z
          · have := hk4 z; omega
          · have := hk3 z; omega
        walk_at "w"
        have h205 : (0 : Int) ≤ 2 ^ (205 : Int).toNat := Int.pow_nonneg (by decide)
        have hmul : 0 ≤ g * 2 ^ (205 : Int).toNat := Int.mul_nonneg hg0 h205
        refine ⟨_, _, _, rfl, by show 0 ≤ g * 2 ^ (205 : Int).toNat + k2; omega, ?_, hm, rfl⟩
        have e205 : (205 : Int).toNat = 205 := rfl
        show (g * 2 ^ (205 : Int).toNat + k2).natAbs < _
        rw [e205] at hmul ⊢
        have h1 : (g * 2 ^ 205 + k2).natAbs ≤ (g * 2 ^ 205).natAbs + k2.natAbs := Int.natAbs_add_le _ _
        have h2 : (g * 2 ^ 205).natAbs = g.natAbs * 2 ^ 205 := by rw [Int.natAbs_mul, Int.natAbs_pow]; rfl
        have h3 : g.natAbs * 2 ^ 205 < 2 ^ (B + 206 * i) * 2 ^ 205 := Nat.mul_lt_mul_of_pos_right hg (Nat.pow_pos (by decide))
        rw [← Nat.pow_add] at h3
        have h4 : 2 ^ B ≤ 2 ^ (B + 206 * i + 205) := Nat.pow_le_pow_right (by decide) (by omega)
        have e6 : B + 206 * (i + 1) = B + 206 * i + 205 + 1 := by omega
        rw [e6, Nat.pow_succ]
        omega
      · walk_at "go"
        exact ⟨_, _, _, rfl, hg0, Nat.lt_of_lt_of_le hg hgrow, ⟨Int.emod_nonneg _ (by omega), Int.lt_trans (Int.emod_lt_of_pos _ (by omega)) (by omega)⟩, rfl⟩
  · obtain ⟨g, m, v3, rfl, hg0, hg, hm, rfl⟩ := h
    walk_at "go"
    refine fun d H3 nd hd S3 => ?_
    exact q d H3 (S1.free nd) (S1.trans S3) ⟨g, m, 0, hd, hg0, hm.1, hm.2, by omega, by omega⟩
/-! _law_draw -/
abbrev s__law_draw : Stmt := top 12
abbrev ps__law_draw : List Str := ["deck", "most"]
theorem sc__law_draw : FnScope ["deck", "most", "found", "turn", "one"] ["deck", "most"] (defScope s__law_draw) := ⟨rfl, rfl, rfl, by decide +kernel, rfl, by decide +kernel, by decide +kernel⟩
def sp__law_draw (K : PySem.W.Frag) (_ : Ads) : Sp := fun vs H Q _ => ∃ (d : Addr) (most : Int) (n : Nat), vs = [.ref d, .int most] ∧ Dk H d n ∧ n < 1000000000 ∧ 0 < most ∧ most < 1073741824 ∧ ∀ r H', 0 ≤ r → r < most → Dk H' d (n + 1) → Keep d H H' → Q (.int r) H'
theorem ok__law_draw (D : DefAt K mg "_law_draw" s__law_draw ps__law_draw) (B : Blt mg) (C : Cst mg) (KC : Kls K mg ad) : Cal P w K mg base 1 "_law_draw" ps__law_draw (sp__law_draw K ad) := by
  have sc := sc__law_draw
  refine mkCal D sc (fun vs H Q E h => ?_) (fun f cdv A outer s H vs Q E hr h => ?_)
  · obtain ⟨d, most, n, rfl, hD, hn, hm0, hm, q⟩ := h
    rfl
  obtain ⟨d, most, n, rfl, hD, hn, hm0, hm, q⟩ := h
  refine ⟨_, (pss_cons (ps_asg (pe_op zadd (pe_ix zixL (zv 0) pe_int (fun _ _ => rfl)) pe_int) (pg_sub (zv 0) pe_int zsetL))
    (pss_cons (zps_if (zpc zgt (pe_ix zixL (zv 0) pe_int (fun _ _ => rfl)) pe_int) (pss_cons (ps_set (i := 2) sc.nd rfl (Or.inl rfl) (pe_op zmod (pe_ix zixL (zv 0) pe_int (fun _ _ => rfl)) (zv 1)))
    (pss_cons (ps_asg (pe_op zfdiv (pe_ix zixL (zv 0) pe_int (fun _ _ => rfl)) (zv 1)) (pg_sub (zv 0) pe_int zsetL))
    (pss_one (ps_ret (zv 2))))) pss_nil)
    (pss_cons (ps_set (i := 3) sc.nd rfl (Or.inl rfl) (pe_ix zixL (zv 0) pe_int (fun _ _ => rfl)))
    (pss_cons (ps_set (i := 4) sc.nd rfl (Or.inl rfl) (pe_op zmod (pe_op zadd (pe_op zadd (pe_ix zixL (zv 0) pe_int (fun _ _ => rfl)) (pe_op zmul (pe_op zmul pe_int (zv 3)) (zv 3))) (pe_op zmul pe_int (zv 3))) pe_int))
    (pss_cons (ps_set (i := 4) sc.nd rfl (Or.inl rfl) (pe_op zmod (pe_op zmul (zv 4) (zv 4)) pe_int))
    (pss_one (ps_ret (pe_op zmod (pe_op zfdiv (pe_op zmod (pe_op zadd (pe_op zmul (zv 4) pe_int) (pe_op zmul (zv 3) pe_int)) pe_int) pe_int) (zv 1))))))))), ?_⟩
  obtain ⟨g, m, t, hd, hg, hm1, hm2, ht, htn⟩ := hD
  walk_at "go"
  refine ⟨_, _, hd, rfl, fun H1 hd1 K1 F1 => ?_⟩
  walk_at "go"
  refine ⟨fun cc => ?_, fun cc => ?_⟩
  · walk_at "go"
    refine ⟨_, _, hd1, rfl, fun H2 hd2 K2 F2 => ?_⟩
    walk_at "w"
    exact q _ H2 (Int.emod_nonneg _ (by omega)) (Int.emod_lt_of_pos _ hm0) ⟨_, _, _, hd2, Int.ediv_nonneg hg (by omega), hm1, hm2, by omega, by omega⟩ (K1.trans K2)
  · have t1 : -(2 : Int) ^ 64 < t + 1 ∧ t + 1 < 2 ^ 64 := by omega
    walk_at "go"
    exact q _ H1 (Int.emod_nonneg _ (by omega)) (Int.emod_lt_of_pos _ hm0) ⟨_, _, _, hd1, hg, hm1, hm2, by omega, by omega⟩ K1
/-! _law_come -/
abbrev s__law_come : Stmt := top 18
abbrev ps__law_come : List Str := ["divisor", "told", "base"]
theorem sc__law_come : FnScope ["divisor", "told", "base", "known", "layer", "behind", "rest", "total", "figure", "state"] ["divisor", "told", "base"] (defScope s__law_come) := ⟨rfl, rfl, rfl, by decide +kernel, rfl, by decide +kernel, by decide +kernel⟩
/-- states as tuples at these addresses -/
def Sts (G : Hp) (es : List Addr) (R : List (Nat × Nat)) : Prop := es.length = R.length ∧ ∀ (i : Nat) (e : Addr) (q : Nat × Nat), es[i]? = some e → R[i]? = some q → G e = some (.tup [.int (q.1 : Int), .int (q.2 : Int)])
theorem Sts.mono {G G' : Hp} {es : List Addr} {R : List (Nat × Nat)} (h : Sts G es R) (K : ∀ a xs, G a = some (.tup xs) → G' a = some (.tup xs)) : Sts G' es R := ⟨h.1, fun i e q e1 e2 => K _ _ (h.2 i e q e1 e2)⟩
theorem Sts.same {G G' : Hp} {es : List Addr} {R : List (Nat × Nat)} (h : Sts G es R) (S : Same G G') : Sts G' es R := h.mono fun a xs e => S _ _ e
theorem Sts.keep {G G' : Hp} {z : Addr} {es : List Addr} {R : List (Nat × Nat)} (h : Sts G es R) (nz : ∀ xs, G z ≠ some (.tup xs)) (K : Keep z G G') : Sts G' es R := h.mono fun a xs e => K _ _ (fun y => nz xs (y ▸ e)) e
theorem Sts.nil (G : Hp) : Sts G [] [] := ⟨rfl, fun i e q h => by cases h⟩
theorem Sts.push {G : Hp} {e : Addr} {q : Nat × Nat} {es : List Addr} {R : List (Nat × Nat)} (h : Sts G es R) (h2 : G e = some (.tup [.int (q.1 : Int), .int (q.2 : Int)])) : Sts G (es ++ [e]) (R ++ [q]) := by
  refine ⟨by rw [List.length_append, List.length_append, h.1]; rfl, fun i e' q' e1 e2 => ?_⟩
  by_cases c : i < es.length
  · rw [List.getElem?_append_left c] at e1
    rw [List.getElem?_append_left (by rw [← h.1]; exact c)] at e2
    exact h.2 i e' q' e1 e2
  · have l := (List.getElem?_eq_some_iff.mp e1).1
    rw [List.length_append] at l
    have l : i < es.length + 1 := l
    have ei : i = es.length := by omega
    subst ei
    rw [List.getElem?_append_right (Nat.le_refl _), Nat.sub_self] at e1
    rw [List.getElem?_append_right (by rw [h.1]; exact Nat.le_refl _), h.1, Nat.sub_self] at e2
    cases e1
    cases e2
    exact h2
def pairD (q : Nat × Nat) : PyData := .tuple [.int (q.1 : Int), .int (q.2 : Int)]
theorem pairs_lay : ∀ R : List (Nat × Nat), PyData.canLayAll0 (R.map pairD) = true ∧ PyData.depthAll (R.map pairD) ≤ 3
  | [] => ⟨rfl, by simp [PyData.depthAll]⟩
  | q :: r => by
    obtain ⟨a, c⟩ := pairs_lay r
    refine ⟨?_, ?_⟩
    · show (PyData.canLay0 (pairD q) && PyData.canLayAll0 (r.map pairD)) = true
      rw [a]
      rfl
    · have dn : (pairD q).depth ≤ 2 := by
        unfold pairD
        simp only [PyData.depthAll, PyData.depth]
        omega
      rw [List.map_cons]
      simp only [PyData.depthAll]
      omega
theorem pairs_shaped (R : List (Nat × Nat)) : SeqAt.shaped (.list (R.map pairD)) = true := by
  obtain ⟨a, c⟩ := pairs_lay R
  show (PyData.canLayAll0 (R.map pairD) && decide ((PyData.list (R.map pairD)).depth ≤ 64)) = true
  rw [a]
  have : (PyData.list (R.map pairD)).depth ≤ 64 := by
    simp only [PyData.depth]
    omega
  simp [this]
theorem Sts.dp {K : PySem.W.Frag} {G : Hp} : ∀ (es : List Addr) (R : List (Nat × Nat)), Sts G es R → DpAll K G (es.map V.ref) (R.map pairD)
  | [], [], _ => .nil
  | [], q :: R, h => by cases h.1
  | e :: es, [], h => by cases h.1
  | e :: es, q :: R, h => by
    have h1 := h.2 0 e q rfl rfl
    refine .cons (.tup (.inl (.inl h1)) (.cons (.int _) (.cons (.int _) .nil))) (Sts.dp es R ⟨?_, fun i e' q' e1 e2 => h.2 (i + 1) e' q' e1 e2⟩)
    have l := h.1
    rw [List.length_cons, List.length_cons] at l
    omega
def sp__law_come (K : PySem.W.Frag) (_ : Ads) : Sp := fun vs H Q _ => ∃ (d t b : Nat), vs = [.int (d : Int), .int (t : Int), .int (b : Int)] ∧ 1 ≤ d ∧ d ≤ 60 ∧ 1 ≤ t ∧ t ≤ 100 ∧ 2 ≤ b ∧ b ≤ 16 ∧ ∀ (c : Bool) H', (c = true ↔ ∃ m, M.Mul b d t m) → Same H H' → Q (.bl c) H'
theorem ok__law_come (D : DefAt K mg "_law_come" s__law_come ps__law_come) (B : Blt mg) (C : Cst mg) (KC : Kls K mg ad) : Cal P w K mg base 1 "_law_come" ps__law_come (sp__law_come K ad) := by
  have sc := sc__law_come
  refine mkCal D sc (fun vs H Q E h => ?_) (fun f cdv A outer s H vs Q E hr h => ?_)
  · obtain ⟨d, t, b, rfl, hd, hd2, ht, ht2, hb, hb2, q⟩ := h
    rfl
  obtain ⟨d, t, b, rfl, hd, hd2, ht, ht2, hb, hb2, q⟩ := h
  refine ⟨_, (pss_cons (ps_set (i := 3) sc.nd rfl (Or.inl rfl) (pe_dispT (Nat.lt_of_succ_lt (Nat.lt_of_succ_lt (hu2 hr))) (ztup (pa_cons pe_int (pa_cons pe_int pa_nil))) pe_bl))
    (pss_cons (ps_set (i := 4) sc.nd rfl (Or.inl rfl) (zlst (pa_cons (ztup (pa_cons pe_int (pa_cons pe_int pa_nil))) pa_nil)))
    (pss_cons (zps_while PassesOwn.never (zpc (zneD (hu64 hr)) (zv 4) (zlst pa_nil)) (pss_cons (ps_set (i := 5) sc.nd rfl (Or.inl rfl) (zlst pa_nil))
    (pss_cons (ps_for PassesOwn.never rfl (pi_list (zv 4)) (pg_tup (n := 2) rfl (pgs_cons (pg_name (i := 6) sc.nd rfl (Or.inl rfl) (Or.inr rfl)) (pgs_cons (pg_name (i := 7) sc.nd rfl (Or.inl rfl) (Or.inr rfl)) pgs_nil))) (pss_one (ps_for PassesOwn.never rfl (pi_range1 (by rfl) B.b_range (pa_cons (pe_callB (zmin2 rfl) (by rfl) B.b_min (by decide +kernel) (pa_cons (zv 2) (pa_cons (pe_op zadd (pe_op zsub (zv 1) (zv 7)) pe_int) pa_nil))) pa_nil)) (pg_name (i := 8) sc.nd rfl (Or.inl rfl)) (pss_cons (ps_set (i := 9) sc.nd rfl (Or.inl rfl) (ztup (pa_cons (pe_op zmod (pe_op zadd (pe_op zmul (zv 6) (zv 2)) (zv 8)) (zv 0)) (pa_cons (pe_op zadd (zv 7) (zv 8)) pa_nil))))
    (pss_one (zps_if (pt_cmp (pc_dnotin (Nat.lt_of_succ_lt (hu2 hr)) (zv 9) (zv 3))) (pss_cons (ps_dput (Nat.lt_of_succ_lt (hu2 hr)) (zv 3) (zv 9) pe_bl rfl)
    (pss_one (ps_expr (pe_bm PySem.F.plainAttrs_list PySem.F.slot_list_append PySem.F.type_list_append zappend (zv 5) (pa_cons (zv 9) pa_nil))))) pss_nil))))))
    (pss_one (ps_set (i := 4) sc.nd rfl (Or.inl rfl) (zv 5))))))
    (pss_one (ps_ret (pe_cmp (pc_din (Nat.lt_of_succ_lt (hu2 hr)) (ztup (pa_cons pe_int (pa_cons (zv 1) pa_nil))) (zv 3)))))))), ?_⟩
  have C6 : d * (t + 1) ≤ 60 * 101 := Nat.mul_le_mul hd2 (by omega)
  have Fr : ∀ {X W B : List (Nat × Nat)}, M.Cm b d t X W B → X.length ≤ d * (t + 1) := fun h => h.few hd
  generalize hC : d * (t + 1) = C at Fr C6
  walk_at "go"
  intro ps nps
  walk_at "go"
  refine fun q0 H1 nq hq S1 => ?_
  walk_at "w"
  refine ⟨S1 _ _ upd_same, q0, [Sum.inl 0, Sum.inl 0], rfl, hq, ?_⟩
  walk_at "go"
  refine fun e0 G0 ne0 he0 S2 => ?_
  walk_at "go"
  refine fun l0 G1 nl0 hl0 S3 => ?_
  have SG1 : Same H G1 := fun a o h => by
    have na := ne_of_none h nps
    refine S3 _ _ (S2 _ _ ?_)
    rw [upd_ne na]
    refine S1 _ _ ?_
    rw [upd_ne na]
    exact h
  have hps1 : G1 ps = some (.dT (M.smet [(0, 0)])) := S3 _ _ (S2 _ _ upd_same)
  have st1 : Sts G1 [e0] [(0, 0)] := (Sts.nil G1).push (S3 _ _ he0)
  walk_at "w"
  refine ⟨fun k σ G => ∃ (X W : List (Nat × Nat)) (es : List Addr) (pl : Addr) (v5 v6 v7 v8 v9 : Option V), σ = [some (.int (d : Int)), some (.int (t : Int)), some (.int (b : Int)), some (.ref ps), some (.ref pl), v5, v6, v7, v8, v9] ∧ Same H G ∧ G ps = some (.dT (M.smet X)) ∧ G pl = some (.lst (es.map V.ref)) ∧ Sts G es W ∧ M.Cm b d t X W [] ∧ k = 2 * (C - X.length) + (if W = [] then 0 else 1), ⟨_, [(0, 0)], [(0, 0)], [e0], l0, _, _, _, _, _, rfl, SG1, hps1, hl0, st1, M.Cm.first hb, rfl⟩, ?_⟩
  clear st1 hps1 SG1 S3 hl0 nl0 S2 he0 ne0 S1 hq nq
  rintro k σ G ⟨X, W, es, pl, v5, v6, v7, v8, v9, rfl, S4, hps, hpl, sts, cm, ek⟩
  walk_at "go"
  refine fun ln G2 nln hln T1 => ?_
  have hps2 := T1 _ _ hps
  have hpl2 := T1 _ _ hpl
  have sts2 := sts.same T1
  have S42 := S4.trans T1
  walk_at "w"
  refine ⟨.list (W.map pairD), .list [], .lst (.inl (.inl hpl2)) (Sts.dp es W sts2), .lst (.inl (.inl hln)) .nil, ⟨pairs_shaped W, by decide +kernel⟩, fun yes => ?_, fun no => ?_⟩
  · have W0 : W = [] := by
      cases W with
      | nil => rfl
      | cons a r => cases yes
    subst W0
    walk_at "go"
    refine fun tz G3 nz hz T2 => ?_
    have g := DGet.t (k := M.keyT (0, t)) (T2 _ _ hps2) hz
    by_cases m : (0, t) ∈ X
    · rw [M.smet_has m] at g
      walk_at "w"
      refine ⟨ps, _, rfl, g, ?_⟩
      exact q true G3 ⟨fun _ => (cm.ends hb).mp m, fun _ => rfl⟩ (S42.trans T2)
    · rw [M.smet_no m] at g
      walk_at "w"
      refine ⟨ps, _, rfl, g, ?_⟩
      exact q false G3 ⟨fun z => (by cases z), fun z => absurd ((cm.ends hb).mpr z) m⟩ (S42.trans T2)
  · have W0 : W ≠ [] := fun z => no (by rw [z]; rfl)
    rw [if_neg W0] at ek
    walk_at "go"
    refine fun pb G3 npb hpb T2 => ?_
    have hps3 := T2 _ _ hps2
    have hpl3 := T2 _ _ hpl2
    have sts3 := sts2.same T2
    have S43 := S42.trans T2
    have n0 : H pb = none := S42.free npb
    have nlb : pl ≠ pb := ne_of_none hpl2 npb
    have nsb : ps ≠ pb := ne_of_none hps2 npb
    walk_at "w"
    refine ⟨_, rfl, ⟨_, .inl (.inl hpl3)⟩, for_list (xs := es.map V.ref) (fun i σ G' => ∃ (X2 B : List (Nat × Nat)) (bs : List Addr) (v6 v7 v8 v9 : Option V), σ = [some (.int (d : Int)), some (.int (t : Int)), some (.int (b : Int)), some (.ref ps), some (.ref pl), some (.ref pb), v6, v7, v8, v9] ∧ Same H G' ∧ G' ps = some (.dT (M.smet X2)) ∧ G' pl = some (.lst (es.map V.ref)) ∧ Sts G' es W ∧ G' pb = some (.lst (bs.map V.ref)) ∧ Sts G' bs B ∧ M.Cm b d t X2 (W.drop i) B ∧ X2.length = X.length + B.length) ⟨X, [], [], _, _, _, _, rfl, S43, hps3, hpl3, sts3, hpb, Sts.nil _, cm, rfl⟩ (fun i σ G' hi g => ?_) (fun i y σ G' hy g => ?_) (fun σ G' g => ?_)⟩
    · obtain ⟨_, _, _, _, _, _, _, _, _, _, g, _⟩ := g
      exact .inl (.inl g)
    · clear S43 sts3 hpl3 hps3 hpb npb T2 S42 sts2 hpl2 hps2 hln nln T1 sts hpl hps S4 cm
      obtain ⟨X2, B, bs, v6, v7, v8, v9, rfl, S4, hps, hpl, sts, hpb, stb, cm, xl⟩ := g
      rw [List.getElem?_map] at hy
      cases ee : es[i]? with
      | none => rw [ee] at hy; cases hy
      | some e =>
      rw [ee] at hy
      cases hy
      have il := (List.getElem?_eq_some_iff.mp ee).1
      obtain ⟨qq, eq⟩ : ∃ v, W[i]? = some v := ⟨_, List.getElem?_eq_getElem (by rw [← sts.1]; exact il)⟩
      obtain ⟨r, s⟩ := qq
      have he := sts.2 i e (r, s) ee eq
      have ed : W.drop i = (r, s) :: W.drop (i + 1) := by
        have lt := (List.getElem?_eq_some_iff.mp eq).1
        rw [List.drop_eq_getElem_cons lt]
        rw [List.getElem?_eq_getElem lt] at eq
        rw [Option.some.inj eq]
      rw [ed] at cm
      have inX : (r, s) ∈ X2 := cm.wb _ (.inl (List.mem_cons_self ..))
      have hst : s ≤ t := (cm.num _ inX).1
      have hrd : r < d := by
        obtain ⟨_, n, e⟩ := cm.num _ inX
        rw [show r = n % d from congrArg Prod.fst e]
        exact Nat.mod_lt _ hd
      walk_at "w"
      refine ⟨_, _, rfl, .inl (.inl he), rfl, ?_⟩
      walk_at "w"
      refine ⟨_, _, rfl, ?_⟩
      walk_at "w"
      refine ⟨_, _, rfl, ?_⟩
      walk_at "w"
      refine ⟨rfl, ?_⟩
      walk_at "w"
      refine ⟨_, rfl, by omega, by omega, for_range (fun f σ G7 => ∃ (X2 B : List (Nat × Nat)) (bs : List Addr) (v8 v9 : Option V), σ = [some (.int (d : Int)), some (.int (t : Int)), some (.int (b : Int)), some (.ref ps), some (.ref pl), some (.ref pb), some (.int (r : Int)), some (.int (s : Int)), v8, v9] ∧ Same H G7 ∧ G7 ps = some (.dT (M.smet X2)) ∧ G7 pl = some (.lst (es.map V.ref)) ∧ Sts G7 es W ∧ G7 pb = some (.lst (bs.map V.ref)) ∧ Sts G7 bs B ∧ M.Cm b d t X2 ((r, s) :: W.drop (i + 1)) B ∧ X2.length = X.length + B.length ∧ ∀ f', f' < f → M.nx b d (r, s) f' ∈ X2) ⟨X2, B, bs, _, _, rfl, S4, hps, hpl, sts, hpb, stb, cm, xl, fun f' h => absurd h (Nat.not_lt_zero _)⟩ ?_ ?_⟩
      · clear inX cm xl stb hpb sts hpl hps S4 he
        rintro f σ7 G7 hf ⟨X2, B, bs, w8, w9, rfl, S7, hps, hpl, sts, hpb, stb, cm, xl, all⟩
        have hf1 : f < b := by omega
        have hf2 : s + f ≤ t := by omega
        have inX : (r, s) ∈ X2 := cm.wb _ (.inl (List.mem_cons_self ..))
        have few := Fr cm
        walk_at "w"
        refine ⟨.inr (.inl ⟨by omega, by omega⟩), ?_⟩
        walk_at "w"
        refine ⟨(by omega : (0 : Int) < (d : Int)), ?_⟩
        walk_at "go"
        refine fun tz G8 nz hz T8 => ?_
        have hk : G8 tz = some (.tup ((M.keyT (M.nx b d (r, s) f)).map kV)) := by
          rw [hz]
          refine congrArg (fun z => some (HO.tup z)) ?_
          show [V.int (((r : Int) * (b : Int) + (0 + (f : Int))) % (d : Int)), V.int ((s : Int) + (0 + (f : Int)))] = [V.int (((r * b + f) % d : Nat) : Int), V.int ((s + f : Nat) : Int)]
          rw [Int.zero_add, ← Int.natCast_mul, ← Int.natCast_add, ← Int.natCast_emod, ← Int.natCast_add]
        have hps8 := T8 _ _ hps
        have g := DGet.t (k := M.keyT (M.nx b d (r, s) f)) hps8 hk
        by_cases m : M.nx b d (r, s) f ∈ X2
        · rw [M.smet_has m] at g
          walk_at "w"
          refine ⟨ps, _, rfl, g, false, rfl, ?_⟩
          walk_at "w"
          refine ⟨X2, B, bs, _, _, rfl, S7.trans T8, hps8, T8 _ _ hpl, sts.same T8, T8 _ _ hpb, stb.same T8, cm, xl, fun f' h => ?_⟩
          rcases Nat.lt_or_ge f' f with c | c
          · exact all f' c
          · rw [show f' = f by omega]
            exact m
        · rw [M.smet_no m] at g
          walk_at "w"
          refine ⟨ps, _, rfl, g, true, rfl, ?_⟩
          walk_at "w"
          refine ⟨ps, _, rfl, DPut.t (k := M.keyT (M.nx b d (r, s) f)) hps8 hk (by rw [M.smet_len, sizeLine_eq]; omega), ?_⟩
          rw [M.smet_put m]
          have KP : Keep ps G8 (upd G8 ps (.dT (M.smet (X2 ++ [M.nx b d (r, s) f])))) := fun a o na ha => by rw [upd_ne na]; exact ha
          have ndT : ∀ xs, G8 ps ≠ some (.tup xs) := fun xs z => by rw [hps8] at z; cases z
          have hps9 : (upd G8 ps (.dT (M.smet (X2 ++ [M.nx b d (r, s) f])))) ps = some (.dT (M.smet (X2 ++ [M.nx b d (r, s) f]))) := upd_same
          have S9 : Same H (upd G8 ps (.dT (M.smet (X2 ++ [M.nx b d (r, s) f])))) := fun a o ha => KP _ _ (ne_of_none ha nps) (T8 _ _ (S7 _ _ ha))
          have hpl9 := KP _ _ (fun y => by have := T8 _ _ hpl; rw [y, hps8] at this; cases this) (T8 _ _ hpl)
          have hpb9 := KP _ _ (Ne.symm nsb) (T8 _ _ hpb)
          have hz9 := KP _ _ (fun y => by rw [y, hps8] at hk; cases hk) hk
          have sts9 := (sts.same T8).keep ndT KP
          have stb9 := (stb.same T8).keep ndT KP
          generalize upd G8 ps (.dT (M.smet (X2 ++ [M.nx b d (r, s) f]))) = U at hps9 S9 hpl9 hpb9 hz9 sts9 stb9 ⊢
          clear KP
          walk_at "go"
          refine ⟨_, hpb9, ?_, fun G10 h10 K10 F10 => ?_⟩
          · rw [List.length_map, stb.1, sizeLine_eq]
            omega
          have nbT : ∀ xs, U pb ≠ some (.tup xs) := fun xs z => by rw [hpb9] at z; cases z
          have stbN := (stb9.keep nbT K10).push (K10 _ _ (fun y => nbT _ (y ▸ hz9)) hz9)
          walk_at "w"
          refine ⟨X2 ++ [M.nx b d (r, s) f], B ++ [M.nx b d (r, s) f], bs ++ [tz], _, _, rfl, fun a o ha => K10 _ _ (ne_of_none ha n0) (S9 _ _ ha), K10 _ _ nsb hps9, K10 _ _ nlb hpl9, sts9.keep nbT K10, ?_, stbN, cm.add hb inX hf1 hf2 m, ?_, fun f' h => ?_⟩
          · rw [h10, List.map_append]
            rfl
          · rw [List.length_append, List.length_append, xl]
            show X.length + B.length + 1 = X.length + (B.length + 1)
            omega
          · rcases Nat.lt_or_ge f' f with c | c
            · exact List.mem_append.mpr (.inl (all f' c))
            · rw [show f' = f by omega]
              exact List.mem_append.mpr (.inr (List.mem_singleton.mpr rfl))
      · rintro σ7 G7 ⟨X2, B, bs, w8, w9, rfl, S7, hps, hpl, sts, hpb, stb, cm, xl, all⟩
        walk_at "w"
        refine ⟨X2, B, bs, _, _, _, _, rfl, S7, hps, hpl, sts, hpb, stb, cm.settle fun f hf hs => all f (by have hs : s + f ≤ t := hs; omega), xl⟩
    · obtain ⟨X2, B, bs, v6, v7, v8, v9, rfl, S4, hps, hpl, sts, hpb, stb, cm, xl⟩ := g
      rw [List.length_map, sts.1, List.drop_length] at cm
      have few := Fr cm
      walk_at "w"
      refine ⟨_, ?_, X2, B, bs, pb, _, _, _, _, _, rfl, S4, hps, hpb, stb, cm.turn, rfl⟩
      by_cases z : B = []
      · rw [if_pos z]
        rw [z] at xl
        have xl : X2.length = X.length := xl
        omega
      · rw [if_neg z]
        have : 0 < B.length := List.length_pos_iff.mpr z
        omega
/-! _law_due -/
abbrev s__law_due : Stmt := top 19
abbrev ps__law_due : List Str := ["divisor", "told", "base"]
theorem sc__law_due : FnScope ["divisor", "told", "base", "leads", "more", "rest", "total", "figure", "number", "at", "good", "one"] ["divisor", "told", "base"] (defScope s__law_due) := ⟨rfl, rfl, rfl, by decide +kernel, rfl, by decide +kernel, by decide +kernel⟩
/-- the dicts of leads, one for each number of figures -/
def Lds (G : Hp) (ds : List Addr) (b d t : Nat) : Prop := ∀ (j : Nat) (a : Addr), ds[j]? = some a → ∃ X, G a = some (.dT (M.smet X)) ∧ M.Ld b d t j X
theorem Lds.same {G G' : Hp} {ds : List Addr} {b d t : Nat} (h : Lds G ds b d t) (S : Same G G') : Lds G' ds b d t := fun j a e => by
  obtain ⟨X, e1, e2⟩ := h j a e
  exact ⟨X, S _ _ e1, e2⟩
theorem Lds.keep {G G' : Hp} {p : Addr} {ds : List Addr} {b d t : Nat} (h : Lds G ds b d t) (n : p ∉ ds) (K : Keep p G G') : Lds G' ds b d t := fun j a e => by
  obtain ⟨X, e1, e2⟩ := h j a e
  exact ⟨X, K _ _ (fun y => n (y ▸ List.mem_of_getElem? e)) e1, e2⟩
theorem Lds.new_ {G : Hp} {p : Addr} {ds : List Addr} {b d t : Nat} (h : Lds G ds b d t) (n : G p = none) : p ∉ ds := fun m => by
  obtain ⟨j, e⟩ := List.getElem?_of_mem m
  obtain ⟨X, e1, _⟩ := h j p e
  rw [n] at e1
  cases e1
theorem Lds.lst {G : Hp} {p : Addr} {xs : List V} {ds : List Addr} {b d t : Nat} (h : Lds G ds b d t) (n : G p = some (.lst xs)) : p ∉ ds := fun m => by
  obtain ⟨j, e⟩ := List.getElem?_of_mem m
  obtain ⟨X, e1, _⟩ := h j p e
  rw [n] at e1
  cases e1
theorem Lds.push {G : Hp} {p : Addr} {ds : List Addr} {X : List (Nat × Nat)} {b d t k : Nat} (h : Lds G ds b d t) (l : ds.length = k) (e : G p = some (.dT (M.smet X))) (L : M.Ld b d t k X) : Lds G (ds ++ [p]) b d t := fun j a e1 => by
  by_cases c : j < ds.length
  · rw [List.getElem?_append_left c] at e1
    exact h j a e1
  · have l2 := (List.getElem?_eq_some_iff.mp e1).1
    rw [List.length_append] at l2
    have l2 : j < ds.length + 1 := l2
    have ej : j = ds.length := by omega
    subst ej
    rw [List.getElem?_append_right (Nat.le_refl _), Nat.sub_self] at e1
    cases e1
    rw [l]
    exact ⟨X, e, L⟩
theorem ints_dp {K : PySem.W.Frag} {G : Hp} : ∀ l : List Nat, DpAll K G (M.vN l) (l.map fun x : Nat => PyData.int (x : Int))
  | [] => .nil
  | _ :: r => .cons (.int _) (ints_dp r)
theorem ints_shaped (l : List Nat) : SeqAt.shaped (.list (l.map fun x : Nat => PyData.int (x : Int))) = true := by
  obtain ⟨a, c⟩ := M.lay_ints l
  show (PyData.canLayAll0 (l.map fun x : Nat => PyData.int (x : Int)) && decide ((PyData.list (l.map fun x : Nat => PyData.int (x : Int))).depth ≤ 64)) = true
  rw [a]
  have : (PyData.list (l.map fun x : Nat => PyData.int (x : Int))).depth ≤ 64 := by
    simp only [PyData.depth]
    omega
  simp [this]
def sp__law_due (K : PySem.W.Frag) (_ : Ads) : Sp := fun vs H Q _ => ∃ (d t b : Nat), vs = [.int (d : Int), .int (t : Int), .int (b : Int)] ∧ 1 ≤ d ∧ d ≤ 60 ∧ 1 ≤ t ∧ t ≤ 100 ∧ 2 ≤ b ∧ b ≤ 16 ∧ (∀ H', (∀ m, ¬ M.Mul b d t m) → Same H H' → Q .non H') ∧ ∀ n H', M.Mul b d t n → (∀ m, M.Mul b d t m → n ≤ m) → Same H H' → Q (.int (n : Int)) H'
theorem ok__law_due (D : DefAt K mg "_law_due" s__law_due ps__law_due) (B : Blt mg) (C : Cst mg) (KC : Kls K mg ad) (c__law_come : Cal P w K mg base 1 "_law_come" ps__law_come (sp__law_come K ad)) : Cal P w K mg base 2 "_law_due" ps__law_due (sp__law_due K ad) := by
  have sc := sc__law_due
  refine mkCal D sc (fun vs H Q E h => ?_) (fun f cdv A outer s H vs Q E hr h => ?_)
  · obtain ⟨d, t, b, rfl, hd, hd2, ht, ht2, hb, hb2, qn, qm⟩ := h
    rfl
  obtain ⟨d, t, b, rfl, hd, hd2, ht, ht2, hb, hb2, qn, qm⟩ := h
  refine ⟨_, (pss_cons (zps_if (pt_not (zpt (zcall c__law_come (hr.mono (by decide)) (by rfl) (pa_cons (zv 0) (pa_cons (zv 1) (pa_cons (zv 2) pa_nil)))))) (pss_one (ps_ret pe_non)) pss_nil)
    (pss_cons (ps_set (i := 3) sc.nd rfl (Or.inr rfl) (zlst (pa_cons (pe_dispT (Nat.lt_of_succ_lt (Nat.lt_of_succ_lt (hu2 hr))) (ztup (pa_cons pe_int (pa_cons (zv 1) pa_nil))) pe_bl) pa_nil)))
    (pss_cons (zps_while PassesOwn.never (zpc (zeqD (hu64 hr)) (pe_lc (own := [("one", 11)]) rfl sc.nd (zpi_range2 (by rfl) B.b_range (pa_cons pe_int (pa_cons (pe_callB (zmin2 rfl) (by rfl) B.b_min (by decide +kernel) (pa_cons (zv 2) (pa_cons (pe_op zadd (zv 1) pe_int) pa_nil))) pa_nil))) (blkOk_by (own := [("one", 11)]) (N := ["divisor", "told", "base", "leads", "more", "rest", "total", "figure", "number", "at", "good", "one"]) (sc := defScope (top 19)) (by decide +kernel)) (fun _ _ _ _ _ => (pg_name (i := 11) sc.nd rfl (Or.inl rfl))) (fun _ _ _ _ _ => (pts_one (pt_cmp (pc_din (Nat.lt_of_succ_lt (hu2 hr)) (ztup (pa_cons (pe_op zmod (zv 11) (zv 0)) (pa_cons (zv 11) pa_nil))) (pe_ix (zixLK (K := K) rfl) (zv 3) (pe_un zneg pe_int) (fun _ _ => rfl)))))) (fun _ _ _ _ _ => (zv 11))) (zlst pa_nil)) (pss_cons (ps_set (i := 4) sc.nd rfl (Or.inl rfl) pe_dnewT)
    (pss_cons (ps_for PassesOwn.never rfl (pi_range1 (by rfl) B.b_range (pa_cons (zv 0) pa_nil)) (pg_name (i := 5) sc.nd rfl (Or.inl rfl)) (pss_one (ps_for PassesOwn.never rfl (zpi_range2 (by rfl) B.b_range (pa_cons pe_int (pa_cons (pe_op zadd (zv 1) pe_int) pa_nil))) (pg_name (i := 6) sc.nd rfl (Or.inl rfl)) (pss_one (ps_for PassesOwn.never rfl (pi_range1 (by rfl) B.b_range (pa_cons (pe_callB (zmin2 rfl) (by rfl) B.b_min (by decide +kernel) (pa_cons (zv 2) (pa_cons (pe_op zadd (pe_op zsub (zv 1) (zv 6)) pe_int) pa_nil))) pa_nil)) (pg_name (i := 7) sc.nd rfl (Or.inl rfl)) (pss_one (zps_if (pt_cmp (pc_din (Nat.lt_of_succ_lt (hu2 hr)) (ztup (pa_cons (pe_op zmod (pe_op zadd (pe_op zmul (zv 5) (zv 2)) (zv 7)) (zv 0)) (pa_cons (pe_op zadd (zv 6) (zv 7)) pa_nil))) (pe_ix zixL (zv 3) (pe_un zneg pe_int) (fun _ _ => rfl)))) (pss_one (ps_dput (Nat.lt_of_succ_lt (hu2 hr)) (zv 4) (ztup (pa_cons (zv 5) (pa_cons (zv 6) pa_nil))) pe_bl rfl)) pss_nil)))))))
    (pss_one (ps_expr (pe_bm PySem.F.plainAttrs_list PySem.F.slot_list_append PySem.F.type_list_append zappend (zv 3) (pa_cons (zv 4) pa_nil)))))))
    (pss_cons (ps_set (i := 8) sc.nd rfl (Or.inl rfl) pe_int)
    (pss_cons (ps_set (i := 5) sc.nd rfl (Or.inl rfl) pe_int)
    (pss_cons (ps_set (i := 6) sc.nd rfl (Or.inl rfl) pe_int)
    (pss_cons (ps_for PassesOwn.never rfl (pi_range3 (by rfl) B.b_range (pa_cons (pe_op zsub (pe_callB zlen (by rfl) B.b_len (by decide +kernel) (pa_cons (zv 3) pa_nil)) pe_int) (pa_cons (pe_un zneg pe_int) (pa_cons (pe_un zneg pe_int) pa_nil)))) (pg_name (i := 9) sc.nd rfl (Or.inl rfl)) (pss_cons (ps_set (i := 10) sc.nd rfl (Or.inl rfl) (zlst pa_nil))
    (pss_cons (ps_for PassesOwn.never rfl (zpi_range2 (by rfl) B.b_range (pa_cons (pe_callTy zint (by rfl) B.b_int (by decide +kernel) (pa_cons (pe_cmpR zeq (zv 8) pe_int (nomark _)) pa_nil)) (pa_cons (pe_callB (zmin2 rfl) (by rfl) B.b_min (by decide +kernel) (pa_cons (zv 2) (pa_cons (pe_op zadd (pe_op zsub (zv 1) (zv 6)) pe_int) pa_nil))) pa_nil))) (pg_name (i := 7) sc.nd rfl (Or.inl rfl)) (pss_one (zps_if (pt_cmp (pc_din (Nat.lt_of_succ_lt (hu2 hr)) (ztup (pa_cons (pe_op zmod (pe_op zadd (pe_op zmul (zv 5) (zv 2)) (zv 7)) (zv 0)) (pa_cons (pe_op zadd (zv 6) (zv 7)) pa_nil))) (pe_ix zixL (zv 3) (zv 9) (fun _ _ => rfl)))) (pss_one (ps_expr (pe_bm PySem.F.plainAttrs_list PySem.F.slot_list_append PySem.F.type_list_append zappend (zv 10) (pa_cons (zv 7) pa_nil)))) pss_nil)))
    (pss_cons (ps_set (i := 8) sc.nd rfl (Or.inl rfl) (pe_op zadd (pe_op zmul (zv 8) (zv 2)) (pe_ix zixL (zv 10) pe_int (fun _ _ => rfl))))
    (pss_cons (ps_set (i := 5) sc.nd rfl (Or.inl rfl) (pe_op zmod (pe_op zadd (pe_op zmul (zv 5) (zv 2)) (pe_ix zixL (zv 10) pe_int (fun _ _ => rfl))) (zv 0)))
    (pss_one (ps_set (i := 6) sc.nd rfl (Or.inl rfl) (pe_op zadd (zv 6) (pe_ix zixL (zv 10) pe_int (fun _ _ => rfl))))))))))
    (pss_one (ps_ret (zv 8)))))))))), ?_⟩
  have C6 : d * (t + 1) ≤ 60 * 101 := Nat.mul_le_mul hd2 (by omega)
  walk_at "w"
  refine ⟨d, t, b, rfl, hd, hd2, ht, ht2, hb, hb2, fun c H1 hc S1 => ?_⟩
  cases c with
  | false =>
    walk_at "w"
    exact qn H1 (fun m hm => absurd (hc.mpr ⟨m, hm⟩) (by decide)) S1
  | true =>
  obtain ⟨m, hm, least⟩ := M.least_in (hc.mp rfl)
  have short := M.least_short hb hd hm least
  generalize hC : d * (t + 1) = C at short C6
  have m0 : 0 < m := by
    refine Nat.pos_of_ne_zero fun z => ?_
    have := hm.1
    rw [z, M.dsum_zero hb] at this
    omega
  obtain ⟨L, L1, L2⟩ := M.log_in hb m0
  have LC : L < C := Nat.lt_of_not_le fun le => by
    have := Nat.pow_le_pow_right (show 0 < b by omega) le
    omega
  walk_at "go"
  intro p0 np0
  walk_at "go"
  refine fun q0 G1 nq hq S2 => ?_
  walk_at "w"
  refine ⟨S2 _ _ upd_same, q0, M.keyT (0, t), rfl, hq, ?_⟩
  walk_at "go"
  refine fun pl G2 npl hpl S3 => ?_
  have Spre : Same H (upd G1 p0 (.dT [(M.keyT (0, t), V.bl true)])) := S1.trans (fun a o h => by
    have na := ne_of_none h np0
    rw [upd_ne na]
    refine S2 _ _ ?_
    rw [upd_ne na]
    exact h)
  have npl0 : H pl = none := Spre.free npl
  have S13 : Same H G2 := Spre.trans S3
  have hp0 : G2 p0 = some (.dT (M.smet [(0, t)])) := S3 _ _ upd_same
  have lds0 : Lds G2 [p0] b d t := fun j a e => by
    rcases j with _ | j
    · cases e
      exact ⟨_, hp0, M.Ld.first hb hd ht⟩
    · cases e
  clear hp0 S3 hq nq S2 np0 Spre npl
  walk_at "w"
  refine ⟨fun mm σ G => ∃ (ds : List Addr) (k : Nat) (v4 v5 v6 v7 v11 : Option V), σ = [some (.int (d : Int)), some (.int (t : Int)), some (.int (b : Int)), some (.ref pl), v4, v5, v6, v7, none, none, none, v11] ∧ Same H G ∧ G pl = some (.lst (ds.map V.ref)) ∧ Lds G ds b d t ∧ ds.length = k + 1 ∧ k ≤ L ∧ (∀ j, j < k → ∀ f, 1 ≤ f → f < b → ¬ M.lead b d t j (f % d) f) ∧ mm = L - k, ⟨_, [p0], 0, _, _, _, _, _, rfl, S13, hpl, lds0, rfl, Nat.zero_le _, fun j h => absurd h (Nat.not_lt_zero _), rfl⟩, ?_⟩
  rintro mm σ G ⟨ds, k, v4, v5, v6, v7, v11, rfl, S4, hpl4, lds, dl, kL, first, rfl⟩
  obtain ⟨pk, epk⟩ : ∃ a, ds[k]? = some a := ⟨_, List.getElem?_eq_getElem (by omega)⟩
  obtain ⟨X, hpk, hX⟩ := lds k pk epk
  have lastD : atI (ds.map V.ref) (-1) = some (V.ref pk) := M.at_end (n := k) (by rw [List.getElem?_map, epk]; rfl) (by rw [List.length_map, dl])
  walk_at "w"
  intro D nD
  refine lc_range (lo := 1) (n := (min (b : Int) ((t : Int) + 1) - 1).toNat) (fun i H' => Same G H' ∧ ∃ os : List Nat, H' D = some (.lst (M.vN os)) ∧ os.length ≤ i ∧ (∀ x ∈ os, 1 ≤ x ∧ x < b ∧ (x % d, x) ∈ X) ∧ ∀ x, 1 ≤ x → x ≤ i → (x % d, x) ∈ X → x ∈ os) ⟨same_upd nD, [], upd_same, Nat.le_refl _, fun x h => (nomatch h), fun x h1 h2 => by omega⟩ (fun i H' hi h => ?_) (fun H' h => ?_)
  · obtain ⟨S5, os, hos, ol, o1, o2⟩ := h
    have hi2 : i + 1 < b := by omega
    have hi3 : i + 1 ≤ t := by omega
    have ei : (1 : Int) + (i : Int) = ((i + 1 : Nat) : Int) := by omega
    walk_at "w"
    refine ⟨rfl, ?_⟩
    walk_at "w"
    refine ⟨(by omega : (0 : Int) < (d : Int)), ?_⟩
    walk_at "go"
    refine fun tz G5 nz hz T5 => ?_
    have hk : G5 tz = some (.tup ((M.keyT ((i + 1) % d, i + 1)).map kV)) := by
      rw [hz]
      refine congrArg (fun z => some (HO.tup z)) ?_
      show [V.int ((1 + (i : Int)) % (d : Int)), V.int (1 + (i : Int))] = [V.int (((i + 1) % d : Nat) : Int), V.int ((i + 1 : Nat) : Int)]
      rw [ei, ← Int.natCast_emod]
    have g := DGet.t (k := M.keyT ((i + 1) % d, i + 1)) (T5 _ _ (S5 _ _ hpk)) hk
    walk_at "w"
    refine ⟨_, _, .inl (.inl (T5 _ _ (S5 _ _ hpl4))), lastD, ?_⟩
    have S55 := S5.trans T5
    have nDz : D ≠ tz := ne_of_none hos nz
    have hos5 := T5 _ _ hos
    by_cases m : ((i + 1) % d, i + 1) ∈ X
    · rw [M.smet_has m] at g
      walk_at "w"
      refine ⟨pk, _, rfl, g, true, rfl, ?_⟩
      walk_at "w"
      refine ⟨_, hos5, ?_, fun a o ha => ?_, os ++ [i + 1], ?_, ?_, fun x h => ?_, fun x h1 h2 h3 => ?_⟩
      · rw [M.vN_len, sizeLine_eq]
        omega
      · rw [upd_ne (ne_of_none ha nD)]
        exact S55 _ _ ha
      · rw [upd_same, M.vN_append, ei]
        rfl
      · rw [List.length_append]
        exact Nat.succ_le_succ ol
      · rcases List.mem_append.mp h with y | y
        · exact o1 x y
        · rw [List.mem_singleton.mp y]
          exact ⟨by omega, hi2, m⟩
      · rcases Nat.lt_or_ge i x with y | y
        · rw [show x = i + 1 by omega]
          exact List.mem_append.mpr (.inr (List.mem_singleton.mpr rfl))
        · exact List.mem_append.mpr (.inl (o2 x h1 y h3))
    · rw [M.smet_no m] at g
      walk_at "w"
      refine ⟨pk, _, rfl, g, false, rfl, ?_⟩
      walk_at "w"
      refine ⟨S55, os, hos5, by omega, o1, fun x h1 h2 h3 => ?_⟩
      rcases Nat.lt_or_ge i x with y | y
      · rw [show x = i + 1 by omega] at h3
        exact absurd h3 m
      · exact o2 x h1 y h3
  · obtain ⟨S5, os, hos, ol, o1, o2⟩ := h
    walk_at "go"
    refine fun ln G6 nln hln T6 => ?_
    have S56 := S5.trans T6
    have hos6 := T6 _ _ hos
    clear T6 S5 hos
    walk_at "w"
    refine ⟨.list (os.map fun x : Nat => PyData.int (x : Int)), .list [], .lst (.inl (.inl hos6)) (ints_dp os), .lst (.inl (.inl hln)) .nil, ⟨ints_shaped os, by decide +kernel⟩, fun yes => ?_, fun no => ?_⟩
    · have e0 : os = [] := by
        cases os with
        | nil => rfl
        | cons a r => cases yes
      subst e0
      have nof : ∀ f, 1 ≤ f → f < b → ¬ M.lead b d t k (f % d) f := fun f h1 h2 w => by
        have ft := M.lead_le w
        exact nomatch (o2 f h1 (by omega) ((hX.2 _ _).mpr ⟨Nat.mod_lt _ hd, h1, ft, w⟩))
      have kL2 : k < L := by
        refine Nat.lt_of_le_of_ne kL fun e => ?_
        subst e
        have hp : 0 < b ^ k := Nat.pow_pos (by omega)
        have f1 : 1 ≤ m / b ^ k := (Nat.le_div_iff_mul_le hp).mpr (by omega)
        have fb : m / b ^ k < b := Nat.div_lt_of_lt_mul (by rw [← Nat.pow_succ]; exact L2)
        exact nof _ f1 fb ((M.lead_mul hb fb).mpr ⟨m % b ^ k, Nat.mod_lt _ hp, by rw [Nat.div_add_mod']; exact hm⟩)
      clear hos6 hln nln o1 o2
      walk_at "w"
      intro pm npm
      have npmH : H pm = none := (S4.trans S56).free npm
      have Sm : Same G6 (upd G6 pm (.dT [])) := same_upd npm
      have hX2 : X.length ≤ C := by rw [← hC]; exact hX.few
      have hpk6 := S56 _ _ hpk
      have hpl6 := S56 _ _ hpl4
      have nkm : pk ≠ pm := ne_of_none hpk6 npm
      have nlm : pl ≠ pm := ne_of_none hpl6 npm
      have few : ∀ {Y : List (Nat × Nat)} {P : Nat → Nat → Prop}, M.Kp Y P → (∀ r s, P r s → r < d ∧ s ≤ t) → Y.length ≤ C := fun {Y P} h k => by
        rw [← hC]
        exact M.pairs_few h.1 fun q hq => k _ _ ((h.2 q.1 q.2).mp hq)
      walk_at "w"
      refine ⟨_, rfl, by omega, by omega, for_range (fun r σ G7 => ∃ (Y : List (Nat × Nat)) (v5 v6 v7 : Option V), σ = [some (.int (d : Int)), some (.int (t : Int)), some (.int (b : Int)), some (.ref pl), some (.ref pm), v5, v6, v7, none, none, none, v11] ∧ Same G6 G7 ∧ G7 pm = some (.dT (M.smet Y)) ∧ M.Kp Y fun r' s' => r' < r ∧ 1 ≤ s' ∧ s' ≤ t ∧ M.lead b d t (k + 1) r' s') ⟨[], _, _, _, rfl, Sm, upd_same, M.Kp.none_.to fun r s => ⟨fun h => h.elim, fun h => absurd h.1 (Nat.not_lt_zero _)⟩⟩ ?_ ?_⟩
      · rintro r σ7 G7 hr ⟨Y, w5, w6, w7, rfl, S7, hpm7, kp⟩
        have hr2 : r < d := by omega
        walk_at "w"
        refine for_range (fun j σ G8 => ∃ (Y : List (Nat × Nat)) (v6 v7 : Option V), σ = [some (.int (d : Int)), some (.int (t : Int)), some (.int (b : Int)), some (.ref pl), some (.ref pm), some (.int (0 + (r : Int))), v6, v7, none, none, none, v11] ∧ Same G6 G8 ∧ G8 pm = some (.dT (M.smet Y)) ∧ M.Kp Y fun r' s' => 1 ≤ s' ∧ s' ≤ t ∧ M.lead b d t (k + 1) r' s' ∧ (r' < r ∨ (r' = r ∧ s' ≤ j))) ⟨Y, _, _, rfl, S7, hpm7, kp.to fun r' s' => ⟨fun h => ⟨h.2.1, h.2.2.1, h.2.2.2, .inl h.1⟩, fun h => ⟨by have := h.1; have := h.2.2.2; omega, h.1, h.2.1, h.2.2.1⟩⟩⟩ ?_ ?_
        · clear kp hpm7 S7
          rintro j σ8 G8 hj ⟨Y, w6, w7, rfl, S8, hpm8, kp⟩
          have hj2 : j + 1 ≤ t := by omega
          walk_at "w"
          refine ⟨_, rfl, by omega, by omega, for_range (fun f σ G9 => ∃ (Y : List (Nat × Nat)) (v7 : Option V), σ = [some (.int (d : Int)), some (.int (t : Int)), some (.int (b : Int)), some (.ref pl), some (.ref pm), some (.int (0 + (r : Int))), some (.int (1 + (j : Int))), v7, none, none, none, v11] ∧ Same G6 G9 ∧ G9 pm = some (.dT (M.smet Y)) ∧ M.Kp Y fun r' s' => (1 ≤ s' ∧ s' ≤ t ∧ M.lead b d t (k + 1) r' s' ∧ (r' < r ∨ (r' = r ∧ s' ≤ j))) ∨ (r' = r ∧ s' = j + 1 ∧ ∃ f', f' < f ∧ j + 1 + f' ≤ t ∧ M.nx b d (r, j + 1) f' ∈ X)) ⟨Y, _, rfl, S8, hpm8, kp.to fun r' s' => ⟨.inl, fun h => h.elim id fun ⟨_, _, f', lt, _⟩ => absurd lt (Nat.not_lt_zero _)⟩⟩ ?_ ?_⟩
          · clear kp hpm8 S8
            rintro f σ9 G9 hf ⟨Y, w7, rfl, S9, hpm9, kp⟩
            have hf1 : f < b := by omega
            have hf2 : j + 1 + f ≤ t := by omega
            walk_at "w"
            refine ⟨.inr (.inl ⟨by omega, by omega⟩), ?_⟩
            walk_at "w"
            refine ⟨(by omega : (0 : Int) < (d : Int)), ?_⟩
            walk_at "go"
            refine fun tz Ga nz hz Ta => ?_
            have hk : Ga tz = some (.tup ((M.keyT (M.nx b d (r, j + 1) f)).map kV)) := by
              rw [hz]
              refine congrArg (fun z => some (HO.tup z)) ?_
              show [V.int (((0 + (r : Int)) * (b : Int) + (0 + (f : Int))) % (d : Int)), V.int (1 + (j : Int) + (0 + (f : Int)))] = [V.int (((r * b + f) % d : Nat) : Int), V.int ((j + 1 + f : Nat) : Int)]
              rw [Int.zero_add, Int.zero_add, ← Int.natCast_mul, ← Int.natCast_add, ← Int.natCast_emod, show (1 : Int) + (j : Int) + (f : Int) = ((j + 1 + f : Nat) : Int) by omega]
            have Sa := S9.trans Ta
            have g := DGet.t (k := M.keyT (M.nx b d (r, j + 1) f)) (Sa _ _ hpk6) hk
            walk_at "w"
            refine ⟨_, _, .inl (.inl (Sa _ _ hpl6)), lastD, ?_⟩
            have hpma := Ta _ _ hpm9
            by_cases m : M.nx b d (r, j + 1) f ∈ X
            · rw [M.smet_has m] at g
              walk_at "w"
              refine ⟨pk, _, rfl, g, true, rfl, ?_⟩
              walk_at "go"
              refine fun ty Gb ny hy Tb => ?_
              have hk2 : Gb ty = some (.tup ((M.keyT (r, j + 1)).map kV)) := by
                rw [hy]
                refine congrArg (fun z => some (HO.tup z)) ?_
                show [V.int (0 + (r : Int)), V.int (1 + (j : Int))] = [V.int ((r : Nat) : Int), V.int ((j + 1 : Nat) : Int)]
                rw [Int.zero_add, show (1 : Int) + (j : Int) = ((j + 1 : Nat) : Int) by omega]
              obtain ⟨ls, pe, kp2⟩ := kp.add r (j + 1)
              have fw := few kp fun r' s' h => by
                rcases h with ⟨_, h2, _, h4⟩ | ⟨h1, h2, _⟩
                · exact ⟨by omega, h2⟩
                · exact ⟨by omega, by omega⟩
              walk_at "w"
              refine ⟨pm, _, rfl, DPut.t (k := M.keyT (r, j + 1)) (Tb _ _ hpma) hk2 (by rw [M.smet_len, sizeLine_eq]; omega), ?_⟩
              rw [pe]
              walk_at "w"
              refine ⟨ls, _, rfl, fun a o ha => ?_, upd_same, kp2.to fun r' s' => ?_⟩
              · rw [upd_ne (ne_of_none ha npm)]
                exact Tb _ _ (Sa _ _ ha)
              · constructor
                · rintro ((h | ⟨h1, h2, f', h3, h4, h5⟩) | ⟨h1, h2⟩)
                  · exact .inl h
                  · exact .inr ⟨h1, h2, f', by omega, h4, h5⟩
                  · exact .inr ⟨h1, h2, f, by omega, hf2, m⟩
                · rintro (h | ⟨h1, h2, f', h3, h4, h5⟩)
                  · exact .inl (.inl h)
                  · exact .inr ⟨h1, h2⟩
            · rw [M.smet_no m] at g
              walk_at "w"
              refine ⟨pk, _, rfl, g, false, rfl, ?_⟩
              walk_at "w"
              refine ⟨Y, _, rfl, Sa, hpma, kp.to fun r' s' => ⟨fun h => h.imp id fun ⟨h1, h2, f', h3, h4⟩ => ⟨h1, h2, f', by omega, h4⟩, fun h => h.imp id fun ⟨h1, h2, f', h3, h4, h5⟩ => ⟨h1, h2, f', ?_, h4, h5⟩⟩⟩
              refine Nat.lt_of_le_of_ne (by omega) fun e => ?_
              rw [e] at h5
              exact m h5
          · rintro σ9 G9 ⟨Y, w7, rfl, S9, hpm9, kp⟩
            have row := M.lead_row (r := r) hb hd hX (show 1 ≤ j + 1 by omega)
            have ef : (min (b : Int) ((t : Int) - (1 + (j : Int)) + 1)).toNat = min b (t - (j + 1) + 1) := by omega
            walk_at "w"
            refine ⟨Y, _, _, rfl, S9, hpm9, kp.to fun r' s' => ?_⟩
            constructor
            · rintro (⟨h1, h2, h3, h4⟩ | ⟨h1, h2, f', h3, h4, h5⟩)
              · exact ⟨h1, h2, h3, by omega⟩
              · refine ⟨by omega, by omega, ?_, .inr ⟨h1, by omega⟩⟩
                rw [h1, h2]
                exact row.mpr ⟨f', by omega, h4, h5⟩
            · rintro ⟨h1, h2, h3, h4⟩
              by_cases c : r' = r ∧ s' = j + 1
              · refine .inr ⟨c.1, c.2, ?_⟩
                rw [c.1, c.2] at h3
                obtain ⟨f', y1, y2, y3⟩ := row.mp h3
                exact ⟨f', by omega, y2, y3⟩
              · exact .inl ⟨h1, h2, h3, by omega⟩
        · rintro σ8 G8 ⟨Y, w6, w7, rfl, S8, hpm8, kp⟩
          walk_at "w"
          refine ⟨Y, _, _, _, rfl, S8, hpm8, kp.to fun r' s' => ⟨fun ⟨h1, h2, h3, h4⟩ => ⟨by omega, h1, h2, h3⟩, fun ⟨h1, h2, h3, h4⟩ => ⟨h2, h3, h4, by omega⟩⟩⟩
      · rintro σ7 G7 ⟨Y, w5, w6, w7, rfl, S7, hpm7, kp⟩
        rw [Int.toNat_natCast] at kp
        have hl7 := S7 _ _ hpl6
        walk_at "go"
        refine ⟨_, hl7, ?_, fun G8 h8 K8 F8 => ?_⟩
        · rw [List.length_map, sizeLine_eq]
          omega
        have lds7 := lds.same (S56.trans S7)
        walk_at "w"
        refine ⟨L - (k + 1), by omega, ds ++ [pm], k + 1, _, _, _, _, _, rfl, fun a o ha => K8 _ _ (ne_of_none ha npl0) (S7 _ _ (S56 _ _ (S4 _ _ ha))), ?_, ?_, ?_, by omega, fun j hj f h1 h2 => ?_, rfl⟩
        · rw [h8, List.map_append]
          rfl
        · exact (lds7.keep (lds7.lst hl7) K8).push dl (K8 _ _ (Ne.symm nlm) hpm7) ⟨kp.1, kp.2⟩
        · rw [List.length_append, dl]
          rfl
        · by_cases c : j = k
          · rw [c]
            exact nof f h1 h2
          · exact first j (by omega) f h1 h2
    · have some_f : ∃ f, 1 ≤ f ∧ f < b ∧ M.lead b d t k (f % d) f := by
        cases os with
        | nil => exact absurd rfl no
        | cons f r =>
          obtain ⟨h1, h2, h3⟩ := o1 f (List.mem_cons_self ..)
          exact ⟨f, h1, h2, ((hX.2 _ _).mp h3).2.2.2⟩
      obtain ⟨K1, K2⟩ := M.lead_first hb hm least first some_f
      have hpl6 := S56 _ _ hpl4
      have lds6 := lds.same S56
      have S6 := S4.trans S56
      have kC : k ≤ 6060 := by omega
      clear some_f o1 o2 ol hos6 hln nln hX hpk lds hpl4 S56 S4 lastD epk nD first kL L1 L2 LC
      generalize G6 = G at *
      walk_at "w"
      refine ⟨_, .inl (.inl (.inl hpl6)), ?_⟩
      rw [List.length_map, dl]
      walk_at "w"
      refine ⟨((k + 1 : Nat) : Int) - 1, -1, -1, k + 1, rfl, ?_, ?_⟩
      · have := RgC.neg (i := ((k + 1 : Nat) : Int) - 1) (j := -1) (by omega) (by omega) (by omega) (by omega)
        rw [show (((k + 1 : Nat) : Int) - 1 - -1).toNat = k + 1 by omega] at this
        exact this
      refine for_rangeC (fun i σ G7 => ∃ (v7 v9 v10 : Option V), σ = [some (.int (d : Int)), some (.int (t : Int)), some (.int (b : Int)), some (.ref pl), v4, some (.int ((m / b ^ (k + 1 - i) % d : Nat) : Int)), some (.int ((M.dsum b (m / b ^ (k + 1 - i)) : Nat) : Int)), v7, some (.int ((m / b ^ (k + 1 - i) : Nat) : Int)), v9, v10, v11] ∧ Same G G7) ?_ (fun i σ G7 hi h => ?_) (fun σ G7 h => ?_)
      · refine ⟨v7, none, none, ?_, Same.refl _⟩
        have z : m / b ^ (k + 1) = 0 := Nat.div_eq_of_lt K2
        rw [Nat.sub_zero, z, Nat.zero_mod, M.dsum_zero hb]
        rfl
      · obtain ⟨v7, v9, v10, rfl, S7⟩ := h
        obtain ⟨j, ej⟩ : ∃ j, j = k - i := ⟨_, rfl⟩
        have e1 : k + 1 - i = j + 1 := by omega
        have e2 : k + 1 - (i + 1) = j := by omega
        have eat : ((k + 1 : Nat) : Int) - 1 + (i : Int) * -1 = (j : Int) := by omega
        rw [e1, e2]
        try dsimp only
        rw [eat]
        obtain ⟨pj, epj⟩ : ∃ a, ds[j]? = some a := ⟨_, List.getElem?_eq_getElem (by omega)⟩
        have hpl7 := S7 _ _ hpl6
        obtain ⟨X, hpj, hX⟩ := (lds6.same S7) j pj epj
        obtain ⟨ld, no_less⟩ := M.lead_least (j := j) hb hm least
        obtain ⟨f0, ef0⟩ : ∃ f0, f0 = m / b ^ j % b := ⟨_, rfl⟩
        have hf0 : f0 < b := by rw [ef0]; exact Nat.mod_lt _ (by omega)
        rw [← ef0] at ld no_less
        have mj : m / b ^ j = m / b ^ (j + 1) * b + f0 := by
          rw [ef0, Nat.pow_succ, ← Nat.div_div_eq_div_mul]
          exact (Nat.div_add_mod' _ _).symm
        have mj1 : 1 ≤ m / b ^ j := (Nat.le_div_iff_mul_le (Nat.pow_pos (by omega))).mpr (by
          have := Nat.pow_le_pow_right (show 0 < b by omega) (show j ≤ k by omega)
          omega)
        have dj : M.dsum b (m / b ^ j) = M.dsum b (m / b ^ (j + 1)) + f0 := by rw [mj, M.dsum_snoc hb hf0]
        have rj : m / b ^ j % d = (m / b ^ (j + 1) % d * b + f0) % d := by rw [mj, M.mod_put d _ 0]
        have sj := M.lead_le ld
        have sj1 : 1 ≤ M.dsum b (m / b ^ (j + 1)) + f0 := by
          rw [← dj]
          exact M.dsum_pos hb _ mj1
        walk_at "go"
        refine fun pg G8 npg hpg T8 => ?_
        have hpl8 := T8 _ _ hpl7
        have hpj8 := T8 _ _ hpj
        have npgG : G pg = none := S7.free npg
        have S8 := S7.trans T8
        have njg : pj ≠ pg := ne_of_none hpj npg
        have nlg : pl ≠ pg := ne_of_none hpl7 npg
        clear hpl7 hpj T8 npg S7
        have atj : atI (ds.map V.ref) (j : Int) = some (V.ref pj) := atI_nat (by rw [List.getElem?_map, epj]; rfl)
        generalize eN : m / b ^ (j + 1) = N at *
        have rN : N % d < d := Nat.mod_lt _ hd
        have eR : (min (b : Int) ((t : Int) - ((M.dsum b N : Nat) : Int) + 1)).toNat = min b (t - M.dsum b N + 1) := by omega
        obtain ⟨LO, hA, hB, hl1, hl2⟩ : ∃ LO : Nat, (N = 0 → LO = 1) ∧ (N ≠ 0 → LO = 0) ∧ LO ≤ f0 ∧ ∀ x, LO ≤ x → 1 ≤ M.dsum b N + x := by
          by_cases z : N = 0
          · have mj := mj
            rw [z, Nat.zero_mul, Nat.zero_add] at mj
            exact ⟨1, fun _ => rfl, fun y => absurd z y, by omega, fun x hx => by omega⟩
          · have := M.dsum_pos hb N (by omega)
            exact ⟨0, fun y => absurd y z, fun _ => rfl, by omega, fun x hx => by omega⟩
        walk_at "w"
        refine ⟨fun cc => ?_, fun cc => ?_⟩
        all_goals
          first | have hLO : LO = 1 := hA (by have y : (N : Int) = 0 := cc; omega) | have hLO : LO = 0 := hB (by have y : ¬ (N : Int) = 0 := cc; omega)
          walk_at "w"
          refine for_range (fun f σ G9 => ∃ (gs : List Nat) (v7 : Option V), σ = [some (.int (d : Int)), some (.int (t : Int)), some (.int (b : Int)), some (.ref pl), v4, some (.int ((N % d : Nat) : Int)), some (.int ((M.dsum b N : Nat) : Int)), v7, some (.int (N : Int)), some (.int (j : Int)), some (.ref pg), v11] ∧ Same G G9 ∧ G9 pg = some (.lst (M.vN gs)) ∧ G9 pl = some (.lst (ds.map V.ref)) ∧ G9 pj = some (.dT (M.smet X)) ∧ gs.length ≤ f ∧ (LO + f ≤ f0 → gs = []) ∧ (f0 < LO + f → gs[0]? = some f0)) ⟨[], _, rfl, S8, hpg, hpl8, hpj8, Nat.le_refl _, fun _ => rfl, fun h => by omega⟩ ?_ ?_
          · clear hpl8 hpj8 S8 hpg
            rintro f σ9 G9 hf ⟨gs, w7, rfl, S9, hpg, hpl9, hpj9, gl, g1, g2⟩
            obtain ⟨x, ex⟩ : ∃ x, x = LO + f := ⟨_, rfl⟩
            dsimp only at hf
            have hx1 : x < b := by omega
            have hx2 : M.dsum b N + x ≤ t := by omega
            rw [← ex] at g1 g2
            first
              | have ei : (1 : Int) + (f : Int) = (x : Int) := by omega
              | have ei : (0 : Int) + (f : Int) = (x : Int) := by omega
            rw [ei]
            have mem : M.nx b d (N % d, M.dsum b N) x ∈ X ↔ M.lead b d t j ((N % d * b + x) % d) (M.dsum b N + x) := ⟨fun h => ((hX.2 _ _).mp h).2.2.2, fun h => (hX.2 _ _).mpr ⟨Nat.mod_lt _ hd, hl2 x (by omega), hx2, h⟩⟩
            walk_at "w"
            refine ⟨.inr (.inl ⟨by omega, by omega⟩), ?_⟩
            walk_at "w"
            refine ⟨(by omega : (0 : Int) < (d : Int)), ?_⟩
            walk_at "go"
            refine fun tz Ga nz hz Ta => ?_
            have hk : Ga tz = some (.tup ((M.keyT (M.nx b d (N % d, M.dsum b N) x)).map kV)) := by
              rw [hz]
              refine congrArg (fun z => some (HO.tup z)) ?_
              show [V.int ((((N % d : Nat) : Int) * (b : Int) + (x : Int)) % (d : Int)), V.int (((M.dsum b N : Nat) : Int) + (x : Int))] = [V.int (((N % d * b + x) % d : Nat) : Int), V.int ((M.dsum b N + x : Nat) : Int)]
              rw [← Int.natCast_mul, ← Int.natCast_add, ← Int.natCast_emod, ← Int.natCast_add]
            have Sa := S9.trans Ta
            have hpla := Ta _ _ hpl9
            have hpja := Ta _ _ hpj9
            have hpga := Ta _ _ hpg
            have g := DGet.t (k := M.keyT (M.nx b d (N % d, M.dsum b N) x)) hpja hk
            walk_at "w"
            refine ⟨_, _, .inl (.inl hpla), atj, ?_⟩
            by_cases mm : M.nx b d (N % d, M.dsum b N) x ∈ X
            · rw [M.smet_has mm] at g
              have ldx := mem.mp mm
              have nlx : ¬ x < f0 := fun lt => no_less x lt ldx
              walk_at "w"
              refine ⟨pj, _, rfl, g, true, rfl, ?_⟩
              walk_at "go"
              refine ⟨_, hpga, ?_, fun Gb hb9 Kb Fb => ?_⟩
              · rw [M.vN_len, sizeLine_eq]
                omega
              walk_at "w"
              refine ⟨gs ++ [x], _, rfl, fun a o ha => Kb _ _ (ne_of_none ha npgG) (Sa _ _ ha), ?_, Kb _ _ nlg hpla, Kb _ _ njg hpja, ?_, fun h => by omega, fun h => ?_⟩
              · rw [hb9, M.vN_append]
                rfl
              · rw [List.length_append]
                exact Nat.succ_le_succ gl
              · rcases Nat.lt_or_ge f0 x with y | y
                · have q0 := g2 y
                  rw [List.getElem?_append_left (List.getElem?_eq_some_iff.mp q0).1]
                  exact q0
                · rw [g1 (by omega)]
                  rw [show x = f0 by omega]
                  rfl
            · rw [M.smet_no mm] at g
              have nx0 : x ≠ f0 := fun e => mm (mem.mpr (e ▸ ld))
              walk_at "w"
              refine ⟨pj, _, rfl, g, false, rfl, ?_⟩
              walk_at "w"
              exact ⟨gs, _, rfl, Sa, hpga, hpla, hpja, by omega, fun h => g1 (by omega), fun h => g2 (by omega)⟩
          · rintro σ9 G9 ⟨gs, w7, rfl, S9, hpg, hpl9, hpj9, gl, g1, g2⟩
            dsimp only at g2
            have q0 := g2 (by omega)
            have at0 : atI (M.vN gs) ((0 : Nat) : Int) = some (.int (f0 : Int)) := atI_nat (by unfold M.vN; rw [List.getElem?_map, q0]; rfl)
            walk_at "w"
            refine ⟨.inr (.inl ⟨by omega, by omega⟩), ?_⟩
            walk_at "w"
            refine ⟨_, _, .inl (.inl hpg), at0, ?_⟩
            walk_at "w"
            refine ⟨.inr (.inl ⟨by omega, by omega⟩), ?_⟩
            walk_at "w"
            refine ⟨_, _, .inl (.inl hpg), at0, ?_⟩
            walk_at "w"
            refine ⟨(by omega : (0 : Int) < (d : Int)), ?_⟩
            walk_at "w"
            refine ⟨_, _, .inl (.inl hpg), at0, ?_⟩
            walk_at "w"
            refine ⟨w7, some (.int (j : Int)), some (.ref pg), ?_, S9⟩
            have z1 : ((N * b + f0 : Nat) : Int) = (N : Int) * (b : Int) + (f0 : Int) := by rw [Int.natCast_add, Int.natCast_mul]
            have z2 : (((N % d * b + f0) % d : Nat) : Int) = (((N % d : Nat) : Int) * (b : Int) + (f0 : Int)) % (d : Int) := by rw [Int.natCast_emod, Int.natCast_add, Int.natCast_mul]
            have z3 : ((M.dsum b N + f0 : Nat) : Int) = ((M.dsum b N : Nat) : Int) + (f0 : Int) := Int.natCast_add _ _
            rw [rj, dj, mj, z1, z2, z3]
            rfl
      · obtain ⟨v7, v9, v10, rfl, S7⟩ := h
        rw [Nat.sub_self, Nat.pow_zero, Nat.div_one]
        walk_at "w"
        exact qm m G7 hm least (S6.trans S7)
/-! _law_sum -/
abbrev s__law_sum : Stmt := top 15
abbrev ps__law_sum : List Str := ["number", "base"]
theorem sc__law_sum : FnScope ["number", "base", "found"] ["number", "base"] (defScope s__law_sum) := ⟨rfl, rfl, rfl, by decide +kernel, rfl, by decide +kernel, by decide +kernel⟩
def sp__law_sum (K : PySem.W.Frag) (_ : Ads) : Sp := fun vs H Q _ => ∃ n b : Nat, vs = [.int (n : Int), .int (b : Int)] ∧ 2 ≤ b ∧ b ≤ 36 ∧ Q (.int (M.dsum b n : Nat)) H
theorem ok__law_sum (D : DefAt K mg "_law_sum" s__law_sum ps__law_sum) (B : Blt mg) (C : Cst mg) (KC : Kls K mg ad) : Cal P w K mg base 1 "_law_sum" ps__law_sum (sp__law_sum K ad) := by
  have sc := sc__law_sum
  refine mkCal D sc (fun vs H Q E h => ?_) (fun f cdv A outer s H vs Q E hr h => ?_)
  · obtain ⟨n, b, rfl, hb, hb2, q⟩ := h
    rfl
  obtain ⟨n, b, rfl, hb, hb2, q⟩ := h
  refine ⟨_, (pss_cons (ps_set (i := 2) sc.nd rfl (Or.inl rfl) pe_int)
    (pss_cons (zps_while PassesOwn.never (zpc zgt (zv 0) pe_int) (pss_cons (ps_set (i := 2) sc.nd rfl (Or.inl rfl) (pe_op zadd (zv 2) (pe_op zmod (zv 0) (zv 1))))
    (pss_one (ps_set (i := 0) sc.nd rfl (Or.inl rfl) (pe_op zfdiv (zv 0) (zv 1))))))
    (pss_one (ps_ret (zv 2))))), ?_⟩
  walk_at "w"
  refine ⟨fun m σ H' => ∃ x : Nat, σ = [some (.int (m : Int)), some (.int (b : Int)), some (.int (x : Int))] ∧ H' = H ∧ x + M.dsum b m = M.dsum b n, ⟨n, 0, rfl, rfl, by omega⟩, ?_⟩
  rintro k σ1 H1 ⟨x, rfl, rfl, e⟩
  walk_at "w"
  refine ⟨fun cc => ?_, fun cc => ?_⟩
  · have c' : 0 < k := by omega
    walk_at "go"
    refine ⟨k / b, Nat.div_lt_self c' (by omega), x + k % b, rfl, rfl, ?_⟩
    rw [M.dsum_step hb] at e
    omega
  · have c' : k = 0 := by omega
    subst c'
    rw [M.dsum_small (by omega)] at e
    walk_at "w"
    show Q (.int (x : Int)) H1
    have : x = M.dsum b n := by omega
    rw [this]; exact q
/-! _law_by_trial -/
abbrev s__law_by_trial : Stmt := top 20
abbrev ps__law_by_trial : List Str := ["divisor", "told", "base"]
theorem sc__law_by_trial : FnScope ["divisor", "told", "base", "times"] ["divisor", "told", "base"] (defScope s__law_by_trial) := ⟨rfl, rfl, rfl, by decide +kernel, rfl, by decide +kernel, by decide +kernel⟩
def sp__law_by_trial (K : PySem.W.Frag) (_ : Ads) : Sp := fun vs H Q _ => ∃ (d t b : Nat), vs = [.int (d : Int), .int (t : Int), .int (b : Int)] ∧ 1 ≤ d ∧ d ≤ 60 ∧ 1 ≤ t ∧ t ≤ 100 ∧ 2 ≤ b ∧ b ≤ 16 ∧ ((∀ k, 1 ≤ k → k ≤ 200 → ¬ M.Mul b d t (k * d)) → Q .non H) ∧ ∀ k, 1 ≤ k → k ≤ 200 → M.Mul b d t (k * d) → (∀ j, 1 ≤ j → j < k → ¬ M.Mul b d t (j * d)) → Q (.int ((k * d : Nat) : Int)) H
theorem ok__law_by_trial (D : DefAt K mg "_law_by_trial" s__law_by_trial ps__law_by_trial) (B : Blt mg) (C : Cst mg) (KC : Kls K mg ad) (c__law_sum : Cal P w K mg base 1 "_law_sum" ps__law_sum (sp__law_sum K ad)) : Cal P w K mg base 2 "_law_by_trial" ps__law_by_trial (sp__law_by_trial K ad) := by
  have sc := sc__law_by_trial
  refine mkCal D sc (fun vs H Q E h => ?_) (fun f cdv A outer s H vs Q E hr h => ?_)
  · obtain ⟨d, t, b, rfl, hd, hd2, ht, ht2, hb, hb2, qn, qm⟩ := h
    rfl
  obtain ⟨d, t, b, rfl, hd, hd2, ht, ht2, hb, hb2, qn, qm⟩ := h
  refine ⟨_, (pss_cons (ps_for PassesOwn.never rfl (zpi_range2 (by rfl) B.b_range (pa_cons pe_int (pa_cons pe_int pa_nil))) (pg_name (i := 3) sc.nd rfl (Or.inl rfl)) (pss_one (zps_if (zpc zeq (zcall c__law_sum (hr.mono (by decide)) (by rfl) (pa_cons (pe_op zmul (zv 3) (zv 0)) (pa_cons (zv 2) pa_nil))) (zv 1)) (pss_one (ps_ret (pe_op zmul (zv 3) (zv 0)))) pss_nil)))
    (pss_one (ps_ret pe_non))), ?_⟩
  walk_at "w"
  refine for_range (fun i σ G => ∃ (v3 : Option V), σ = [some (.int (d : Int)), some (.int (t : Int)), some (.int (b : Int)), v3] ∧ G = H ∧ ∀ j, 1 ≤ j → j < i + 1 → ¬ M.Mul b d t (j * d)) ⟨_, rfl, rfl, fun j h1 h2 => by omega⟩ ?_ ?_
  · rintro i σ G hi ⟨v3, rfl, rfl, no⟩
    have hi2 : i < 200 := by
      have h : i < ((201 : Int) - 1).toNat := hi
      omega
    have e1 : (1 + (i : Int)) * (d : Int) = (((i + 1) * d : Nat) : Int) := by
      rw [Int.natCast_mul, Int.natCast_add, Int.add_comm]
      rfl
    have mul : M.dsum b ((i + 1) * d) = t ↔ M.Mul b d t ((i + 1) * d) := ⟨fun h => ⟨h, Nat.mul_mod_left ..⟩, fun h => h.1⟩
    walk_at "w"
    refine ⟨.inl ⟨by omega, by omega⟩, ?_⟩
    walk_at "w"
    refine ⟨(i + 1) * d, b, congrArg (fun z => [V.int z, V.int (b : Int)]) e1, hb, by omega, ?_⟩
    walk_at "w"
    refine ⟨fun yes => ?_, fun ne => ?_⟩
    · have yes : ((M.dsum b ((i + 1) * d) : Nat) : Int) = (t : Int) := yes
      walk_at "w"
      refine ⟨.inl ⟨by omega, by omega⟩, ?_⟩
      have told := qm (i + 1) (by omega) (by omega) (mul.mp (by omega)) fun j h1 h2 => no j h1 h2
      rw [← e1] at told
      exact told
    · have ne : ¬ ((M.dsum b ((i + 1) * d) : Nat) : Int) = (t : Int) := ne
      walk_at "w"
      refine ⟨_, rfl, rfl, fun j h1 h2 => ?_⟩
      by_cases c : j = i + 1
      · subst c
        exact fun h => ne (by rw [h.1])
      · exact no j h1 (by omega)
  · rintro σ G ⟨v3, rfl, rfl, no⟩
    walk_at "w"
    exact qn fun k h1 h2 => no k h1 (by show k < ((201 : Int) - 1).toNat + 1; omega)
/-! _law_same -/
abbrev s__law_same : Stmt := top 13
abbrev ps__law_same : List Str := ["found", "due"]
theorem sc__law_same : FnScope ["found", "due", "one", "other"] ["found", "due"] (defScope s__law_same) := ⟨rfl, rfl, rfl, by decide +kernel, rfl, by decide +kernel, by decide +kernel⟩
def sp__law_same (K : PySem.W.Frag) (_ : Ads) : Sp := fun vs H Q _ => ∃ v : V, vs = [v, v] ∧ (v = .non ∨ ∃ a : Int, v = .int a) ∧ Q (.bl true) H
theorem ok__law_same (D : DefAt K mg "_law_same" s__law_same ps__law_same) (B : Blt mg) (C : Cst mg) (KC : Kls K mg ad) : Cal P w K mg base 1 "_law_same" ps__law_same (sp__law_same K ad) := by
  have sc := sc__law_same
  refine mkCal D sc (fun vs H Q E h => ?_) (fun f cdv A outer s H vs Q E hr h => ?_)
  · obtain ⟨v, rfl, hv, q⟩ := h
    rfl
  obtain ⟨v, rfl, hv, q⟩ := h
  refine ⟨_, (pss_cons (zps_if (zpc zisN (zv 1) pe_non) (pss_one (ps_ret (pe_cmpR zisN (zv 0) pe_non (nomark _)))) pss_nil)
    (pss_cons (zps_if (zpt (zpis k_tuple (by rfl) B.b_isinstance (by rfl) B.b_tuple (by decide +kernel) (zv 1))) pss_never pss_nil)
    (pss_cons (zps_if (zpt (zpis k_str (by rfl) B.b_isinstance (by rfl) B.b_str (by decide +kernel) (zv 1))) (pss_one (ps_ret (zpe_and (zpis k_str (by rfl) B.b_isinstance (by rfl) B.b_str (by decide +kernel) (zv 0)) (pe_one (pe_cmpR zeq (zv 0) (zv 1) (nomark _)))))) pss_nil)
    (pss_one (ps_ret (zpe_and (zpis k_int (by rfl) B.b_isinstance (by rfl) B.b_int (by decide +kernel) (zv 0)) (zpe_and (zpe_not (zpis k_bool (by rfl) B.b_isinstance (by rfl) B.b_bool (by decide +kernel) (zv 0))) (pe_one (pe_cmpR zeq (zv 0) (zv 1) (nomark _)))))))))), ?_⟩
  rcases hv with rfl | ⟨a, rfl⟩
  · walk_at "w"
    exact q
  · walk_at "w"
    exact ⟨fun _ => q, fun z => absurd rfl z⟩
/-! Line.__init__ -/
abbrev s_Line___init__ : Stmt := (inClass (top 2) 0)
abbrev ps_Line___init__ : List Str := ["self", "width"]
theorem sc_Line___init__ : FnScope ["self", "width"] ["self", "width"] (defScope s_Line___init__) := ⟨rfl, rfl, rfl, by decide +kernel, rfl, by decide +kernel, by decide +kernel⟩
def sp_Line___init__ (K : PySem.W.Frag) (ad : Ads) : Sp := fun vs H Q _ => ∃ (p dx : Addr) (w : Nat), vs = [.ref p, .int (w : Int)] ∧ H p = some (.ins ad.Wheel dx []) ∧ w ≤ 200 ∧ ∀ H', H' p = some (.ins ad.Wheel dx [("width", .int (w : Int)), ("_slot_bits", .int (2 ^ w - 1))]) → Keep p H H' → Q .non H'
theorem ok_Line___init__ (D : DefAtI K ad.Line "Line.__init__" s_Line___init__ ps_Line___init__) (B : Blt mg) (C : Cst mg) (KC : Kls K mg ad) : CalI P w K mg base 1 ad.Line ps_Line___init__ (sp_Line___init__ K ad) := by
  have sc := sc_Line___init__
  refine mkCalI D sc (fun vs H Q E h => ?_) (fun f cdv A outer s H vs Q E hr h => ?_)
  · obtain ⟨p, dx, w, rfl, hp, hw, q⟩ := h
    rfl
  obtain ⟨p, dx, w, rfl, hp, hw, q⟩ := h
  refine ⟨_, (pss_cons (zps_fld KC.cls_Wheel KC.na_Wheel_width (zv 0) (zv 1))
    (pss_one (zps_fld KC.cls_Wheel KC.na_Wheel__slot_bits (zv 0) (pe_op zsub (pe_op zshl pe_int (zv 1)) pe_int)))), ?_⟩
  walk_at "w"
  refine ⟨dx, _, hp, Nat.le_of_ble_eq_true rfl, fun H1 h1 K1 F1 => ?_⟩
  walk_at "w"
  refine ⟨⟨by omega, 1, by decide, by omega⟩, ?_⟩
  walk_at "w"
  refine ⟨dx, _, h1, Nat.le_of_ble_eq_true rfl, fun H2 h2 K2 F2 => ?_⟩
  refine q H2 ?_ (K1.trans K2)
  rw [h2]
  show some (HO.ins ad.Wheel dx [("width", .int (w : Int)), ("_slot_bits", .int (1 * 2 ^ ((w : Int)).toNat - 1))]) = _
  rw [pow_int]
/-! Wheel.__init__ -/
abbrev s_Wheel___init__ : Stmt := (inClass (top 3) 0)
abbrev ps_Wheel___init__ : List Str := ["self", "width", "divisor"]
theorem sc_Wheel___init__ : FnScope ["self", "width", "divisor"] ["self", "width", "divisor"] (defScope s_Wheel___init__) := ⟨rfl, rfl, rfl, by decide +kernel, rfl, by decide +kernel, by decide +kernel⟩
def sp_Wheel___init__ (K : PySem.W.Frag) (ad : Ads) : Sp := fun vs H Q _ => ∃ (p dx : Addr) (w D : Nat), vs = [.ref p, .int (w : Int), .int (D : Int)] ∧ H p = some (.ins ad.Wheel dx []) ∧ w ≤ 200 ∧ D ≤ 1000 ∧ ∀ H', WheelAt ad.Wheel H' p w D → Keep p H H' → Q .non H'
theorem ok_Wheel___init__ (D : DefAtI K ad.Wheel "Wheel.__init__" s_Wheel___init__ ps_Wheel___init__) (B : Blt mg) (C : Cst mg) (KC : Kls K mg ad) (cF_Line : CalF P w K mg base 1 ad.Line ps_Line___init__ (sp_Line___init__ K ad)) : CalI P w K mg base 2 ad.Wheel ps_Wheel___init__ (sp_Wheel___init__ K ad) := by
  have sc := sc_Wheel___init__
  refine mkCalI D sc (fun vs H Q E h => ?_) (fun f cdv A outer s H vs Q E hr h => ?_)
  · obtain ⟨p, dx, w, D0, rfl, hp, hw, hD, q⟩ := h
    rfl
  obtain ⟨p, dx, w, D0, rfl, hp, hw, hD, q⟩ := h
  refine ⟨_, (pss_cons (ps_expr (zclsinit (pe_glob rfl KC.g_Line (show RelV (V.ref ad.Line) _ from rfl)) cF_Line (hr.mono (by decide)) (pa_cons (zv 0) (pa_cons (zv 1) pa_nil))))
    (pss_cons (zps_fld KC.cls_Wheel KC.na_Wheel__divisor (zv 0) (zv 2))
    (pss_cons (zps_fld KC.cls_Wheel KC.na_Wheel__whole (zv 0) (pe_op zmul (zv 2) (zv 1)))
    (pss_one (zps_fld KC.cls_Wheel KC.na_Wheel__all_bits (zv 0) (pe_op zsub (pe_op zshl pe_int (zfldO KC.cls_Wheel KC.na_Wheel__whole (zv 0))) pe_int)))))), ?_⟩
  have hm : D0 * w ≤ 1000 * 200 := Nat.mul_le_mul hD hw
  walk_at "w"
  refine ⟨p, dx, w, rfl, hp, hw, fun H1 h1 K1 => ?_⟩
  walk_at "w"
  refine ⟨dx, _, h1, Nat.le_of_ble_eq_true rfl, fun H2 h2 K2 F2 => ?_⟩
  walk_at "w"
  refine ⟨.inl ⟨by omega, by omega⟩, ?_⟩
  walk_at "w"
  refine ⟨dx, _, h2, Nat.le_of_ble_eq_true rfl, fun H3 h3 K3 F3 => ?_⟩
  walk_at "w"
  refine ⟨dx, _, _, h3, rfl, ?_⟩
  have em : (D0 : Int) * (w : Int) = ((D0 * w : Nat) : Int) := (Int.natCast_mul _ _).symm
  walk_at "w"
  refine ⟨⟨by rw [em]; omega, 1, by decide, by rw [em]; omega⟩, ?_⟩
  walk_at "w"
  refine ⟨dx, _, h3, Nat.le_of_ble_eq_true rfl, fun H4 h4 K4 F4 => ?_⟩
  refine q H4 ⟨dx, ?_⟩ (K1.trans (K2.trans (K3.trans K4)))
  rw [h4]
  show some (HO.ins ad.Wheel dx [("width", .int (w : Int)), ("_slot_bits", .int (2 ^ w - 1)), ("_divisor", .int (D0 : Int)), ("_whole", .int ((D0 : Int) * (w : Int))), ("_all_bits", .int (1 * 2 ^ ((D0 : Int) * (w : Int)).toNat - 1))]) = _
  rw [em, pow_int]; rfl
/-! Wheel.moved -/
abbrev s_Wheel_moved : Stmt := (inClass (top 3) 1)
abbrev ps_Wheel_moved : List Str := ["self", "row", "by"]
theorem sc_Wheel_moved : FnScope ["self", "row", "by", "far"] ["self", "row", "by"] (defScope s_Wheel_moved) := ⟨rfl, rfl, rfl, by decide +kernel, rfl, by decide +kernel, by decide +kernel⟩
def sp_Wheel_moved (K : PySem.W.Frag) (ad : Ads) : Sp := fun vs H Q _ => ∃ (p : Addr) (w D : Nat) (g : Nat → Int) (y : Int), vs = [.ref p, .int (M.pk w D g), .int y] ∧ WheelAt ad.Wheel H p w D ∧ w ≤ 200 ∧ 0 < D ∧ D ≤ 1000 ∧ M.Fits w D g ∧ Q (.int (M.pk w D fun r => g (M.back D r y))) H
theorem ok_Wheel_moved (D : DefAtM K ad.Wheel "moved" "Wheel.moved" s_Wheel_moved ps_Wheel_moved) (B : Blt mg) (C : Cst mg) (KC : Kls K mg ad) : CalM P w K mg base 1 ad.Wheel "moved" ps_Wheel_moved (sp_Wheel_moved K ad) := by
  have sc := sc_Wheel_moved
  refine mkCalM D sc (fun vs H Q E h => ?_) (fun f cdv A outer s H vs Q E hr h => ?_)
  · obtain ⟨p, w, D0, g, y, rfl, hW, hw, hD0, hD, hg, q⟩ := h
    rfl
  obtain ⟨p, w, D0, g, y, rfl, hW, hw, hD0, hD, hg, q⟩ := h
  refine ⟨_, (pss_cons (ps_set (i := 3) sc.nd rfl (Or.inl rfl) (pe_op zshl (zv 1) (pe_op zmul (pe_op zmod (zv 2) (zfldO KC.cls_Wheel KC.na_Wheel__divisor (zv 0))) (zfldO KC.cls_Wheel KC.na_Wheel_width (zv 0)))))
    (pss_one (ps_ret (pe_op zadd (pe_op zandM (zv 3) (zfldO KC.cls_Wheel KC.na_Wheel__all_bits (zv 0))) (pe_op zshr (zv 3) (zfldO KC.cls_Wheel KC.na_Wheel__whole (zv 0))))))), ?_⟩
  obtain ⟨dx, hp⟩ := hW
  obtain ⟨s, hs⟩ : ∃ s : Nat, y % (D0 : Int) = (s : Int) := ⟨(y % (D0 : Int)).toNat, by have := Int.emod_nonneg y (b := (D0 : Int)) (by omega); omega⟩
  have hsl : s < D0 := by
    have := Int.emod_lt_of_pos y (b := (D0 : Int)) (by omega)
    omega
  have hsw : s * w ≤ 1000 * 200 := Nat.mul_le_mul (by omega) hw
  have hDw : D0 * w ≤ 1000 * 200 := Nat.mul_le_mul hD hw
  have hrot := M.pk_rot hg hD0 hs
  obtain ⟨b1, b2⟩ := M.pk_bound hg
  have hna : (M.pk w D0 g).natAbs < 2 ^ (w * D0) := by omega
  have esw : (s : Int) * (w : Int) = ((s * w : Nat) : Int) := (Int.natCast_mul _ _).symm
  walk_at "w"
  refine ⟨dx, _, _, hp, rfl, ?_⟩
  walk_at "w"
  refine ⟨by omega, ?_⟩
  walk_at "w"
  refine ⟨dx, _, _, hp, rfl, ?_⟩
  walk_at "w"
  refine ⟨.inl ⟨by rw [hs]; omega, by rw [hs]; omega⟩, ?_⟩
  walk_at "w"
  refine ⟨⟨by rw [hs, esw]; omega, w * D0, hna, by rw [hs, esw, Nat.mul_comm w]; omega⟩, ?_⟩
  walk_at "w"
  refine ⟨dx, _, _, hp, rfl, ?_⟩
  walk_at "w"
  refine ⟨D0 * w, rfl, ?_⟩
  walk_at "w"
  refine ⟨dx, _, _, hp, rfl, ?_⟩
  walk_at "w"
  refine ⟨by omega, ?_⟩
  have e : M.pk w D0 g * 2 ^ ((y % (D0 : Int)) * (w : Int)).toNat % 2 ^ (D0 * w) + M.pk w D0 g * 2 ^ ((y % (D0 : Int)) * (w : Int)).toNat / 2 ^ (((D0 * w : Nat) : Int)).toNat = M.pk w D0 fun r => g (M.back D0 r y) := by
    rw [hs, esw, Int.toNat_natCast, Int.toNat_natCast, two_pow, two_pow]
    exact hrot
  show Q (V.int (M.pk w D0 g * 2 ^ ((y % (D0 : Int)) * (w : Int)).toNat % 2 ^ (D0 * w) + M.pk w D0 g * 2 ^ ((y % (D0 : Int)) * (w : Int)).toNat / 2 ^ (((D0 * w : Nat) : Int)).toNat)) H
  rw [e]
  exact q
/-! Wheel.slot_at -/
abbrev s_Wheel_slot_at : Stmt := (inClass (top 2) 3)
abbrev ps_Wheel_slot_at : List Str := ["self", "row", "place"]
theorem sc_Wheel_slot_at : FnScope ["self", "row", "place"] ["self", "row", "place"] (defScope s_Wheel_slot_at) := ⟨rfl, rfl, rfl, by decide +kernel, rfl, by decide +kernel, by decide +kernel⟩
def sp_Wheel_slot_at (K : PySem.W.Frag) (ad : Ads) : Sp := fun vs H Q _ => ∃ (p : Addr) (w D r : Nat) (g : Nat → Int), vs = [.ref p, .int (M.pk w D g), .int (r : Int)] ∧ WheelAt ad.Wheel H p w D ∧ w ≤ 200 ∧ r < D ∧ D ≤ 1000 ∧ M.Fits w D g ∧ Q (.int (g r)) H
theorem ok_Wheel_slot_at (D : DefAtM K ad.Wheel "slot_at" "Line.slot_at" s_Wheel_slot_at ps_Wheel_slot_at) (B : Blt mg) (C : Cst mg) (KC : Kls K mg ad) : CalM P w K mg base 1 ad.Wheel "slot_at" ps_Wheel_slot_at (sp_Wheel_slot_at K ad) := by
  have sc := sc_Wheel_slot_at
  refine mkCalM D sc (fun vs H Q E h => ?_) (fun f cdv A outer s H vs Q E hr h => ?_)
  · obtain ⟨p, w, D0, r, g, rfl, hW, hw, hr, hD, hg, q⟩ := h
    rfl
  obtain ⟨p, w, D0, r, g, rfl, hW, hw, hr, hD, hg, q⟩ := h
  refine ⟨_, (pss_one (ps_ret (pe_op zandM (pe_op zshr (zv 1) (pe_op zmul (zv 2) (zfldO KC.cls_Wheel KC.na_Wheel_width (zv 0)))) (zfldO KC.cls_Wheel KC.na_Wheel__slot_bits (zv 0))))), ?_⟩
  obtain ⟨dx, hp⟩ := id hW
  have hs := M.pk_slot hg hr
  have em : (r : Int) * (w : Int) = ((r * w : Nat) : Int) := (Int.natCast_mul _ _).symm
  walk_at "w"
  refine ⟨dx, _, _, hp, rfl, ?_⟩
  walk_at "w"
  refine ⟨.inl ⟨by omega, by omega⟩, ?_⟩
  walk_at "w"
  refine ⟨by rw [em]; omega, ?_⟩
  walk_at "w"
  refine ⟨dx, _, _, hp, rfl, ?_⟩
  walk_at "w"
  refine ⟨w, rfl, ?_⟩
  have e : M.pk w D0 g / 2 ^ ((r : Int) * (w : Int)).toNat % 2 ^ w = g r := by
    rw [em, Int.toNat_natCast, two_pow, two_pow, Nat.mul_comm]
    exact hs
  show Q (V.int (M.pk w D0 g / 2 ^ ((r : Int) * (w : Int)).toNat % 2 ^ w)) H
  rw [e]
  exact q
/-! _has -/
abbrev s__has : Stmt := top 8
abbrev ps__has : List Str := ["row", "rest", "told", "wheel"]
theorem sc__has : FnScope ["row", "rest", "told", "wheel"] ["row", "rest", "told", "wheel"] (defScope s__has) := ⟨rfl, rfl, rfl, by decide +kernel, rfl, by decide +kernel, by decide +kernel⟩
def sp__has (K : PySem.W.Frag) (ad : Ads) : Sp := fun vs H Q _ => ∃ (p : Addr) (w D row r t : Nat), vs = [.int (row : Int), .int (r : Int), .int (t : Int), .ref p] ∧ WheelAt ad.Wheel H p w D ∧ w ≤ 200 ∧ D ≤ 1000 ∧ r < D ∧ t < w ∧ row < 2 ^ (w * D) ∧ (row.testBit (w * r + t) = true → Q (.bl true) H) ∧ (¬ row.testBit (w * r + t) = true → Q (.bl false) H)
theorem ok__has (D : DefAt K mg "_has" s__has ps__has) (B : Blt mg) (C : Cst mg) (KC : Kls K mg ad) (c_Wheel_slot_at : CalM P w K mg base 1 ad.Wheel "slot_at" ps_Wheel_slot_at (sp_Wheel_slot_at K ad)) : Cal P w K mg base 2 "_has" ps__has (sp__has K ad) := by
  have sc := sc__has
  refine mkCal D sc (fun vs H Q E h => ?_) (fun f cdv A outer s H vs Q E hr h => ?_)
  · obtain ⟨p, w, D0, row, r, t, rfl, hW, hw, hD, hrr, ht, hrow, q1, q2⟩ := h
    rfl
  obtain ⟨p, w, D0, row, r, t, rfl, hW, hw, hD, hrr, ht, hrow, q1, q2⟩ := h
  refine ⟨_, (pss_one (ps_ret (pe_cmpR zeq (pe_op zandM (pe_op zshr (zmeth KC.cls_Wheel c_Wheel_slot_at (hr.mono (by decide)) (zv 3) (pa_cons (zv 0) (pa_cons (zv 1) pa_nil))) (zv 2)) pe_int) pe_int (nomark _)))), ?_⟩
  obtain ⟨dx, hp⟩ := id hW
  walk_at "w"
  refine ⟨dx, _, hp, rfl, ?_⟩
  walk_at "w"
  refine ⟨p, w, D0, r, fun r => ((M.sl w row r : Nat) : Int), by rw [M.row_pk hrow], hW, hw, hrr, hD, M.sl_fits w D0 row, ?_⟩
  walk_at "w"
  refine ⟨by omega, ?_⟩
  walk_at "w"
  refine ⟨1, rfl, ?_⟩
  walk_at "w"
  have e : row.testBit (w * r + t) = true ↔ ((M.sl w row r : Nat) : Int) / 2 ^ ((t : Int)).toNat % 2 ^ 1 = 1 := by
    rw [← M.sl_bit ht, Nat.testBit_eq_decide_div_mod_eq, decide_eq_true_iff, Int.toNat_natCast]
    have e1 : ((M.sl w row r : Nat) : Int) / 2 ^ t = ((M.sl w row r / 2 ^ t : Nat) : Int) := by rw [Int.natCast_ediv, Int.natCast_pow]; rfl
    rw [e1]
    omega
  exact ⟨fun c => q1 (e.mpr c), fun c => q2 fun z => c (e.mp z)⟩
/-! _with_place_ahead -/
abbrev s__with_place_ahead : Stmt := top 7
abbrev ps__with_place_ahead : List Str := ["row", "worth", "base", "wheel"]
theorem sc__with_place_ahead : FnScope ["row", "worth", "base", "wheel", "figures", "more"] ["row", "worth", "base", "wheel"] (defScope s__with_place_ahead) := ⟨rfl, rfl, rfl, by decide +kernel, rfl, by decide +kernel, by decide +kernel⟩
def sp__with_place_ahead (K : PySem.W.Frag) (ad : Ads) : Sp := fun vs H Q _ => ∃ (p : Addr) (w D row told b : Nat) (wo : Int) (R : Nat → Nat → Prop), vs = [.int (row : Int), .int wo, .int (b : Int), .ref p] ∧ WheelAt ad.Wheel H p w D ∧ w ≤ 200 ∧ 0 < D ∧ D ≤ 1000 ∧ 2 ≤ b ∧ b ≤ 16 ∧ w = told + b ∧ wo.natAbs ≤ 100000 ∧ M.BR w D row R ∧ (∀ r s, R r s → s ≤ told) ∧ ∀ row2 : Nat, M.BR w D row2 (M.Spr D b wo R) → Q (.int (row2 : Int)) H
theorem ok__with_place_ahead (D : DefAt K mg "_with_place_ahead" s__with_place_ahead ps__with_place_ahead) (B : Blt mg) (C : Cst mg) (KC : Kls K mg ad) (c_Wheel_moved : CalM P w K mg base 1 ad.Wheel "moved" ps_Wheel_moved (sp_Wheel_moved K ad)) : Cal P w K mg base 2 "_with_place_ahead" ps__with_place_ahead (sp__with_place_ahead K ad) := by
  have sc := sc__with_place_ahead
  refine mkCal D sc (fun vs H Q E h => ?_) (fun f cdv A outer s H vs Q E hr h => ?_)
  · obtain ⟨p, w, D0, row, told, b, wo, R, rfl, hW, hw, hD, hD2, hb, hb2, ew, hwo, hR, hto, q⟩ := h
    rfl
  obtain ⟨p, w, D0, row, told, b, wo, R, rfl, hW, hw, hD, hD2, hb, hb2, ew, hwo, hR, hto, q⟩ := h
  refine ⟨_, (pss_cons (ps_set (i := 4) sc.nd rfl (Or.inl rfl) pe_int)
    (pss_cons (zps_while PassesOwn.never (zpc zlt (zv 4) (zv 2)) (pss_cons (ps_set (i := 5) sc.nd rfl (Or.inl rfl) (pe_callB (zmin2 rfl) (by rfl) B.b_min (by decide +kernel) (pa_cons (zv 4) (pa_cons (pe_op zsub (zv 2) (zv 4)) pa_nil))))
    (pss_cons (ps_aug (i := 0) sc.nd rfl (Or.inl rfl) (zmeth KC.cls_Wheel c_Wheel_moved (hr.mono (by decide)) (zv 3) (pa_cons (pe_op zshl (zv 0) (zv 5)) (pa_cons (pe_op zmul (zv 5) (zv 1)) pa_nil))) zip_or)
    (pss_one (ps_aug (i := 4) sc.nd rfl (Or.inl rfl) (zv 5) zip_add)))))
    (pss_one (ps_ret (zv 0))))), ?_⟩
  obtain ⟨dx, hp⟩ := id hW
  walk_at "w"
  refine ⟨fun m σ G => ∃ (F row2 : Nat) (v5 : Option V), m = b - F ∧ σ = [some (.int (row2 : Int)), some (.int wo), some (.int (b : Int)), some (.ref p), some (.int (F : Int)), v5] ∧ G = H ∧ 1 ≤ F ∧ F ≤ b ∧ M.BR w D0 row2 (M.Spr D0 F wo R), ⟨b - 1, 1, row, _, rfl, rfl, rfl, by omega, by omega, hR.congr fun r s hr _ => (M.Spr_one hr).symm⟩, ?_⟩
  rintro m σ G ⟨F, row2, v5, rfl, rfl, rfl, hF1, hFb, hB⟩
  walk_at "w"
  refine ⟨fun c => ?_, fun c => ?_⟩
  · have c' : F < b := by
      have c2 : (F : Int) < (b : Int) := c
      omega
    obtain ⟨mo, emo⟩ : ∃ mo : Nat, min (F : Int) ((b : Int) - (F : Int)) = (mo : Int) := ⟨(min (F : Int) ((b : Int) - (F : Int))).toNat, by omega⟩
    have hmo : mo ≤ F ∧ F + mo ≤ b ∧ 1 ≤ mo := by omega
    walk_at "w"
    dsimp only
    rw [emo]
    have fit : ∀ r s, r < D0 → s < w → M.Spr D0 F wo R r s → s + mo < w := fun r s _ _ h => by
      obtain ⟨f, h1, h2, h3⟩ := h
      have := hto _ _ h3
      omega
    have hS := hB.shl (m := mo) fit (by omega)
    obtain ⟨row3, e3, hM⟩ := hS.moved hD ((mo : Int) * wo)
    have hwD : w * D0 ≤ 200 * 1000 := Nat.mul_le_mul hw hD2
    refine ⟨_, rfl, ?_⟩
    walk_at "w"
    refine ⟨dx, _, hp, rfl, ?_⟩
    walk_at "w"
    refine ⟨⟨by omega, w * D0, by have := hB.1; show (row2 : Int).natAbs < _; omega, by omega⟩, ?_⟩
    walk_at "w"
    refine ⟨.inl ⟨by omega, by omega⟩, ?_⟩
    walk_at "w"
    have es : (row2 : Int) * 2 ^ ((mo : Int)).toNat = ((row2 * 2 ^ mo : Nat) : Int) := by rw [Int.toNat_natCast, Int.natCast_mul, Int.natCast_pow]; rfl
    dsimp only
    rw [es]
    refine ⟨p, w, D0, fun r => ((M.sl w (row2 * 2 ^ mo) r : Nat) : Int), (mo : Int) * wo, by rw [M.row_pk hS.1], hW, hw, hD, hD2, M.sl_fits w D0 _, ?_⟩
    walk_at "w"
    dsimp only
    rw [e3]
    refine ⟨row2, row3, rfl, rfl, ?_⟩
    walk_at "w"
    refine ⟨_, rfl, ?_⟩
    walk_at "w"
    refine ⟨b - (F + mo), by omega, F + mo, row2 ||| row3, _, rfl, rfl, rfl, by omega, by omega, (hB.lor hM).congr fun r s hr _ => M.Spr_more hD hmo.1⟩
  · have c' : F = b := by
      have c2 : ¬ (F : Int) < (b : Int) := c
      omega
    subst c'
    walk_at "w"
    exact q row2 hB
/-! _rows_of_sums -/
abbrev s__rows_of_sums : Stmt := top 6
abbrev ps__rows_of_sums : List Str := ["divisor", "told", "base", "wheel"]
theorem sc__rows_of_sums : FnScope ["divisor", "told", "base", "wheel", "to_told", "rows", "worth", "unchanged", "row", "rest"] ["divisor", "told", "base", "wheel"] (defScope s__rows_of_sums) := ⟨rfl, rfl, rfl, by decide +kernel, rfl, by decide +kernel, by decide +kernel⟩
/-- the rows for 0, 1, .. places -/
structure RwsL (b D told w : Nat) (rs : List Nat) : Prop where
  bits : ∀ (j x : Nat), rs[j]? = some x → M.BR w D x (M.rt b D told j)
  none_ : ∀ (j x : Nat), j + 1 < rs.length → ¬ M.rc b D j 0 told
def sp__rows_of_sums (K : PySem.W.Frag) (ad : Ads) : Sp := fun vs H Q _ => ∃ (pw : Addr) (D told b w : Nat), vs = [.int (D : Int), .int (told : Int), .int (b : Int), .ref pw] ∧ WheelAt ad.Wheel H pw w D ∧ w = told + b ∧ told ≤ 100 ∧ 0 < D ∧ D ≤ 60 ∧ 2 ≤ b ∧ b ≤ 16 ∧
  ∀ (p : Addr) (rs : List Nat) (H' : Hp), H p = none → Same H H' → H' p = some (.lst (rs.map fun x : Nat => V.int (x : Int))) → 0 < rs.length → rs.length ≤ 500000 → RwsL b D told w rs → ((∃ k, rs.length = k + 1 ∧ M.rc b D k 0 told) ∨ ((∀ n, ¬ M.Mul b D told n) ∧ ∃ k, rs.length = k + 1 ∧ ¬ M.rc b D k 0 told)) → Q (.ref p) H'
theorem ok__rows_of_sums (D : DefAt K mg "_rows_of_sums" s__rows_of_sums ps__rows_of_sums) (B : Blt mg) (C : Cst mg) (KC : Kls K mg ad) (c_Wheel_moved : CalM P w K mg base 1 ad.Wheel "moved" ps_Wheel_moved (sp_Wheel_moved K ad)) (c__has : Cal P w K mg base 2 "_has" ps__has (sp__has K ad)) (c__with_place_ahead : Cal P w K mg base 2 "_with_place_ahead" ps__with_place_ahead (sp__with_place_ahead K ad)) : Cal P w K mg base 3 "_rows_of_sums" ps__rows_of_sums (sp__rows_of_sums K ad) := by
  have sc := sc__rows_of_sums
  refine mkCal D sc (fun vs H Q E h => ?_) (fun f cdv A outer s H vs Q E hr h => ?_)
  · obtain ⟨pw, D0, told, b, w, rfl, hW, ew, ht, hD, hD2, hb, hb2, q⟩ := h
    rfl
  obtain ⟨pw, D0, told, b, w, rfl, hW, ew, ht, hD, hD2, hb, hb2, q⟩ := h
  refine ⟨_, (pss_cons (ps_set (i := 4) sc.nd rfl (Or.inl rfl) (pe_callB (zsum rfl) (by rfl) B.b_sum (by decide +kernel) (pa_cons (pe_lc (own := [("rest", 9)]) rfl sc.nd (pi_range1 (by rfl) B.b_range (pa_cons (zv 0) pa_nil)) (blkOk_by (own := [("rest", 9)]) (N := ["divisor", "told", "base", "wheel", "to_told", "rows", "worth", "unchanged", "row", "rest"]) (sc := defScope (top 6)) (by decide +kernel)) (fun _ _ _ _ _ => (pg_name (i := 9) sc.nd rfl (Or.inl rfl))) (fun _ _ _ _ _ => pts_nil) (fun _ _ _ _ _ => (zmeth KC.cls_Wheel c_Wheel_moved (hr.mono (by decide)) (zv 3) (pa_cons (pe_op zsub (pe_op zshl pe_int (pe_op zadd (zv 1) pe_int)) pe_int) (pa_cons (zv 9) pa_nil))))) pa_nil)))
    (pss_cons (ps_set (i := 5) sc.nd rfl (Or.inl rfl) (zlst (pa_cons pe_int pa_nil)))
    (pss_cons (ps_par (i := 6) (j := 7) rfl sc.nd rfl rfl (by decide) rfl rfl (pa_cons (pe_op zmod pe_int (zv 0)) (pa_cons pe_int pa_nil)) (by rfl))
    (pss_cons (zps_while PassesOwn.never (PW.pt (zpw_and (zpc zlt (zv 7) (zv 0)) (zpw_and1 (pt_not (zpt (zcall c__has (hr.mono (by decide)) (by rfl) (pa_cons (pe_ix zixL (zv 5) (pe_un zneg pe_int) (fun _ _ => rfl)) (pa_cons pe_int (pa_cons (zv 1) (pa_cons (zv 3) pa_nil)))))))))) (pss_cons (ps_set (i := 8) sc.nd rfl (Or.inl rfl) (pe_op zandN (zcall c__with_place_ahead (hr.mono (by decide)) (by rfl) (pa_cons (pe_ix zixL (zv 5) (pe_un zneg pe_int) (fun _ _ => rfl)) (pa_cons (zv 6) (pa_cons (zv 2) (pa_cons (zv 3) pa_nil))))) (zv 4)))
    (pss_cons (ps_set (i := 7) sc.nd rfl (Or.inl rfl) (zpe_if (zpc zeq (zv 8) (pe_ix zixL (zv 5) (pe_un zneg pe_int) (fun _ _ => rfl))) (pe_op zadd (zv 7) pe_int) pe_int))
    (pss_cons (ps_expr (pe_bm PySem.F.plainAttrs_list PySem.F.slot_list_append PySem.F.type_list_append zappend (zv 5) (pa_cons (zv 8) pa_nil)))
    (pss_one (ps_set (i := 6) sc.nd rfl (Or.inl rfl) (pe_op zmod (pe_op zmul (zv 6) (zv 2)) (zv 0))))))))
    (pss_one (ps_ret (zv 5))))))), ?_⟩
  have hw0 : 0 < w := by omega
  have hw2 : w ≤ 200 := by omega
  have htw : told < w := by omega
  have hwD : w * D0 ≤ 116 * 60 := Nat.mul_le_mul (by omega) hD2
  obtain ⟨mask, emask, hmask⟩ := M.BR.mask (w := w) (D := D0) (told := told) htw
  obtain ⟨dx, hpw⟩ := id hW
  walk_at "w"
  refine ⟨_, rfl, by omega, by omega, fun Dm nDm => ?_⟩
  have epw : (1 : Int) * 2 ^ ((told : Int) + 1).toNat - 1 = ((2 ^ (told + 1) - 1 : Nat) : Int) := by
    have h2 : 0 < 2 ^ (told + 1) := Nat.pow_pos (by decide)
    rw [show ((told : Int) + 1).toNat = told + 1 by omega, Int.one_mul, two_pow]
    omega
  refine lc_range (lo := 0) (n := D0) (fun i G => Same H G ∧ G Dm = some (.lst ((List.range i).map fun i : Nat => V.int (M.pk w D0 fun r => if M.back D0 r (i : Int) = 0 then ((2 ^ (told + 1) - 1 : Nat) : Int) else 0)))) ⟨same_upd nDm, upd_same⟩ (fun i G hi h => ?_) (fun G h => ?_)
  · obtain ⟨hS, hL⟩ := h
    have hpG := hS _ _ hpw
    have ei : (0 : Int) + (i : Int) = (i : Int) := Int.zero_add _
    walk_at "w"
    refine ⟨rfl, ?_⟩
    walk_at "w"
    refine ⟨dx, _, hpG, rfl, ?_⟩
    walk_at "w"
    refine ⟨⟨by omega, 1, by decide, by omega⟩, ?_⟩
    walk_at "w"
    dsimp only
    rw [epw, ei]
    have fits : M.Fits w D0 fun r => if r = 0 then ((2 ^ (told + 1) - 1 : Nat) : Int) else 0 := fun r _ => by
      have h1 : 2 ^ (told + 1) ≤ 2 ^ w := Nat.pow_le_pow_right (by decide) htw
      have h2 : 0 < 2 ^ (told + 1) := Nat.pow_pos (by decide)
      dsimp only
      split <;> exact ⟨by omega, by omega⟩
    refine ⟨pw, w, D0, fun r => if r = 0 then ((2 ^ (told + 1) - 1 : Nat) : Int) else 0, (i : Int), by rw [M.pk_first hD], ⟨dx, hpG⟩, hw2, hD, by omega, fits, ?_⟩
    walk_at "w"
    refine ⟨_, hL, ?_, fun x o hx => ?_, ?_⟩
    · rw [List.length_map, List.length_range]
      show _ < 16777216
      omega
    · rw [upd_ne (ne_of_none hx nDm)]
      exact hS _ _ hx
    · rw [upd_same, List.range_succ, List.map_append]
      rfl
  obtain ⟨S1, hL⟩ := h
  walk_at "w"
  refine ⟨(List.range D0).map fun i : Nat => M.pk w D0 fun r => if M.back D0 r (i : Int) = 0 then ((2 ^ (told + 1) - 1 : Nat) : Int) else 0, .inl (.inl (by rw [hL, List.map_map]; rfl)), ?_⟩
  rw [M.mask_sum, emask]
  walk_at "go"
  refine fun pr H2 npr hpr S2 => ?_
  have S02 := S1.trans S2
  have npr0 : H pr = none := S1.free npr
  walk_at "w"
  refine ⟨(by omega : (0 : Int) < (D0 : Int)), ?_⟩
  walk_at "w"
  have e1 : (1 : Int) % (D0 : Int) = ((b ^ 0 % D0 : Nat) : Int) := by rw [Nat.pow_zero, Int.natCast_emod]; rfl
  have rtz : ∀ r s, r < D0 → s < w → ((r = 0 ∧ s = 0) ↔ M.rt b D0 told 0 r s) := fun r s _ _ => by
    unfold M.rt
    rw [M.rc_zero hb]
    exact ⟨fun z => ⟨z, by omega⟩, fun z => z.1⟩
  refine ⟨_, _, rfl, ?_⟩
  walk_at "w"
  refine ⟨fun m σ G => ∃ (k u x : Nat) (rs : List Nat) (v8 v9 : Option V), m = 500000 - k ∧ σ = [some (.int (D0 : Int)), some (.int (told : Int)), some (.int (b : Int)), some (.ref pw), some (.int (mask : Int)), some (.ref pr), some (.int ((b ^ k % D0 : Nat) : Int)), some (.int (u : Int)), v8, v9] ∧ Same H G ∧ G pr = some (.lst (rs.map fun x : Nat => V.int (x : Int))) ∧ rs.length = k + 1 ∧ rs[k]? = some x ∧ (∀ (j y : Nat), rs[j]? = some y → M.BR w D0 y (M.rt b D0 told j)) ∧ (∀ j, j < k → ¬ M.rc b D0 j 0 told) ∧ u ≤ D0 ∧ u ≤ k ∧ (∀ j, k - u ≤ j → j < k → ∀ r s, r < D0 → (M.rt b D0 told (j + 1) r s ↔ M.rt b D0 told j r s)) ∧ k + D0 ≤ D0 * M.pc x (w * D0) + u, ⟨500000 - 0, 0, 0, 1, [1], none, none, rfl, congrArg (fun z => [some (V.int (D0 : Int)), some (V.int (told : Int)), some (V.int (b : Int)), some (V.ref pw), some (V.int (mask : Int)), some (V.ref pr), some (V.int z), some (V.int 0), none, none]) e1, S02, hpr, rfl, rfl, fun j y hj => ?_, fun j hj => absurd hj (by omega), by omega, by omega, fun j h1 h2 => absurd h2 (by omega), ?_⟩, ?_⟩
  · rcases j with _ | j
    · cases hj
      exact (M.BR.one hw0 hD).congr rtz
    · simp at hj
  · have one : 1 ≤ M.pc 1 (w * D0) := by
      have hp : 0 < w * D0 := Nat.mul_pos hw0 hD
      have h0 := M.pc_more (row := 0) (row2 := 1) (fun i hi => by rw [Nat.zero_testBit] at hi; cases hi) (w * D0) ⟨0, hp, by decide, by decide⟩
      omega
    have := Nat.mul_le_mul_left D0 one
    omega
  rintro m σ G ⟨k, u, x, rs, v8, v9, rfl, rfl, SG, hG, hlen, hx, hbits, hnone, hu, huk, hst, hcnt⟩
  have hB := hbits k x hx
  have hk : k ≤ 60 * 6960 := by
    have h1 := M.pc_le x (w * D0)
    have h2 : D0 * M.pc x (w * D0) ≤ 60 * 6960 := Nat.mul_le_mul hD2 (by omega)
    omega
  have hlast : atI (rs.map fun x : Nat => V.int (x : Int)) (-1) = some (V.int (x : Int)) := M.at_end (n := k) (by rw [List.getElem?_map, hx]; rfl) (by rw [List.length_map, hlen])
  have bits0 : x.testBit (w * 0 + told) = true ↔ M.rc b D0 k 0 told := (hB.2 0 told hD htw).trans ⟨fun z => z.1, fun z => ⟨z, Nat.le_refl _⟩⟩
  have hWG := hW.same SG
  have wrap : (∀ j, j + 1 < rs.length → ¬ M.rc b D0 j 0 told) := fun j hj => hnone j (by omega)
  walk_at "w"
  refine ⟨fun lt => ?_, fun ge => ?_⟩
  · have lt' : u < D0 := by
      have : (u : Int) < (D0 : Int) := lt
      omega
    walk_at "w"
    refine ⟨_, _, .inl (.inl hG), hlast, ?_⟩
    walk_at "w"
    refine ⟨pw, w, D0, x, 0, told, rfl, hWG, hw2, by omega, hD, htw, hB.1, fun yes => ?_, fun no => ?_⟩
    · walk_at "w"
      exact q pr rs G npr0 SG hG (by omega) (by omega) ⟨hbits, fun j _ hj => wrap j hj⟩ (.inl ⟨k, hlen, bits0.mp yes⟩)
    · have no' : ¬ M.rc b D0 k 0 told := fun z => no (bits0.mpr z)
      walk_at "w"
      refine ⟨_, _, .inl (.inl hG), hlast, ?_⟩
      have hmod := Nat.mod_lt (b ^ k) hD
      walk_at "w"
      refine ⟨pw, w, D0, x, told, b, ((b ^ k % D0 : Nat) : Int), M.rt b D0 told k, rfl, hWG, hw2, hD, by omega, hb, hb2, ew, by omega, hB, fun r s z => z.2, fun row2 hB2 => ?_⟩
      walk_at "w"
      refine ⟨row2, mask, rfl, rfl, ?_⟩
      have ewo : (((b ^ k % D0 : Nat)) : Int) % (D0 : Int) = ((b ^ k : Nat) : Int) % (D0 : Int) := by rw [Int.natCast_emod, Int.emod_emod_of_dvd _ (Int.dvd_refl _)]
      have hB3 : M.BR w D0 (row2 &&& mask) (M.rt b D0 told (k + 1)) := (hB2.land hmask).congr fun r s hr2 _ => (M.rt_succ hb hD hr2 ewo).symm
      generalize row2 &&& mask = y at hB3
      have cap : ∀ r s, M.rt b D0 told (k + 1) r s → s < w := fun r s z => by have := z.2; omega
      have cap0 : ∀ r s, M.rt b D0 told k r s → s < w := fun r s z => by have := z.2; omega
      have bits1 : ∀ (j z : Nat), (rs ++ [y])[j]? = some z → M.BR w D0 z (M.rt b D0 told j) := fun j z hj => by
        rcases Nat.lt_trichotomy j (k + 1) with c | c | c
        · rw [List.getElem?_append_left (by omega)] at hj
          exact hbits j z hj
        · subst c
          rw [List.getElem?_append_right (by omega), hlen, Nat.sub_self] at hj
          cases hj
          exact hB3
        · rw [List.getElem?_eq_none (by simp; omega)] at hj
          cases hj
      have last1 : (rs ++ [y])[k + 1]? = some y := by
        rw [List.getElem?_append_right (by omega), hlen, Nat.sub_self]; rfl
      have len1 : (rs ++ [y]).length = k + 1 + 1 := by rw [List.length_append, hlen]; rfl
      have none1 : ∀ j, j < k + 1 → ¬ M.rc b D0 j 0 told := fun j hj => by
        rcases Nat.lt_or_ge j k with c | c
        · exact hnone j c
        · rw [show j = k by omega]; exact no'
      have happ : (rs ++ [y]).map (fun x : Nat => V.int (x : Int)) = rs.map (fun x : Nat => V.int (x : Int)) ++ [V.int (y : Int)] := by rw [List.map_append]; rfl
      walk_at "w"
      refine ⟨_, _, .inl (.inl hG), hlast, ?_⟩
      walk_at "w"
      refine ⟨fun same => ?_, fun other => ?_⟩
      · have eq1 : y = x := Int.ofNat.inj same
        have step : ∀ r s, r < D0 → (M.rt b D0 told (k + 1) r s ↔ M.rt b D0 told k r s) := fun r s hr2 => by
          rcases Nat.lt_or_ge s w with c | c
          · rw [← hB3.2 r s hr2 c, ← hB.2 r s hr2 c, eq1]
          · exact ⟨fun z => absurd (cap r s z) (by omega), fun z => absurd (cap0 r s z) (by omega)⟩
        walk_at "go"
        refine ⟨_, hG, by rw [List.length_map, hlen]; show _ < 16777216; omega, fun G4 h4 K4 F4 => ?_⟩
        walk_at "w"
        refine ⟨.inl ⟨by omega, by omega⟩, ?_⟩
        walk_at "w"
        refine ⟨(by omega : (0 : Int) < (D0 : Int)), ?_⟩
        walk_at "w"
        dsimp only
        rw [M.wor_next]
        refine ⟨500000 - (k + 1), by omega, k + 1, u + 1, y, rs ++ [y], _, _, rfl, rfl, fun a o h => K4 _ _ (ne_of_none h npr0) (SG _ _ h), by rw [h4, happ], len1, last1, bits1, none1, by omega, by omega, fun j h1 h2 r s hr2 => ?_, by rw [eq1]; omega⟩
        rcases Nat.lt_or_ge j k with c | c
        · exact hst j (by omega) c r s hr2
        · rw [show j = k by omega]; exact step r s hr2
      · have ne1 : x ≠ y := fun z => other (congrArg (fun z : Nat => (z : Int)) z.symm)
        have grow := M.pc_grow hB hB3 hw0 (fun r s _ _ z => M.rt_up hb z) ne1
        have grow2 := Nat.mul_le_mul_left D0 grow
        rw [Nat.mul_add, Nat.mul_one] at grow2
        walk_at "go"
        refine ⟨_, hG, by rw [List.length_map, hlen]; show _ < 16777216; omega, fun G4 h4 K4 F4 => ?_⟩
        walk_at "w"
        refine ⟨.inl ⟨by omega, by omega⟩, ?_⟩
        walk_at "w"
        refine ⟨(by omega : (0 : Int) < (D0 : Int)), ?_⟩
        walk_at "w"
        dsimp only
        rw [M.wor_next]
        refine ⟨500000 - (k + 1), by omega, k + 1, 0, y, rs ++ [y], _, _, rfl, rfl, fun a o h => K4 _ _ (ne_of_none h npr0) (SG _ _ h), by rw [h4, happ], len1, last1, bits1, none1, by omega, by omega, fun j h1 h2 => absurd h2 (by omega), by omega⟩
  · have ge' : u = D0 := by
      have : ¬ (u : Int) < (D0 : Int) := ge
      omega
    subst ge'
    walk_at "w"
    refine q pr rs G npr0 SG hG (by omega) (by omega) ⟨hbits, fun j _ hj => wrap j hj⟩ ?_
    by_cases c : M.rc b u k 0 told
    · exact .inl ⟨k, hlen, c⟩
    · refine .inr ⟨M.no_multiple hb hD (k := k - u) (fun j h1 h2 => hst j h1 (by omega)) fun z => c (M.rc_up hb (by omega) z.1), k, hlen, c⟩
/-! _worths -/
abbrev s__worths : Stmt := top 9
abbrev ps__worths : List Str := ["places", "divisor", "base"]
theorem sc__worths : FnScope ["places", "divisor", "base", "worths", "worth", "_"] ["places", "divisor", "base"] (defScope s__worths) := ⟨rfl, rfl, rfl, by decide +kernel, rfl, by decide +kernel, by decide +kernel⟩
def sp__worths (K : PySem.W.Frag) (_ : Ads) : Sp := fun vs H Q _ => ∃ (n D b : Nat), vs = [.int (n : Int), .int (D : Int), .int (b : Int)] ∧ n ≤ 2000000 ∧ 0 < D ∧ D ≤ 1000 ∧ 2 ≤ b ∧ b ≤ 16 ∧ ∀ p H', H p = none → Same H H' → H' p = some (.lst ((M.wor b D n).map V.int)) → Q (.ref p) H'
theorem ok__worths (D : DefAt K mg "_worths" s__worths ps__worths) (B : Blt mg) (C : Cst mg) (KC : Kls K mg ad) : Cal P w K mg base 1 "_worths" ps__worths (sp__worths K ad) := by
  have sc := sc__worths
  refine mkCal D sc (fun vs H Q E h => ?_) (fun f cdv A outer s H vs Q E hr h => ?_)
  · obtain ⟨n, D0, b, rfl, hn, hD, hD2, hb, hb2, q⟩ := h
    rfl
  obtain ⟨n, D0, b, rfl, hn, hD, hD2, hb, hb2, q⟩ := h
  refine ⟨_, (pss_cons (ps_set (i := 3) sc.nd rfl (Or.inl rfl) (zlst pa_nil))
    (pss_cons (ps_set (i := 4) sc.nd rfl (Or.inl rfl) (pe_op zmod pe_int (zv 1)))
    (pss_cons (ps_for PassesOwn.never rfl (pi_range1 (by rfl) B.b_range (pa_cons (zv 0) pa_nil)) (pg_name (i := 5) sc.nd rfl (Or.inl rfl)) (pss_cons (ps_expr (pe_bm PySem.F.plainAttrs_list PySem.F.slot_list_append PySem.F.type_list_append zappend (zv 3) (pa_cons (zv 4) pa_nil)))
    (pss_one (ps_set (i := 4) sc.nd rfl (Or.inl rfl) (pe_op zmod (pe_op zmul (zv 4) (zv 2)) (zv 1))))))
    (pss_one (ps_ret (zv 3)))))), ?_⟩
  walk_at "go"
  refine fun p H1 np hp S1 => ?_
  walk_at "w"
  refine ⟨(by omega : (0 : Int) < (D0 : Int)), ?_⟩
  walk_at "w"
  have e1 : (1 : Int) % (D0 : Int) = ((b ^ 0 % D0 : Nat) : Int) := by rw [Nat.pow_zero, Int.natCast_emod]; rfl
  refine ⟨_, rfl, by omega, by omega, for_range (fun i σ G => ∃ v5 : Option V, σ = [some (.int (n : Int)), some (.int (D0 : Int)), some (.int (b : Int)), some (.ref p), some (.int ((b ^ i % D0 : Nat) : Int)), v5] ∧ Same H G ∧ G p = some (.lst ((M.wor b D0 i).map V.int))) ?_ ?_ ?_⟩
  · exact ⟨none, congrArg (fun z => [some (V.int (n : Int)), some (V.int (D0 : Int)), some (V.int (b : Int)), some (V.ref p), some (V.int z), none]) e1, S1, hp⟩
  · rintro i σ2 G hi ⟨v5, rfl, T, hG⟩
    have hm := Nat.mod_lt (b ^ i) hD
    walk_at "go"
    refine ⟨_, hG, by rw [List.length_map, M.wor_len]; show _ < 16777216; omega, fun H4 hp4 K4 F4 => ?_⟩
    walk_at "w"
    refine ⟨.inl ⟨by omega, by omega⟩, ?_⟩
    walk_at "w"
    refine ⟨(by omega : (0 : Int) < (D0 : Int)), ?_⟩
    walk_at "w"
    dsimp only
    rw [M.wor_next]
    refine ⟨_, rfl, fun a o h => K4 _ _ (ne_of_none h np) (T _ _ h), ?_⟩
    rw [hp4, M.wor_more, List.map_append]
    rfl
  · rintro σ2 G ⟨v5, rfl, T, hG⟩
    walk_at "w"
    exact q p G np T hG
/-! least_multiple -/
abbrev s_least_multiple : Stmt := top 5
abbrev ps_least_multiple : List Str := ["divisor", "told", "base"]
theorem sc_least_multiple : FnScope ["divisor", "told", "base", "wheel", "rows", "worths", "number", "rest", "left", "row", "worth", "figure"] ["divisor", "told", "base"] (defScope s_least_multiple) := ⟨rfl, rfl, rfl, by decide +kernel, rfl, by decide +kernel, by decide +kernel⟩
def sp_least_multiple (K : PySem.W.Frag) (ad : Ads) : Sp := fun vs H Q _ => ∃ (D told b : Nat), vs = [.int (D : Int), .int (told : Int), .int (b : Int)] ∧ 1 ≤ D ∧ D ≤ 60 ∧ 1 ≤ told ∧ told ≤ 100 ∧ 2 ≤ b ∧ b ≤ 16 ∧
  (∀ (n : Nat) H', M.Mul b D told n → (∀ m, M.Mul b D told m → n ≤ m) → n < b ^ 500000 → Same H H' → Q (.int (n : Int)) H') ∧ ((∀ n, ¬ M.Mul b D told n) → ∀ H', Same H H' → Q .non H')
theorem ok_least_multiple (D : DefAt K mg "least_multiple" s_least_multiple ps_least_multiple) (B : Blt mg) (C : Cst mg) (KC : Kls K mg ad) (c_Wheel___init__ : CalI P w K mg base 2 ad.Wheel ps_Wheel___init__ (sp_Wheel___init__ K ad)) (c__rows_of_sums : Cal P w K mg base 3 "_rows_of_sums" ps__rows_of_sums (sp__rows_of_sums K ad)) (c__has : Cal P w K mg base 2 "_has" ps__has (sp__has K ad)) (c__worths : Cal P w K mg base 1 "_worths" ps__worths (sp__worths K ad)) : Cal P w K mg base 4 "least_multiple" ps_least_multiple (sp_least_multiple K ad) := by
  have sc := sc_least_multiple
  refine mkCal D sc (fun vs H Q E h => ?_) (fun f cdv A outer s H vs Q E hr h => ?_)
  · obtain ⟨D0, told, b, rfl, hD, hD2, ht, ht2, hb, hb2, q1, q2⟩ := h
    rfl
  obtain ⟨D0, told, b, rfl, hD, hD2, ht, ht2, hb, hb2, q1, q2⟩ := h
  refine ⟨_, (pss_cons (zps_if (zpc zlt (zv 1) pe_int) (pss_one (ps_ret pe_non)) pss_nil)
    (pss_cons (ps_set (i := 3) sc.nd rfl (Or.inl rfl) (zmake c_Wheel___init__ (hr.mono (by decide)) (by rfl) KC.g_Wheel (pa_cons (pe_op zadd (zv 1) (zv 2)) (pa_cons (zv 0) pa_nil))))
    (pss_cons (ps_set (i := 4) sc.nd rfl (Or.inl rfl) (zcall c__rows_of_sums (hr.mono (by decide)) (by rfl) (pa_cons (zv 0) (pa_cons (zv 1) (pa_cons (zv 2) (pa_cons (zv 3) pa_nil))))))
    (pss_cons (zps_if (pt_not (zpt (zcall c__has (hr.mono (by decide)) (by rfl) (pa_cons (pe_ix zixL (zv 4) (pe_un zneg pe_int) (fun _ _ => rfl)) (pa_cons pe_int (pa_cons (zv 1) (pa_cons (zv 3) pa_nil))))))) (pss_one (ps_ret pe_non)) pss_nil)
    (pss_cons (ps_set (i := 5) sc.nd rfl (Or.inl rfl) (zcall c__worths (hr.mono (by decide)) (by rfl) (pa_cons (pe_op zsub (pe_callB zlen (by rfl) B.b_len (by decide +kernel) (pa_cons (zv 4) pa_nil)) pe_int) (pa_cons (zv 0) (pa_cons (zv 2) pa_nil)))))
    (pss_cons (ps_par3 (i := 6) (j := 7) (l := 8) rfl sc.nd rfl rfl rfl (by decide) (by decide) (by decide) rfl rfl rfl (pa_cons pe_int (pa_cons pe_int (pa_cons (zv 1) pa_nil))) (by rfl))
    (pss_cons (ps_for PassesOwn.never rfl (zpi_zipB (by rfl) B.b_zip (pa_cons (zrev2 (zv 4)) (pa_cons (zrevL (zv 5)) pa_nil))) (pg_tup (n := 2) rfl (pgs_cons (pg_name (i := 9) sc.nd rfl (Or.inl rfl) (Or.inr rfl)) (pgs_cons (pg_name (i := 10) sc.nd rfl (Or.inl rfl) (Or.inr rfl)) pgs_nil))) (pss_cons (ps_set (i := 11) sc.nd rfl (Or.inl rfl) pe_int)
    (pss_cons (zps_while PassesOwn.never (pt_not (zpt (zcall c__has (hr.mono (by decide)) (by rfl) (pa_cons (zv 9) (pa_cons (zv 7) (pa_cons (zv 8) (pa_cons (zv 3) pa_nil))))))) (pss_cons (ps_aug (i := 11) sc.nd rfl (Or.inl rfl) pe_int zip_add)
    (pss_cons (ps_aug (i := 8) sc.nd rfl (Or.inl rfl) pe_int zip_sub)
    (pss_one (ps_set (i := 7) sc.nd rfl (Or.inl rfl) (pe_op zmod (pe_op zsub (zv 7) (zv 10)) (zv 0)))))))
    (pss_one (ps_set (i := 6) sc.nd rfl (Or.inl rfl) (pe_op zadd (pe_op zmul (zv 6) (zv 2)) (zv 11)))))))
    (pss_one (ps_ret (zv 6)))))))))), ?_⟩
  obtain ⟨w, ew⟩ : ∃ w, w = told + b := ⟨_, rfl⟩
  have hwi : (told : Int) + (b : Int) = (w : Int) := by omega
  walk_at "w"
  refine ⟨fun c => absurd (show (told : Int) < 1 from c) (by omega), fun _ => ?_⟩
  walk_at "w"
  dsimp only
  rw [hwi]
  refine fun pw dx H1 n1 h1 S1 => ⟨pw, dx, w, D0, rfl, h1, by omega, by omega, fun H2 hW K2 => ⟨rfl, ?_⟩⟩
  have S2 : Same H H2 := fun a o h => K2 a o (ne_of_none h n1) (S1 a o h)
  walk_at "w"
  refine ⟨pw, D0, told, b, w, rfl, hW, ew, ht2, hD, hD2, hb, hb2, fun pr rs H3 npr S3 hpr l0 lmax hR hcase => ?_⟩
  obtain ⟨k, hlen⟩ : ∃ k, rs.length = k + 1 := ⟨rs.length - 1, by omega⟩
  obtain ⟨x, hx⟩ : ∃ x, rs[k]? = some x := ⟨_, List.getElem?_eq_getElem (by omega)⟩
  have hB := hR.bits k x hx
  have hlast : atI (rs.map fun x : Nat => V.int (x : Int)) (-1) = some (V.int (x : Int)) := M.at_end (n := k) (by rw [List.getElem?_map, hx]; rfl) (by rw [List.length_map, hlen])
  have bits0 : x.testBit (w * 0 + told) = true ↔ M.rc b D0 k 0 told := (hB.2 0 told hD (by omega)).trans ⟨fun z => z.1, fun z => ⟨z, Nat.le_refl _⟩⟩
  have S03 := S2.trans S3
  have hW3 := hW.same S3
  walk_at "w"
  refine ⟨_, _, .inl (.inl hpr), hlast, ?_⟩
  walk_at "w"
  refine ⟨pw, w, D0, x, 0, told, rfl, hW3, by omega, by omega, hD, by omega, hB.1, fun yes => ?_, fun no => ?_⟩
  case refine_2 =>
    walk_at "w"
    rcases hcase with ⟨k2, e2, c⟩ | ⟨c, _⟩
    · have : k2 = k := by omega
      subst this
      exact absurd (bits0.mpr c) no
    · exact q2 c H3 S03
  have hex := bits0.mp yes
  walk_at "w"
  refine ⟨_, .inl (.inl (.inl hpr)), ?_⟩
  rw [List.length_map, hlen]
  walk_at "w"
  refine ⟨k, D0, b, congrArg (fun z => [V.int z, V.int (D0 : Int), V.int (b : Int)]) (by omega), by omega, hD, by omega, hb, hb2, fun pwo H4 npwo S4 hpwo => ?_⟩
  walk_at "w"
  refine ⟨_, _, _, rfl, ?_⟩
  have hpr4 := S4 _ _ hpr
  walk_at "w"
  refine ⟨_, .inl (.inl hpr4), by rw [List.length_map]; omega, fun p5 H5 np5 hp5 S5 => ?_⟩
  walk_at "w"
  refine ⟨_, .inl (.inl (S5 _ _ hpwo)), fun p6 H6 np6 hp6 S6 => ?_⟩
  have hp5' := S6 _ _ hp5
  have S36 : Same H3 H6 := S4.trans (S5.trans S6)
  have lx : (((rs.map fun x : Nat => V.int (x : Int)).take ((rs.map fun x : Nat => V.int (x : Int)).length - 1)).reverse).length = k := by
    rw [List.length_reverse, List.length_take, List.length_map, hlen]; omega
  have ly : (((M.wor b D0 k).map V.int).reverse).length = k := by
    rw [List.length_reverse, List.length_map, M.wor_len]
  have gx : ∀ (i : Nat) (v : V), i < k → (((rs.map fun x : Nat => V.int (x : Int)).take ((rs.map fun x : Nat => V.int (x : Int)).length - 1)).reverse)[i]? = some v → ∃ y, rs[k - 1 - i]? = some y ∧ v = .int (y : Int) := fun i v hi e => by
    rw [List.getElem?_reverse (by rw [List.length_take, List.length_map, hlen]; omega), List.length_take, List.length_map, hlen, List.getElem?_take, if_pos (by omega), List.getElem?_map, show min (k + 1 - 1) (k + 1) - 1 - i = k - 1 - i by omega] at e
    cases c : rs[k - 1 - i]? with
    | none => rw [c] at e; cases e
    | some y => rw [c] at e; cases e; exact ⟨y, rfl, rfl⟩
  have gy : ∀ (i : Nat) (v : V), i < k → (((M.wor b D0 k).map V.int).reverse)[i]? = some v → v = .int ((b ^ (k - 1 - i) % D0 : Nat) : Int) := fun i v hi e => by
    rw [List.getElem?_reverse (by rw [List.length_map, M.wor_len]; exact hi), List.length_map, M.wor_len, List.getElem?_map] at e
    unfold M.wor at e
    rw [List.getElem?_map, List.getElem?_range (by omega)] at e
    cases e
    rfl
  walk_at "w"
  refine ⟨false, false, _, _, .inl (.inl hp5'), .inl (.inl hp6), ?_⟩
  refine for_it (walk_zipB (n := k) lx ly) (fun i σ G => ∃ (N rest left : Nat) (v9 v10 v11 : Option V), σ = [some (.int (D0 : Int)), some (.int (told : Int)), some (.int (b : Int)), some (.ref pw), some (.ref pr), some (.ref pwo), some (.int (N : Int)), some (.int (rest : Int)), some (.int (left : Int)), v9, v10, v11] ∧ Same H6 G ∧ M.Gr b D0 told k (k - i) N rest left) ⟨0, 0, told, _, _, _, rfl, Same.refl _, M.Gr.first hb hD hex⟩ (fun i σ G hi h => ?_) (fun i x σ G G' hi h y => ?_) (fun σ G h => ?_)
  · obtain ⟨N, rest, left, v9, v10, v11, rfl, SG, g⟩ := h
    exact ⟨.inl (.inl (SG _ _ hp5')), .inl (.inl (SG _ _ hp6))⟩
  · obtain ⟨N, rest, left, v9, v10, v11, rfl, SG, g⟩ := h
    obtain ⟨T, xv, yv, rfl, nT, rfl, ex, ey⟩ := y
    dsimp only at ex ey
    obtain ⟨row, hrow, rfl⟩ := gx i xv hi ex
    obtain rfl := gy i yv hi ey
    have hBr := hR.bits _ _ hrow
    have ej : k - i = k - 1 - i + 1 := by omega
    generalize hj : k - 1 - i = j at *
    rw [ej] at g
    obtain ⟨wo, hwo⟩ : ∃ wo : Nat, wo = b ^ j % D0 := ⟨_, rfl⟩
    have hwl : wo < D0 := by rw [hwo]; exact Nat.mod_lt _ hD
    have hwm : ((wo : Nat) : Int) % (D0 : Int) = ((b ^ j : Nat) : Int) % (D0 : Int) := by rw [hwo, Int.natCast_emod, Int.emod_emod_of_dvd _ (Int.dvd_refl _)]
    rw [← hwo]
    obtain ⟨g0, hg0, hg1, hg2⟩ := (M.rc_succ hb hD g.lt).mp g.ex
    rw [← M.back_mul_mod g0 hwm] at hg2
    have hleft : left ≤ told := by have := g.sum; omega
    have hT : ∀ xs, upd G T (.tup xs) T = some (.tup xs) := fun _ => upd_same
    have SGT : Same H6 (upd G T (.tup [.int (row : Int), .int (wo : Int)])) := SG.trans (same_upd nT)
    have hWT := (hW3.same S36).same SGT
    walk_at "w"
    refine ⟨_, _, rfl, .inl (.inl (hT _)), rfl, ?_⟩
    walk_at "w"
    refine ⟨_, _, rfl, ?_⟩
    walk_at "w"
    refine ⟨_, _, rfl, ?_⟩
    walk_at "w"
    refine ⟨rfl, ?_⟩
    walk_at "w"
    refine ⟨fun m σ G2 => ∃ (fg : Nat), m = b - fg ∧ σ = [some (.int (D0 : Int)), some (.int (told : Int)), some (.int (b : Int)), some (.ref pw), some (.ref pr), some (.ref pwo), some (.int (N : Int)), some (.int ((M.back D0 rest ((fg : Int) * (wo : Int)) : Nat) : Int)), some (.int ((left - fg : Nat) : Int)), some (.int (row : Int)), some (.int (wo : Int)), some (.int (fg : Int))] ∧ G2 = upd G T (.tup [.int (row : Int), .int (wo : Int)]) ∧ fg ≤ g0 ∧ ∀ e, e < fg → ¬ M.rc b D0 j (M.back D0 rest ((e : Int) * (wo : Int))) (left - e), ⟨b - 0, 0, rfl, ?_, rfl, by omega, fun e he => absurd he (by omega)⟩, ?_⟩
    · have e0 : M.back D0 rest (((0 : Nat) : Int) * (wo : Int)) = rest := by rw [show ((0 : Nat) : Int) * (wo : Int) = 0 from Int.zero_mul _, M.back_zero g.lt]
      rw [e0]; rfl
    rintro m σ2 G2 ⟨fg, rfl, rfl, rfl, hfg, hno⟩
    have hbl := M.back_lt (D := D0) (r := rest) (y := (fg : Int) * (wo : Int)) hD
    have rtc : row.testBit (w * M.back D0 rest ((fg : Int) * (wo : Int)) + (left - fg)) = true ↔ M.rc b D0 j (M.back D0 rest ((fg : Int) * (wo : Int))) (left - fg) := (hBr.2 _ _ hbl (by omega)).trans ⟨fun z => z.1, fun z => ⟨z, by omega⟩⟩
    walk_at "w"
    refine ⟨pw, w, D0, row, M.back D0 rest ((fg : Int) * (wo : Int)), left - fg, rfl, hWT, by omega, by omega, hbl, by omega, hBr.1, fun yes => ?_, fun no => ?_⟩
    · have hy := rtc.mp yes
      walk_at "w"
      refine ⟨.inr (.inl ⟨by omega, by omega⟩), ?_⟩
      walk_at "w"
      refine ⟨N * b + fg, M.back D0 rest ((fg : Int) * (wo : Int)), left - fg, _, _, _, rfl, SGT, ?_⟩
      have gn := g.next hb hD hwm (by omega) (by omega) hy hno
      rw [show k - (i + 1) = j by omega]
      exact gn
    · have hn : ¬ M.rc b D0 j (M.back D0 rest ((fg : Int) * (wo : Int))) (left - fg) := fun z => no (rtc.mpr z)
      have lt : fg < g0 := by
        rcases Nat.lt_or_ge fg g0 with c | c
        · exact c
        · have : fg = g0 := by omega
          subst this
          exact absurd hg2 hn
      have eb := M.back_int (D := D0) (r := M.back D0 rest ((fg : Int) * (wo : Int))) hD (wo : Int)
      rw [M.back_back hD] at eb
      have ef : (fg : Int) * (wo : Int) + (wo : Int) = ((fg + 1 : Nat) : Int) * (wo : Int) := by rw [Int.natCast_add, Int.add_mul]; show _ = _ + (1 : Int) * (wo : Int); rw [Int.one_mul]
      rw [ef] at eb
      have el : ((left - fg : Nat) : Int) - 1 = ((left - (fg + 1) : Nat) : Int) := by omega
      walk_at "w"
      refine ⟨_, rfl, ?_⟩
      walk_at "w"
      refine ⟨_, rfl, ?_⟩
      walk_at "w"
      refine ⟨(by omega : (0 : Int) < (D0 : Int)), ?_⟩
      walk_at "w"
      dsimp only
      rw [eb, el]
      refine ⟨b - (fg + 1), by omega, fg + 1, rfl, rfl, rfl, by omega, fun e he => ?_⟩
      rcases Nat.lt_or_ge e fg with c | c
      · exact hno e c
      · rw [show e = fg by omega]; exact hn
  · obtain ⟨N, rest, left, v9, v10, v11, rfl, SG, g⟩ := h
    rw [Nat.sub_self] at g
    obtain ⟨l1, l2, l3⟩ := g.last hb
    walk_at "w"
    exact q1 N G l1 l3 (Nat.lt_of_lt_of_le l2 (Nat.pow_le_pow_right (by omega) (by omega))) (S03.trans (S36.trans SG))
/-! law -/
abbrev s_law : Stmt := top 21
abbrev ps_law : List Str := ["script"]
theorem sc_law : FnScope ["script", "deck", "turn", "base", "divisor", "far", "told", "due", "near"] ["script"] (defScope s_law) := ⟨rfl, rfl, rfl, by decide +kernel, rfl, by decide +kernel, by decide +kernel⟩
theorem eqv_int (n : Int) : PyData.eqv (.int n) (.int n) = true := by
  show (n == n) = true
  exact beq_self_eq_true n
theorem few_not {d t N : Nat} (h : ((List.range N).all fun n => !(decide (M.dsum 10 n = t) && decide (n % d = 0))) = true) : ∀ m, M.Mul 10 d t m → N ≤ m := fun m hm => Nat.le_of_not_lt fun lt => by
  have := List.all_eq_true.mp h m (List.mem_range.mpr lt)
  simp [hm.1, hm.2] at this
theorem m1001 : M.Mul 10 7 2 1001 ∧ ∀ m, M.Mul 10 7 2 m → 1001 ≤ m := ⟨⟨by decide +kernel, by decide +kernel⟩, few_not (by decide +kernel)⟩
theorem m19 : M.Mul 10 1 10 19 ∧ ∀ m, M.Mul 10 1 10 m → 19 ≤ m := ⟨⟨by decide +kernel, by decide +kernel⟩, few_not (by decide +kernel)⟩
theorem dsum_rest9 : ∀ n : Nat, M.dsum 10 n % 9 = n % 9 := fun n => by
  induction n using Nat.strongRecOn with
  | ind n ih =>
    by_cases c : n < 10
    · rw [M.dsum_small c]
    · have := ih (n / 10) (by omega)
      rw [M.dsum_step (by decide) n]
      omega
theorem none95 : ∀ n, ¬ M.Mul 10 9 5 n := fun n h => by
  have := dsum_rest9 n
  have h1 := h.1
  have h2 := h.2
  omega
def sp_law (K : PySem.W.Frag) : Sp := fun vs H Q _ => ∃ (a : Addr) (ns : List Int), vs = [.ref a] ∧ SqL K H a (ns.map V.int) ∧ ns.length ≤ 63 ∧ (∀ z ∈ ns, PySem.Builtin.Int.intBits z ≤ 1048576) ∧ ∀ H', Q (.bl true) H'
theorem ok_law {e : Addr} {ed : FuncData} (F : Fun K "law" "law" s_law e ed) (B : Blt mg) (C : Cst mg) (KC : Kls K mg ad) (c__law_deck : Cal P w K mg base 1 "_law_deck" ps__law_deck (sp__law_deck K ad)) (c__law_draw : Cal P w K mg base 1 "_law_draw" ps__law_draw (sp__law_draw K ad)) (c__law_due : Cal P w K mg base 2 "_law_due" ps__law_due (sp__law_due K ad)) (c__law_by_trial : Cal P w K mg base 2 "_law_by_trial" ps__law_by_trial (sp__law_by_trial K ad)) (c__law_same : Cal P w K mg base 1 "_law_same" ps__law_same (sp__law_same K ad)) (c_least_multiple : Cal P w K mg base 4 "least_multiple" ps_least_multiple (sp_least_multiple K ad)) : FnOk P w K mg base CX0 5 e ed ps_law (sp_law K) := by
  have sc := sc_law
  refine F.ok sc (fun vs H Q E h => ?_) (fun cdv A outer s H vs Q E hr h => ?_)
  · obtain ⟨a, ns, rfl, hA, hl, hbits, q⟩ := h
    rfl
  obtain ⟨a, ns, rfl, hA, hl, hbits, q⟩ := h
  refine ⟨_, (pss_cons (ps_set (i := 1) sc.nd rfl (Or.inl rfl) (zcall c__law_deck (hr.mono (by decide)) (by rfl) (pa_cons (zv 0) pa_nil)))
    (pss_cons (ps_for PassesOwn.never rfl (pi_range1 (by rfl) B.b_range (pa_cons pe_int pa_nil)) (pg_name (i := 2) sc.nd rfl (Or.inl rfl)) (pss_cons (ps_set (i := 3) sc.nd rfl (Or.inl rfl) (pe_ix zixL (zlst (pa_cons (pe_op zadd pe_int (zcall c__law_draw (hr.mono (by decide)) (by rfl) (pa_cons (zv 1) (pa_cons pe_int pa_nil)))) (pa_cons pe_int (pa_cons pe_int (pa_cons pe_int pa_nil))))) (pe_callB (zmax2 rfl) (by rfl) B.b_max (by decide +kernel) (pa_cons pe_int (pa_cons (pe_op zsub (zcall c__law_draw (hr.mono (by decide)) (by rfl) (pa_cons (zv 1) (pa_cons pe_int pa_nil))) pe_int) pa_nil))) (fun _ _ => rfl)))
    (pss_cons (ps_set (i := 4) sc.nd rfl (Or.inl rfl) (pe_ix zixL (zlst (pa_cons (pe_op zadd pe_int (zcall c__law_draw (hr.mono (by decide)) (by rfl) (pa_cons (zv 1) (pa_cons pe_int pa_nil)))) (pa_cons pe_int (pa_cons pe_int (pa_cons (pe_op zsub (zv 3) pe_int) pa_nil))))) (pe_callB (zmax2 rfl) (by rfl) B.b_max (by decide +kernel) (pa_cons pe_int (pa_cons (pe_op zsub (zcall c__law_draw (hr.mono (by decide)) (by rfl) (pa_cons (zv 1) (pa_cons pe_int pa_nil))) pe_int) pa_nil))) (fun _ _ => rfl)))
    (pss_cons (ps_set (i := 5) sc.nd rfl (Or.inl rfl) (pe_ix zixL (zlst (pa_cons (pe_op zadd pe_int (zcall c__law_draw (hr.mono (by decide)) (by rfl) (pa_cons (zv 1) (pa_cons pe_int pa_nil)))) (pa_cons pe_int pa_nil))) (zcall c__law_draw (hr.mono (by decide)) (by rfl) (pa_cons (zv 1) (pa_cons pe_int pa_nil))) (fun _ _ => rfl)))
    (pss_cons (ps_for PassesOwn.never rfl (pi_list (zlst (pa_cons (pe_op zadd pe_int (zcall c__law_draw (hr.mono (by decide)) (by rfl) (pa_cons (zv 1) (pa_cons pe_int pa_nil)))) (pa_cons (pe_op zadd pe_int (zcall c__law_draw (hr.mono (by decide)) (by rfl) (pa_cons (zv 1) (pa_cons pe_int pa_nil)))) (pa_cons (zv 5) pa_nil))))) (pg_name (i := 6) sc.nd rfl (Or.inl rfl)) (pss_cons (ps_set (i := 7) sc.nd rfl (Or.inl rfl) (zcall c__law_due (hr.mono (by decide)) (by rfl) (pa_cons (zv 4) (pa_cons (zv 6) (pa_cons (zv 3) pa_nil)))))
    (pss_cons (ps_set (i := 8) sc.nd rfl (Or.inl rfl) (zcall c__law_by_trial (hr.mono (by decide)) (by rfl) (pa_cons (zv 4) (pa_cons (zv 6) (pa_cons (zv 3) pa_nil)))))
    (pss_cons (zps_if (PW.pt (zpw_or (PW.pt (zpw_and (zpc znotN (zv 8) pe_non) (zpw_and1 (zpc (zneD (hu64 hr)) (zv 8) (zv 7))))) (zpw_or1 (PW.pt (zpw_and (zpc zisN (zv 8) pe_non) (zpw_and (zpc znotN (zv 7) pe_non) (zpw_and1 (zpc zle (zv 7) (pe_op zmul pe_int (zv 4)))))))))) (pss_one (ps_ret pe_bl)) pss_nil)
    (pss_one (zps_if (pt_not (zpt (zcall c__law_same (hr.mono (by decide)) (by rfl) (pa_cons (zcall c_least_multiple (hr.mono (by decide)) (by rfl) (pa_cons (zv 4) (pa_cons (zv 6) (pa_cons (zv 3) pa_nil)))) (pa_cons (zv 7) pa_nil))))) (pss_one (ps_ret pe_bl)) pss_nil))))))
    (pss_one (zps_if (zpc (zneD (hu64 hr)) (zcall c_least_multiple (hr.mono (by decide)) (by rfl) (pa_cons (zv 4) (pa_cons pe_int (pa_cons (zv 3) pa_nil)))) (zcall c_least_multiple (hr.mono (by decide)) (by rfl) (pa_cons (zv 4) (pa_cons pe_int (pa_cons (zv 3) pa_nil))))) (pss_one (ps_ret pe_bl)) pss_nil)))))))
    (pss_one (ps_ret (zpe_and (pe_cmpR zeq (zcall c_least_multiple (hr.mono (by decide)) (by rfl) (pa_cons pe_int (pa_cons pe_int (pa_cons pe_int pa_nil)))) pe_int (nomark _)) (zpe_and (pe_cmpR zisN (zcall c_least_multiple (hr.mono (by decide)) (by rfl) (pa_cons pe_int (pa_cons pe_int (pa_cons pe_int pa_nil)))) pe_non (nomark _)) (pe_one (pe_cmpR zeq (zcall c_least_multiple (hr.mono (by decide)) (by rfl) (pa_cons pe_int (pa_cons pe_int (pa_cons pe_int pa_nil)))) pe_int (nomark _))))))))), ?_⟩
  walk_at "w"
  refine ⟨a, ns, rfl, hA, hl, hbits, fun d H1 nd S1 hD1 => ?_⟩
  walk_at "w"
  refine ⟨_, rfl, by omega, by omega, for_range (fun i σ H' => ∃ (v2 v3 v4 v5 v6 v7 v8 : Option V), σ = [some (.ref a), some (.ref d), v2, v3, v4, v5, v6, v7, v8] ∧ Dk H' d (1000 * i)) ?_ ?_ ?_⟩
  · exact ⟨_, _, _, _, _, _, _, rfl, hD1⟩
  · rintro i σ1 H2 hi ⟨v2, v3, v4, v5, v6, v7, v8, rfl, hD2⟩
    have hi' : i < 5 := hi
    walk_at "w"
    refine ⟨_, _, _, rfl, hD2, by omega, by omega, by omega, fun r H3 hr0 hr hD3 K3 => ?_⟩
    walk_at "go"
    refine fun p H4 np hp S4 => ?_
    have hD4 := hD3.same S4
    have ndp := hD3.ne np
    walk_at "w"
    refine ⟨_, _, _, rfl, hD4, by omega, by omega, by omega, fun r2 H5 h20 h21 hD5 K5 => ?_⟩
    have hp5 := K5 _ _ (Ne.symm ndp) hp
    obtain ⟨b, hb, hb2, hv⟩ : ∃ b : Nat, 2 ≤ b ∧ b ≤ 16 ∧ atI [V.int (2 + r), V.int 10, V.int 2, V.int 16] (max 0 (r2 - 2)) = some (V.int (b : Int)) := by
      rcases (by omega : max 0 (r2 - 2) = 0 ∨ max 0 (r2 - 2) = 1 ∨ max 0 (r2 - 2) = 2 ∨ max 0 (r2 - 2) = 3) with e | e | e | e
      · refine ⟨(2 + r).toNat, by omega, by omega, ?_⟩
        have e2 : (((2 + r).toNat : Nat) : Int) = 2 + r := by omega
        rw [e, e2]; rfl
      · exact ⟨10, by omega, by omega, by rw [e]; rfl⟩
      · exact ⟨2, by omega, by omega, by rw [e]; rfl⟩
      · exact ⟨16, by omega, by omega, by rw [e]; rfl⟩
    walk_at "w"
    refine ⟨_, _, .inl (.inl hp5), hv, ?_⟩
    walk_at "w"
    refine ⟨_, _, _, rfl, hD5, by omega, by omega, by omega, fun r3 H6 h30 h31 hD6 K6 => ?_⟩
    walk_at "go"
    refine fun p7 H7 np7 hp7 S7 => ?_
    have hD7 := hD6.same S7
    have ndp7 := hD6.ne np7
    walk_at "w"
    refine ⟨_, _, _, rfl, hD7, by omega, by omega, by omega, fun r4 H8 h40 h41 hD8 K8 => ?_⟩
    have hp8 := K8 _ _ (Ne.symm ndp7) hp7
    obtain ⟨D0, hD, hDm, hvD⟩ : ∃ D0 : Nat, 1 ≤ D0 ∧ D0 ≤ 60 ∧ atI [V.int (1 + r3), V.int 60, V.int 59, V.int ((b : Int) - 1)] (max 0 (r4 - 2)) = some (V.int (D0 : Int)) := by
      rcases (by omega : max 0 (r4 - 2) = 0 ∨ max 0 (r4 - 2) = 1 ∨ max 0 (r4 - 2) = 2 ∨ max 0 (r4 - 2) = 3) with e | e | e | e
      · refine ⟨(1 + r3).toNat, by omega, by omega, ?_⟩
        have e2 : (((1 + r3).toNat : Nat) : Int) = 1 + r3 := by omega
        rw [e, e2]; rfl
      · exact ⟨60, by omega, by omega, by rw [e]; rfl⟩
      · exact ⟨59, by omega, by omega, by rw [e]; rfl⟩
      · refine ⟨b - 1, by omega, by omega, ?_⟩
        have e2 : ((b - 1 : Nat) : Int) = (b : Int) - 1 := by omega
        rw [e, e2]; rfl
    walk_at "w"
    refine ⟨_, _, .inl (.inl hp8), hvD, ?_⟩
    walk_at "w"
    refine ⟨_, _, _, rfl, hD8, by omega, by omega, by omega, fun r5 H9 h50 h51 hD9 K9 => ?_⟩
    walk_at "go"
    refine fun p10 H10 np10 hp10 S10 => ?_
    have hD10 := hD9.same S10
    have ndp10 := hD9.ne np10
    walk_at "w"
    refine ⟨_, _, _, rfl, hD10, by omega, by omega, by omega, fun r6 H11 h60 h61 hD11 K11 => ?_⟩
    have hp11 := K11 _ _ (Ne.symm ndp10) hp10
    obtain ⟨far, hf1, hf2, hvF⟩ : ∃ far : Nat, 1 ≤ far ∧ far ≤ 100 ∧ atI [V.int (1 + r5), V.int 100] r6 = some (V.int (far : Int)) := by
      rcases (by omega : r6 = 0 ∨ r6 = 1) with e | e
      · refine ⟨(1 + r5).toNat, by omega, by omega, ?_⟩
        have e2 : (((1 + r5).toNat : Nat) : Int) = 1 + r5 := by omega
        rw [e, e2]; rfl
      · exact ⟨100, by omega, by omega, by rw [e]; rfl⟩
    walk_at "w"
    refine ⟨_, _, .inl (.inl hp11), hvF, ?_⟩
    walk_at "w"
    refine ⟨_, _, _, rfl, hD11, by omega, by omega, by omega, fun r7 H12 h70 h71 hD12 K12 => ?_⟩
    walk_at "w"
    refine ⟨_, _, _, rfl, hD12, by omega, by omega, by omega, fun r8 H13 h80 h81 hD13 K13 => ?_⟩
    walk_at "go"
    refine fun pt H14 npt hpt S14 => ?_
    have hD14 := hD13.same S14
    walk_at "w"
    refine ⟨_, rfl, ⟨_, .inl (.inl hpt)⟩, for_list (xs := [V.int (1 + r7), V.int (1 + r8), V.int (far : Int)]) (fun j σ H' => ∃ (v6 v7 v8 : Option V), σ = [some (.ref a), some (.ref d), some (.int (0 + (i : Nat))), some (.int (b : Int)), some (.int (D0 : Int)), some (.int (far : Int)), v6, v7, v8] ∧ Same H14 H') ⟨_, _, _, rfl, Same.refl _⟩ (fun j σ H' hj h => ?_) (fun j y σ H' hy h => ?_) (fun σ H' h => ?_)⟩
    · obtain ⟨_, _, _, _, S⟩ := h
      exact .inl (.inl (S _ _ hpt))
    · obtain ⟨w6, w7, w8, rfl, S15⟩ := h
      obtain ⟨T, rfl, hT1, hT2⟩ : ∃ T : Nat, y = V.int (T : Int) ∧ 1 ≤ T ∧ T ≤ 100 := by
        rcases j with _ | _ | _ | j
        · cases hy
          exact ⟨(1 + r7).toNat, by rw [show (((1 + r7).toNat : Nat) : Int) = 1 + r7 by omega], by omega, by omega⟩
        · cases hy
          exact ⟨(1 + r8).toNat, by rw [show (((1 + r8).toNat : Nat) : Int) = 1 + r8 by omega], by omega, by omega⟩
        · cases hy
          exact ⟨far, rfl, hf1, hf2⟩
        · cases hy
      walk_at "w"
      refine ⟨D0, T, b, rfl, hD, hDm, hT1, hT2, hb, hb2, fun H16 no S16 => ?_, fun n H16 mul least S16 => ?_⟩
      · walk_at "w"
        refine ⟨D0, T, b, rfl, hD, hDm, hT1, hT2, hb, hb2, fun _ => ?_, fun k _ _ mk _ => absurd mk (no _)⟩
        walk_at "w"
        refine ⟨D0, T, b, rfl, hD, hDm, hT1, hT2, hb, hb2, fun n _ mk => absurd mk (no n), fun _ H17 S17 => ?_⟩
        walk_at "w"
        refine ⟨_, rfl, .inl rfl, ?_⟩
        walk_at "w"
        exact ⟨_, _, _, rfl, S15.trans (S16.trans S17)⟩
      · have n0 : 0 < n := by
          refine Nat.pos_of_ne_zero fun z => ?_
          have := mul.1
          rw [z, M.dsum_zero hb] at this
          omega
        have en : n / D0 * D0 = n := Nat.div_mul_cancel (Nat.dvd_of_mod_eq_zero mul.2)
        have q1 : 1 ≤ n / D0 := Nat.pos_of_ne_zero fun z => by rw [z, Nat.zero_mul] at en; omega
        walk_at "w"
        refine ⟨D0, T, b, rfl, hD, hDm, hT1, hT2, hb, hb2, fun none_ => ?_, fun k k1 k2 mk less => ?_⟩
        · have far2 : ¬ (n : Int) ≤ 200 * (D0 : Int) := fun le => by
            refine none_ (n / D0) q1 ?_ (by rw [en]; exact mul)
            refine Nat.le_of_not_lt fun lt => ?_
            have := Nat.mul_le_mul_right D0 (show 201 ≤ n / D0 from lt)
            omega
          walk_at "w"
          refine ⟨.inl ⟨by omega, by omega⟩, ?_⟩
          walk_at "w"
          refine ⟨fun z => absurd z far2, fun _ => ?_⟩
          walk_at "w"
          refine ⟨D0, T, b, rfl, hD, hDm, hT1, hT2, hb, hb2, fun n2 H17 mul2 least2 _ S17 => ?_, fun no => absurd mul (no n)⟩
          have e2 : n2 = n := Nat.le_antisymm (least2 _ mul) (least _ mul2)
          subst e2
          walk_at "w"
          refine ⟨_, rfl, .inr ⟨_, rfl⟩, ?_⟩
          walk_at "w"
          exact ⟨_, _, _, rfl, S15.trans (S16.trans S17)⟩
        · have ekn : k * D0 = n := by
            have l1 := least _ mk
            rcases Nat.lt_or_ge (n / D0) k with c | c
            · exact absurd (by rw [en]; exact mul) (less (n / D0) q1 c)
            · have := Nat.mul_le_mul_right D0 c
              omega
          rw [ekn]
          walk_at "w"
          refine ⟨.int (n : Int), .int (n : Int), .int _, .int _, ⟨rfl, rfl⟩, fun _ => ?_, fun z => absurd (eqv_int (n : Int)) z⟩
          walk_at "w"
          refine ⟨D0, T, b, rfl, hD, hDm, hT1, hT2, hb, hb2, fun n2 H17 mul2 least2 _ S17 => ?_, fun no => absurd mul (no n)⟩
          have e2 : n2 = n := Nat.le_antisymm (least2 _ mul) (least _ mul2)
          subst e2
          walk_at "w"
          refine ⟨_, rfl, .inr ⟨_, rfl⟩, ?_⟩
          walk_at "w"
          exact ⟨_, _, _, rfl, S15.trans (S16.trans S17)⟩
    · obtain ⟨w6, w7, w8, rfl, S15⟩ := h
      by_cases ex : ∃ m, M.Mul b D0 7 m
      · obtain ⟨n, mul, least⟩ := M.least_in ex
        walk_at "w"
        refine ⟨D0, 7, b, rfl, hD, hDm, by decide, by decide, hb, hb2, fun n2 H16 mul2 least2 _ S16 => ?_, fun no => absurd mul (no n)⟩
        have e2 : n2 = n := Nat.le_antisymm (least2 _ mul) (least _ mul2)
        subst e2
        walk_at "w"
        refine ⟨D0, 7, b, rfl, hD, hDm, by decide, by decide, hb, hb2, fun n3 H17 mul3 least3 _ S17 => ?_, fun no => absurd mul (no n2)⟩
        have e3 : n3 = n2 := Nat.le_antisymm (least3 _ mul) (least _ mul3)
        subst e3
        walk_at "w"
        refine ⟨.int (n3 : Int), .int (n3 : Int), .int _, .int _, ⟨rfl, rfl⟩, fun _ => ?_, fun z => absurd (eqv_int (n3 : Int)) z⟩
        walk_at "w"
        exact ⟨_, _, _, _, _, _, _, rfl, (hD14.same (S15.trans (S16.trans S17))).le (by omega)⟩
      · have no : ∀ m, ¬ M.Mul b D0 7 m := fun m h => ex ⟨m, h⟩
        walk_at "w"
        refine ⟨D0, 7, b, rfl, hD, hDm, by decide, by decide, hb, hb2, fun n _ mk => absurd mk (no n), fun _ H16 S16 => ?_⟩
        walk_at "w"
        refine ⟨D0, 7, b, rfl, hD, hDm, by decide, by decide, hb, hb2, fun n _ mk => absurd mk (no n), fun _ H17 S17 => ?_⟩
        walk_at "w"
        refine ⟨.none, .none, .non, .non, ⟨rfl, rfl⟩, fun _ => ?_, fun z => absurd (by decide) z⟩
        walk_at "w"
        exact ⟨_, _, _, _, _, _, _, rfl, (hD14.same (S15.trans (S16.trans S17))).le (by omega)⟩
  · rintro σ1 H2 ⟨v2, v3, v4, v5, v6, v7, v8, rfl, hD2⟩
    walk_at "w"
    refine ⟨7, 2, 10, rfl, by decide, by decide, by decide, by decide, by decide, by decide, fun n G1 mul least _ T1 => ?_, fun no => absurd m1001.1 (no _)⟩
    have e1 : n = 1001 := Nat.le_antisymm (least _ m1001.1) (m1001.2 _ mul)
    subst e1
    walk_at "w"
    refine ⟨fun _ => ?_, fun z => absurd rfl z⟩
    walk_at "w"
    refine ⟨9, 5, 10, rfl, by decide, by decide, by decide, by decide, by decide, by decide, fun n G2 mul _ _ _ => absurd mul (none95 n), fun _ G2 T2 => ?_⟩
    walk_at "w"
    refine ⟨1, 10, 10, rfl, by decide, by decide, by decide, by decide, by decide, by decide, fun n G3 mul least _ T3 => ?_, fun no => absurd m19.1 (no _)⟩
    have e3 : n = 19 := Nat.le_antisymm (least _ m19.1) (m19.2 _ mul)
    subst e3
    walk_at "w"
    refine ⟨fun _ => ?_, fun z => absurd rfl z⟩
    exact q G3
end
theorem all_mk {l : PySem.W.OpenLaw} {w : World} {K : PySem.W.Frag} {h : Heap} {mg : Str → Option Value} {fa f0 f1 f2 f3 f4 f5 f6 f7 f8 f9 f10 f11 f12 f13 f14 f15 f16 : Addr} (X : K.In h) (G : h.Ns mainGlobals mg) (hfa : mg "law" = some (.ref fa))
    {od0 an0 : Option Addr} {sl0 : Array (Option Value)} {oc0 kV0 dc0 pm0 cd0 ct0 : Value}
    {od1 an1 : Option Addr} {sl1 : Array (Option Value)} {oc1 kV1 dc1 pm1 cd1 ct1 : Value}
    {od2 an2 : Option Addr} {sl2 : Array (Option Value)} {oc2 kV2 dc2 pm2 cd2 ct2 : Value}
    {od3 an3 : Option Addr} {sl3 : Array (Option Value)} {oc3 kV3 dc3 pm3 cd3 ct3 : Value}
    {od4 an4 : Option Addr} {sl4 : Array (Option Value)} {oc4 kV4 dc4 pm4 cd4 ct4 : Value}
    {od5 an5 : Option Addr} {sl5 : Array (Option Value)} {oc5 kV5 dc5 pm5 cd5 ct5 : Value}
    {od6 an6 : Option Addr} {sl6 : Array (Option Value)} {oc6 kV6 dc6 pm6 cd6 ct6 : Value}
    {od7 an7 : Option Addr} {sl7 : Array (Option Value)} {oc7 kV7 dc7 pm7 cd7 ct7 : Value}
    {od8 an8 : Option Addr} {sl8 : Array (Option Value)} {oc8 kV8 dc8 pm8 cd8 ct8 : Value}
    {od9 an9 : Option Addr} {sl9 : Array (Option Value)} {oc9 kV9 dc9 pm9 cd9 ct9 : Value}
    {od10 an10 : Option Addr} {sl10 : Array (Option Value)} {oc10 kV10 dc10 pm10 cd10 ct10 : Value}
    {od11 an11 : Option Addr} {sl11 : Array (Option Value)} {oc11 kV11 dc11 pm11 cd11 ct11 : Value}
    {od12 an12 : Option Addr} {sl12 : Array (Option Value)} {oc12 kV12 dc12 pm12 cd12 ct12 : Value}
    {od13 an13 : Option Addr} {sl13 : Array (Option Value)} {oc13 kV13 dc13 pm13 cd13 ct13 : Value}
    {od14 an14 : Option Addr} {sl14 : Array (Option Value)} {oc14 kV14 dc14 pm14 cd14 ct14 : Value}
    {od15 an15 : Option Addr} {sl15 : Array (Option Value)} {oc15 kV15 dc15 pm15 cd15 ct15 : Value}
    {od16 an16 : Option Addr} {sl16 : Array (Option Value)} {oc16 kV16 dc16 pm16 cd16 ct16 : Value}
    {c_Line : Addr}
    {c_Wheel : Addr}
    (a0 : PySem.W.nsIn K mainGlobals "_law_deck" = some (some (.ref f0))) (l0 : K.lookup f0 = some ⟨oc0, od0, .func (PySem.W.fnOf "_law_deck" "_law_deck" (defArgs s__law_deck) (defBody s__law_deck) (defScope s__law_deck) .none kV0 dc0 pm0 an0 cd0 ct0), sl0⟩) (c0 : PySem.W.codeIn K cd0 "_law_deck" = true) (k0 : PySem.W.keepIn K (.ref f0) = true)
    (a1 : PySem.W.nsIn K mainGlobals "_law_draw" = some (some (.ref f1))) (l1 : K.lookup f1 = some ⟨oc1, od1, .func (PySem.W.fnOf "_law_draw" "_law_draw" (defArgs s__law_draw) (defBody s__law_draw) (defScope s__law_draw) .none kV1 dc1 pm1 an1 cd1 ct1), sl1⟩) (c1 : PySem.W.codeIn K cd1 "_law_draw" = true) (k1 : PySem.W.keepIn K (.ref f1) = true)
    (a2 : PySem.W.nsIn K mainGlobals "_law_come" = some (some (.ref f2))) (l2 : K.lookup f2 = some ⟨oc2, od2, .func (PySem.W.fnOf "_law_come" "_law_come" (defArgs s__law_come) (defBody s__law_come) (defScope s__law_come) .none kV2 dc2 pm2 an2 cd2 ct2), sl2⟩) (c2 : PySem.W.codeIn K cd2 "_law_come" = true) (k2 : PySem.W.keepIn K (.ref f2) = true)
    (a3 : PySem.W.nsIn K mainGlobals "_law_due" = some (some (.ref f3))) (l3 : K.lookup f3 = some ⟨oc3, od3, .func (PySem.W.fnOf "_law_due" "_law_due" (defArgs s__law_due) (defBody s__law_due) (defScope s__law_due) .none kV3 dc3 pm3 an3 cd3 ct3), sl3⟩) (c3 : PySem.W.codeIn K cd3 "_law_due" = true) (k3 : PySem.W.keepIn K (.ref f3) = true)
    (a4 : PySem.W.nsIn K mainGlobals "_law_sum" = some (some (.ref f4))) (l4 : K.lookup f4 = some ⟨oc4, od4, .func (PySem.W.fnOf "_law_sum" "_law_sum" (defArgs s__law_sum) (defBody s__law_sum) (defScope s__law_sum) .none kV4 dc4 pm4 an4 cd4 ct4), sl4⟩) (c4 : PySem.W.codeIn K cd4 "_law_sum" = true) (k4 : PySem.W.keepIn K (.ref f4) = true)
    (a5 : PySem.W.nsIn K mainGlobals "_law_by_trial" = some (some (.ref f5))) (l5 : K.lookup f5 = some ⟨oc5, od5, .func (PySem.W.fnOf "_law_by_trial" "_law_by_trial" (defArgs s__law_by_trial) (defBody s__law_by_trial) (defScope s__law_by_trial) .none kV5 dc5 pm5 an5 cd5 ct5), sl5⟩) (c5 : PySem.W.codeIn K cd5 "_law_by_trial" = true) (k5 : PySem.W.keepIn K (.ref f5) = true)
    (a6 : PySem.W.nsIn K mainGlobals "_law_same" = some (some (.ref f6))) (l6 : K.lookup f6 = some ⟨oc6, od6, .func (PySem.W.fnOf "_law_same" "_law_same" (defArgs s__law_same) (defBody s__law_same) (defScope s__law_same) .none kV6 dc6 pm6 an6 cd6 ct6), sl6⟩) (c6 : PySem.W.codeIn K cd6 "_law_same" = true) (k6 : PySem.W.keepIn K (.ref f6) = true)
    (a7 : PySem.W.findIn K (.ref c_Line) "__init__" = some (some (.ref f7))) (i7 : PySem.W.isFn K (.ref f7) = true) (l7 : K.lookup f7 = some ⟨oc7, od7, .func (PySem.W.fnOf "__init__" "Line.__init__" (defArgs s_Line___init__) (defBody s_Line___init__) (defScope s_Line___init__) .none kV7 dc7 pm7 an7 cd7 ct7), sl7⟩) (c7 : PySem.W.codeIn K cd7 "Line.__init__" = true) (k7 : PySem.W.keepIn K (.ref f7) = true)
    (rd_Line : PySem.W.readsIn K c_Line (.type "type") = true) (gt_Line : PySem.W.specialIn K (.ref c_Line) "__getattribute__" = some (some (.builtin "type.__getattribute__"))) (fc_Line : PySem.W.findCls K (.ref c_Line) (.type "type") "__init__" = some (.val (.ref f7)))
    (a8 : PySem.W.findIn K (.ref c_Wheel) "__init__" = some (some (.ref f8))) (i8 : PySem.W.isFn K (.ref f8) = true) (l8 : K.lookup f8 = some ⟨oc8, od8, .func (PySem.W.fnOf "__init__" "Wheel.__init__" (defArgs s_Wheel___init__) (defBody s_Wheel___init__) (defScope s_Wheel___init__) .none kV8 dc8 pm8 an8 cd8 ct8), sl8⟩) (c8 : PySem.W.codeIn K cd8 "Wheel.__init__" = true) (k8 : PySem.W.keepIn K (.ref f8) = true)
    (a9 : PySem.W.findIn K (.ref c_Wheel) "moved" = some (some (.ref f9))) (i9 : PySem.W.isFn K (.ref f9) = true) (l9 : K.lookup f9 = some ⟨oc9, od9, .func (PySem.W.fnOf "moved" "Wheel.moved" (defArgs s_Wheel_moved) (defBody s_Wheel_moved) (defScope s_Wheel_moved) .none kV9 dc9 pm9 an9 cd9 ct9), sl9⟩) (c9 : PySem.W.codeIn K cd9 "Wheel.moved" = true) (k9 : PySem.W.keepIn K (.ref f9) = true)
    (a10 : PySem.W.findIn K (.ref c_Wheel) "slot_at" = some (some (.ref f10))) (i10 : PySem.W.isFn K (.ref f10) = true) (l10 : K.lookup f10 = some ⟨oc10, od10, .func (PySem.W.fnOf "slot_at" "Line.slot_at" (defArgs s_Wheel_slot_at) (defBody s_Wheel_slot_at) (defScope s_Wheel_slot_at) .none kV10 dc10 pm10 an10 cd10 ct10), sl10⟩) (c10 : PySem.W.codeIn K cd10 "Line.slot_at" = true) (k10 : PySem.W.keepIn K (.ref f10) = true)
    (a11 : PySem.W.nsIn K mainGlobals "_has" = some (some (.ref f11))) (l11 : K.lookup f11 = some ⟨oc11, od11, .func (PySem.W.fnOf "_has" "_has" (defArgs s__has) (defBody s__has) (defScope s__has) .none kV11 dc11 pm11 an11 cd11 ct11), sl11⟩) (c11 : PySem.W.codeIn K cd11 "_has" = true) (k11 : PySem.W.keepIn K (.ref f11) = true)
    (a12 : PySem.W.nsIn K mainGlobals "_with_place_ahead" = some (some (.ref f12))) (l12 : K.lookup f12 = some ⟨oc12, od12, .func (PySem.W.fnOf "_with_place_ahead" "_with_place_ahead" (defArgs s__with_place_ahead) (defBody s__with_place_ahead) (defScope s__with_place_ahead) .none kV12 dc12 pm12 an12 cd12 ct12), sl12⟩) (c12 : PySem.W.codeIn K cd12 "_with_place_ahead" = true) (k12 : PySem.W.keepIn K (.ref f12) = true)
    (a13 : PySem.W.nsIn K mainGlobals "_rows_of_sums" = some (some (.ref f13))) (l13 : K.lookup f13 = some ⟨oc13, od13, .func (PySem.W.fnOf "_rows_of_sums" "_rows_of_sums" (defArgs s__rows_of_sums) (defBody s__rows_of_sums) (defScope s__rows_of_sums) .none kV13 dc13 pm13 an13 cd13 ct13), sl13⟩) (c13 : PySem.W.codeIn K cd13 "_rows_of_sums" = true) (k13 : PySem.W.keepIn K (.ref f13) = true)
    (a14 : PySem.W.nsIn K mainGlobals "_worths" = some (some (.ref f14))) (l14 : K.lookup f14 = some ⟨oc14, od14, .func (PySem.W.fnOf "_worths" "_worths" (defArgs s__worths) (defBody s__worths) (defScope s__worths) .none kV14 dc14 pm14 an14 cd14 ct14), sl14⟩) (c14 : PySem.W.codeIn K cd14 "_worths" = true) (k14 : PySem.W.keepIn K (.ref f14) = true)
    (a15 : PySem.W.nsIn K mainGlobals "least_multiple" = some (some (.ref f15))) (l15 : K.lookup f15 = some ⟨oc15, od15, .func (PySem.W.fnOf "least_multiple" "least_multiple" (defArgs s_least_multiple) (defBody s_least_multiple) (defScope s_least_multiple) .none kV15 dc15 pm15 an15 cd15 ct15), sl15⟩) (c15 : PySem.W.codeIn K cd15 "least_multiple" = true) (k15 : PySem.W.keepIn K (.ref f15) = true)
    (a16 : PySem.W.nsIn K mainGlobals "law" = some (some (.ref f16))) (l16 : K.lookup f16 = some ⟨oc16, od16, .func (PySem.W.fnOf "law" "law" (defArgs s_law) (defBody s_law) (defScope s_law) .none kV16 dc16 pm16 an16 cd16 ct16), sl16⟩) (c16 : PySem.W.codeIn K cd16 "law" = true) (k16 : PySem.W.keepIn K (.ref f16) = true)
    (z_abs : PySem.W.nsIn K mainGlobals "abs" = some none)
    (z_bool : PySem.W.nsIn K mainGlobals "bool" = some none)
    (z_int : PySem.W.nsIn K mainGlobals "int" = some none)
    (z_isinstance : PySem.W.nsIn K mainGlobals "isinstance" = some none)
    (z_len : PySem.W.nsIn K mainGlobals "len" = some none)
    (z_max : PySem.W.nsIn K mainGlobals "max" = some none)
    (z_min : PySem.W.nsIn K mainGlobals "min" = some none)
    (z_range : PySem.W.nsIn K mainGlobals "range" = some none)
    (z_str : PySem.W.nsIn K mainGlobals "str" = some none)
    (z_sum : PySem.W.nsIn K mainGlobals "sum" = some none)
    (z_tuple : PySem.W.nsIn K mainGlobals "tuple" = some none)
    (z_zip : PySem.W.nsIn K mainGlobals "zip" = some none)
    (g_Line : PySem.W.nsIn K mainGlobals "Line" = some (some (.ref c_Line)))
    (g_Wheel : PySem.W.nsIn K mainGlobals "Wheel" = some (some (.ref c_Wheel)))
    (pg_Line : PySem.W.plainGet K c_Line Str.empty = true)
    (hd_Line : PySem.W.hasDictIn K c_Line = true)
    (po_Line : PySem.W.plainOver K c_Line = true)
    (sa_Line : PySem.W.findIn K (.ref c_Line) "__setattr__" = some (some (.builtin "object.__setattr__")))
    (mk_Line : PySem.W.makesIn K c_Line = true)
    (kp_Line : PySem.W.keepIn K (.ref c_Line) = true)
    (na_Line_width : PySem.W.findIn K (.ref c_Line) "width" = some none)
    (na_Line__slot_bits : PySem.W.findIn K (.ref c_Line) "_slot_bits" = some none)
    (pg_Wheel : PySem.W.plainGet K c_Wheel Str.empty = true)
    (hd_Wheel : PySem.W.hasDictIn K c_Wheel = true)
    (po_Wheel : PySem.W.plainOver K c_Wheel = true)
    (sa_Wheel : PySem.W.findIn K (.ref c_Wheel) "__setattr__" = some (some (.builtin "object.__setattr__")))
    (mk_Wheel : PySem.W.makesIn K c_Wheel = true)
    (kp_Wheel : PySem.W.keepIn K (.ref c_Wheel) = true)
    (na_Wheel_width : PySem.W.findIn K (.ref c_Wheel) "width" = some none)
    (na_Wheel__slot_bits : PySem.W.findIn K (.ref c_Wheel) "_slot_bits" = some none)
    (na_Wheel__divisor : PySem.W.findIn K (.ref c_Wheel) "_divisor" = some none)
    (na_Wheel__whole : PySem.W.findIn K (.ref c_Wheel) "_whole" = some none)
    (na_Wheel__all_bits : PySem.W.findIn K (.ref c_Wheel) "_all_bits" = some none)
    : ∃ fd : FuncData, (∀ (s : Shared) (v : Value), BindsTo s fd ⟨[v], []⟩ [("script", v)]) ∧ ∀ base : Heap, K.In base → base.Ns mainGlobals mg → FnOk l.prog w K mg base CX0 5 fa fd ps_law (sp_law K) := by
  have e := hfa.symm.trans (PySem.W.mg_of X G a16)
  cases e
  have B : Blt mg := ⟨PySem.W.mg_none_of X G z_abs, PySem.W.mg_none_of X G z_bool, PySem.W.mg_none_of X G z_int, PySem.W.mg_none_of X G z_isinstance, PySem.W.mg_none_of X G z_len, PySem.W.mg_none_of X G z_max, PySem.W.mg_none_of X G z_min, PySem.W.mg_none_of X G z_range, PySem.W.mg_none_of X G z_str, PySem.W.mg_none_of X G z_sum, PySem.W.mg_none_of X G z_tuple, PySem.W.mg_none_of X G z_zip⟩
  have C : Cst mg := ⟨trivial⟩
  have KC : Kls K mg ⟨c_Line, c_Wheel⟩ := ⟨PySem.W.mg_of X G g_Line, PySem.W.mg_of X G g_Wheel, pg_Line, hd_Line, po_Line, sa_Line, mk_Line, kp_Line, na_Line_width, na_Line__slot_bits, pg_Wheel, hd_Wheel, po_Wheel, sa_Wheel, mk_Wheel, kp_Wheel, na_Wheel_width, na_Wheel__slot_bits, na_Wheel__divisor, na_Wheel__whole, na_Wheel__all_bits⟩
  have F0 := fun_mk (st := s__law_deck) l0 c0 k0
  have D0 : DefAt K mg "_law_deck" s__law_deck ps__law_deck := ⟨_, _, F0, F0.binds (ps := ps__law_deck) (fun _ _ _ _ _ _ us hl => match us, hl with | [_], _ => rfl), PySem.W.mg_of X G a0⟩
  have F1 := fun_mk (st := s__law_draw) l1 c1 k1
  have D1 : DefAt K mg "_law_draw" s__law_draw ps__law_draw := ⟨_, _, F1, F1.binds (ps := ps__law_draw) (fun _ _ _ _ _ _ us hl => match us, hl with | [_, _], _ => rfl), PySem.W.mg_of X G a1⟩
  have F2 := fun_mk (st := s__law_come) l2 c2 k2
  have D2 : DefAt K mg "_law_come" s__law_come ps__law_come := ⟨_, _, F2, F2.binds (ps := ps__law_come) (fun _ _ _ _ _ _ us hl => match us, hl with | [_, _, _], _ => rfl), PySem.W.mg_of X G a2⟩
  have F3 := fun_mk (st := s__law_due) l3 c3 k3
  have D3 : DefAt K mg "_law_due" s__law_due ps__law_due := ⟨_, _, F3, F3.binds (ps := ps__law_due) (fun _ _ _ _ _ _ us hl => match us, hl with | [_, _, _], _ => rfl), PySem.W.mg_of X G a3⟩
  have F4 := fun_mk (st := s__law_sum) l4 c4 k4
  have D4 : DefAt K mg "_law_sum" s__law_sum ps__law_sum := ⟨_, _, F4, F4.binds (ps := ps__law_sum) (fun _ _ _ _ _ _ us hl => match us, hl with | [_, _], _ => rfl), PySem.W.mg_of X G a4⟩
  have F5 := fun_mk (st := s__law_by_trial) l5 c5 k5
  have D5 : DefAt K mg "_law_by_trial" s__law_by_trial ps__law_by_trial := ⟨_, _, F5, F5.binds (ps := ps__law_by_trial) (fun _ _ _ _ _ _ us hl => match us, hl with | [_, _, _], _ => rfl), PySem.W.mg_of X G a5⟩
  have F6 := fun_mk (st := s__law_same) l6 c6 k6
  have D6 : DefAt K mg "_law_same" s__law_same ps__law_same := ⟨_, _, F6, F6.binds (ps := ps__law_same) (fun _ _ _ _ _ _ us hl => match us, hl with | [_, _], _ => rfl), PySem.W.mg_of X G a6⟩
  have F7 := fun_mk (st := s_Line___init__) l7 c7 k7
  have D7 : DefAtI K c_Line "Line.__init__" s_Line___init__ ps_Line___init__ := ⟨_, _, F7, F7.binds (ps := ps_Line___init__) (fun _ _ _ _ _ _ us hl => match us, hl with | [_, _], _ => rfl), ⟨mk_Line, a7, i7, kp_Line⟩⟩
  have F8 := fun_mk (st := s_Wheel___init__) l8 c8 k8
  have D8 : DefAtI K c_Wheel "Wheel.__init__" s_Wheel___init__ ps_Wheel___init__ := ⟨_, _, F8, F8.binds (ps := ps_Wheel___init__) (fun _ _ _ _ _ _ us hl => match us, hl with | [_, _, _], _ => rfl), ⟨mk_Wheel, a8, i8, kp_Wheel⟩⟩
  have F9 := fun_mk (st := s_Wheel_moved) l9 c9 k9
  have D9 : DefAtM K c_Wheel "moved" "Wheel.moved" s_Wheel_moved ps_Wheel_moved := ⟨_, _, F9, F9.binds (ps := ps_Wheel_moved) (fun _ _ _ _ _ _ us hl => match us, hl with | [_, _, _], _ => rfl), ⟨a9, i9, k9⟩⟩
  have F10 := fun_mk (st := s_Wheel_slot_at) l10 c10 k10
  have D10 : DefAtM K c_Wheel "slot_at" "Line.slot_at" s_Wheel_slot_at ps_Wheel_slot_at := ⟨_, _, F10, F10.binds (ps := ps_Wheel_slot_at) (fun _ _ _ _ _ _ us hl => match us, hl with | [_, _, _], _ => rfl), ⟨a10, i10, k10⟩⟩
  have F11 := fun_mk (st := s__has) l11 c11 k11
  have D11 : DefAt K mg "_has" s__has ps__has := ⟨_, _, F11, F11.binds (ps := ps__has) (fun _ _ _ _ _ _ us hl => match us, hl with | [_, _, _, _], _ => rfl), PySem.W.mg_of X G a11⟩
  have F12 := fun_mk (st := s__with_place_ahead) l12 c12 k12
  have D12 : DefAt K mg "_with_place_ahead" s__with_place_ahead ps__with_place_ahead := ⟨_, _, F12, F12.binds (ps := ps__with_place_ahead) (fun _ _ _ _ _ _ us hl => match us, hl with | [_, _, _, _], _ => rfl), PySem.W.mg_of X G a12⟩
  have F13 := fun_mk (st := s__rows_of_sums) l13 c13 k13
  have D13 : DefAt K mg "_rows_of_sums" s__rows_of_sums ps__rows_of_sums := ⟨_, _, F13, F13.binds (ps := ps__rows_of_sums) (fun _ _ _ _ _ _ us hl => match us, hl with | [_, _, _, _], _ => rfl), PySem.W.mg_of X G a13⟩
  have F14 := fun_mk (st := s__worths) l14 c14 k14
  have D14 : DefAt K mg "_worths" s__worths ps__worths := ⟨_, _, F14, F14.binds (ps := ps__worths) (fun _ _ _ _ _ _ us hl => match us, hl with | [_, _, _], _ => rfl), PySem.W.mg_of X G a14⟩
  have F15 := fun_mk (st := s_least_multiple) l15 c15 k15
  have D15 : DefAt K mg "least_multiple" s_least_multiple ps_least_multiple := ⟨_, _, F15, F15.binds (ps := ps_least_multiple) (fun _ _ _ _ _ _ us hl => match us, hl with | [_, _, _], _ => rfl), PySem.W.mg_of X G a15⟩
  have F16 := fun_mk (st := s_law) l16 c16 k16
  refine ⟨PySem.W.fnOf "law" "law" (defArgs s_law) (defBody s_law) (defScope s_law) .none kV16 dc16 pm16 an16 cd16 ct16, fun s v => .of_eq rfl, fun base _ _ => ?_⟩
  have e__law_deck := ok__law_deck (P := l.prog) (w := w) (base := base) D0 B C KC 
  have e__law_draw := ok__law_draw (P := l.prog) (w := w) (base := base) D1 B C KC 
  have e__law_come := ok__law_come (P := l.prog) (w := w) (base := base) D2 B C KC 
  have e__law_due := ok__law_due (P := l.prog) (w := w) (base := base) D3 B C KC e__law_come
  have e__law_sum := ok__law_sum (P := l.prog) (w := w) (base := base) D4 B C KC 
  have e__law_by_trial := ok__law_by_trial (P := l.prog) (w := w) (base := base) D5 B C KC e__law_sum
  have e__law_same := ok__law_same (P := l.prog) (w := w) (base := base) D6 B C KC 
  have e_Line___init__ := ok_Line___init__ (P := l.prog) (w := w) (base := base) D7 B C KC 
  have eF_Line := e_Line___init__.toF ⟨rd_Line, gt_Line⟩ k7 a7 fc_Line
  have e_Wheel___init__ := ok_Wheel___init__ (P := l.prog) (w := w) (base := base) D8 B C KC eF_Line
  have e_Wheel_moved := ok_Wheel_moved (P := l.prog) (w := w) (base := base) D9 B C KC 
  have e_Wheel_slot_at := ok_Wheel_slot_at (P := l.prog) (w := w) (base := base) D10 B C KC 
  have e__has := ok__has (P := l.prog) (w := w) (base := base) D11 B C KC e_Wheel_slot_at
  have e__with_place_ahead := ok__with_place_ahead (P := l.prog) (w := w) (base := base) D12 B C KC e_Wheel_moved
  have e__rows_of_sums := ok__rows_of_sums (P := l.prog) (w := w) (base := base) D13 B C KC e_Wheel_moved e__has e__with_place_ahead
  have e__worths := ok__worths (P := l.prog) (w := w) (base := base) D14 B C KC 
  have e_least_multiple := ok_least_multiple (P := l.prog) (w := w) (base := base) D15 B C KC e_Wheel___init__ e__rows_of_sums e__has e__worths
  exact ok_law F16 B C KC e__law_deck e__law_draw e__law_due e__law_by_trial e__law_same e_least_multiple
theorem walk {l : PySem.W.OpenLaw} {q : Program} {loose : List Str} {XP : (Str → Option Value) → Heap → Prop} {YP : World → Heap → Prop} {d : DefRec} {K : Params → PySem.W.Frag} (hn : l.most = some 63) (hdf : d.params.defaults = [])
    (hY : ∀ (w : World) (h : Heap), YP w h → (K w.params).In h)
    (F : ∀ (w : World) (mg : Str → Option Value) (fa : Addr) (h : Heap), (K w.params).In h → h.Ns mainGlobals mg → mg d.name = some (.ref fa) →
      ∃ fd : FuncData, (∀ (s : Shared) (u : Value), BindsTo s fd ⟨[u], []⟩ [("script", u)]) ∧ ∀ base : Heap, (K w.params).In base → base.Ns mainGlobals mg → FnOk l.prog w (K w.params) mg base CX0 5 fa fd ps_law (sp_law (K w.params))) :
    PySem.W.WalkO q loose XP YP l.row.toRowW d [] (fun f vs => PySem.call f vs) :=
  L2.walk_ofB (n := 63) (k := 5) (x := "script") (CX := fun _ => CX0) (sp := fun w => sp_law (K w.params)) hn (by decide) hdf ⟨rfl, by decide, by decide⟩ hY F (fun _ _ a ns hl hz _ hS => ⟨a, ns, rfl, hS, hl, hz, fun _ => rfl⟩) fun _ _ _ _ _ z => z
end Lw
open PySem PySem.W PyProof.Rows
set_option maxRecDepth 100000 in
set_option maxHeartbeats 0 in
theorem PySem.Challenge.cw_figuresums_k20_least_multiples_holds : PySem.Challenge.rw_figuresums_k20_least_multiples.Holds := by
  w_on; o_law; k_head; (case hw => w_witness2)
  k_fill
  refine Lw.walk (l := PySem.Challenge.rw_figuresums_k20_least_multiples) rfl rfl (fun w h Y => PySem.W.kIn_of Y) ?F
  case F =>
    intro w mg fa h KX G hmg
    refine' Lw.all_mk KX G hmg ?a0 ?l0 ?c0 ?k0 ?a1 ?l1 ?c1 ?k1 ?a2 ?l2 ?c2 ?k2 ?a3 ?l3 ?c3 ?k3 ?a4 ?l4 ?c4 ?k4 ?a5 ?l5 ?c5 ?k5 ?a6 ?l6 ?c6 ?k6 ?a7 ?i7 ?l7 ?c7 ?k7 ?rd_Line ?gt_Line ?fc_Line ?a8 ?i8 ?l8 ?c8 ?k8 ?a9 ?i9 ?l9 ?c9 ?k9 ?a10 ?i10 ?l10 ?c10 ?k10 ?a11 ?l11 ?c11 ?k11 ?a12 ?l12 ?c12 ?k12 ?a13 ?l13 ?c13 ?k13 ?a14 ?l14 ?c14 ?k14 ?a15 ?l15 ?c15 ?k15 ?a16 ?l16 ?c16 ?k16 ?z_abs ?z_bool ?z_int ?z_isinstance ?z_len ?z_max ?z_min ?z_range ?z_str ?z_sum ?z_tuple ?z_zip ?g_Line ?g_Wheel ?pg_Line ?hd_Line ?po_Line ?sa_Line ?mk_Line ?kp_Line ?na_Line_width ?na_Line__slot_bits ?pg_Wheel ?hd_Wheel ?po_Wheel ?sa_Wheel ?mk_Wheel ?kp_Wheel ?na_Wheel_width ?na_Wheel__slot_bits ?na_Wheel__divisor ?na_Wheel__whole ?na_Wheel__all_bits
    (case g_Line => k_is)
    (case g_Wheel => k_is)
    (case a0 => k_is)
    (case l0 => k_is)
    (case c0 => k_is)
    (case k0 => k_is)
    (case a1 => k_is)
    (case l1 => k_is)
    (case c1 => k_is)
    (case k1 => k_is)
    (case a2 => k_is)
    (case l2 => k_is)
    (case c2 => k_is)
    (case k2 => k_is)
    (case a3 => k_is)
    (case l3 => k_is)
    (case c3 => k_is)
    (case k3 => k_is)
    (case a4 => k_is)
    (case l4 => k_is)
    (case c4 => k_is)
    (case k4 => k_is)
    (case a5 => k_is)
    (case l5 => k_is)
    (case c5 => k_is)
    (case k5 => k_is)
    (case a6 => k_is)
    (case l6 => k_is)
    (case c6 => k_is)
    (case k6 => k_is)
    (case a7 => k_is)
    (case i7 => k_is)
    (case l7 => k_is)
    (case c7 => k_is)
    (case k7 => k_is)
    (case rd_Line => k_is)
    (case gt_Line => k_is)
    (case fc_Line => k_is)
    (case a8 => k_is)
    (case i8 => k_is)
    (case l8 => k_is)
    (case c8 => k_is)
    (case k8 => k_is)
    (case a9 => k_is)
    (case i9 => k_is)
    (case l9 => k_is)
    (case c9 => k_is)
    (case k9 => k_is)
    (case a10 => k_is)
    (case i10 => k_is)
    (case l10 => k_is)
    (case c10 => k_is)
    (case k10 => k_is)
    (case a11 => k_is)
    (case l11 => k_is)
    (case c11 => k_is)
    (case k11 => k_is)
    (case a12 => k_is)
    (case l12 => k_is)
    (case c12 => k_is)
    (case k12 => k_is)
    (case a13 => k_is)
    (case l13 => k_is)
    (case c13 => k_is)
    (case k13 => k_is)
    (case a14 => k_is)
    (case l14 => k_is)
    (case c14 => k_is)
    (case k14 => k_is)
    (case a15 => k_is)
    (case l15 => k_is)
    (case c15 => k_is)
    (case k15 => k_is)
    (case a16 => k_is)
    (case l16 => k_is)
    (case c16 => k_is)
    (case k16 => k_is)
    (case z_abs => k_is)
    (case z_bool => k_is)
    (case z_int => k_is)
    (case z_isinstance => k_is)
    (case z_len => k_is)
    (case z_max => k_is)
    (case z_min => k_is)
    (case z_range => k_is)
    (case z_str => k_is)
    (case z_sum => k_is)
    (case z_tuple => k_is)
    (case z_zip => k_is)
    (case pg_Line => k_is)
    (case hd_Line => k_is)
    (case po_Line => k_is)
    (case sa_Line => k_is)
    (case mk_Line => k_is)
    (case kp_Line => k_is)
    (case na_Line_width => k_is)
    (case na_Line__slot_bits => k_is)
    (case pg_Wheel => k_is)
    (case hd_Wheel => k_is)
    (case po_Wheel => k_is)
    (case sa_Wheel => k_is)
    (case mk_Wheel => k_is)
    (case kp_Wheel => k_is)
    (case na_Wheel_width => k_is)
    (case na_Wheel__slot_bits => k_is)
    (case na_Wheel__divisor => k_is)
    (case na_Wheel__whole => k_is)
    (case na_Wheel__all_bits => k_is)
#print axioms PySem.Challenge.cw_figuresums_k20_least_multiples_holds
