import PyProof.Rows.All
import Wide.All
import OpenK.AllK
import Wide.FinOn
import HandS.ForMost
import HandS.ForExc
import HandS.Wide
import HandS.WideBits
import HandS.Style
import HandS.Flow
import HandS.IsInst
import HandS.Zip
import HandS.Walk
import KE.GoesMore
import KE.GoesZip
import PyProof.LongRange
import HandS.WideMore
import HandS.TupMul
import HandS.TupAny
import HandS.StrMore
import HandS.ExcIs
import HandS.ExcValue
import HandS.ExcField
import KE.KExcIs
import KE.KExcStr
import HandS.EndBits
import HandS.More
import HandS.Conv
import HandS.NoneIn
import KE.DataFind
import HandS.WordsDict
import HandS.ClsMeth
import KE.GoesEnum
import PyProof.ListRange
import HandS.SetFor
import HandS.Strs
import HandS.ExcInit
import HandS.ExcSuper
import HandS.FStr
import KE.KSuper
import KE.KExcSuper
import Wide.Txt
import PySem.Challenge.RW_figuresums_k02_texts_of_no_numbers
set_option Elab.async false
set_option linter.all false
set_option maxRecDepth 100000
namespace Z
open PySem PySem.Spec PyProof.Rows L2

/-! ### heaps -/
theorem sameAt {H H' : Hp} {b : Addr} {u : HO} (S : Same H H') (h : H b = some u) : H' b = some u := S b u h
/-- all but d is as it was -/
def Keep (d : Addr) (H H' : Hp) : Prop := ∀ b u, b ≠ d → H b = some u → H' b = some u
theorem keepAt {d : Addr} {H H' : Hp} {b : Addr} {u : HO} (S : Keep d H H') (ne : b ≠ d) (h : H b = some u) : H' b = some u := S b u ne h
theorem Keep.refl (d : Addr) (H : Hp) : Keep d H H := fun _ _ _ h => h
theorem Keep.trans {d : Addr} {H H1 H2 : Hp} (a : Keep d H H1) (b : Keep d H1 H2) : Keep d H H2 := fun c o n h => b c o n (a c o n h)
theorem Keep.of {d : Addr} {H H1 : Hp} (a : Same H H1) : Keep d H H1 := fun c o _ h => a c o h
theorem same_upd {H : Hp} {p : Addr} {o : HO} (h : H p = none) : Same H (upd H p o) := fun b u q => by rw [upd_ne (ne_of_none q h)]; exact q
theorem keep_upd {H : Hp} {p : Addr} {o : HO} : Keep p H (upd H p o) := fun b u n q => by rw [upd_ne n]; exact q
/-- a new object o, then Q of it -/
def New (H : Hp) (o : HO) (Q : VK) : Prop := ∀ p H', H p = none → H' p = some o → Same H H' → Q (.ref p) H'
theorem New.up {H : Hp} {o : HO} {Q : VK} (h : New H o Q) : ∀ p, H p = none → Q (.ref p) (upd H p o) := fun p n => h p _ n upd_same (same_upd n)
/-- the object at p becomes o, then Q -/
def Wr (H : Hp) (p : Addr) (o : HO) (Q : Hp → Prop) : Prop := ∀ H', H' p = some o → Keep p H H' → (∀ b, H' b = none → H b = none) → Q H'
theorem Wr.up {H : Hp} {p : Addr} {o u : HO} {Q : Hp → Prop} (e : H p = some u) (h : Wr H p o Q) : Q (upd H p o) := h _ upd_same keep_upd fun b q => by
  by_cases hb : b = p
  · subst hb; rw [upd_same] at q; cases q
  · rw [upd_ne hb] at q; exact q

section
variable {X : Cx} {e a b c : Expr} {pos : Pos}
theorem peM {t t' : TE} (h : PE X e t) (m : ∀ σ H Q, t' σ H Q → t σ H Q) : PE X e t' := ⟨fun pins s σ H Q I q => h.run pins s σ H Q I (m σ H Q q)⟩
theorem ptM {t t' : TT} (h : PT X e t) (m : ∀ σ H Q, t' σ H Q → t σ H Q) : PT X e t' := ⟨fun pins s σ H Q I q => h.run pins s σ H Q I (m σ H Q q)⟩
theorem opM {f : Value → Value → Sem Value} {r r' : R2} (h : OpR X f r) (m : ∀ x y H Q, r' x y H Q → r x y H Q) : OpR X f r' := fun pins s σ H x y v u Q I rx ry q => h pins s σ H x y v u Q I rx ry (m _ _ _ _ q)
theorem callM {f : Value} {r r' : List V → Hp → VK → Prop} (h : CallR X f r) (m : ∀ xs H Q, r' xs H Q → r xs H Q) : CallR X f r' := fun pins s σ H xs us Q I rx q => h pins s σ H xs us Q I rx (m _ _ _ q)
theorem mtM {id : String} {r r' : V → List V → Hp → VK → Prop} (h : MtR X id r) (m : ∀ x xs H Q, r' x xs H Q → r x xs H Q) : MtR X id r' := fun pins s σ H x xs v us Q I rx rxs q => h pins s σ H x xs v us Q I rx rxs (m _ _ _ _ q)
theorem ixM {r r' : R2} (h : IxR X r) (m : ∀ x y H Q, r' x y H Q → r x y H Q) : IxR X r' := fun a b pins s σ H x y v u Q I rx ry q hs => h a b pins s σ H x y v u Q I rx ry (m _ _ _ _ q) hs
theorem slM {r r' : V → Option Int → Option Int → Hp → VK → Prop} (h : SlR X r) (m : ∀ x lo hi H Q, r' x lo hi H Q → r x lo hi H Q) : SlR X r' := fun pins s σ H x v vl vu lo hi sl Q I rx hs pl pu q => h pins s σ H x v vl vu lo hi sl Q I rx hs pl pu (m _ _ _ _ _ q)
theorem setM {r r' : TSet} (h : PSet X r) (m : ∀ o i v H Q, r' o i v H Q → r o i v H Q) : PSet X r' := fun pins s σ H o i v ov iv u Q I ro ri rv q => h pins s σ H o i v ov iv u Q I ro ri rv (m _ _ _ _ _ q)

/-! ### names -/
def zV (i : Nat) : TE := fun σ H Q => match σ[i]? with | some (some v) => Q v H | _ => False
theorem zv (i : Nat) {x : Str} {pos : Pos} (hN : X.N[i]? = some x := by rfl) (hv : Vis X.env.scope x := by first | exact Or.inl rfl | exact Or.inr (Or.inl rfl) | exact Or.inr (Or.inr rfl)) (hd : (x == ("__debug__" : Str)) = false := by decide)
    (hcd : (x == ("__classdict__" : Str)) = false := by decide) : PE X (.Name x pos) (zV i) :=
  peM (pe_var hN hv hd hcd) fun σ H Q q => by
    unfold zV at q
    split at q
    · exact ⟨_, by assumption, q⟩
    · exact q.elim

/-! ### two ints -/
def zI (C : Int → Int → Prop) (g : Int → Int → V) : R2 := fun x y H Q => match x, y with | .int i, .int j => C i j ∧ Q (g i j) H | _, _ => False
def zI0 (g : Int → Int → V) : R2 := fun x y H Q => match x, y with | .int i, .int j => Q (g i j) H | _, _ => False
theorem zI_of {f : Value → Value → Sem Value} {C : Int → Int → Prop} {g : Int → Int → V} (h : OpR X f (rI C g)) : OpR X f (zI C g) := opM h fun x y H Q q => by
  unfold zI at q
  split at q
  · exact ⟨_, _, rfl, rfl, q⟩
  · exact q.elim
theorem zI0_of {f : Value → Value → Sem Value} {g : Int → Int → V} (h : OpR X f (rI0 g)) : OpR X f (zI0 g) := opM h fun x y H Q q => by
  unfold zI0 at q
  split at q
  · exact ⟨_, _, rfl, rfl, q⟩
  · exact q.elim
theorem zadd : OpR X (binaryOp .Add) (zI0 fun i j => .int (i + j)) := zI0_of op_add
theorem zsub : OpR X (binaryOp .Sub) (zI0 fun i j => .int (i - j)) := zI0_of op_sub
/-- a product: one side small, or both together below a million bits -/
def MulOk (i j : Int) : Prop := (-(2 ^ 64) < i ∧ i < 2 ^ 64) ∨ (-(2 ^ 64) < j ∧ j < 2 ^ 64) ∨ CMulW i j
theorem zmul : OpR X (binaryOp .Mult) (zI MulOk fun i j => .int (i * j)) := zI_of <| by
  intro pins s σ H x y v u Q I rx ry q
  obtain ⟨i, j, rfl, rfl, c, q⟩ := q
  rcases c with c | c | c
  · exact op_mul pins s σ H _ _ v u Q I rx ry ⟨i, j, rfl, rfl, .inl c, q⟩
  · exact op_mul pins s σ H _ _ v u Q I rx ry ⟨i, j, rfl, rfl, .inr c, q⟩
  · exact op_mulW pins s σ H _ _ v u Q I rx ry ⟨i, j, rfl, rfl, c, q⟩
def DivOk (_ j : Int) : Prop := 0 < j ∧ (j < 1073741824 ∨ j.natAbs < 2 ^ 9000)
theorem zfdiv : OpR X (binaryOp .FloorDiv) (zI DivOk fun i j => .int (i / j)) := zI_of <| by
  intro pins s σ H x y v u Q I rx ry q
  obtain ⟨i, j, rfl, rfl, ⟨c0, c⟩, q⟩ := q
  rcases c with c | c
  · exact op_fdiv pins s σ H _ _ v u Q I rx ry ⟨i, j, rfl, rfl, ⟨c0, c⟩, q⟩
  · exact op_fdivW pins s σ H _ _ v u Q I rx ry ⟨i, j, rfl, rfl, wide_div (b := 9000) c0 c (by decide) (Nat.le_refl _), q⟩
theorem zmod : OpR X (binaryOp .Mod) (zI (fun _ j => 0 < j) fun i j => .int (i % j)) := zI_of op_mod
/-- a written power -/
theorem zpow {i j r : Int} {k1 k2 : Nat} {p1 p2 : Pos} (h : i ^ j.toNat = r) (c : 0 ≤ j ∧ j ≤ 1000000 ∧ i.natAbs < 2 ^ 64) : PE X (.BinOp (.Constant (.int i) k1 p1) .Pow (.Constant (.int j) k2 p2) pos) (tC (.int r)) :=
  peM (pe_op op_pow pe_int pe_int) fun σ H Q q => ⟨_, _, rfl, rfl, c, by show Q (V.int (i ^ j.toNat)) H; rw [h]; exact q⟩
/-! ### texts -/
def zS2 (C : Str → Str → Prop) (g : Str → Str → V) : R2 := fun x y H Q => match x, y with | .str i, .str j => C i j ∧ Q (g i j) H | _, _ => False
theorem zaddS : OpR X (binaryOp .Add) (zS2 (fun i j => i.length + j.length ≤ sizeLine) fun i j => .str (i ++ j)) := opM op_add_str fun x y H Q q => by
  unfold zS2 at q
  split at q
  · exact ⟨_, _, rfl, rfl, q⟩
  · exact q.elim
/-! ### comparisons, as tests: two ways -/
/-- both ways, told by a fact -/
structure Two (P : Prop) (A B : Prop) : Prop where
  yes : P → A
  no : ¬ P → B
theorem Two.dec {P : Prop} [Decidable P] {A : Bool → Prop} (h : Two P (A true) (A false)) : A (decide P) := by
  by_cases p : P
  · rw [decide_eq_true p]; exact h.1 p
  · rw [decide_eq_false p]; exact h.2 p
def zCI (P : Int → Int → Prop) : R2 := fun x y H Q => match x, y with | .int i, .int j => Two (P i j) (Q (.bl true) H) (Q (.bl false) H) | _, _ => False
theorem zCI_of {f : Value → Value → Sem Value} {P : Int → Int → Prop} [∀ i j, Decidable (P i j)] (h : OpR X f (rI0 fun i j => .bl (decide (P i j)))) : OpR X f (zCI P) := opM h fun x y H Q q => by
  unfold zCI at q
  split at q
  · exact ⟨_, _, rfl, rfl, Two.dec (A := fun b => Q (.bl b) H) q⟩
  · exact q.elim
theorem zlt : OpR X (compareOp .Lt) (zCI fun i j => i < j) := zCI_of op_lt
theorem zle : OpR X (compareOp .LtE) (zCI fun i j => i ≤ j) := zCI_of op_le
theorem zgt : OpR X (compareOp .Gt) (zCI fun i j => j < i) := zCI_of op_gt
theorem zge : OpR X (compareOp .GtE) (zCI fun i j => j ≤ i) := zCI_of op_ge
/-- == of ints, texts, bools -/
def zEqR : R2 := fun x y H Q => match x, y with
  | .int i, .int j => Two (i = j) (Q (.bl true) H) (Q (.bl false) H)
  | .str i, .str j => Two (i = j) (Q (.bl true) H) (Q (.bl false) H)
  | .bl i, .bl j => Two (i = j) (Q (.bl true) H) (Q (.bl false) H)
  | _, _ => False
theorem Two.imp {P P' A B : Prop} (h : Two P A B) (e : P ↔ P') : Two P' A B := ⟨fun p => h.1 (e.mpr p), fun p => h.2 fun q => p (e.mp q)⟩
theorem zeq : OpR X (compareOp .Eq) zEqR := opM op_eq fun x y H Q q => by
  unfold zEqR at q
  split at q
  · exact ⟨rfl, Two.dec (A := fun b => Q (.bl b) H) (q.imp ⟨congrArg V.int, V.int.inj⟩)⟩
  · exact ⟨rfl, Two.dec (A := fun b => Q (.bl b) H) (q.imp ⟨congrArg V.str, V.str.inj⟩)⟩
  · exact ⟨rfl, Two.dec (A := fun b => Q (.bl b) H) (q.imp ⟨congrArg V.bl, V.bl.inj⟩)⟩
  · exact q.elim
def zNeR : R2 := fun x y H Q => match x, y with
  | .int i, .int j => Two (i = j) (Q (.bl false) H) (Q (.bl true) H)
  | .str i, .str j => Two (i = j) (Q (.bl false) H) (Q (.bl true) H)
  | .bl i, .bl j => Two (i = j) (Q (.bl false) H) (Q (.bl true) H)
  | _, _ => False
theorem zne : OpR X (compareOp .NotEq) zNeR := opM op_ne fun x y H Q q => by
  unfold zNeR at q
  split at q
  · exact ⟨rfl, Two.dec (A := fun b => Q (.bl (!b)) H) (q.imp ⟨congrArg V.int, V.int.inj⟩)⟩
  · exact ⟨rfl, Two.dec (A := fun b => Q (.bl (!b)) H) (q.imp ⟨congrArg V.str, V.str.inj⟩)⟩
  · exact ⟨rfl, Two.dec (A := fun b => Q (.bl (!b)) H) (q.imp ⟨congrArg V.bl, V.bl.inj⟩)⟩
  · exact q.elim
/-- is None -/
def zNonR (neg : Bool) : R2 := fun x y H Q => match y with
  | .non => (match x with | .non => Q (.bl (!neg)) H | _ => Q (.bl neg) H)
  | _ => False
theorem zisN : OpR X (compareOp .Is) (zNonR false) := opM op_isN fun x y H Q q => by
  unfold zNonR at q
  split at q
  · cases x <;> exact ⟨rfl, q⟩
  · exact q.elim
theorem znotN : OpR X (compareOp .IsNot) (zNonR true) := opM op_notN fun x y H Q q => by
  unfold zNonR at q
  split at q
  · cases x <;> exact ⟨rfl, q⟩
  · exact q.elim

/-! ### tests -/
/-- a value that is a bool, as a test; an open bool two ways -/
def zT (t : TE) : TT := fun σ H Q => t σ H fun x H' => match x with | .bl k => Q k H' | _ => False
theorem zpt {t : TE} (h : PE X e t) (he : ∀ whole, isTrue e X.env whole = (do let v ← whole; standAt e.pos; holding [v] (truthy v)) := by intro _; rfl) : PT X e (zT t) := by
  refine ⟨fun pins s σ H Q I hw => ?_⟩
  refine isTrue_plain (thn (h.run pins s σ H _ I hw) fun v s1 ⟨x, H1, I1, r1, q1⟩ => ?_) (he _)
  cases x with
  | bl k => cases r1; exact wpAny_truthy_bool ⟨H1, I1, q1⟩
  | _ => exact (show False from q1).elim
theorem zpc {op : CmpOp} {r : R2} {ta tb : TE} (ho : OpR X (compareOp op) r) (ha : PE X a ta) (hb : PE X b tb) (hm : behindInMarks op b = false := by first | exact nobehind _ (by decide) (by decide) | rfl) : PT X (.Compare a [op] [b] pos) (zT (tOp r ta tb)) := by
  have g : PT X (.Compare a [op] [b] pos) (tB (tOp r ta tb)) := pt_cmpR ho ha hb hm
  refine ⟨fun pins s σ H Q I hw => ?_⟩
  have up : PE X (.Compare a [op] [b] pos) (fun σ H Q => ∃ Q0 : VK, tOp r ta tb σ H Q0 ∧ ∀ x H, Q0 x H → Q x H) := ⟨fun pins s σ H Q I ⟨Q0, h0, m⟩ => thn ((pe_cmpR ho ha hb hm).run pins s σ H Q0 I h0) fun v s1 ⟨x, H1, I1, r1, q1⟩ => ⟨x, H1, I1, r1, m _ _ q1⟩⟩
  have g2 : PT X (.Compare a [op] [b] pos) (tB (fun σ H Q => ∃ Q0 : VK, tOp r ta tb σ H Q0 ∧ ∀ x H, Q0 x H → Q x H)) := by
    refine ⟨fun pins s σ H Q I hw => ?_⟩
    refine wpAny_isTrue_Compare1 (thn (ha.run pins s σ H _ I hw.choose_spec.1) fun v s1 ⟨x, H1, I1, r1, q1⟩ => thn (hb.run pins s1 σ H1 _ I1 q1) fun u s2 ⟨y, H2, I2, r2, q2⟩ => thn (ho pins s2 σ H2 x y v u _ I2 r1 r2 q2) fun d s3 ⟨z, H3, I3, r3, q3⟩ => ?_) hm
    obtain ⟨k, rfl, q⟩ := hw.choose_spec.2 _ _ q3
    cases r3
    exact wpAny_truthy_bool ⟨H3, I3, q⟩
  refine g2.run pins s σ H Q I ⟨_, hw, fun x H1 q => ?_⟩
  cases x with
  | bl k => exact ⟨k, rfl, q⟩
  | _ => exact (show False from q).elim
/-- an open bool, two ways -/
def tTwo (t : TT) : TT := fun σ H Q => t σ H fun b H1 => (b = true → Q true H1) ∧ (b = false → Q false H1)
def mB {α : Sort _} (b : Bool) (x y : α) : α := match b with | true => x | false => y
/-- and, or, not -/
def zAnd (t u : TT) : TT := fun σ H Q => t σ H fun c H1 => match c with | true => u σ H1 Q | false => Q false H1
def zOr (t u : TT) : TT := fun σ H Q => t σ H fun c H1 => match c with | true => Q true H1 | false => u σ H1 Q
theorem PT.up {t : TT} (h : PT X e t) : PT X e (fun σ H Q => ∃ Q0 : Bool → Hp → Prop, t σ H Q0 ∧ ∀ b H, Q0 b H → Q b H) := ⟨fun pins s σ H Q I ⟨Q0, h0, m⟩ => thn (h.run pins s σ H Q0 I h0) fun v s1 ⟨H1, I1, q1⟩ => ⟨H1, I1, m _ _ q1⟩⟩
theorem PE.up {t : TE} (h : PE X e t) : PE X e (fun σ H Q => ∃ Q0 : VK, t σ H Q0 ∧ ∀ b H, Q0 b H → Q b H) := ⟨fun pins s σ H Q I ⟨Q0, h0, m⟩ => thn (h.run pins s σ H Q0 I h0) fun v s1 ⟨x, H1, I1, r1, q1⟩ => ⟨x, H1, I1, r1, m _ _ q1⟩⟩
variable {rest : List Expr} {tA tB : TT} {ta tb tc : TE}
theorem zpw_and1 (ha : PT X a tA) : PW X (.BoolOp .And [a] pos) tA := pw_and1 ha
theorem zpw_or1 (ha : PT X a tA) : PW X (.BoolOp .Or [a] pos) tA := pw_or1 ha
theorem zpw_and (ha : PT X a tA) (hb : PW X (.BoolOp .And (b :: rest) pos) tB) : PW X (.BoolOp .And (a :: b :: rest) pos) (zAnd tA tB) := by
  refine ⟨fun whole pins s σ H Q I q => ?_⟩
  refine (pw_and (PT.up ha) hb).run whole pins s σ H Q I ⟨_, q, fun c H1 q1 => ?_⟩
  cases c with
  | true => rw [if_pos rfl]; exact q1
  | false => rw [if_neg Bool.false_ne_true]; exact q1
theorem zpw_or (ha : PT X a tA) (hb : PW X (.BoolOp .Or (b :: rest) pos) tB) : PW X (.BoolOp .Or (a :: b :: rest) pos) (zOr tA tB) := by
  refine ⟨fun whole pins s σ H Q I q => ?_⟩
  refine (pw_or (PT.up ha) hb).run whole pins s σ H Q I ⟨_, q, fun c H1 q1 => ?_⟩
  cases c with
  | true => rw [if_pos rfl]; exact q1
  | false => rw [if_neg Bool.false_ne_true]; exact q1
/-- and, or, not as values of bools -/
def zAndV (ta tb : TE) : TE := fun σ H Q => ta σ H fun x H1 => match x with | .bl c => (match c with | true => tb σ H1 Q | false => Q (.bl false) H1) | _ => False
def zOrV (ta tb : TE) : TE := fun σ H Q => ta σ H fun x H1 => match x with | .bl c => (match c with | true => Q (.bl true) H1 | false => tb σ H1 Q) | _ => False
def zNotV (ta : TE) : TE := fun σ H Q => ta σ H fun x H1 => match x with | .bl c => Q (.bl (!c)) H1 | _ => False
theorem zpe_and (ha : PE X a ta) (hb : PE X (.BoolOp .And (b :: rest) pos) tb) : PE X (.BoolOp .And (a :: b :: rest) pos) (zAndV ta tb) :=
  peM (pe_and (PE.up ha) hb) fun σ H Q q => ⟨_, q, fun x H1 q1 => by
    cases x with
    | bl c =>
      refine ⟨c, rfl, ?_⟩
      cases c with
      | true => rw [if_pos rfl]; exact q1
      | false => rw [if_neg Bool.false_ne_true]; exact q1
    | _ => exact (show False from q1).elim⟩
theorem zpe_or (ha : PE X a ta) (hb : PE X (.BoolOp .Or (b :: rest) pos) tb) : PE X (.BoolOp .Or (a :: b :: rest) pos) (zOrV ta tb) :=
  peM (pe_or (PE.up ha) hb) fun σ H Q q => ⟨_, q, fun x H1 q1 => by
    cases x with
    | bl c =>
      refine ⟨c, rfl, ?_⟩
      cases c with
      | true => rw [if_pos rfl]; exact q1
      | false => rw [if_neg Bool.false_ne_true]; exact q1
    | _ => exact (show False from q1).elim⟩
theorem zpe_not (ha : PE X a ta) : PE X (.UnaryOp .Not a pos) (zNotV ta) :=
  peM (pe_not (PE.up ha)) fun σ H Q q => ⟨_, q, fun x H1 q1 => by
    cases x with
    | bl c => exact ⟨c, rfl, q1⟩
    | _ => exact (show False from q1).elim⟩
def zIfE (t : TT) (ta tb : TE) : TE := fun σ H Q => t σ H fun c H1 => match c with | true => ta σ H1 Q | false => tb σ H1 Q
theorem zpe_if (hc : PT X c tA) (ha : PE X a ta) (hb : PE X b tb) : PE X (.IfExp c a b pos) (zIfE tA ta tb) :=
  peM (pe_ifExp (PT.up hc) ha hb) fun σ H Q q => ⟨_, q, fun x H1 q1 => by
    cases x with
    | true => rw [if_pos rfl]; exact q1
    | false => rw [if_neg Bool.false_ne_true]; exact q1⟩
/-- x or y by truth, where x is a list or a tuple -/
def zOrL (K : PySem.W.Frag) (ta tb : TE) : TE := fun σ H Q => ta σ H fun x H1 => match x with | .ref p => ∃ xs, (SqL K H1 p xs ∨ SqT K H1 p xs) ∧ Two (xs = []) (tb σ H1 Q) (Q x H1) | _ => False
theorem zpe_orL (ha : PE X a ta) (hb : PE X (.BoolOp .Or (b :: rest) pos) tb) : PE X (.BoolOp .Or (a :: b :: rest) pos) (zOrL X.K ta tb) :=
  peM (pe_orT (PE.up ha) hb) fun σ H Q q => ⟨_, q, fun x H1 q1 => by
    cases x with
    | ref p =>
      obtain ⟨xs, hx, t⟩ := q1
      refine ⟨!xs.isEmpty, hx.elim (fun h => .inl ⟨xs, h, rfl⟩) (fun h => .inr (.inl ⟨xs, h, rfl⟩)), ?_⟩
      cases xs with
      | nil => rw [if_neg (by decide)]; exact t.1 rfl
      | cons y r => rw [if_pos (by rfl)]; exact t.2 (fun z => by cases z)
    | _ => exact (show False from q1).elim⟩
/-! ### statements -/
variable {st : Stmt} {body p q : List Stmt} {t u : TS}
def zIfS (c : TT) (t u : TS) : TS := fun D σ H => c σ H fun b H1 => match b with | true => t D σ H1 | false => u D σ H1
theorem zps_if {a b : List Stmt} (hc : PT X c tA) (ha : PSs X a t) (hb : PSs X b u) : PS X (.If c a b pos) (zIfS tA t u) := by
  refine ⟨fun pins s σ H D I h => ?_⟩
  refine (ps_if (PT.up hc) ha hb).run pins s σ H D I ⟨_, h, fun c H1 q1 => ?_⟩
  cases c with
  | true => rw [if_pos rfl]; exact q1
  | false => rw [if_neg Bool.false_ne_true]; exact q1
/-- while: an invariant with a measure; the test is asked at it -/
def zWhile (c : TT) (tb : TS) : TS := fun D σ H => ∃ Pv : Nat → L2.St → Hp → Prop, (∃ m, Pv m σ H) ∧ ∀ m σ H, Pv m σ H →
  c σ H fun b H1 => match b with | true => tb { D with nx := fun σ' H' => ∃ m', m' < m ∧ Pv m' σ' H', ct := fun σ' H' => ∃ m', m' < m ∧ Pv m' σ' H', bk := D.nx } σ H1 | false => D.nx σ H1
theorem zps_while {tb : TS} (hp : PassesOwn (model X.prog X.w) X.A X.env X.xe) (hc : PT X c tA) (hb : PSs X body tb) : PS X (.While c body [] pos) (zWhile tA tb) := by
  refine ⟨fun pins s σ H D I h => ?_⟩
  obtain ⟨Pv, h0, hs⟩ := h
  refine (ps_while hp (PT.up hc) hb).run pins s σ H D I ⟨Pv, h0, fun m σ H w => ⟨_, hs m σ H w, fun b H1 q => ?_⟩⟩
  cases b with
  | true => rw [if_pos rfl]; exact ⟨_, fun σ' H' z => z, q⟩
  | false => rw [if_neg Bool.false_ne_true]; exact q

/-! ### displays, subscripts -/
variable {es : List Expr} {t : TA}
def zTup (t : TA) : TE := fun σ H Q => t σ H fun xs H1 => xs.length ≤ 1000 ∧ New H1 (.tup xs) Q
def zLst (t : TA) : TE := fun σ H Q => t σ H fun xs H1 => xs.length ≤ 1000 ∧ New H1 (.lst xs) Q
theorem PA.up (h : PA X es t) : PA X es (fun σ H Q => ∃ Q0 : List V → Hp → Prop, t σ H Q0 ∧ ∀ b H, Q0 b H → Q b H) := ⟨fun pos pins s σ H Q I ⟨Q0, h0, m⟩ => thn (h.run pos pins s σ H Q0 I h0) fun v s1 ⟨x, H1, I1, r1, q1⟩ => ⟨x, H1, I1, r1, m _ _ q1⟩⟩
theorem ztup {x1} (h : PA X es t) : PE X (.Tuple es x1 pos) (zTup t) := peM (pe_tup (PA.up h)) fun σ H Q q => ⟨_, q, fun xs H1 q => ⟨Nat.le_of_lt (small1000 q.1), q.2.up⟩⟩
theorem zlst (h : PA X es t) : PE X (.List es pos) (zLst t) := peM (pe_lst (PA.up h)) fun σ H Q q => ⟨_, q, fun xs H1 q => ⟨Nat.le_of_lt (small1000 q.1), q.2.up⟩⟩
/-- xs[i] -/
def zIxL (K : PySem.W.Frag) : R2 := fun x y H Q => match x, y with | .ref p, .int i => ∃ xs v, SqL K H p xs ∧ atI xs i = some v ∧ Q v H | _, _ => False
def zIxT (K : PySem.W.Frag) : R2 := fun x y H Q => match x, y with | .ref p, .int i => ∃ xs v, SqT K H p xs ∧ atI xs i = some v ∧ Q v H | _, _ => False
def zIxS : R2 := fun x y H Q => match x, y with | .str z, .int i => ∃ c, z.length ≤ sizeLine ∧ atI z.cps.toList i = some c ∧ Q (.str ⟨#[c]⟩) H | _, _ => False
theorem zixL : IxR X (zIxL X.K) := ixM ix_list fun x y H Q q => by
  unfold zIxL at q
  split at q
  · obtain ⟨xs, v, h1, h2, q⟩ := q
    exact ⟨_, xs, _, v, rfl, rfl, h1, h2, q⟩
  · exact q.elim
theorem zixT : IxR X (zIxT X.K) := ixM ix_tup fun x y H Q q => by
  unfold zIxT at q
  split at q
  · obtain ⟨xs, v, h1, h2, q⟩ := q
    exact ⟨_, xs, _, v, rfl, rfl, h1, h2, q⟩
  · exact q.elim
theorem zixS : IxR X zIxS := ixM ix_str fun x y H Q q => by
  unfold zIxS at q
  split at q
  · obtain ⟨c, h1, h2, q⟩ := q
    exact ⟨_, _, c, rfl, rfl, h1, h2, q⟩
  · exact q.elim
/-- xs[i] = v -/
def zSetL : V → V → V → Hp → (Hp → Prop) → Prop := fun o i v H Q => match o, i with | .ref p, .int k => ∃ xs j, H p = some (.lst xs) ∧ ixN xs.length k = some j ∧ Wr H p (.lst (xs.set j v)) Q | _, _ => False
theorem zsetL : PSet X zSetL := setM set_list fun o i v H Q q => by
  unfold zSetL at q
  split at q
  · obtain ⟨xs, j, h1, h2, q⟩ := q
    exact ⟨_, xs, _, j, rfl, rfl, h1, h2, q.up h1⟩
  · exact q.elim
/-- slices of lists, texts -/
def zPart (t : TE) : TO := fun σ H Q => t σ H fun x H1 => match x with | .int i => Q (some i) H1 | _ => False
theorem zpo (h : PE X e ta) : PO X (some e) (zPart ta) := ⟨fun pins s σ H Q I q => (po_some (PE.up h)).run pins s σ H Q I ⟨_, q, fun x H1 q => by
    cases x with
    | int i => exact ⟨i, rfl, q⟩
    | _ => exact (show False from q).elim⟩⟩
def zSlL (K : PySem.W.Frag) : V → Option Int → Option Int → Hp → VK → Prop := fun x lo hi H Q => match x with | .ref a => ∃ xs, SqL K H a xs ∧ New H (.lst (cutV xs lo hi)) Q | _ => False
theorem zslL : SlR X (zSlL X.K) := slM sl_list fun x lo hi H Q q => by
  unfold zSlL at q
  split at q
  · obtain ⟨xs, h1, q⟩ := q
    exact ⟨_, xs, rfl, h1, q.up⟩
  · exact q.elim
/-- xs[::-1] -/
def zRevL (K : PySem.W.Frag) (te : TE) : TE := fun σ H Q => te σ H fun x H1 => match x with | .ref a => ∃ xs, SqL K H1 a xs ∧ New H1 (.lst xs.reverse) Q | _ => False
theorem zrevL {k : Nat} {p1 p2 p3 pos : Pos} (he : PE X e ta) : PE X (.Subscript e (.Slice none none (some (.UnaryOp .USub (.Constant (.int 1) k p1) p2)) p3) pos) (zRevL X.K ta) :=
  peM (pe_revL (PE.up he)) fun σ H Q q => ⟨_, q, fun x H1 q => by
    cases x with
    | ref a => obtain ⟨xs, h1, q⟩ := q; exact ⟨_, xs, rfl, h1, q.up⟩
    | _ => exact (show False from q).elim⟩
/-- xs + ys of lists -/
def zCat : R2 := fun x y H Q => match x, y with | .ref l, .ref b => ∃ xs zs, H l = some (.lst xs) ∧ H b = some (.lst zs) ∧ xs.length + zs.length ≤ sizeLine ∧ New H (.lst (xs ++ zs)) Q | _, _ => False
theorem zcat : OpR X (binaryOp .Add) zCat := opM op_cat fun x y H Q q => by
  unfold zCat at q
  split at q
  · obtain ⟨xs, zs, h1, h2, h3, q⟩ := q
    exact ⟨_, _, xs, zs, rfl, rfl, h1, h2, h3, q.up⟩
  · exact q.elim
/-- xs * k -/
def zRep : R2 := fun x y H Q => match x, y with | .ref l, .int k => ∃ xs, H l = some (.lst xs) ∧ 0 ≤ k ∧ k < 2 ^ 63 ∧ xs.length * k.toNat ≤ sizeLine ∧ New H (.lst (List.replicate k.toNat xs).flatten) Q | _, _ => False
theorem zrep : OpR X (binaryOp .Mult) zRep := opM op_rep fun x y H Q q => by
  unfold zRep at q
  split at q
  · obtain ⟨xs, h1, h2, h3, h4, q⟩ := q
    exact ⟨_, _, xs, rfl, rfl, h1, by omega, h3, h4, q.up⟩
  · exact q.elim
/-! ### calls of built-ins -/
def z1I (r : Int → Hp → VK → Prop) : List V → Hp → VK → Prop := fun xs H Q => match xs with | [.int i] => r i H Q | _ => False
def z2I (r : Int → Int → Hp → VK → Prop) : List V → Hp → VK → Prop := fun xs H Q => match xs with | [.int i, .int j] => r i j H Q | _ => False
theorem zabs : CallR X (.builtin "abs") (z1I fun i H Q => ∀ k : Int, (0 ≤ i → k = i) → (i < 0 → k = -i) → Q (.int k) H) := callM call_abs fun xs H Q q => by
  unfold z1I at q
  split at q
  · rename_i i
    refine ⟨i, rfl, q _ (fun h => ?_) (fun h => ?_)⟩
    · rw [if_neg (by omega)]
    · rw [if_pos h]
  · exact q.elim
theorem zmax2 (hc : X.calm = true) : CallR X (.builtin "max") (z2I fun i j H Q => Q (.int (max i j)) H) := callM (call_max2 hc) fun xs H Q q => by
  unfold z2I at q
  split at q
  · rename_i i j
    refine ⟨i, j, rfl, ?_⟩
    have e : (if j > i then j else i) = max i j := by split <;> omega
    rw [e]; exact q
  · exact q.elim
theorem zmin2 (hc : X.calm = true) : CallR X (.builtin "min") (z2I fun i j H Q => Q (.int (min i j)) H) := callM (call_min2 hc) fun xs H Q q => by
  unfold z2I at q
  split at q
  · rename_i i j
    refine ⟨i, j, rfl, ?_⟩
    have e : (if j < i then j else i) = min i j := by split <;> omega
    rw [e]; exact q
  · exact q.elim
theorem zint : CallR X (.type "int") (fun xs H Q => match xs with | [.int i] => Q (.int i) H | [.bl k] => Q (.int (match k with | true => 1 | false => 0)) H | _ => False) := callM call_int1 fun xs H Q q => by
  split at q
  · exact .inl ⟨_, rfl, q⟩
  · rename_i k
    refine .inr ⟨k, rfl, ?_⟩
    cases k <;> exact q
  · exact q.elim
theorem zlen : CallR X (.builtin "len") (fun xs H Q => match xs with
    | [.ref p] => ∃ ys, (SqL X.K H p ys ∨ SqT X.K H p ys) ∧ Q (.int ys.length) H
    | [.str z] => z.length ≤ sizeLine ∧ Q (.int z.length) H
    | _ => False) := callM call_len fun xs H Q q => by
  split at q
  · obtain ⟨ys, h, q⟩ := q
    exact ⟨_, ys.length, rfl, h.elim (fun h => .inl ⟨ys, h, rfl⟩) (fun h => .inr ⟨ys, h, rfl⟩), q⟩
  · exact ⟨_, _, rfl, ⟨q.1, rfl⟩, q.2⟩
  · exact q.elim
theorem zsum (hc : X.calm = true) : CallR X (.builtin "sum") (fun vs H Q => match vs with | [.ref a] => ∃ ns : List Int, SqL X.K H a (ns.map V.int) ∧ Q (.int ns.sum) H | _ => False) := callM (cr_sum hc) fun xs H Q q => by
  split at q
  · obtain ⟨ns, h, q⟩ := q
    exact ⟨_, ns, rfl, h, q⟩
  · exact q.elim
theorem ztuple : CallR X (.type "tuple") (fun vs H Q => match vs with | [.ref a] => ∃ ys, SqL X.K H a ys ∧ New H (.tup ys) Q | _ => False) := callM call_tuple_of fun xs H Q q => by
  split at q
  · obtain ⟨ys, h, q⟩ := q
    exact ⟨_, ys, rfl, .inl ⟨h, q.up⟩⟩
  · exact q.elim
theorem zlist : CallR X (.type "list") (fun vs H Q => match vs with | [.ref a] => ∃ ys, (SqL X.K H a ys ∨ SqT X.K H a ys) ∧ New H (.lst ys) Q | _ => False) := callM call_list_of fun xs H Q q => by
  split at q
  · obtain ⟨ys, h, q⟩ := q
    exact ⟨_, ys, rfl, h, q.up⟩
  · exact q.elim
theorem zdivmod : CallR X (.builtin "divmod") (z2I fun i j H Q => (0 < j ∧ j < 1073741824) ∧ New H (.tup [.int (i / j), .int (i % j)]) Q) := callM call_divmod fun xs H Q q => by
  unfold z2I at q
  split at q
  · exact ⟨_, _, rfl, q.1, q.2.up⟩
  · exact q.elim
/-- isinstance(x, T), T a built-in class -/
def tyOfV (H : Hp) : V → Option String
  | .non => some "NoneType" | .bl _ => some "bool" | .int _ => some "int" | .str _ => some "str"
  | .ref p => (match H p with | some (.lst _) => some "list" | some (.tup _) => some "tuple" | _ => none)
  | _ => none
theorem tyX_of {K : PySem.W.Frag} {H : Hp} {x : V} {n : String} (h : tyOfV H x = some n) : TyX K H x (.type n) := by
  cases x with
  | non => cases h; exact .base .non
  | bl b => cases h; exact .base (.bl b)
  | int i => cases h; exact .base (.int i)
  | str z => cases h; exact .base (.str z)
  | ref p =>
    have h' : (match H p with | some (.lst _) => some "list" | some (.tup _) => some "tuple" | _ => none) = some n := h
    split at h'
    · cases h'; exact .base (.lst (by assumption))
    · cases h'; exact .base (.tup (by assumption))
    · cases h'
  | _ => cases h
theorem zisi : CallR X (.builtin "isinstance") (fun vs H Q => match vs with | [x, .ty T] => ∃ n b, tyOfV H x = some n ∧ kitB n T = some b ∧ Q (.bl b) H | _ => False) := callM call_isi fun xs H Q q => by
  split at q
  · obtain ⟨n, b, h1, h2, q⟩ := q
    exact ⟨_, _, _, _, b, rfl, .ty _, tyX_of h1, kit_ty h2, q⟩
  · exact q.elim
/-- xs.append(y) -/
theorem zappend : MtR X "list.append" (fun x vs H Q => match x, vs with | .ref l, [y] => ∃ xs, H l = some (.lst xs) ∧ xs.length < sizeLine ∧ Wr H l (.lst (xs ++ [y])) (Q .non) | _, _ => False) := mtM mt_append fun x vs H Q q => by
  split at q
  · obtain ⟨xs, h1, h2, q⟩ := q
    exact ⟨_, xs, _, rfl, rfl, h1, h2, q.up h1⟩
  · exact q.elim
end
end Z

set_option Elab.async false
set_option linter.all false
set_option maxRecDepth 100000
/-! pairs that an iterator makes, one behind the other: a turn out of a walk over tuples -/
namespace Z
open PySem PySem.Spec PyProof.Rows L2
/-- an iterator of pairs: G what is known ahead of a turn of its two items, Y what is told of them, Z where it ends -/
def ItP (G Y : Nat → Hp → V → V → Prop) (Z : Nat → Hp → Prop) : It where
  go := fun i H => ∃ x y, G i H x y
  yld := fun i H v H' => ∃ T x y, v = .ref T ∧ H T = none ∧ H' = upd H T (.tup [x, y]) ∧ Y i H x y
  stop := Z
/-- a walk over pairs at the state of a turn -/
structure PairWalk (X : Cx) (it : Addr) (cells : List Addr) (tn : Nat → Heap → Prop) (s : Shared) (i : Nat) (ends : Bool) (rel : Value → Value → Prop) : Prop where
  some : ∃ (fp wr : List Addr) (n : Nat) (Pt : Nat → Array Value → Prop) (St : Nat → Heap → Prop) (Mid : Nat → Addr → Heap → Prop),
    WalksT X.prog X.w X.A it fp wr n Pt St Mid ∧ (∀ b ∈ wr, b ∈ cells) ∧ St i s.heap ∧ (if ends then n = i else i < n) ∧ (∀ vals, Pt i vals → ∃ u v, vals = #[u, v] ∧ rel u v) ∧ ∀ h, St (i + 1) h → tn (i + 1) h
theorem turn_pairs {P : Program} {w : World} {K : PySem.W.Frag} {elts : List Expr} {kk : Nat} {tpos : Pos} {G Y : Nat → Hp → V → V → Prop} {Z : Nat → Hp → Prop} {it : Addr} {cells : List Addr} {tn : Nat → Heap → Prop}
    (inC : it ∈ cells) (alive : ∀ i h, tn i h → ∀ b ∈ cells, ∃ o, h.get? b = some o ∧ ∀ v, o.data ≠ .cell v)
    (stays : ∀ i h h', tn i h → (∀ b ∈ cells, ∀ o, h.get? b = some o → h'.get? b = some o) → tn i h')
    (again : ∀ (A : Around) (i : Nat) (s : Shared) (Q : Value → Shared → Prop) (E : Value → Shared → Prop), tn i s.heap → Q (.ref it) s → wpAny (model P w) A (pyIter (.ref it)) Q E s)
    (walk : ∀ (X : Cx), X.prog = P → X.w = w → X.K = K → X.calm = true → ∀ (i : Nat) (pins : List (Addr × Obj)) (s : Shared) (σ : L2.St) (H : Hp), Inv X pins σ H s → tn i s.heap → ∀ x y, G i H x y → Y i H x y ∧ PairWalk X it cells tn s i false fun u v => RelV x u ∧ RelV y v)
    (halt : ∀ (X : Cx), X.prog = P → X.w = w → X.K = K → X.calm = true → ∀ (i : Nat) (pins : List (Addr × Obj)) (s : Shared) (σ : L2.St) (H : Hp), Inv X pins σ H s → tn i s.heap → Z i H → PairWalk X it cells tn s i true fun _ _ => True) :
    Turn P w K (.Tuple elts kk tpos) (ItP G Y Z) cells it tn where
  mem := inC
  obj := alive
  keep := stays
  self := again
  done := fun X e1 e2 e3 calm i pins s σ H E I free st z => by
    obtain ⟨fp, wr, n, Pt, St, Mid, W, sub, here, eq, _⟩ := (halt X e1 e2 e3 calm i pins s σ H I st z).some
    have eq' : n = i := eq
    cases e1; cases e2; cases eq'
    exact W.done s _ E here fun h2 tk old => ⟨rfl, Inv.turnedL I (fun b o nb g => old b o (fun m => nb (sub b m)) g) free⟩
  item := fun X e1 e2 e3 calm i pins s σ H E I free st ⟨x, y, g⟩ => by
    obtain ⟨told, pw⟩ := walk X e1 e2 e3 calm i pins s σ H I st x y g
    obtain ⟨fp, wr, n, Pt, St, Mid, W, sub, here, lt, vals2, next⟩ := pw.some
    have lt' : i < n := lt
    cases e1; cases e2
    refine W.item i s _ E lt' here fun T vals h1 t1 pt big isT mid old1 => ⟨_, rfl, ?_⟩
    obtain ⟨u, v, rfl, ru, rv⟩ := vals2 vals pt
    refine W.go elts kk tpos i T ⟨h1, s.gens, s.drawn, t1, s.os⟩ _ E mid fun h2 st2 old2 => ?_
    have isT2 : h2.IsTuple T #[u, v] := isT.at fun o q => old2 T o (W.apart i T h1 mid) q
    have pair : ObjOk X.prog X.w (upd H T (.tup [x, y])) h2 T (.tup [x, y]) := ⟨(by decide : 2 ≤ sizeLine), [u, v], .cons ru (.cons rv .nil), isT2⟩
    have far : ∀ b ∈ cells, b ≠ T := fun b m => by
      obtain ⟨o, q, _⟩ := alive i _ st b m
      exact Nat.ne_of_lt (Nat.lt_of_lt_of_le (Heap.lt_size q) big)
    have held : ∀ b o, b ∉ cells → s.heap.get? b = some o → h2.get? b = some o := fun b o nb q => old2 b o (fun m => nb (sub b m)) (old1 b o (fun m => nb (sub b m)) q)
    have after : Inv X pins σ (upd H T (.tup [x, y])) { s with heap := h2, toks := t1 } := Inv.turnedNew I held free big pair
    exact ⟨.ref T, _, after, rfl, ⟨T, x, y, rfl, I.hok.fresh big, rfl, told⟩, next h2 st2, fun b m => by rw [upd_ne (far b m)]; exact (free b m).1⟩
/-! ### enumerate, out of whatever its items are drawn from -/
section
variable {P : Program} {w : World} {K : PySem.W.Frag} {elts : List Expr} {kk : Nat} {tpos : Pos} {e it : Addr}
/-- the enumerate at e of the iterator at it, whose own state is Src -/
def Numbered (e it : Addr) (Src : Nat → Heap → Prop) (i : Nat) (h : Heap) : Prop := (∃ old, IsEnum h e it ((i : Nat) : Int) old) ∧ Src i h
theorem turn_numbered {G Y : Nat → Hp → V → V → Prop} {Z : Nat → Hp → Prop} {Src : Nat → Heap → Prop} (apart : e ≠ it) (cell : ∀ i h, Src i h → ∃ o vs, h.get? it = some o ∧ o.data = .fields vs)
    (still : ∀ i h h', Src i h → (∀ o, h.get? it = some o → h'.get? it = some o) → Src i h')
    (draws : ∀ (X : Cx), X.prog = P → X.w = w → X.K = K → X.calm = true → ∀ (i : Nat) (pins : List (Addr × Obj)) (s : Shared) (σ : L2.St) (H : Hp), Inv X pins σ H s → (∃ old, IsEnum s.heap e it ((i : Nat) : Int) old) → Src i s.heap →
      (∀ x y, G i H x y → Y i H x y ∧ ∃ (fp : List Addr) (n : Nat) (D : Nat → Value → Prop) (St : Nat → Heap → Prop), Draws X.prog X.w X.A.in1 it fp n D St ∧ e ∉ fp ∧ it ∈ fp ∧ St i s.heap ∧ i < n ∧ (∀ v, D i v → RelV y v) ∧ x = .int (i : Nat) ∧ ∀ h, St (i + 1) h → Src (i + 1) h) ∧
      (Z i H → ∃ (fp : List Addr) (D : Nat → Value → Prop) (St : Nat → Heap → Prop), Draws X.prog X.w X.A.in1 it fp i D St ∧ e ∉ fp ∧ it ∈ fp ∧ St i s.heap ∧ ∀ h, St (i + 1) h → Src (i + 1) h)) :
    Turn P w K (.Tuple elts kk tpos) (ItP G Y Z) [e, it] e (Numbered e it Src) := by
  refine turn_pairs (.head _) ?_ ?_ ?_ ?_ ?_
  · rintro i h ⟨⟨old, at1⟩, st⟩ c m
    obtain ⟨o, vs, g, dv⟩ := cell i h st
    simp at m
    rcases m with rfl | rfl
    · exact ⟨_, at1, nofun⟩
    · exact ⟨o, g, fun v => by simp [dv]⟩
  · rintro i h h2 ⟨⟨old, at1⟩, st⟩ same
    exact ⟨⟨old, same _ (by simp) _ at1⟩, still i h h2 st (same _ (by simp))⟩
  · rintro A i s Q E ⟨⟨_, at1⟩, _⟩ q
    exact wpAny_pyIter_enum at1 q
  · rintro X e1 e2 e3 calm i pins s σ H I ⟨at1, st⟩ x y g
    obtain ⟨told, fp, n, D, St, dr, out, inn, here, lt, rel, rfl, next⟩ := (draws X e1 e2 e3 calm i pins s σ H I at1 st).1 x y g
    refine ⟨told, ⟨_, _, _, _, _, _, WalksT.enumerateD dr e apart out inn, fun _ m => m, ⟨at1, here⟩, lt, ?_, fun h st2 => ⟨st2.1, next h st2.2⟩⟩⟩
    rintro vals ⟨t, v, dv, rfl⟩
    exact ⟨_, v, rfl, ⟨t, rfl⟩, rel v dv⟩
  · rintro X e1 e2 e3 calm i pins s σ H I ⟨at1, st⟩ z
    obtain ⟨fp, D, St, dr, out, inn, here, next⟩ := (draws X e1 e2 e3 calm i pins s σ H I at1 st).2 z
    refine ⟨_, _, _, _, _, _, WalksT.enumerateD dr e apart out inn, fun _ m => m, ⟨at1, here⟩, rfl, ?_, fun h st2 => ⟨st2.1, next h st2.2⟩⟩
    rintro vals ⟨t, v, _, rfl⟩
    exact ⟨_, v, rfl, trivial⟩
/-- the two cells of a new enumerate are ours -/
theorem numbered_new {X : Cx} {pins : List (Addr × Obj)} {σ : L2.St} {H : Hp} {s : Shared} (I : Inv X pins σ H s) : ∀ c ∈ [s.heap.objs.size + 1, s.heap.objs.size], FpOk X pins H c := fun c m => by
  have big : s.heap.objs.size ≤ c := by
    simp at m
    rcases m with rfl | rfl <;> first | exact Nat.le_refl _ | exact Nat.le_add_right _ _
  exact Inv.fpOk I big (HOk.fresh I.hok big)
end
end Z

set_option Elab.async false
set_option linter.all false
set_option maxRecDepth 100000
namespace Z
open PySem PySem.Spec PyProof.Rows L2

/-! ### enumerate(text) -/
def IteS (z : Str) : It :=
  ItP (fun i _ x y => ∃ c, z.cps[i]? = some c ∧ x = .int (i : Nat) ∧ y = .str ⟨#[c]⟩) (fun i _ x y => ∃ c, z.cps[i]? = some c ∧ x = .int (i : Nat) ∧ y = .str ⟨#[c]⟩) (fun i _ => i = z.cps.size)
theorem draws_str {P : Program} {w : World} {A : Around} (hh : A.handled = none) (it : Addr) (x : Str) (t : Tok) : Draws P w A it [it] x.cps.size (SignAt x) (fun i h => h.IsStrIter it (strIterType x) x t i) := by
  cases ha : x.cps.all (· < 128)
  · have e : strIterType x = "str_iterator" := by simp [strIterType, ha]
    rw [e]; exact Draws.strWide hh it x t
  · have e : strIterType x = "str_ascii_iterator" := by simp [strIterType, ha]
    rw [e]; exact Draws.strAscii hh it x t
theorem turn_enumS {P : Program} {w : World} {K : PySem.W.Frag} {elts : List Expr} {kk : Nat} {tpos : Pos} (x : Str) (t : Tok) {e it : Addr} (ne : e ≠ it) :
    Turn P w K (.Tuple elts kk tpos) (IteS x) [e, it] e (Numbered e it fun i h => h.IsStrIter it (strIterType x) x t i) := by
  refine turn_numbered ne (fun i h ⟨o, g, _, dv⟩ => ⟨o, _, g, dv⟩) (fun i h h2 ⟨o, g, r⟩ same => ⟨o, same o g, r⟩) ?_
  intro X _ _ _ calm i pins s σ H I _ st
  have dr := draws_str (P := X.prog) (w := X.w) (A := X.A.in1) (I.ok.hd calm) it x t
  have out : e ∉ [it] := fun m => ne (List.mem_singleton.mp m)
  refine ⟨?_, ?_⟩
  · rintro a b ⟨c, g, rfl, rfl⟩
    have lt := (Array.getElem?_eq_some_iff.mp g).1
    refine ⟨⟨c, g, rfl, rfl⟩, _, _, _, _, dr, out, .head _, st, lt, ?_, rfl, fun _ z => z⟩
    rintro v ⟨c2, u, g2, rfl⟩
    cases g.symm.trans g2
    exact ⟨u, rfl⟩
  · rintro rfl
    exact ⟨_, _, _, dr, out, .head _, st, fun _ z => z⟩
def iEnumS (ta : TA) : TI := fun σ H R => ta σ H fun vs H1 => match vs with | [.str z] => R (IteS z) H1 | _ => False
theorem zpi_enumS {X : Cx} {e : Expr} {ta : TA} {p pos tpos : Pos} {elts : List Expr} {kk : Nat} (hg : Gl X "enumerate") (hm : X.mg "enumerate" = none) (ha : PA X [e] ta) (hs : starEach [e] X.env = [(false, eval e X.env)] := by rfl) :
    PI X (.Tuple elts kk tpos) (.Call (.Name "enumerate" p) [e] [] pos) (iEnumS ta) := by
  refine ⟨fun pins s σ H R I h => ?_⟩
  refine Call_ (ld_blt I hg hm boot_enumerate (PyProof.Rows.callWith_type1 (thn (ha.run pos pins s σ H _ I h) fun us s1 ⟨vs, H1, I1, r1, q1⟩ => ?_) hs rfl))
  dsimp only at q1
  split at q1
  · rename_i z
    cases r1 with
    | cons r rr =>
      cases rr
      obtain ⟨t, rfl⟩ := r
      refine call_enumerate_str fun h' he hit hsz hk => wpAny_pyIter_enum he ?_
      exact ⟨_, _, _, _, H1, rfl, Inv.kept (t' := s1.toks) I1 hk, turn_enumS z t (Nat.succ_ne_self _), ⟨⟨.none, he⟩, hit⟩, numbered_new I1, q1⟩
  · exact q1.elim
theorem walk_enumS {z : Str} : Walk (IteS z) z.cps.size (fun _ => True) (fun i H v H' => ∃ T c, v = .ref T ∧ H T = none ∧ H' = upd H T (.tup [.int (i : Nat), .str ⟨#[c]⟩]) ∧ z.cps[i]? = some c) := by
  refine ⟨fun i _ lt _ => ⟨_, _, z.cps[i], by simp [lt], rfl, rfl⟩, fun _ _ => rfl, ?_⟩
  rintro i H v H' _ _ ⟨T, x, y, e, f, g, c, gc, rfl, rfl⟩
  exact ⟨T, c, e, f, g, gc⟩

/-! ### defs of the text -/
structure Cal (P : Program) (w : World) (K : PySem.W.Frag) (mg : Str → Option Value) (base : Heap) (k : Nat) (x : Str) (ps : List Str) (sp : Sp) : Prop where
  ex : ∃ (f : Addr) (fd : FuncData), FnOk P w K mg base CX0 k f fd ps sp ∧ Binds K fd ps [] ∧ PySem.W.keepIn K (.ref f) = true ∧ mg x = some (.ref f)
structure DefAt (K : PySem.W.Frag) (mg : Str → Option Value) (x : Str) (st : Stmt) (ps : List Str) : Prop where
  ex : ∃ (f : Addr) (fd : FuncData), Fun K x x st f fd ∧ Binds K fd ps [] ∧ mg x = some (.ref f)
section
variable {P : Program} {w : World} {K : PySem.W.Frag} {mg : Str → Option Value} {base : Heap}
theorem Cal.mono {j k : Nat} {x : Str} {ps : List Str} {sp : Sp} (c : Cal P w K mg base j x ps sp) (h : j ≤ k) : Cal P w K mg base k x ps sp := by
  obtain ⟨f, fd, F, r⟩ := c
  exact ⟨f, fd, F.mono h, r⟩
theorem mkCal {x : Str} {st : Stmt} {N ps : List Str} {k : Nat} {sp : Sp} (D : DefAt K mg x st ps) (S : FnScope N ps (defScope st)) (len : ∀ vs H Q E, sp vs H Q E → vs.length = ps.length)
    (hbody : ∀ (f : Addr) (cdv : Value) (A : Around) (outer : List Env) (s : Shared) (H : Hp) (vs : List V) (Q : VK) (E : XK), Room k (A.deeper (envOfC x (defScope st) s.heap.objs.size f cdv)) → sp vs H Q E →
      ∃ t, PSs (cxOf CX0 P w K mg base N x (defScope st) f cdv A outer s H E).nox (defBody st) t ∧ t { nx := fun _ H' => Q .non H', rt := Q } (start N vs) H) : Cal P w K mg base (k + 1) x ps sp := by
  obtain ⟨f, fd, F, b, m⟩ := D
  exact ⟨f, fd, F.ok S len (hbody f), b, F.kp, m⟩
variable {X : Cx}
theorem zcall {k : Nat} {x : Str} {ps : List Str} {sp : Sp} {e : Expr} {es : List Expr} {t : TA} {pos p : Pos} (C : Cal X.prog X.w X.K X.mg X.base k x ps sp) (hr : Room k X.A) (hg : Gl X x) (ha : PA X (e :: es) t)
    (hdb : (x == ("__debug__" : Str)) = false := by decide) (he : starEach (e :: es) X.env = (false, eval e X.env) :: starEach es X.env := by rfl) (hp : (backTo pos (starEach es X.env)).any (·.1) = false := by rfl) :
    PE X (.Call (.Name x p) (e :: es) [] pos) (tCall sp [] E0 t) := by
  obtain ⟨f, fd, F, b, hk, m⟩ := C
  exact pe_call F hr hg m hk b .nil pass0 ha hdb he hp
theorem zcall0 {k : Nat} {x : Str} {ps : List Str} {sp : Sp} {pos p : Pos} (C : Cal X.prog X.w X.K X.mg X.base k x ps sp) (hr : Room k X.A) (hg : Gl X x) (hdb : (x == ("__debug__" : Str)) = false := by decide) :
    PE X (.Call (.Name x p) [] [] pos) (tCall sp [] E0 tNil) := by
  obtain ⟨f, fd, F, b, hk, m⟩ := C
  exact pe_call0 F hr hg m hk b .nil pass0 hdb
end
/-! ### isinstance(e, T) -/
section
variable {X : Cx} {e : Expr} {te : TE} {p p2 pos : Pos}
def zIsK (ki kb ks kn kl kt : Bool) (te : TE) : TE := fun σ H Q => te σ H fun x H1 => match x with
  | .int _ => Q (.bl ki) H1 | .bl _ => Q (.bl kb) H1 | .str _ => Q (.bl ks) H1 | .non => Q (.bl kn) H1
  | .ref p => ∃ xs, (H1 p = some (.lst xs) ∧ Q (.bl kl) H1) ∨ (H1 p = some (.tup xs) ∧ Q (.bl kt) H1)
  | _ => False
def KisT (T : String) (ki kb ks kn kl kt : Bool) : Prop := kitB "int" T = some ki ∧ kitB "bool" T = some kb ∧ kitB "str" T = some ks ∧ kitB "NoneType" T = some kn ∧ kitB "list" T = some kl ∧ kitB "tuple" T = some kt
theorem k_int : KisT "int" true true false false false false := ⟨by decide +kernel, by decide +kernel, by decide +kernel, by decide +kernel, by decide +kernel, by decide +kernel⟩
theorem k_bool : KisT "bool" false true false false false false := ⟨by decide +kernel, by decide +kernel, by decide +kernel, by decide +kernel, by decide +kernel, by decide +kernel⟩
theorem k_str : KisT "str" false false true false false false := ⟨by decide +kernel, by decide +kernel, by decide +kernel, by decide +kernel, by decide +kernel, by decide +kernel⟩
theorem k_list : KisT "list" false false false false true false := ⟨by decide +kernel, by decide +kernel, by decide +kernel, by decide +kernel, by decide +kernel, by decide +kernel⟩
theorem k_tuple : KisT "tuple" false false false false false true := ⟨by decide +kernel, by decide +kernel, by decide +kernel, by decide +kernel, by decide +kernel, by decide +kernel⟩
theorem zpis {T : String} {x : Str} {ki kb ks kn kl kt : Bool} (k : KisT T ki kb ks kn kl kt) (hg : Gl X "isinstance") (hm : X.mg "isinstance" = none) (hg2 : Gl X x) (hm2 : X.mg x = none) (hv : bootBuiltins x = some (.type T)) (he : PE X e te)
    (hn : x ≠ "__name__" := by decide) (hdb : (x == ("__debug__" : Str)) = false := by decide)
    (h1 : starEach [e, .Name x p2] X.env = (false, eval e X.env) :: starEach [.Name x p2] X.env := by rfl) (h2 : starEach [.Name x p2] X.env = (false, eval (.Name x p2) X.env) :: starEach [] X.env := by rfl)
    (h3 : (backTo pos (starEach [.Name x p2] X.env)).any (·.1) = false := by rfl) :
    PE X (.Call (.Name "isinstance" p) [e, .Name x p2] [] pos) (zIsK ki kb ks kn kl kt te) := by
  obtain ⟨k1, k2, k3, k4, k5, k6⟩ := k
  refine peM (pe_callB call_isi hg hm (by decide +kernel) (pa_cons (PE.up he) (pa_cons (pe_bltn hg2 hm2 hv (v := .ty T) rfl hn hdb) pa_nil h2) h1) (by decide) (by decide) h1 h3) fun σ H Q q => ?_
  refine ⟨_, q, fun x H1 q1 => ?_⟩
  cases x with
  | int i => exact ⟨_, _, _, _, _, rfl, .ty _, .base (.int i), kit_ty k1, q1⟩
  | bl i => exact ⟨_, _, _, _, _, rfl, .ty _, .base (.bl i), kit_ty k2, q1⟩
  | str i => exact ⟨_, _, _, _, _, rfl, .ty _, .base (.str i), kit_ty k3, q1⟩
  | non => exact ⟨_, _, _, _, _, rfl, .ty _, .base .non, kit_ty k4, q1⟩
  | ref a =>
    obtain ⟨xs, ⟨h, q⟩ | ⟨h, q⟩⟩ := q1
    · exact ⟨_, _, _, _, _, rfl, .ty _, .base (.lst h), kit_ty k5, q⟩
    · exact ⟨_, _, _, _, _, rfl, .ty _, .base (.tup h), kit_ty k6, q⟩
  | _ => exact (show False from q1).elim
end
/-! ### text methods -/
section
variable {X : Cx}
theorem zfind : MtR X "str.find" (fun x xs H Q => match x, xs with | .str a, [.str b] => Q (.int (Txt.find a b)) H | _, _ => False) := mtM mt_find fun x xs H Q q => by
  split at q
  · exact ⟨_, _, rfl, rfl, q⟩
  · exact q.elim
theorem hu64 {A : Around} {k : Nat} (hr : Room k A) : A.units + 64 < cLine := by have := hr.un; omega
end
end Z

namespace Z
open PySem PySem.Spec PyProof.Rows L2
section
variable {X : Cx} {st : Stmt} {rest : List Stmt} {t u : TS}
/-- two statements, what holds between them told -/
def zCut (t u : TS) : TS := fun D σ H => ∃ Mid : L2.St → Hp → Prop, t { D with nx := Mid } σ H ∧ ∀ σ' H', Mid σ' H' → u D σ' H'
theorem pss_zcut (h1 : PS X st t) (h2 : PSs X rest u) : PSs X (st :: rest) (zCut t u) := by
  refine ⟨fun pins s σ H D I h => ?_⟩
  obtain ⟨Mid, h, m⟩ := h
  refine wpAny_execs_cons (thn (h1.run pins s σ H { D with nx := Mid } I h) fun f s1 q => ?_)
  cases f with
  | next =>
    obtain ⟨σ', H', I', q⟩ := q
    exact h2.run pins s1 σ' H' D I' (m _ _ q)
  | ret v => exact q
  | brk => exact q
  | cont => exact q
end
theorem Keep.seq {K : PySem.W.Frag} {d a : Addr} {H H' : Hp} {xs : List V} (S : Keep d H H') (ne : a ≠ d) (h : SqL K H a xs) : SqL K H' a xs := by
  rcases h with (h | ⟨o, h⟩) | h
  · exact .inl (.inl (S _ _ ne h))
  · exact .inl (.inr ⟨o, S _ _ ne h⟩)
  · exact .inr h
end Z

set_option Elab.async false
set_option linter.all false
set_option maxRecDepth 100000
namespace Z
open PySem PySem.Spec PyProof.Rows L2
def repS (z : Str) (n : Nat) : Str := ⟨(List.replicate n z.cps).foldl (· ++ ·) #[]⟩
theorem repS_one (z : Str) : repS z 1 = z := by
  cases z with
  | mk c => show (⟨#[] ++ c⟩ : Str) = ⟨c⟩; simp
theorem repS_nil {z : Str} (h : z.length = 0) : ∀ n, repS z n = z := by
  have e : z.cps = #[] := Array.eq_empty_of_size_eq_zero h
  have g : ∀ n, (List.replicate n z.cps).foldl (· ++ ·) #[] = (#[] : Array Nat) := by
    intro n
    induction n with
    | zero => rfl
    | succ n ih => rw [List.replicate_succ, List.foldl_cons, e] at *; simpa using ih
  intro n
  unfold repS
  rw [g n]
  cases z with
  | mk c => have e' : c = #[] := e
            rw [e']
theorem foldl_len : ∀ (l : List (Array Nat)) (acc : Array Nat), (l.foldl (· ++ ·) acc).size = acc.size + (l.map Array.size).sum
  | [], acc => by simp
  | a :: r, acc => by rw [List.foldl_cons, foldl_len r, Array.size_append, List.map_cons, List.sum_cons]; omega
theorem repS_len (z : Str) (n : Nat) : (repS z n).length = n * z.length := by
  unfold repS
  show ((List.replicate n z.cps).foldl (· ++ ·) #[]).size = _
  rw [foldl_len, List.map_replicate]
  have : (List.replicate n z.cps.size).sum = n * z.cps.size := by
    induction n with
    | zero => simp
    | succ n ih => rw [List.replicate_succ, List.sum_cons, ih, Nat.succ_mul]; omega
  rw [this]; show 0 + _ = _; rw [Nat.zero_add]; rfl
section
variable {X : Cx}
theorem zmulS : OpR X (binaryOp .Mult) (fun x y H Q => match x, y with | .str z, .int k => (0 ≤ k ∧ k ≤ 1000 ∧ z.length ≤ 10000) ∧ Q (.str (repS z k.toNat)) H | _, _ => False) := by
  intro pins s σ H x y v u Q I rx ry h
  split at h
  · rename_i z k
    obtain ⟨⟨h0, h1, h2⟩, q⟩ := h
    obtain ⟨t, rfl⟩ := rx
    obtain ⟨t', rfl⟩ := ry
    have e63 : sizeLine = 16777216 := sizeLine_eq
    have hm : z.length * k.toNat ≤ 10000 * 1000 := Nat.mul_le_mul h2 (by omega)
    refine PySem.P.mul_str ?_ (fun a b => ?_) (fun a b => ?_) ?_
    · rw [decide_eq_false (by omega), decide_eq_false (by omega)]; rfl
    · have hk : (2 ^ 63 - 1 : Int) / k ≥ (2 ^ 63 - 1 : Int) / 1000 := by
        refine Int.le_ediv_of_mul_le (by omega) ?_
        have : (2 ^ 63 - 1 : Int) / 1000 * 1000 ≤ 2 ^ 63 - 1 := by decide
        have h3 : (2 ^ 63 - 1 : Int) / 1000 * k ≤ (2 ^ 63 - 1 : Int) / 1000 * 1000 := Int.mul_le_mul_of_nonneg_left h1 (by decide)
        omega
      have : (2 ^ 63 - 1 : Int) / 1000 ≥ 10000 := by decide
      omega
    · unfold Builtin.Str.tooLong
      simp only [decide_eq_false_iff_not]
      omega
    · by_cases c : k < 1
      · rw [if_pos c]
        have e : k = 0 := by omega
        subst e
        exact ⟨by decide, .str (repS z 0), H, I.tok _, ⟨_, rfl⟩, q⟩
      · rw [if_neg c]
        by_cases c1 : (k == 1 || z.length == 0) = true
        · rw [if_pos c1]
          have e : repS z k.toNat = z := by
            rcases (Bool.or_eq_true _ _).mp c1 with e | e
            · have e' : k = 1 := by simpa using e
              subst e'; exact repS_one z
            · exact repS_nil (by simpa using e) _
          rw [e] at q
          exact ⟨.str z, H, I, ⟨_, rfl⟩, q⟩
        · rw [if_neg c1]
          refine ⟨?_, .str (repS z k.toNat), H, I.tok _, ⟨_, rfl⟩, q⟩
          have := repS_len z k.toNat
          show (repS z k.toNat).length ≤ sizeLine
          rw [this, Nat.mul_comm]; omega
  · exact h.elim
end
end Z

set_option Elab.async false
set_option linter.all false
set_option maxRecDepth 100000
namespace Z
open PySem PySem.Spec PyProof.Rows L2

/-! ### sum(tuple of ints) -/
theorem preSum_getD (ns : List Int) : ∀ k, preSum (fun i => ns.getD i 0) k = (ns.take k).sum
  | 0 => by simp [preSum]
  | k + 1 => by
    rw [preSum, preSum_getD ns k, List.take_add_one]
    cases h : ns[k]? with
    | none => simp [List.getD, h]
    | some v => simp [List.getD, h, List.sum_append]
section
variable {X : Cx}
theorem zsumT (hc : X.calm = true) : CallR X (.builtin "sum") (fun vs H Q => match vs with | [.ref a] => ∃ ns : List Int, SqT X.K H a (ns.map V.int) ∧ Q (.int ns.sum) H | _ => False) := by
  intro pins s σ H vs us Q I r h
  split at h
  · rename_i a
    obtain ⟨ns, hs, q⟩ := h
    obtain ⟨its, rv, ht, hz⟩ := I.tuple hs
    have hl : its.length = ns.length := by rw [← rv.length, List.length_map]
    have eu : us = [.ref a] := by
      cases r with
      | cons r rr => cases rr; cases r; rfl
    subst eu
    have hT : s.heap.IsTuple a its.toArray := ht
    refine call_sum_walkG (wpAny_pyIter_tuple hT ?_)
    have ne : a ≠ s.heap.objs.size := by
      obtain ⟨o, ho, _⟩ := ht
      exact Nat.ne_of_lt (Heap.lt_size ho)
    have hT2 : (s.heap.push { cls := .type "tuple_iterator", data := .fields #[.ref a, .int 0 0] }).IsTuple a its.toArray := by
      obtain ⟨o, ho, hr⟩ := hT
      exact ⟨o, Heap.get?_push_of_some _ ho, hr⟩
    refine ⟨_, _, _, _, _, _, fun i => ns.getD i 0, rfl, Walks.tuple (A := X.A.in1) (I.ok.hd hc) s.heap.objs.size a ne its.toArray, ⟨⟨_, Heap.get?_push_size _ rfl, rfl, rfl⟩, hT2⟩, fun b hb => ?_, fun i v hv => ?_, fun h' tk t' hk => ?_⟩
    · rw [Heap.size_push]
      rcases List.mem_cons.mp hb with e | e
      · rw [e]; exact Nat.lt_succ_self _
      · rw [List.mem_singleton.mp e]
        obtain ⟨o, ho, _⟩ := ht
        exact Nat.lt_succ_of_lt (Heap.lt_size ho)
    · have hi : i < (ns.map V.int).length := by
        rw [rv.length]
        have := (Array.getElem?_eq_some_iff.mp hv).1
        simpa using this
      obtain ⟨u, hu, ru⟩ := rv.get (List.getElem?_eq_getElem hi)
      rw [List.getElem_map] at ru
      obtain ⟨t, e⟩ := ru
      have hv' : its[i]? = some v := by simpa using hv
      rw [hu] at hv'
      cases hv'
      rw [List.length_map] at hi
      exact ⟨t, by rw [e]; simp [List.getD, List.getElem?_eq_getElem hi]⟩
    · have e : preSum (fun i => ns.getD i 0) its.toArray.size = ns.sum := by
        rw [preSum_getD, List.size_toArray, hl, List.take_length]
      rw [e]
      refine ⟨.int ns.sum, H, I.kept fun b o e => ?_, ⟨_, rfl⟩, q⟩
      refine hk b o (fun hb => ?_) (Heap.get?_push_of_some _ e)
      rw [List.mem_singleton.mp hb] at e
      exact absurd (Heap.lt_size e) (Nat.lt_irrefl _)
  · exact h.elim

/-! ### == of two lists, two tuples of ints -/
theorem eqvAll_ints : ∀ ns ms : List Int, PyData.eqvAll (ns.map PyData.int) (ms.map PyData.int) = decide (ns = ms)
  | [], [] => by decide
  | [], _ :: _ => rfl
  | _ :: _, [] => rfl
  | n :: ns, m :: ms => by
    show (PyData.eqv (.int n) (.int m) && PyData.eqvAll (ns.map PyData.int) (ms.map PyData.int)) = _
    rw [eqvAll_ints ns ms]
    show ((n == m) && decide (ns = ms)) = decide (n :: ns = m :: ms)
    by_cases h : n = m
    · subst h; simp
    · simp [h]
theorem canLay_ints : ∀ ns : List Int, PyData.canLayAll0 (ns.map PyData.int) = true
  | [] => rfl
  | n :: ns => by
    show (PyData.canLay0 (.int n) && PyData.canLayAll0 (ns.map PyData.int)) = true
    rw [canLay_ints ns]; rfl
theorem depth_ints : ∀ ns : List Int, PyData.depthAll (ns.map PyData.int) = 0
  | [] => rfl
  | n :: ns => by
    show max (PyData.depth (.int n)) (PyData.depthAll (ns.map PyData.int)) = 0
    rw [depth_ints ns]; rfl
theorem shaped_lst (ns : List Int) : SeqAt.shaped (.list (ns.map PyData.int)) = true := by
  unfold SeqAt.shaped
  have e1 : PyData.canLay0 (.list (ns.map PyData.int)) = true := canLay_ints ns
  have e2 : PyData.depth (.list (ns.map PyData.int)) = 1 := by show PyData.depthAll _ + 1 = 1; rw [depth_ints]
  rw [e1, e2]; rfl
theorem shaped_tup (ns : List Int) : SeqAt.shaped (.tuple (ns.map PyData.int)) = true := by
  unfold SeqAt.shaped
  have e1 : PyData.canLay0 (.tuple (ns.map PyData.int)) = true := canLay_ints ns
  have e2 : PyData.depth (.tuple (ns.map PyData.int)) = 1 := by show PyData.depthAll _ + 1 = 1; rw [depth_ints]
  rw [e1, e2]; rfl
theorem dpAll_ints {K : PySem.W.Frag} {H : Hp} : ∀ ns : List Int, DpAll K H (ns.map V.int) (ns.map PyData.int)
  | [] => .nil
  | n :: ns => .cons (.int n) (dpAll_ints ns)
def zEqIs (K : PySem.W.Frag) (a b : Bool) : R2 := fun x y H Q => match x, y with
  | .ref p, .ref r => ∃ ns ms : List Int, ((SqL K H p (ns.map V.int) ∧ SqL K H r (ms.map V.int)) ∨ (SqT K H p (ns.map V.int) ∧ SqT K H r (ms.map V.int))) ∧ Two (ns = ms) (Q (.bl a) H) (Q (.bl b) H)
  | _, _ => False
theorem zeqIs (hu : X.A.units + 64 < cLine) : OpR X (compareOp .Eq) (zEqIs X.K true false) := opM (op_eqD hu) fun x y H Q q => by
  unfold zEqIs at q
  split at q
  · obtain ⟨ns, ms, h, t⟩ := q
    rcases h with ⟨h1, h2⟩ | ⟨h1, h2⟩
    · refine ⟨_, _, .lst h1 (dpAll_ints ns), .lst h2 (dpAll_ints ms), shaped_lst ns, shaped_lst ms, ?_⟩
      show Q (.bl (PyData.eqvAll _ _)) H
      rw [eqvAll_ints]
      exact Two.dec (A := fun b => Q (.bl b) H) t
    · refine ⟨_, _, .tup h1 (dpAll_ints ns), .tup h2 (dpAll_ints ms), shaped_tup ns, shaped_tup ms, ?_⟩
      show Q (.bl (PyData.eqvAll _ _)) H
      rw [eqvAll_ints]
      exact Two.dec (A := fun b => Q (.bl b) H) t
  · exact q.elim
theorem zneIs (hu : X.A.units + 64 < cLine) : OpR X (compareOp .NotEq) (zEqIs X.K false true) := opM (op_neD hu) fun x y H Q q => by
  unfold zEqIs at q
  split at q
  · obtain ⟨ns, ms, h, t⟩ := q
    rcases h with ⟨h1, h2⟩ | ⟨h1, h2⟩
    · refine ⟨_, _, .lst h1 (dpAll_ints ns), .lst h2 (dpAll_ints ms), shaped_lst ns, shaped_lst ms, ?_⟩
      show Q (.bl (!PyData.eqvAll _ _)) H
      rw [eqvAll_ints]
      exact Two.dec (A := fun b => Q (.bl (!b)) H) t
    · refine ⟨_, _, .tup h1 (dpAll_ints ns), .tup h2 (dpAll_ints ms), shaped_tup ns, shaped_tup ms, ?_⟩
      show Q (.bl (!PyData.eqvAll _ _)) H
      rw [eqvAll_ints]
      exact Two.dec (A := fun b => Q (.bl (!b)) H) t
  · exact q.elim
end

/-! ### enumerate(tuple) -/
def IteT (K : PySem.W.Frag) (a : Addr) : It :=
  ItP (fun i H x y => ∃ xs : List V, SqT K H a xs ∧ xs[i]? = some y ∧ x = .int (i : Nat)) (fun i H x y => x = .int (i : Nat) ∧ ∀ xs : List V, SqT K H a xs → xs[i]? = some y) (fun i H => ∃ xs : List V, SqT K H a xs ∧ xs.length = i)
theorem turn_enumT {P : Program} {w : World} {K : PySem.W.Frag} {elts : List Expr} {kk : Nat} {tpos : Pos} (a : Addr) {e it : Addr} (ne : e ≠ it) (na : a ≠ it) :
    Turn P w K (.Tuple elts kk tpos) (IteT K a) [e, it] e (Numbered e it fun i h => h.IsTupleIter it a i) := by
  refine turn_numbered ne (fun i h ⟨o, g, _, dv⟩ => ⟨o, _, g, dv⟩) (fun i h h2 ⟨o, g, r⟩ same => ⟨o, same o g, r⟩) ?_
  rintro X rfl rfl rfl calm i pins s σ H I ⟨old, at1⟩ st
  have out : ∀ {vs : Array Value}, s.heap.IsTuple a vs → e ∉ [it, a] := by
    rintro vs ⟨o, g, tp, _⟩ m
    simp [ne] at m
    subst m
    cases at1.symm.trans g
    exact absurd (show Value.type "enumerate" = Value.type "tuple" from tp) (by decide)
  have dr := fun (us : List Value) => Draws.tuple (prog := X.prog) (w := X.w) (A := X.A.in1) (I.ok.hd calm) it a na us.toArray
  refine ⟨?_, ?_⟩
  · rintro x y ⟨xs, sq, ey, rfl⟩
    obtain ⟨us, vus, ht, _⟩ := I.tuple sq
    obtain ⟨u, gu, ru⟩ := vus.get ey
    have lt := (List.getElem?_eq_some_iff.mp gu).1
    refine ⟨⟨rfl, fun ys sq2 => I.tuple_inj sq2 sq ▸ ey⟩, _, _, _, _, dr us, out ht, .head _, ⟨st, ht⟩, ?_, ?_, rfl, fun _ q => q.1⟩
    · simpa using lt
    · intro v gv
      have : v = u := by simpa [gu] using gv.symm
      exact this ▸ ru
  · rintro ⟨xs, sq, rfl⟩
    obtain ⟨us, vus, ht, _⟩ := I.tuple sq
    have el : us.toArray.size = xs.length := by rw [List.size_toArray, vus.length]
    refine ⟨_, _, _, el ▸ dr us, out ht, .head _, ⟨st, ht⟩, fun _ q => q.1⟩
set_option maxHeartbeats 1000000 in
theorem meets_enumerate_newT (a : Addr) (items : Array Value) :
    Meets (Builtin.«enumerate.__new__» ⟨[.type "enumerate", .ref a], []⟩) (fun _ R s => s.heap.IsTuple a items ∧
      R (.ok (.ret (.ref (s.heap.push { cls := .type "tuple_iterator", data := .fields #[.ref a, .int 0 0] }).objs.size)))
        { s with heap := (s.heap.push { cls := .type "tuple_iterator", data := .fields #[.ref a, .int 0 0] }).push { cls := .type "enumerate", data := .fields #[.none, .bool false, .ref s.heap.objs.size, rawInt 0, .none, .none] } }) :=
  .of_wp fun prog w A R s hh => by
    obtain ⟨hp, g, d, tk, os⟩ := s
    obtain ⟨ht, h⟩ := hh
    obtain ⟨o, ho, hc, n, hd⟩ := id ht
    have hsub := sub_enumerate
    have hT : Heap.IsTuple (Shared.heap ⟨hp, g, d, tk, os⟩) a items := ht
    wp_walk using wpAny_loadPart' ho
    refine wpAny_stack_any fun st => wpAny_pure ?_
    split
    · rename_i c _ _ _ _ _
      cases (c == Value.type "enumerate")
      · wp_walk using wpAny_loadPart' ho, wpAny_pyIter_tuple hT
        exact ⟨_, rfl, h⟩
      · wp_walk using wpAny_loadPart' ho, wpAny_pyIter_tuple hT
        exact ⟨_, rfl, h⟩
    · wp_walk using wpAny_loadPart' ho, wpAny_pyIter_tuple hT
      exact ⟨_, rfl, h⟩
theorem call_enumT {prog : Program} {w : World} {A : Around} {E : Value → Shared → Prop} {s : Shared} {a : Addr} {items : Array Value} {Q : Value → Shared → Prop} (hT : s.heap.IsTuple a items)
    (h : ∀ h', IsEnum h' (s.heap.objs.size + 1) s.heap.objs.size 0 .none → h'.IsTupleIter s.heap.objs.size a 0 → (∀ b o, s.heap.get? b = some o → h'.get? b = some o) → Q (.ref (s.heap.objs.size + 1)) { s with heap := h' }) :
    wpAny (model prog w) A (call (.type "enumerate") [.ref a]) Q E s := by
  refine callType_new F.called_enumerate (by decide) (F.typeCall_enumerate_1 _) (F.newCall_enumerate_1 _) (fun obj => F.args_object_init_2 obj _) F.entry_enumerate_new (meets_enumerate_newT a items) ⟨hT, ?_⟩
  have hz : (s.heap.push { cls := .type "tuple_iterator", data := .fields #[.ref a, .int 0 0] }).objs.size = s.heap.objs.size + 1 := Heap.size_push ..
  have he : IsEnum ((s.heap.push { cls := .type "tuple_iterator", data := .fields #[.ref a, .int 0 0] }).push { cls := .type "enumerate", data := .fields #[.none, .bool false, .ref s.heap.objs.size, rawInt 0, .none, .none] }) (s.heap.objs.size + 1) s.heap.objs.size 0 .none := by
    rw [← hz]; exact Heap.get?_push_size _ rfl
  show _ ∧ _
  rw [hz]
  exact ⟨⟨_, he, rfl⟩, h _ he ⟨_, Heap.get?_push_of_some _ (Heap.get?_push_size _ rfl), rfl, rfl⟩ fun b o x => Heap.get?_push_of_some _ (Heap.get?_push_of_some _ x)⟩
def iEnumT (K : PySem.W.Frag) (ta : TA) : TI := fun σ H R => ta σ H fun vs H1 => match vs with | [.ref a] => ∃ xs, SqT K H1 a xs ∧ R (IteT K a) H1 | _ => False
theorem zpi_enumT {X : Cx} {e : Expr} {ta : TA} {p pos tpos : Pos} {elts : List Expr} {kk : Nat} (hg : Gl X "enumerate") (hm : X.mg "enumerate" = none) (ha : PA X [e] ta) (hs : starEach [e] X.env = [(false, eval e X.env)] := by rfl) :
    PI X (.Tuple elts kk tpos) (.Call (.Name "enumerate" p) [e] [] pos) (iEnumT X.K ta) := by
  refine ⟨fun pins s σ H R I h => ?_⟩
  refine Call_ (ld_blt I hg hm boot_enumerate (PyProof.Rows.callWith_type1 (thn (ha.run pos pins s σ H _ I h) fun us s1 ⟨vs, H1, I1, r1, q1⟩ => ?_) hs rfl))
  dsimp only at q1
  split at q1
  · rename_i a
    obtain ⟨xs, hq, q1⟩ := q1
    cases r1 with
    | cons r rr =>
      cases rr
      cases r
      obtain ⟨its, rv, ht, hz⟩ := I1.tuple hq
      have hT : s1.heap.IsTuple a its.toArray := ht
      have far : a ≠ s1.heap.objs.size := by
        obtain ⟨_, g, _⟩ := ht
        exact Nat.ne_of_lt (Heap.lt_size g)
      refine call_enumT hT fun h' he hit hk => wpAny_pyIter_enum he ?_
      exact ⟨_, _, _, _, H1, rfl, Inv.kept (t' := s1.toks) I1 hk, turn_enumT a (Nat.succ_ne_self _) far, ⟨⟨.none, he⟩, hit⟩, numbered_new I1, q1⟩
  · exact q1.elim
theorem walk_enumT {K : PySem.W.Frag} {a : Addr} {xs : List V} : Walk (IteT K a) xs.length (fun H => SqT K H a xs) (YPair (fun i => some (.int (i : Nat))) (fun i => xs[i]?)) := by
  refine ⟨fun i _ lt q => ⟨_, xs[i], xs, q, by simp [lt], rfl⟩, fun _ q => ⟨xs, q, rfl⟩, ?_⟩
  rintro i H v H' _ q ⟨T, x, y, e, f, g, rfl, told⟩
  exact ⟨T, _, y, e, f, g, rfl, told xs q⟩
end Z

set_option Elab.async false
set_option linter.all false
set_option maxRecDepth 100000
namespace Z
open PySem PySem.Spec PyProof.Rows L2

/-! ### range of ints of any size -/
theorem turn_long {P : Program} {w : World} {K : PySem.W.Frag} {tg : Expr} (it : Addr) (lo : Int) (n : Nat) : Turn P w K tg (Itr lo n) [it] it (fun i h => IsLongIter h it (lo + (i : Nat) * 1) ((n : Int) - (i : Nat)) 1) where
  mem := .head _
  keep := fun _ _ _ st same => same _ (.head _) _ st
  self := fun _ _ _ _ _ st => wpAny_pyIter_longiter st
  obj := fun i h st b m => by
    cases List.mem_singleton.mp m
    exact ⟨_, st, nofun⟩
  done := by
    rintro X rfl rfl rfl calm i pins s σ H E I free st (ge : n ≤ i)
    refine wpAny_pyNext_long_end (I.ok.hd calm) st (by omega) fun h1 old => ⟨rfl, ?_⟩
    exact Inv.turnedL (t' := s.toks) I (fun b o nb g => old b o (fun e => nb (e ▸ .head _)) g) free
  item := by
    rintro X rfl rfl rfl calm i pins s σ H E I free st lt
    refine (Walks.longrange (I.ok.hd calm) it lo 1 n).item i s _ _ lt st fun v h1 t1 ⟨t, ev⟩ st1 old => ⟨_, rfl, ?_⟩
    subst ev
    have on : Inv X pins σ H { s with heap := h1, toks := t1 } := Inv.turnedL I old free
    exact go_of (s := { s with heap := h1, toks := t1 }) (n := "longrange_iterator") st1 rfl rfl (by decide) ⟨.int (lo + i), H, on, ⟨t, by simp⟩, ⟨rfl, rfl⟩, st1, fun b m => (free b m).1⟩
/-- a range that was just made, iterated: short or long -/
theorem range_itW {X : Cx} {tg : Expr} {pins : List (Addr × Obj)} {σ : L2.St} {H : Hp} {s : Shared} {R : It → Hp → Prop} {E : Value → Shared → Prop} {lo hi : Int} {t u v : Tok} {tk : Nat} (I : Inv X pins σ H s)
    (q : R (Itr lo (hi - lo).toNat) H) : wpAny (model X.prog X.w) X.A (pyIter (.ref s.heap.objs.size)) (PIE X pins σ tg R) E { s with heap := s.heap.push { cls := .type "range", data := .fields #[.int lo t, .int hi u, .int 1 v] }, toks := tk } := by
  have made : Inv X pins σ H { s with heap := s.heap.push { cls := .type "range", data := .fields #[.int lo t, .int hi u, .int 1 v] }, toks := tk } := Inv.kept I fun b o => Heap.get?_push_of_some _
  have many : Builtin.Range.rangeSize lo hi 1 = (((hi - lo).toNat : Nat) : Int) := by
    rw [rangeSize_one]
    split <;> omega
  have from0 : lo + ((0 : Nat) : Int) * 1 = lo := by simp
  have left0 : (((hi - lo).toNat : Nat) : Int) - ((0 : Nat) : Int) = Builtin.Range.rangeSize lo hi 1 := by simp [many]
  have own := fun b (m : b ∈ [(s.heap.push { cls := .type "range", data := .fields #[.int lo t, .int hi u, .int 1 v] }).objs.size]) => (List.mem_singleton.mp m).symm ▸ Inv.fpOk made (Nat.le_refl _) (HOk.fresh made.hok (Nat.le_refl _))
  cases y : Builtin.Range.small lo hi 1 with
  | true => exact wpAny_pyIter_range (IsRange.new ..) y ⟨_, _, _, _, H, rfl, Inv.kept (t' := tk) made fun b o => Heap.get?_push_of_some _, turn_range _ lo _, from0.symm ▸ left0.symm ▸ Heap.get?_push_size _ rfl, own, q⟩
  | false => exact wpAny_pyIter_longrange (IsRange.new ..) y ⟨_, _, _, _, H, rfl, Inv.kept (t' := tk) made fun b o => Heap.get?_push_of_some _, turn_long _ lo _, from0.symm ▸ left0.symm ▸ Heap.get?_push_size _ rfl, own, q⟩
section
variable {X : Cx} {tg : Expr}
def iRngW (ta : TA) : TI := fun σ H R => ta σ H fun vs H1 => match vs with | [.int i, .int j] => R (Itr i (j - i).toNat) H1 | _ => False
theorem zpi_range2 {a b : Expr} {ta : TA} {p pos : Pos} (hg : Gl X "range") (hm : X.mg "range" = none) (ha : PA X [a, b] ta) (hs : starEach [a, b] X.env = [(false, eval a X.env), (false, eval b X.env)] := by rfl) (hs2 : starEach [b] X.env = [(false, eval b X.env)] := by rfl) :
    PI X tg (.Call (.Name "range" p) [a, b] [] pos) (iRngW ta) := by
  refine ⟨fun pins s σ H R I h => ?_⟩
  refine Call_ (ld_blt I hg hm boot_range (PyProof.Rows.callWith_type1 (thn (ha.run pos pins s σ H _ I h) fun us s1 ⟨vs, H1, I1, r1, q1⟩ => ?_) (by rw [hs, hs2]) (by rw [hs2]; rfl)))
  dsimp only at q1
  split at q1
  · cases r1 with
    | cons r rr =>
      cases rr with
      | cons r' rr =>
        cases rr
        obtain ⟨t, rfl⟩ := r
        obtain ⟨t', rfl⟩ := r'
        exact call_range_2 (range_itW I1 q1)
  · exact q1.elim
/-! ### xs[i] op= e -/
theorem zget : PGet X (zIxL X.K) := by
  intro pins s σ H x y v u Q I rx ry h
  unfold zIxL at h
  split at h
  case h_2 => exact h.elim
  rename_i p i
  obtain ⟨xs, z, known, item, q⟩ := h
  cases rx
  obtain ⟨t, rfl⟩ := ry
  obtain ⟨us, same, at1, short⟩ := I.list known
  obtain ⟨j, place, found, lt, low, high⟩ := atI_get item
  obtain ⟨g, here, rel⟩ := Vals.get same found
  have size : us.toArray.size = xs.length := by rw [List.size_toArray, same.length]
  have limit := line63
  have told : EP X pins σ Q g s := ⟨z, H, I, rel, q⟩
  rcases Int.lt_or_le i 0 with neg | nonneg
  · have there : (i + (us.toArray.size : Int)).toNat = j := by
      have := (seqIndex_neg neg low).symm.trans place
      rw [size]
      exact Option.some.inj this
    refine wpAny_getItem_list_neg at1.isList neg ?_ ?_ (there ▸ (by simpa using here)) told <;> omega
  · have there : i.toNat = j := Option.some.inj ((seqIndex_of nonneg high).symm.trans place)
    refine wpAny_getItem_list at1.isList nonneg ?_ (there ▸ (by simpa using here)) told
    omega
def zipI (C : Int → Int → Prop) (g : Int → Int → Int) : TIp := fun x y H Q => match x, y with | .int i, .int j => C i j ∧ Q (.int (g i j)) H | _, _ => False
def zipI0 (g : Int → Int → Int) : TIp := fun x y H Q => match x, y with | .int i, .int j => Q (.int (g i j)) H | _, _ => False
theorem zip_add : PIp X .Add (zipI0 fun i j => i + j) := fun pins s σ H x y v u Q I rx ry h => by
  unfold zipI0 at h
  split at h
  · exact ip_add pins s σ H _ _ v u Q I rx ry ⟨_, _, rfl, rfl, h⟩
  · exact h.elim
theorem zip_sub : PIp X .Sub (zipI0 fun i j => i - j) := fun pins s σ H x y v u Q I rx ry h => by
  unfold zipI0 at h
  split at h
  · exact ip_sub pins s σ H _ _ v u Q I rx ry ⟨_, _, rfl, rfl, h⟩
  · exact h.elim
theorem mulOk_of {i j : Int} (c : MulOk i j) : IntMulOk i j := by
  rcases c with c | c | c
  · exact CMul.ok (.inl c)
  · exact CMul.ok (.inr c)
  · exact c.ok
theorem zip_mul : PIp X .Mult (zipI MulOk fun i j => i * j) := fun pins s σ H x y v u Q I rx ry h => by
  unfold zipI at h
  split at h
  · obtain ⟨c, q⟩ := h
    obtain ⟨t, rfl⟩ := rx
    obtain ⟨t', rfl⟩ := ry
    exact imul_int ⟨.int _, H, I.tok _, ⟨_, rfl⟩, q⟩ (mulOk_of c)
  · exact h.elim
theorem zip_fdiv : PIp X .FloorDiv (zipI DivOk fun i j => i / j) := fun pins s σ H x y v u Q I rx ry h => by
  unfold zipI at h
  split at h
  · obtain ⟨⟨c0, c⟩, q⟩ := h
    rcases c with c | c
    · exact iop_fdiv pins s σ H _ _ v u Q I rx ry ⟨_, _, rfl, rfl, ⟨c0, c⟩, q⟩
    · exact iop_fdivW pins s σ H _ _ v u Q I rx ry ⟨_, _, rfl, rfl, wide_div (b := 9000) c0 c (by decide) (Nat.le_refl _), q⟩
  · exact h.elim
/-! ### divmod, the dividend below 2 ** 4000 -/
theorem zdivmodW : CallR X (.builtin "divmod") (z2I fun i j H Q => (0 < j ∧ i.natAbs < 2 ^ 4000) ∧ New H (.tup [.int (i / j), .int (i % j)]) Q) := callM call_divmodW fun xs H Q q => by
  unfold z2I at q
  split at q
  · obtain ⟨⟨h0, h⟩, q⟩ := q
    exact ⟨_, _, rfl, divp_ok h0 (Nat.le_trans (PyProof.Rows.intBits_le h) (Nat.le_add_left _ _)), q.up⟩
  · exact q.elim
end
end Z

set_option Elab.async false
set_option linter.all false
set_option maxRecDepth 100000
namespace Z
open PySem PySem.Spec PyProof.Rows L2
section
variable {X : Cx}
/-- t + u of tuples, neither empty -/
def zTCat (K : PySem.W.Frag) : R2 := fun x y H Q => match x, y with | .ref l, .ref b => ∃ xs zs, SqT K H l xs ∧ SqT K H b zs ∧ (xs ≠ [] ∧ zs ≠ []) ∧ xs.length + zs.length ≤ sizeLine ∧ New H (.tup (xs ++ zs)) Q | _, _ => False
theorem ztcat : OpR X (binaryOp .Add) (zTCat X.K) := opM op_catT fun x y H Q q => by
  unfold zTCat at q
  split at q
  · obtain ⟨xs, zs, h1, h2, ⟨h3, h4⟩, h5, q⟩ := q
    exact ⟨_, _, xs, zs, rfl, rfl, h1, h2, h3, h5, fun e => absurd e h4, fun _ => q.up⟩
  · exact q.elim
/-- t * k -/
def zTRep (K : PySem.W.Frag) : R2 := fun x y H Q => match x, y with | .ref l, .int k => ∃ xs, SqT K H l xs ∧ (xs ≠ [] ∧ 2 ≤ k ∧ k ≤ 1000 ∧ xs.length ≤ 1000) ∧ New H (.tup (List.replicate k.toNat xs).flatten) Q | _, _ => False
theorem zmulT : OpR X (binaryOp .Mult) (zTRep X.K) := opM op_repT fun x y H Q q => by
  unfold zTRep at q
  split at q
  · obtain ⟨xs, h1, ⟨h2, h3, h4, h5⟩, q⟩ := q
    exact ⟨_, _, xs, rfl, rfl, h1, h2, h3, h4, h5, q.up⟩
  · exact q.elim
end
end Z

set_option Elab.async false
set_option linter.all false
set_option maxRecDepth 100000
/-! zip of two rows, each a list or a tuple -/
namespace Z
open PySem PySem.Spec PyProof.Rows L2
/-- a tuple (true) or a list (false) -/
def SqB (K : PySem.W.Frag) : Bool → Hp → Addr → List V → Prop
  | true => fun H a xs => SqT K H a xs
  | false => fun H a xs => SqL K H a xs
def IterB : Bool → Heap → Addr → Addr → Nat → Prop
  | true => fun h it l i => h.IsTupleIter it l i
  | false => fun h it l i => h.IsListIter it l i
def IsB : Bool → Heap → Addr → Array Value → Prop
  | true => fun h l vs => h.IsTuple l vs
  | false => fun h l vs => h.IsList l vs
def objB : Bool → Addr → Obj
  | true => fun l => { cls := .type "tuple_iterator", data := .fields #[.ref l, .int 0 0] }
  | false => fun l => { cls := .type "list_iterator", data := .fields #[.ref l, .int 0 0] }
theorem drawsB {prog : Program} {w : World} {A : Around} (b : Bool) (hh : A.handled = none) (it l : Addr) (hne : l ≠ it) (items : Array Value) :
    Draws prog w A it [it, l] items.size (fun i v => items[i]? = some v) (fun i h => IterB b h it l i ∧ IsB b h l items) := by
  cases b
  · exact Draws.list hh it l hne items
  · exact Draws.tuple hh it l hne items
theorem beginsB (b : Bool) (l : Addr) (items : Array Value) : Begins (.ref l) (objB b l) fun h => IsB b h l items := by
  cases b
  · exact begins_list l items
  · exact begins_tuple l items
theorem IterB.at {b : Bool} {h h' : Heap} {it l : Addr} {i : Nat} (x : IterB b h it l i) (k : ∀ o, h.get? it = some o → h'.get? it = some o) : IterB b h' it l i := by
  cases b
  · obtain ⟨o, ho, r⟩ := x; exact ⟨o, k _ ho, r⟩
  · obtain ⟨o, ho, r⟩ := x; exact ⟨o, k _ ho, r⟩
theorem IterB.cell {b : Bool} {h : Heap} {it l : Addr} {i : Nat} (x : IterB b h it l i) : ∃ o, h.get? it = some o ∧ o.data = .fields #[.ref l, .int i 0] := by
  cases b
  · obtain ⟨o, ho, _, r⟩ := x; exact ⟨o, ho, r⟩
  · obtain ⟨o, ho, _, r⟩ := x; exact ⟨o, ho, r⟩
theorem iterB_new {b : Bool} {h : Heap} {it l : Addr} (e : h.get? it = some (objB b l)) : IterB b h it l 0 := by
  cases b
  · exact ⟨_, e, rfl, rfl⟩
  · exact ⟨_, e, rfl, rfl⟩
theorem IsB.lt {b : Bool} {h : Heap} {l : Addr} {vs : Array Value} (x : IsB b h l vs) : l < h.objs.size := by
  cases b
  · obtain ⟨o, ho, _⟩ := x; exact Heap.lt_size ho
  · obtain ⟨o, ho, _⟩ := x; exact Heap.lt_size ho
section
variable {X : Cx} {pins : List (Addr × Obj)} {σ : L2.St} {H : Hp} {s : Shared}
theorem invB {b : Bool} {a : Addr} {xs : List V} (I : Inv X pins σ H s) (h : SqB X.K b H a xs) : ∃ its, Vals xs its ∧ IsB b s.heap a its.toArray := by
  cases b
  · obtain ⟨its, rv, p, _⟩ := I.list h; exact ⟨its, rv, p.isList⟩
  · obtain ⟨its, rv, p, _⟩ := I.tuple h; exact ⟨its, rv, p⟩
theorem injB {b : Bool} {a : Addr} {xs ys : List V} (I : Inv X pins σ H s) (h : SqB X.K b H a xs) (h2 : SqB X.K b H a ys) : xs = ys := by
  cases b
  · exact I.list_inj h h2
  · exact I.tuple_inj h h2
end
def ItzB (K : PySem.W.Frag) (b1 b2 : Bool) (a b : Addr) : It :=
  ItP (fun i H x y => ∃ xs ys : List V, (SqB K b1 H a xs ∧ SqB K b2 H b ys) ∧ xs[i]? = some x ∧ ys[i]? = some y)
    (fun i H x y => ∀ xs ys : List V, SqB K b1 H a xs → SqB K b2 H b ys → xs[i]? = some x ∧ ys[i]? = some y)
    (fun i H => ∃ xs ys : List V, (SqB K b1 H a xs ∧ SqB K b2 H b ys) ∧ xs.length = i ∧ ys.length = i)
theorem sepB {z TI TO i1 i2 a b : Addr} (D : ZipApart z TI TO i1 i2 a b) : ZipSep2 z TI TO i1 i2 [i1, a] [i2, b] where
  TIz := D.TIz
  TOz := D.TOz
  TITO := D.TITO
  TIi1 := D.TIi1
  mem1 := List.mem_cons_self
  zf1 := fun h => by
    rcases List.mem_cons.mp h with e | e
    · exact D.i1z e.symm
    · exact D.l1z (List.mem_singleton.mp e).symm
  Tf1 := fun h => by
    rcases List.mem_cons.mp h with e | e
    · exact D.TOi1 e
    · exact D.l1TO (List.mem_singleton.mp e).symm
  TIi2 := D.TIi2
  mem2 := List.mem_cons_self
  zf2 := fun h => by
    rcases List.mem_cons.mp h with e | e
    · exact D.i2z e.symm
    · exact D.l2z (List.mem_singleton.mp e).symm
  Tf2 := fun h => by
    rcases List.mem_cons.mp h with e | e
    · exact D.TOi2 e
    · exact D.l2TO (List.mem_singleton.mp e).symm
  sep1_2 := fun h => by
    rcases List.mem_cons.mp h with e | e
    · exact D.i12 e
    · exact D.l2i1 (List.mem_singleton.mp e).symm
  sep2_1 := fun h => by
    rcases List.mem_cons.mp h with e | e
    · exact D.i12 e.symm
    · exact D.l1i2 (List.mem_singleton.mp e).symm
/-- the cells of a zip -/
abbrev zCells (z TI TO i1 i2 : Addr) : List Addr := [z, TI, TO, i1, i2]
theorem turn_zipB {P : Program} {w : World} {K : PySem.W.Frag} {elts : List Expr} {kk : Nat} {tpos : Pos} {b1 b2 : Bool} {a b z TI TO i1 i2 : Addr} (D : ZipApart z TI TO i1 i2 a b) :
    Turn P w K (.Tuple elts kk tpos) (ItzB K b1 b2 a b) (zCells z TI TO i1 i2) z (fun i h => IsZip h z TI TO .none ∧ IsTupOf2 h TI (.ref i1) (.ref i2) ∧ (∃ x y, IsTupOf2 h TO x y) ∧ IterB b1 h i1 a i ∧ IterB b2 h i2 b i) := by
  have sub : ∀ c ∈ [z, TO, i1, i2], c ∈ zCells z TI TO i1 i2 := by
    intro c m
    simp at m
    rcases m with rfl | rfl | rfl | rfl <;> simp
  refine turn_pairs (.head _) ?_ ?_ (fun A i s Q E st h => wpAny_pyIter_zip st.1 h) ?_ ?_
  · rintro i h ⟨cz, cI, ⟨_, _, cO⟩, k1, k2⟩ c m
    obtain ⟨o1, g1, q1⟩ := k1.cell
    obtain ⟨o2, g2, q2⟩ := k2.cell
    simp at m
    rcases m with rfl | rfl | rfl | rfl | rfl
    · exact ⟨_, cz, nofun⟩
    · exact ⟨_, cI, nofun⟩
    · exact ⟨_, cO, nofun⟩
    · exact ⟨o1, g1, fun v => by simp [q1]⟩
    · exact ⟨o2, g2, fun v => by simp [q2]⟩
  · rintro i h h2 ⟨cz, cI, ⟨x, y, cO⟩, k1, k2⟩ same
    exact ⟨same _ (by simp) _ cz, same _ (by simp) _ cI, ⟨x, y, same _ (by simp) _ cO⟩, k1.at fun o => same _ (by simp) o, k2.at fun o => same _ (by simp) o⟩
  · rintro X rfl rfl rfl calm i pins s σ H I ⟨cz, cI, cO, k1, k2⟩ x y ⟨xs, ys, ⟨hx, hy⟩, ex, ey⟩
    refine ⟨fun xs' ys' hx' hy' => ⟨injB I hx' hx ▸ ex, injB I hy' hy ▸ ey⟩, ⟨?_⟩⟩
    obtain ⟨us, vus, isu⟩ := invB I hx
    obtain ⟨vs, vvs, isv⟩ := invB I hy
    obtain ⟨u, gu, ru⟩ := vus.get ex
    obtain ⟨v, gv, rv⟩ := vvs.get ey
    have lu := (List.getElem?_eq_some_iff.mp gu).1
    have lv := (List.getElem?_eq_some_iff.mp gv).1
    refine ⟨_, _, _, _, _, _, WalksT.zipD2 (sepB D) (drawsB (prog := X.prog) (w := X.w) (A := X.A.in1) b1 (I.ok.hd calm) i1 a D.l1i1 us.toArray) (drawsB (prog := X.prog) (w := X.w) (A := X.A.in1) b2 (I.ok.hd calm) i2 b D.l2i2 vs.toArray), sub, ⟨cz, cI, cO, ⟨k1, isu⟩, ⟨k2, isv⟩⟩, ?_, ?_, fun h st => ⟨st.1, st.2.1, st.2.2.1, st.2.2.2.1.1, st.2.2.2.2.1⟩⟩
    · show i < min us.toArray.size vs.toArray.size
      simp only [List.size_toArray]
      omega
    · rintro vals ⟨p, q, hp, hq, rfl⟩
      have ep : p = u := by simpa [gu] using hp.symm
      have eq : q = v := by simpa [gv] using hq.symm
      exact ⟨p, q, rfl, ep ▸ ru, eq ▸ rv⟩
  · rintro X rfl rfl rfl calm i pins s σ H I ⟨cz, cI, cO, k1, k2⟩ ⟨xs, ys, ⟨hx, hy⟩, lx, ly⟩
    obtain ⟨us, vus, isu⟩ := invB I hx
    obtain ⟨vs, vvs, isv⟩ := invB I hy
    have := vus.length
    have := vvs.length
    refine ⟨⟨_, _, _, _, _, _, WalksT.zipD2 (sepB D) (drawsB (prog := X.prog) (w := X.w) (A := X.A.in1) b1 (I.ok.hd calm) i1 a D.l1i1 us.toArray) (drawsB (prog := X.prog) (w := X.w) (A := X.A.in1) b2 (I.ok.hd calm) i2 b D.l2i2 vs.toArray), sub, ⟨cz, cI, cO, ⟨k1, isu⟩, ⟨k2, isv⟩⟩, ?_, fun vals hv => ?_, fun h st => ⟨st.1, st.2.1, st.2.2.1, st.2.2.2.1.1, st.2.2.2.2.1⟩⟩⟩
    · show min us.toArray.size vs.toArray.size = i
      simp only [List.size_toArray]
      omega
    · obtain ⟨p, q, _, _, rfl⟩ := hv
      exact ⟨p, q, rfl, trivial⟩
def iZipB (K : PySem.W.Frag) (ta : TA) : TI := fun σ H R => ta σ H fun vs H1 => match vs with | [.ref a, .ref b] => ∃ (b1 b2 : Bool) (xs ys : List V), SqB K b1 H1 a xs ∧ SqB K b2 H1 b ys ∧ R (ItzB K b1 b2 a b) H1 | _ => False
theorem zpi_zipB {X : Cx} {e e2 : Expr} {ta : TA} {p pos tpos : Pos} {elts : List Expr} {kk : Nat} (hg : Gl X "zip") (hm : X.mg "zip" = none) (ha : PA X [e, e2] ta)
    (hs : starEach [e, e2] X.env = (false, eval e X.env) :: starEach [e2] X.env := by rfl) (hpl : (backTo pos (starEach [e2] X.env)).any (·.1) = false := by rfl) :
    PI X (.Tuple elts kk tpos) (.Call (.Name "zip" p) [e, e2] [] pos) (iZipB X.K ta) := by
  refine ⟨fun pins s σ H R I h => ?_⟩
  refine Call_ (ld_blt I hg hm PyProof.Rows.boot_zip (PyProof.Rows.callWith_type1 (thn (ha.run pos pins s σ H _ I h) fun us s1 ⟨vs, H1, I1, r1, q1⟩ => ?_) hs hpl))
  dsimp only at q1
  split at q1
  · rename_i a b
    obtain ⟨b1, b2, xs, ys, hqx, hqy, q⟩ := q1
    cases r1 with
    | cons r rr =>
      cases rr with
      | cons r' rr =>
        cases rr
        cases r
        cases r'
        have new5 : ∀ c ∈ zCells (s1.heap.objs.size + 4) (s1.heap.objs.size + 2) (s1.heap.objs.size + 3) s1.heap.objs.size (s1.heap.objs.size + 1), FpOk X pins H1 c := fun c m => by
          have big : s1.heap.objs.size ≤ c := by
            simp at m
            rcases m with rfl | rfl | rfl | rfl | rfl <;> first | exact Nat.le_refl _ | exact Nat.le_add_right _ _
          exact Inv.fpOk I1 big (HOk.fresh I1.hok big)
        obtain ⟨its, rv, p1⟩ := invB I1 hqx
        obtain ⟨its2, rv2, p2⟩ := invB I1 hqy
        refine zip_begins2 (beginsB b1 a its.toArray) (beginsB b2 b its2.toArray) p1 p2 fun h' hz hTI hTO h1 h2 hsz hk => wpAny_pyIter_zip hz ?_
        have begun := Inv.kept (t' := s1.toks) I1 hk
        exact ⟨_, zCells _ _ _ _ _, _, _, H1, rfl, begun, turn_zipB (b1 := b1) (b2 := b2) (PySem.W.ktu_apart s1.heap.objs.size a b p1.lt p2.lt), ⟨hz, hTI, ⟨_, _, hTO⟩, iterB_new h1, iterB_new h2⟩, new5, q⟩
  · exact q1.elim
theorem walk_zipB {K : PySem.W.Frag} {b1 b2 : Bool} {a b : Addr} {xs ys : List V} {n : Nat} (h1 : xs.length = n) (h2 : ys.length = n) : Walk (ItzB K b1 b2 a b) n (fun H => SqB K b1 H a xs ∧ SqB K b2 H b ys) (YPair (fun i => xs[i]?) (fun i => ys[i]?)) := by
  subst h1
  refine ⟨fun i _ lt q => ⟨xs[i], ys[i], xs, ys, q, by simp [lt], by simp [h2, lt]⟩, fun _ q => ⟨xs, ys, q, rfl, h2⟩, ?_⟩
  rintro i H v H' _ q ⟨T, x, y, e, f, g, told⟩
  exact ⟨T, x, y, e, f, g, told xs ys q.1 q.2⟩
/-- a tuple or a list that is tracked -/
def seqO : Bool → List V → HO
  | true => fun xs => .tup xs
  | false => fun xs => .lst xs
theorem sqB {K : PySem.W.Frag} {b : Bool} {H : Hp} {a : Addr} {xs : List V} (h : H a = some (seqO b xs)) : SqB K b H a xs := by
  cases b
  · exact .inl (.inl h)
  · exact .inl (.inl h)
def zNeg : V → Hp → VK → Prop := fun x H Q => match x with | .int i => Q (.int (-i)) H | _ => False
theorem zneg {X : Cx} : UnR X (unaryOp .USub) zNeg := fun pins s σ H x v Q I rx h => by
  unfold zNeg at h
  split at h
  · exact un_neg pins s σ H _ v Q I rx ⟨_, rfl, h⟩
  · exact h.elim
def zSlS : V → Option Int → Option Int → Hp → VK → Prop := fun x lo hi H Q => match x with | .str z => z.length ≤ sizeLine ∧ Q (.str (cutS z lo hi)) H | _ => False
theorem zslS {X : Cx} : SlR X zSlS := slM sl_str fun x lo hi H Q q => by
  unfold zSlS at q
  split at q
  · exact ⟨_, rfl, q⟩
  · exact q.elim
theorem zlstrip {X : Cx} : MtR X "str.lstrip" (fun x xs H Q => match x, xs with | .str a, [.str b] => a.length ≤ sizeLine ∧ Q (.str (Txt.lstripChars a b)) H | _, _ => False) := mtM mt_lstripChars fun x xs H Q q => by
  split at q
  · exact ⟨_, _, rfl, rfl, q⟩
  · exact q.elim
end Z

set_option Elab.async false
set_option linter.all false
set_option maxRecDepth 100000
set_option maxHeartbeats 4000000
/-! exceptions: a caught one that is kept behind its suite -/
namespace Z
open PySem PySem.Spec PyProof.Rows L2
/-- an exception object of the class cls, with the dict d, raised or not, at a -/
def ExK (cls : Value) (d : Option Addr) (a : Addr) : HO := .ext fun h => ∃ (oe : Obj) (vs : Array Value), h.get? a = some oe ∧ Zc cls d oe ∧ oe.data = .fields vs
theorem exK_ok {P : Program} {w : World} {H : Hp} {h : Heap} {a : Addr} {cls : Value} {d : Option Addr} {oe : Obj} {vs : Array Value} (e : h.get? a = some oe) (z : Zc cls d oe) (hd : oe.data = .fields vs) : ObjOk P w H h a (ExK cls d a) :=
  ⟨⟨oe, vs, e, z, hd⟩, ⟨oe, e⟩, fun _ _ ⟨o, v, q, r⟩ k => ⟨o, v, k o q, r⟩⟩
section
variable {X : Cx} {pins : List (Addr × Obj)} {σ : L2.St} {H : Hp} {s : Shared}
theorem Inv.trackN {a : Addr} {o : HO} (I : Inv X pins σ H s) (n0 : X.s_0.heap.get? a = none) (na : H a = none) (nL : a ≠ X.env.locals) (nC : ∀ x c, X.env.cells.lookup x = some c → c ≠ a) (np : ∀ p ∈ X.pn ++ pins, p.1 ≠ a)
    (new : ObjOk X.prog X.w (upd H a o) s.heap a o) : Inv X pins σ (upd H a o) s where
  ok := I.ok
  os := I.os
  bare := I.bare
  base := {
    keep := I.base.keep
    slot := I.base.slot
    free := fun b u q n hx => by rw [upd_ne (fun z => by rw [z, n0] at q; cases q)]; exact I.base.free b u q n hx
    there := I.base.there
    tups := fun b xs q => by rw [upd_ne (ne_of_none (I.base.tups b xs q) na)]; exact I.base.tups b xs q
    frzs := fun b u v q => by rw [upd_ne (ne_of_none (I.base.frzs b u v q) na)]; exact I.base.frzs b u v q
    tbls := fun b ps q => by
      obtain ⟨m, z⟩ := I.base.tbls b ps q
      exact ⟨m, by rw [upd_ne (ne_of_none z na)]; exact z⟩ }
  loc := I.loc
  cell := I.cell
  free := by rw [upd_ne (Ne.symm nL)]; exact I.free
  freeC := fun x c e => by rw [upd_ne (nC x c e)]; exact I.freeC x c e
  pin := fun p hp => by
    obtain ⟨e, n, r⟩ := I.pin p hp
    exact ⟨e, by rw [upd_ne (np p hp)]; exact n, r⟩
  hok := fun b u e => by
    by_cases hb : b = a
    · subst hb
      rw [upd_same] at e
      cases e
      exact new
    · rw [upd_ne hb] at e
      exact (I.hok b u e).stay (fun c v _ q => q) (fun c q => by rw [upd_ne (ne_of_none q na)]; exact q) fun c xs q => by rw [upd_ne (ne_of_none q na)]; exact q
  len := I.len
end
/-- an address that was not there before, of which B, the ground of all that was, says nothing -/
structure Strange (X : Cx) (pins : List (Addr × Obj)) (a : Addr) : Prop where
  start : X.s_0.heap.get? a = none
  frame : a ≠ X.env.locals
  cells : ∀ x c, X.env.cells.lookup x = some c → c ≠ a
  pinned : ∀ p ∈ X.pn ++ pins, p.1 ≠ a
  outer : a ∉ X.fs
section
variable {X : Cx} {pins : List (Addr × Obj)} {σ : L2.St} {H : Hp} {sI : Shared} {B : Heap} {a : Addr}
theorem strange_of (I : Inv X pins σ H sI) (hs : X.stack = X.env :: X.outer) (hf : X.env.frame = some X.env.locals) (hex : X.ex = []) (ground : ∀ b o, sI.heap.get? b = some o → b ∉ frs X.stack → B.get? b = some o) (nB : B.get? a = none) (nf : a ∉ frs (X.env :: X.outer)) : Strange X pins a := by
  have out : ∀ {b : Addr}, (∃ o, sI.heap.get? b = some o) → b ≠ a := by
    rintro b ⟨o, e⟩ rfl
    have e2 := ground b o e (hs ▸ nf)
    exact nomatch nB.symm.trans e2
  have old : ¬ ∃ o, X.s_0.heap.get? a = some o := fun ⟨o, e⟩ => out (I.base.there a o e (by simp [hex])) rfl
  constructor
  · cases q : X.s_0.heap.get? a with
    | none => rfl
    | some o => exact absurd ⟨o, q⟩ old
  · rintro rfl
    exact nf (List.mem_filterMap.mpr ⟨_, .head _, hf⟩)
  · intro x c e
    obtain ⟨_, o, ho, _⟩ := I.cell x c e
    exact out ⟨o, ho⟩
  · exact fun p hp => out ⟨p.2, (I.pin p hp).1⟩
  · intro m
    obtain ⟨e, m1, m2⟩ := List.mem_filterMap.mp m
    exact nf (List.mem_filterMap.mpr ⟨e, .tail _ m1, m2⟩)
/-- what is behind the suite: the exception's object stands, and may be tracked -/
theorem behind_suite {oe : Obj} {vs : Array Value} {cls : Value} {d : Option Addr} {s : Shared} (S : Strange X pins a) (z : Zc cls d oe) (dv : oe.data = .fields vs) (I : Inv X ((a, oe) :: pins) σ H s) : Inv X pins σ (upd H a (ExK cls d a)) s := by
  have here := I.pin (a, oe) (by simp)
  have J : Inv X pins σ H s := { I with pin := fun p hp => I.pin p (by
    rcases List.mem_append.mp hp with h | h
    · simp [h]
    · simp [h]) }
  exact Inv.trackN J S.start here.2.1 S.frame S.cells S.pinned (exK_ok here.1 z dv)
end
/-- what the clause 'except x as n' wishes of what is in the air: it is of the class, and the suite, that runs on, keeps it as a value -/
def wKeep (K : PySem.W.Frag) (c : Value) (i : Nat) (ts : Addr → Value → Option Addr → TS) (D : Ends) : WX := fun cls d σ H =>
  PySem.W.exmOne K cls c = some true ∧ ∀ a, H a = none → ts a cls d { nx := fun σ' H' => D.nx (σ'.set i none) (upd H' a (ExK cls d a)), rt := fun _ _ => False, bk := fun _ _ => False, ct := fun _ _ => False } (σ.set i (some (.ref a))) H
section
variable {X : Cx} {x n : Str} {c : Value} {i : Nat} {body suite : List Stmt} {b₀ : Stmt} {np pos pos' : Pos} {tb : WX → TS} {ts : Addr → Value → Option Addr → TS}
/-- try: body, except x as n: suite, where the exception is kept behind the suite (after the library's ps_try_as) -/
theorem ps_try_keep (hs : X.stack = X.env :: X.outer) (hf : X.env.frame = some X.env.locals) (hex : X.ex = []) (hN : X.N.Nodup) (hi : X.N[i]? = some n) (hln : X.env.kindOf n = some .local) (hg : Gl X x) (hdg : (x == ("__debug__" : Str)) = false) (hm : X.mg x = some c)
    (hb : ∀ (W : WX) (pn : List (Addr × Obj)) (xe : Value → Shared → Prop), Takes (X.tr pn xe) W → PSs (X.tr pn xe) body (tb W))
    (hsu : ∀ (a : Addr) (oe : Obj) (cls : Value) (d : Option Addr) (pn : List (Addr × Obj)), Zc cls d oe → (∃ vs, oe.data = .fields vs) → PSs (X.suite a ((a, oe) :: pn)) (b₀ :: suite) (ts a cls d)) :
    PS X (.Try body [.ExceptHandler (some (.Name x np)) (some n) (b₀ :: suite) pos'] [] [] pos) (fun D σ H => tb (wKeep X.K c i ts D) D σ H) := by
  constructor
  intro pins s σ H D I h
  have frm := (I.ok.frames).trans (congrArg some hs)
  let air : Value → Shared → Prop := fun e t1 => wpAny (model X.prog X.w) X.A (noteFrame e X.env) (fun _ t2 => wpAny (model X.prog X.w) X.A (setFlight e none) (fun _ t3 =>
    wpAny (model X.prog X.w) X.A (handleBy e X.env [.ExceptHandler (some (.Name x np)) (some n) (b₀ :: suite) pos']) (SP X pins D) X.xe t3) X.xe t2) X.xe t1
  have taken : Takes (X.tr (X.pn ++ pins) air) (wKeep X.K c i ts D) := by
    rintro u t ⟨a, B, sI, pins', σ1, H1, cls, d, rfl, J1, ground, up, sky, na, os, ag, hex1, go⟩
    have J : Inv X pins σ1 H1 sI := J1.ofTry I.ok
    show wpAny _ X.A (noteFrame (.ref a) X.env) _ _ _
    refine Sky.land Zc.steady frm hf (hs ▸ sky) fun hA flA upA => ?_
    obtain ⟨oA, vA, getA, zA, dA⟩ := flA.there
    have apart : a ∉ frs (X.env :: X.outer) := fun m => by
      obtain ⟨_, o2, g2, nd⟩ := flA.2.2.1.mem m
      cases getA.symm.trans g2
      exact nd _ dA
    have St := strange_of J hs hf hex ground flA.2.1 apart
    have LA := (J.landed ground flA.1 (up.trans upA) os ag : Inv X pins σ1 H1 { t with heap := hA })
    have SA := LA.suite getA dA na St.frame St.outer
    refine wpAny_handleBy_cons (codeAny_handlers_test ?_) nofun
    refine ld_glob (X := X.suite a ((a, oA) :: (X.pn ++ pins))) SA hg hm ?_ hdg
    refine (PySem.W.exm_one (M := model X.prog X.w) LA.kIn (fun A Q E s k q => wpAny_typeOf_ref (k _ _ getA) (zA.1 ▸ q)) hex1).here ?_
    refine codeAny_handlers_suite_as (HandSPX.lands_againZ flA fun hC flC upC => ?_)
    obtain ⟨oC, vC, getC, zC, dC⟩ := flC.there
    have SC := (J.landed ground flC.1 ((up.trans upA).trans upC) os ag : Inv X pins σ1 H1 { t with heap := hC }).suite getC dC na St.frame St.outer
    refine store_ok (X := X.suite a ((a, oC) :: (X.pn ++ pins))) (v := .ref a) SC hN hi (.inl hln) rfl (fun tD SD => ?_) (.inr hln)
    refine wpAny_mono ((hsu a oC cls d (X.pn ++ pins) zC ⟨_, dC⟩).run [] tD _ H1 _ SD (go a na)) ?_ fun _ _ z => z.elim
    intro f tE hE
    cases f with
    | next =>
      obtain ⟨σE, HE, SE, qE⟩ := hE
      have PE' : Inv X ((a, oC) :: pins) σE HE tE := { SE with ok := I.ok, pin := fun p hp => SE.pin p (by
        show p ∈ ((a, oC) :: (X.pn ++ pins)) ++ []
        rcases List.mem_append.mp hp with h | h
        · simp [h]
        · rcases List.mem_cons.mp h with h | h <;> simp [h]) }
      exact gone_ok PE' hN hi hln fun tF JF => ⟨_, _, behind_suite St zC dC JF, qE⟩
    | brk => obtain ⟨_, _, _, z⟩ := hE; exact z.elim
    | cont => obtain ⟨_, _, _, z⟩ := hE; exact z.elim
    | ret u => obtain ⟨_, _, _, _, _, z⟩ := hE; exact z.elim
  refine wpAny_Try_except (wpAny_mono ((hb _ _ air taken).run [] s σ H D (I.toTry air) h) ?_ fun _ _ z => z)
  intro f t hf2
  cases f with
  | next =>
    obtain ⟨σ1, H1, J, q⟩ := hf2
    exact wpAny_execs_nil ⟨σ1, H1, J.ofTry I.ok, q⟩
  | brk => exact hf2.imp fun _ => Exists.imp fun _ z => ⟨z.1.ofTry I.ok, z.2⟩
  | cont => exact hf2.imp fun _ => Exists.imp fun _ z => ⟨z.1.ofTry I.ok, z.2⟩
  | ret u => exact hf2.imp fun _ => Exists.imp fun _ => Exists.imp fun _ z => ⟨z.1.ofTry I.ok, z.2⟩
end
end Z
namespace Z
open PySem PySem.Spec PyProof.Rows L2
/-! ### defs that may raise -/
structure CalX (P : Program) (w : World) (K : PySem.W.Frag) (mg : Str → Option Value) (base : Heap) (k : Nat) (x : Str) (ps : List Str) (sp : Sp) : Prop where
  ex : ∃ (f : Addr) (fd : FuncData), FnOk P w K mg base (L2.CX P w) k f fd ps sp ∧ Binds K fd ps [] ∧ PySem.W.keepIn K (.ref f) = true ∧ mg x = some (.ref f)
section
variable {P : Program} {w : World} {K : PySem.W.Frag} {mg : Str → Option Value} {base : Heap}
theorem mkCalX {x : Str} {st : Stmt} {N ps : List Str} {k : Nat} {sp : Sp} (D : DefAt K mg x st ps) (S : FnScope N ps (defScope st)) (len : ∀ vs H Q E, sp vs H Q E → vs.length = ps.length)
    (hbody : ∀ (f : Addr) (cdv : Value) (A : Around) (outer : List Env) (s : Shared) (H : Hp) (vs : List V) (Q : VK) (E : XK), Room k (A.deeper (envOfC x (defScope st) s.heap.objs.size f cdv)) → sp vs H Q E →
      ∃ t, PSs (cxOf (L2.CX P w) P w K mg base N x (defScope st) f cdv A outer s H E) (defBody st) t ∧ t { nx := fun _ H' => Q .non H', rt := Q } (start N vs) H) : CalX P w K mg base (k + 1) x ps sp := by
  obtain ⟨f, fd, F, b, m⟩ := D
  exact ⟨f, fd, F.okX S len (hbody f), b, F.kp, m⟩
variable {X : Cx}
/-- a call that may raise: what is in the air is taken by W -/
theorem zcallX {k : Nat} {x : Str} {ps : List Str} {sp : Sp} {W : WX} {e : Expr} {es : List Expr} {t : TA} {pos p : Pos} (C : CalX X.prog X.w X.K X.mg X.base k x ps sp) (hr : Room k X.A) (hg : Gl X x) (tk : Takes X W) (ha : PA X (e :: es) t)
    (hdb : (x == ("__debug__" : Str)) = false := by decide) (he : starEach (e :: es) X.env = (false, eval e X.env) :: starEach es X.env := by rfl) (hp : (backTo pos (starEach es X.env)).any (·.1) = false := by rfl) :
    PE X (.Call (.Name x p) (e :: es) [] pos) (tCallS sp (WE W) t) := by
  obtain ⟨f, fd, F, b, hk, m⟩ := C
  exact pe_callS F hr hg m hk b (fun σ => passAt tk σ) ha hdb he hp
/-- .. that doesn't raise here -/
theorem zcallL {k : Nat} {x : Str} {ps : List Str} {sp : Sp} {e : Expr} {es : List Expr} {t : TA} {pos p : Pos} (C : CalX X.prog X.w X.K X.mg X.base k x ps sp) (hr : Room k X.A) (hg : Gl X x) (ha : PA X (e :: es) t)
    (hdb : (x == ("__debug__" : Str)) = false := by decide) (he : starEach (e :: es) X.env = (false, eval e X.env) :: starEach es X.env := by rfl) (hp : (backTo pos (starEach es X.env)).any (·.1) = false := by rfl) :
    PE X (.Call (.Name x p) (e :: es) [] pos) (tCall sp [] E0 t) := by
  obtain ⟨f, fd, F, b, hk, m⟩ := C
  exact pe_call F hr hg m hk b .nil passL ha hdb he hp
end
/-! ### isinstance of an exception -/
/-- an exception of the class C at a, not raised, its arguments the tuple at t -/
def ExA (C a t : Addr) : HO := .ext fun h => h.get? a = some { cls := .ref C, data := .fields #[.ref t, .none, .none, .none, .bool false, .none] }
/-- at a stands an exception of the class D, with the dict d -/
def HasEx (H : Hp) (a D : Addr) (d : Option Addr) : Prop := (H a = some (ExK (.ref D) d a) ∨ (d = none ∧ ∃ t, H a = some (ExA D a t))) ∧ ∀ dd, d = some dd → ∃ fs, H dd = some (.xd fs)
theorem HasEx.same {H H' : Hp} {a D : Addr} {d : Option Addr} (h : HasEx H a D d) (S : Same H H') : HasEx H' a D d := by
  obtain ⟨h1, h2⟩ := h
  refine ⟨?_, fun dd e => ?_⟩
  · rcases h1 with q | ⟨e, m, q⟩
    · exact .inl (S _ _ q)
    · exact .inr ⟨e, m, S _ _ q⟩
  · obtain ⟨fs, q⟩ := h2 dd e
    exact ⟨fs, S _ _ q⟩
section
variable {X : Cx} {pins : List (Addr × Obj)} {σ : L2.St} {H : Hp} {s : Shared}
theorem inst_of {a D : Addr} {d : Option Addr} (I : Inv X pins σ H s) (h : HasEx H a D d) : ∃ oe od, PySem.W.InstAt s.heap a oe D od := by
  obtain ⟨h1, h2⟩ := h
  have base : ∃ (oe : Obj) (vs : Array Value), s.heap.get? a = some oe ∧ Zc (.ref D) d oe ∧ oe.data = .fields vs := by
    rcases h1 with q | ⟨rfl, t, q⟩
    · obtain ⟨⟨oe, vs, ho, hz, hd⟩, _, _⟩ := I.hok a _ q
      exact ⟨oe, vs, ho, hz, hd⟩
    · obtain ⟨ho, _, _⟩ := I.hok a _ q
      exact ⟨_, _, ho, ⟨rfl, rfl⟩, rfl⟩
  obtain ⟨oe, vs, ho, ⟨hz1, hz2⟩, hd⟩ := base
  have hno : PySem.W.notCls oe = true := by unfold PySem.W.notCls; rw [hd] <;> rfl
  cases d with
  | none => exact ⟨oe, none, ho, hz1, hno, by rw [hz2]; trivial⟩
  | some dd =>
    obtain ⟨fs, q⟩ := h2 dd rfl
    obtain ⟨mA, hns, hr⟩ := (I.hok dd _ q : ObjOk X.prog X.w H s.heap dd (.xd fs))
    obtain ⟨od, hod, hl⟩ := lookIn_ns hns
    exact ⟨oe, some od, ho, hz1, hno, by rw [hz2]; exact hod⟩
def rIsX (K : PySem.W.Frag) : List V → Hp → VK → Prop := fun xs H Q => ∃ (a D : Addr) (d : Option Addr) (c : V) (cv : Value) (b : Bool), xs = [.ref a, c] ∧ HasEx H a D d ∧ ExcC K D ∧ (∀ u, RelV c u → u = cv) ∧ PySem.W.kitOne K (.ref D) cv = some b ∧ Q (.bl b) H
theorem call_isX : CallR X (.builtin "isinstance") (rIsX X.K) := by
  intro pins s σ H xs us Q I r h
  obtain ⟨a, D, d, c, cv, b, rfl, hx, C, hcv, e, q⟩ := h
  cases r with
  | cons rx rr =>
    cases rr with
    | cons rt rr =>
      cases rr
      cases rx
      have ec := hcv _ rt
      subst ec
      obtain ⟨oe, od, J⟩ := inst_of I hx
      have hcl : (PySem.W.clsIn X.K D).isSome = true := by obtain ⟨cd, hc, _⟩ := PySem.W.any_some C.hd; rw [hc]; rfl
      exact PySem.W.kia_one (PySem.W.kitx_exc hcl C.hg C.hk C.hs C.ha C.hn C.ht C.hm) I.kIn J e (fun z => nomatch z) fun tk => ⟨.bl b, H, I.kept (t' := tk) fun _ _ z => z, rfl, q⟩
def zIsX (K : PySem.W.Frag) (cv : Value) (te : TE) : TE := fun σ H Q => te σ H fun x H1 => match x with
  | .ref a => ∃ (D : Addr) (d : Option Addr) (b : Bool), HasEx H1 a D d ∧ ExcC K D ∧ PySem.W.kitOne K (.ref D) cv = some b ∧ Q (.bl b) H1
  | _ => False
theorem zpisX {x : Str} {c : V} {cv : Value} {e : Expr} {te : TE} {p p2 pos : Pos} (hg : Gl X "isinstance") (hm : X.mg "isinstance" = none) (hcn : PE X (.Name x p2) (tC c)) (hcv : ∀ u, RelV c u → u = cv) (he : PE X e te)
    (h1 : starEach [e, .Name x p2] X.env = (false, eval e X.env) :: starEach [.Name x p2] X.env := by rfl) (h2 : starEach [.Name x p2] X.env = (false, eval (.Name x p2) X.env) :: starEach [] X.env := by rfl)
    (h3 : (backTo pos (starEach [.Name x p2] X.env)).any (·.1) = false := by rfl) :
    PE X (.Call (.Name "isinstance" p) [e, .Name x p2] [] pos) (zIsX X.K cv te) := by
  refine peM (pe_callB call_isX hg hm (by decide +kernel) (pa_cons (PE.up he) (pa_cons hcn pa_nil h2) h1) (by decide) (by decide) h1 h3) fun σ H Q q => ?_
  refine ⟨_, q, fun x H1 q1 => ?_⟩
  cases x with
  | ref a =>
    obtain ⟨D, d, b, h, C, e, q⟩ := q1
    exact ⟨_, _, _, _, _, _, rfl, h, C, hcv, e, q⟩
  | _ => exact (show False from q1).elim
/-! ### == of lists of bools -/
theorem eqvAll_bools : ∀ ns ms : List Bool, PyData.eqvAll (ns.map PyData.bool) (ms.map PyData.bool) = decide (ns = ms)
  | [], [] => by decide
  | [], _ :: _ => rfl
  | _ :: _, [] => rfl
  | n :: ns, m :: ms => by
    show (PyData.eqv (.bool n) (.bool m) && PyData.eqvAll (ns.map PyData.bool) (ms.map PyData.bool)) = _
    rw [eqvAll_bools ns ms]
    have e : PyData.eqv (.bool n) (.bool m) = (n == m) := by cases n <;> cases m <;> rfl
    rw [e]
    by_cases h : n = m
    · subst h; simp
    · simp [h]
theorem canLay_bools : ∀ ns : List Bool, PyData.canLayAll0 (ns.map PyData.bool) = true
  | [] => rfl
  | n :: ns => by
    show (PyData.canLay0 (.bool n) && PyData.canLayAll0 (ns.map PyData.bool)) = true
    rw [canLay_bools ns]; rfl
theorem depth_bools : ∀ ns : List Bool, PyData.depthAll (ns.map PyData.bool) = 0
  | [] => rfl
  | n :: ns => by
    show max (PyData.depth (.bool n)) (PyData.depthAll (ns.map PyData.bool)) = 0
    rw [depth_bools ns]; rfl
theorem shaped_bools (ns : List Bool) : SeqAt.shaped (.list (ns.map PyData.bool)) = true := by
  unfold SeqAt.shaped
  have e1 : PyData.canLay0 (.list (ns.map PyData.bool)) = true := canLay_bools ns
  have e2 : PyData.depth (.list (ns.map PyData.bool)) = 1 := by show PyData.depthAll _ + 1 = 1; rw [depth_bools]
  rw [e1, e2]; rfl
theorem dpAll_bools {K : PySem.W.Frag} {H : Hp} : ∀ ns : List Bool, DpAll K H (ns.map V.bl) (ns.map PyData.bool)
  | [] => .nil
  | n :: ns => .cons (.bl n) (dpAll_bools ns)
def zEqBs (K : PySem.W.Frag) : R2 := fun x y H Q => match x, y with
  | .ref p, .ref r => ∃ ns ms : List Bool, SqL K H p (ns.map V.bl) ∧ SqL K H r (ms.map V.bl) ∧ Q (.bl (decide (ns = ms))) H
  | _, _ => False
theorem zeqBs (hu : X.A.units + 64 < cLine) : OpR X (compareOp .Eq) (zEqBs X.K) := opM (op_eqD hu) fun x y H Q q => by
  unfold zEqBs at q
  split at q
  · obtain ⟨ns, ms, h1, h2, t⟩ := q
    refine ⟨_, _, .lst h1 (dpAll_bools ns), .lst h2 (dpAll_bools ms), shaped_bools ns, shaped_bools ms, ?_⟩
    show Q (.bl (PyData.eqvAll _ _)) H
    rw [eqvAll_bools]
    exact t
  · exact q.elim
end
section
variable {X : Cx}
def zSlT (K : PySem.W.Frag) : V → Option Int → Option Int → Hp → VK → Prop := fun x lo hi H Q => match x with
  | .ref a => ∃ xs, SqT K H a xs ∧ ¬ (HT.sIx xs.length 0 lo = 0 ∧ HT.sIx xs.length xs.length hi = xs.length) ∧ New H (.tup (cutV xs lo hi)) Q
  | _ => False
theorem zslT : SlR X (zSlT X.K) := slM sl_tup fun x lo hi H Q q => by
  unfold zSlT at q
  split at q
  · obtain ⟨xs, h1, h2, q⟩ := q
    exact ⟨_, xs, rfl, h1, h2, q.up⟩
  · exact q.elim
end
theorem kit_own {K : PySem.W.Frag} {D C : Addr} {b : Bool} (h : PySem.W.subIn K (.ref D) (.ref C) = some b) (hd : PySem.W.hasDictIn K C = true) (ht : PySem.W.typeIn K (.ref C) = some (.type "type")) (hs : PySem.W.subIn K (.ref D) (.ref D) = some true) : PySem.W.kitOne K (.ref D) (.ref C) = some b := by
  unfold PySem.W.kitOne
  by_cases e : D = C
  · subst e
    rw [if_pos (beq_self_eq_true _)]
    rw [h] at hs; exact hs.symm
  · have : ¬ ((Value.ref D == Value.ref C) = true) := fun q => e (Value.ref.inj (beq_iff_eq.mp q))
    rw [if_neg this]
    obtain ⟨cd, hc, _⟩ := PySem.W.any_some hd
    show (if ((PySem.W.clsIn K C).isSome && PySem.W.typeIn K (.ref C) == some (.type "type")) = true then PySem.W.subIn K (.ref D) (.ref C) else none) = some b
    rw [hc, ht, if_pos (by rfl)]
    exact h
theorem kit_type {K : PySem.W.Frag} {D : Addr} {T : String} {b : Bool} (h : PySem.W.subIn K (.ref D) (.type T) = some b) (hm : PySem.W.kitMeta T = true) : PySem.W.kitOne K (.ref D) (.type T) = some b := by
  unfold PySem.W.kitOne
  rw [if_neg (show ¬ ((Value.ref D == Value.type T) = true) from fun q => by have := beq_iff_eq.mp q; cases this)]
  show (if PySem.W.kitMeta T = true then PySem.W.subIn K (.ref D) (.type T) else none) = some b
  rw [if_pos hm]
  exact h
/-! ### X('..') as a value, and its text -/
section
variable {X : Cx} {C : Addr} {bmB : List Value} {B newId initId : String} {x : Str} {e : Expr} {te : TE} {p p2 pos : Pos}
def zExT (C : Addr) (te : TE) : TE := fun σ H Q => te σ H fun v H1 => match v with
  | .str m => ∀ a t H', H1 a = none → H' a = some (ExA C a t) → H' t = some (.tup [.str m]) → Same H1 H' → Q (.ref a) H'
  | _ => False
theorem zexcT (F : ExcBaseFacts B newId initId bmB) (q : PySem.W.excIn X.K C bmB newId = true) (gC : X.mg x = some (.ref C)) (kC : PySem.W.keepIn X.K (.ref C) = true) (hg : Gl X x) (he : PE X e te) (hex : X.ex = [] := by rfl)
    (hs : starEach [e] X.env = (false, eval e X.env) :: starEach [] X.env := by rfl) (hdb : (x == ("__debug__" : Str)) = false := by decide) : PE X (.Call (.Name x p) [e] [] pos) (zExT C te) := by
  constructor
  intro pins s σ H Q I h
  have body : wpAny (model X.prog X.w) X.A (spliced ((false, eval e X.env) :: backTo pos (starEach [] X.env))) (fun vs s1 => X.K.In s1.heap ∧ wpAny (model X.prog X.w) X.A (call (.ref C) ([] ++ vs)) (EP X pins σ Q) X.xe s1) X.xe s := by
    refine Calls.spliced_cons (thn (he.run pins s σ H _ I h) ?_)
    rintro u s1 ⟨v, H1, I1, rel, told⟩
    split at told
    case h_2 => exact told.elim
    rename_i m
    obtain ⟨tk, rfl⟩ := rel
    refine Calls.spliced_nil ⟨I1.kIn, ?_⟩
    obtain ⟨_, _, _, _, _, _, _, _, _, _, _, _, _, _, _, _, _, cl, ns, no, tail⟩ := exc_obj I1.kIn q
    refine wpAny_call_exc_subT F tail cl ns no (fun h2 a made => ?_) (by decide : 1 ≤ sizeLine)
    obtain ⟨t, at1, noT, at2⟩ := made.there
    have newT : H1 t = none := HOk.gone I1.hok noT
    have newA : H1 a = none := HOk.gone I1.hok made.new
    have out : ∀ {b : Addr}, (∃ o, s1.heap.get? b = some o) → b ≠ a := by
      rintro b ⟨o, g⟩ rfl
      exact nomatch made.new.symm.trans g
    have differ : a ≠ t := by
      rintro rfl
      cases at1.symm.trans at2
    have laid : Inv X pins σ (upd H1 t (.tup [.str m])) { s1 with heap := h2 } := Inv.laidN (t' := s1.toks) I1 made.keeps noT newT ⟨(by decide : 1 ≤ sizeLine), [.str m tk], .cons ⟨tk, rfl⟩ .nil, ⟨_, at2, rfl, _, rfl⟩⟩
    have free2 : upd H1 t (.tup [.str m]) a = none := (upd_ne differ).trans newA
    have start : X.s_0.heap.get? a = none := by
      cases g : X.s_0.heap.get? a with
      | none => rfl
      | some o => exact absurd rfl (out (I1.base.there a o g (by simp [hex])))
    have both : Inv X pins σ (upd (upd H1 t (.tup [.str m])) a (ExA C a t)) { s1 with heap := h2 } := by
      refine Inv.trackN laid start free2 ?_ ?_ ?_ ⟨at1, ⟨_, at1⟩, fun _ _ g same => same _ g⟩
      · obtain ⟨_, ⟨o, _, _, g, _⟩, _⟩ := I1.loc
        exact (out ⟨o, g⟩).symm
      · intro y c g
        obtain ⟨_, o, g2, _⟩ := I1.cell y c g
        exact out ⟨o, g2⟩
      · exact fun r mr => out ⟨_, (I1.pin r mr).1⟩
    exact ⟨.ref a, _, both, rfl, told a t _ newA upd_same ((upd_ne differ.symm).trans upd_same) ((same_upd newT).trans (same_upd free2))⟩
  refine wpAny_Call_Name_kw (ld_glob I hg gC ?_ hdb)
  exact PySem.W.callWith_K (h₀ := X.base) I.ok.mod.kin kC (by rw [hs]; exact body) hs (by rfl)
/-- str(e) of such a one -/
def zStrT (K : PySem.W.Frag) (te : TE) : TE := fun σ H Q => te σ H fun v H1 => match v with
  | .ref a => ∃ D t m, H1 a = some (ExA D a t) ∧ H1 t = some (.tup [.str m]) ∧ PySem.W.findIn K (.ref D) "__str__" = some (some (.builtin "BaseException.__str__")) ∧ PySem.W.subIn K (.ref D) (.type "BaseException") = some true ∧ Q (.str m) H1
  | _ => False
theorem zstrT (hu : X.A.units + 2 < cLine) (hg : Gl X "str") (hm : X.mg "str" = none) (he : PE X e te)
    (hs : starEach [e] X.env = (false, eval e X.env) :: starEach [] X.env := by rfl) : PE X (.Call (.Name "str" p) [e] [] pos) (zStrT X.K te) := by
  have rule : CallR X (.type "str") fun vs H Q => match vs with
      | [.ref a] => ∃ D t m, H a = some (ExA D a t) ∧ H t = some (.tup [.str m]) ∧ PySem.W.findIn X.K (.ref D) "__str__" = some (some (.builtin "BaseException.__str__")) ∧ PySem.W.subIn X.K (.ref D) (.type "BaseException") = some true ∧ Q (.str m) H
      | _ => False := by
    intro pins s σ H vs us Q I rel told
    split at told
    case h_2 => exact told.elim
    obtain ⟨D, t, m, here, args, f1, f2, q⟩ := told
    cases rel with
    | cons r rest =>
      cases rest
      cases r
      obtain ⟨at1, _, _⟩ := I.hok _ _ here
      obtain ⟨its, vus, tup, _⟩ := I.tuple (.inl (.inl args))
      cases vus with
      | cons r2 rest2 =>
        cases rest2
        obtain ⟨tk, rfl⟩ := r2
        obtain ⟨o, g, tp, n, dv⟩ := tup
        exact P.str_of_C_one hu ⟨I.kIn, _, _, at1, rfl, rfl, rfl⟩ ⟨o, n, g, tp, dv⟩ f1 f2 ⟨.str m, H, I, ⟨tk, rfl⟩, q⟩
  refine peM (pe_callTy rule hg hm (by decide +kernel) (pa_cons (PE.up he) pa_nil hs) (by decide) (by decide) hs (by rfl)) fun σ H Q q => ⟨_, q, fun v H1 q1 => ?_⟩
  cases v with
  | ref a => exact q1
  | _ => exact (show False from q1).elim
end
theorem hu2 {A : Around} {k : Nat} (hr : Room k A) : A.units + 2 < cLine := by have := hr.un; omega
/-- e.f of an exception with a dict -/
def zFldX (K : PySem.W.Frag) (f : Str) (te : TE) : TE := fun σ H Q => te σ H fun x H1 => match x with
  | .ref a => ∃ (D dd : Addr) (fs : List (Str × V)) (v : V), HasEx H1 a D (some dd) ∧ H1 dd = some (.xd fs) ∧ fs.lookup f = some v ∧ XfC K D ∧ PySem.W.findIn K (.ref D) f = some none ∧ Q v H1
  | _ => False
section
variable {X : Cx} {e : Expr} {te : TE} {f : Str} {pos : Pos}
theorem zfldX (he : PE X e te) (hb : attributeBase e f X.env (eval e X.env) = eval e X.env := by rfl) : PE X (.Attribute e f pos) (zFldX X.K f te) := by
  constructor
  intro pins s σ H Q I h
  refine attr_of hb (thn (he.run pins s σ H _ I h) ?_)
  rintro u s1 ⟨x, H1, I1, rel, told⟩
  split at told
  case h_2 => exact told.elim
  obtain ⟨D, dd, fs, v, ex, dict, hit, T, none, q⟩ := told
  cases rel
  obtain ⟨oe, vs, at1, ⟨c1, c2⟩, dv⟩ : ∃ (oe : Obj) (vs : Array Value), s1.heap.get? _ = some oe ∧ Zc (.ref D) (some dd) oe ∧ oe.data = .fields vs := by
    rcases ex.1 with k | ⟨z, _⟩
    · obtain ⟨⟨oe, vs, g, zc, dv⟩, _, _⟩ := I1.hok _ _ k
      exact ⟨oe, vs, g, zc, dv⟩
    · cases z
  obtain ⟨mA, hns, hr⟩ := (I1.hok dd _ dict : ObjOk X.prog X.w H1 s1.heap dd (.xd fs))
  obtain ⟨od, at2, look⟩ := lookIn_ns hns
  obtain ⟨u, hu, ru⟩ := RelO.some_of (v := v) (o := mA f) (by rw [← hit]; exact hr f)
  have J : PySem.W.InstAt s1.heap _ oe D (some od) := ⟨at1, c1, by unfold PySem.W.notCls; rw [dv] <;> rfl, by rw [c2]; exact at2⟩
  exact HandSPX.exc_get I1.kIn J T.ga T.gg T.exC (PySem.W.findObj_own T.hdC none rfl (by rw [look, hu])) (handed_of ru) ⟨v, H1, I1.tok _, ru, q⟩
end
end Z

set_option Elab.async false
set_option linter.all false
set_option maxRecDepth 100000
namespace Z
open PySem L2
section
variable {X : Cx} {a b c e : Expr} {ta tb tc te : TE} {pos : Pos}
/-! ### a < b < c -/
theorem OpR.up {f : Value → Value → Sem Value} {r : R2} (h : OpR X f r) : OpR X f (fun x y H Q => ∃ Q0 : VK, r x y H Q0 ∧ ∀ z H, Q0 z H → Q z H) :=
  fun pins s σ H x y v u Q I rx ry ⟨Q0, h0, m⟩ => thn (h pins s σ H x y v u Q0 I rx ry h0) fun d s1 ⟨z, H1, I1, r1, q1⟩ => ⟨z, H1, I1, r1, m _ _ q1⟩
def zChain (r r' : R2) (ta tb tc : TE) : TE := fun σ H Q => ta σ H fun x H1 => tb σ H1 fun y H2 => r x y H2 fun z H3 => match z with
  | .bl k => (match k with | true => tc σ H3 fun w H4 => r' y w H4 Q | false => Q (.bl false) H3)
  | _ => False
theorem zpcc {op op' : CmpOp} {r r' : R2} (ho : OpR X (compareOp op) r) (ho' : OpR X (compareOp op') r') (ha : PE X a ta) (hb : PE X b tb) (hc : PE X c tc)
    (hm : lastMarks [op, op'] [b, c] = false := by with_unfolding_all rfl) : PT X (.Compare a [op, op'] [b, c] pos) (zT (zChain r r' ta tb tc)) :=
  ptM (pt_chain (OpR.up ho) (OpR.up ho') (PE.up ha) (PE.up hb) (PE.up hc) hm) fun σ H Q q => ⟨_, q, fun x H1 q => ⟨_, q, fun y H2 q => ⟨_, q, fun z H3 q => by
    cases z with
    | bl k =>
      cases k with
      | true =>
        refine ⟨true, rfl, ?_⟩
        rw [if_pos rfl]
        refine ⟨_, q, fun w H4 q => ⟨_, q, fun x H5 q => ?_⟩⟩
        cases x with
        | bl k => exact ⟨k, rfl, q⟩
        | _ => exact (show False from q).elim
      | false =>
        refine ⟨false, rfl, ?_⟩
        rw [if_neg (by decide)]
        exact ⟨false, rfl, q⟩
    | _ => exact (show False from q).elim⟩⟩⟩
end
end Z
namespace Z
open PySem L2 PyProof.Rows
section
variable {prog : Program} {w : World} {A : Around} {E : Value → Shared → Prop} {s : Shared}
/-! ### t[::-1] of a tuple -/
theorem rev_pick (xs : Array Value) : (List.range xs.size).filterMap (fun (k : Nat) => xs[(((xs.size : Int) - 1) + (k : Int) * (-1)).toNat]?) = xs.toList.reverse := by
  have e : (fun (k : Nat) => xs[(((xs.size : Int) - 1) + (k : Int) * (-1)).toNat]?) = (fun j => xs[j]?) ∘ fun k => xs.size - 1 - k := by
    funext k
    have : (((xs.size : Int) - 1) + (k : Int) * (-1)).toNat = xs.size - 1 - k := by omega
    rw [this]; rfl
  rw [e, ← List.filterMap_map, PySem.W.krv_range, List.filterMap_reverse]
  exact congrArg List.reverse (PySem.W.krv_all xs)
theorem adjust_back (n : Nat) : Builtin.Slice.sliceAdjust none none (-1) (n : Int) = ((n : Int) - 1, -1) := by
  unfold Builtin.Slice.sliceAdjust
  simp
theorem places_back (n : Nat) : Builtin.Slice.slicePlaces ((n : Int) - 1) (-1) (-1) = n := by
  unfold Builtin.Slice.slicePlaces
  rw [if_neg (by decide)]
  split
  · have : ((n : Int) - 1 - -1 - 1) / (- -1) + 1 = n := by
      show ((n : Int) - 1 - -1 - 1) / 1 + 1 = n
      rw [Int.ediv_one]; omega
    rw [this]; rfl
  · omega
theorem applied_back {sl : Addr} {vl vu vs : Value} {n : Nat} {Q : Int × Int × Nat → Shared → Prop} (hs : s.heap.IsSliceOf sl vl vu vs) (pl : IsPart vl none) (pu : IsPart vu none) (ps : IsPart vs (some (-1)))
    (h : Q ((n : Int) - 1, -1, n) s) : wpAny (model prog w) A (Builtin.Slice.sliceApplied (.ref sl) (pure (n : Int))) Q E s := by
  obtain ⟨ob, hob, _, hd⟩ := hs
  unfold Builtin.Slice.sliceApplied Builtin.Slice.sliceFields
  have parts : ∀ R : Value × Value × Value → Shared → Prop, R (vl, vu, vs) s → wpAny (model prog w) A (do let a ← field (.ref sl) 0; let b ← field (.ref sl) 1; let c ← field (.ref sl) 2; pure (a, b, c)) R E s := fun R hR =>
    wpAny_bind (wpAny_field hob hd (x := vl) rfl (wpAny_bind (wpAny_field hob hd (x := vu) rfl (wpAny_bind (wpAny_field hob hd (x := vs) rfl (wpAny_pure hR))))))
  refine wpAny_bind (parts _ (wpAny_bind (HT.slicePart_ ps ?_)))
  show wpAny _ _ (if ((-1 : Int) == 0) = true then _ else _) _ _ s
  rw [if_neg (by decide)]
  refine wpAny_bind (HT.slicePart_ pl (wpAny_bind (HT.slicePart_ pu (wpAny_bind (wpAny_pure ?_)))))
  show wpAny _ _ (match Builtin.Slice.sliceAdjust none none (-1) (n : Int) with | (lo, hi) => pure (lo, (-1 : Int), Builtin.Slice.slicePlaces lo hi (-1))) _ _ s
  rw [adjust_back n]
  show wpAny _ _ (pure ((n : Int) - 1, (-1 : Int), Builtin.Slice.slicePlaces ((n : Int) - 1) (-1) (-1))) _ _ s
  rw [places_back]
  exact wpAny_pure h
end
end Z
namespace Z
open PySem L2 PyProof.Rows
section
variable {prog : Program} {w : World} {A : Around} {E : Value → Shared → Prop} {s : Shared}
theorem item_back {t sl : Addr} {items : Array Value} {vl vu vs : Value} {Q : Value → Shared → Prop} (ht : IsTup s.heap t items) (hs : s.heap.IsSliceOf sl vl vu vs) (pl : IsPart vl none) (pu : IsPart vu none) (ps : IsPart vs (some (-1)))
    (hsz : items.size ≤ sizeLine) (h : Q (.ref s.heap.objs.size) { s with heap := s.heap.push { cls := .type "tuple", data := .seq items.toList.reverse.toArray } }) :
    wpAny (model prog w) A (getItem (.ref t) (.ref sl)) Q E s := by
  have fits : sizeOk (.seq items.toList.reverse.toArray) := by
    show items.toList.reverse.toArray.size ≤ sizeLine
    rw [List.size_toArray, List.length_reverse, Array.length_toList]; exact hsz
  have isSlice : s.TypeIs (.ref sl) "slice" := by obtain ⟨ob, hob, hc, _⟩ := hs; exact ⟨ob, hob, hc⟩
  have inner : ∀ (A : Around) (E : Value → Shared → Prop) (P : Fin → Shared → Prop), P (.done (.ret (.ref s.heap.objs.size))) { s with heap := s.heap.push { cls := .type "tuple", data := .seq items.toList.reverse.toArray } } → wpAny (model prog w) A (Builtin.«tuple.__getitem__» ⟨[.ref t, .ref sl], []⟩) P E s := fun A E P hP => by
    show wpAny _ _ (Builtin.Tuple.tupleItemsOf (.ref t) >>= _) P E s
    refine wpAny_bind (tupleItemsOf_ ht (wpAny_bind (wpAny_typeOf isSlice ?_)))
    rw [if_pos (by decide)]
    refine wpAny_bind (applied_back hs pl pu ps ?_)
    have hno : ¬ ((((items.size : Int) - 1) == 0 && ((-1 : Int) == 1) && (items.size == items.size)) = true) := by simp
    show wpAny _ _ (if (((items.size : Int) - 1) == 0 && ((-1 : Int) == 1) && (items.size == items.size)) = true then _ else _) P E s
    rw [if_neg hno]
    have hr := rev_pick items
    rw [hr]
    first
      | exact wpAny_bind (m := Builtin.Tuple.tupleExact _) (wpAny_newObj_type (wpAny_pure hP) fits)
      | exact wpAny_bind (m := Builtin.Tuple.tupleExact _) (wpAny_newObj_type (wpAny_bind (wpAny_pure (wpAny_pure hP))) fits)
  unfold getItem
  try with_reducible refine wpAny_holding ?_
  first | refine wpAny_bind (wpAny_pure ?_) | skip
  exact wpAny_bind (wpAny_sequenceKey ht.typeIs (by decide) (wpAny_bind (wpAny_callSpecial?_slot (name := Str.ofString "__getitem__") ht.typeIs PyProof.Rows.slot_tuple_getitem (wpAny_call_entry PyProof.Rows.slot_tuple_getitem ht.typeIs PyProof.Rows.entry_tuple_getitem
    (inner _ _ _ ⟨_, rfl, wpAny_pure h⟩) (PyProof.Rows.args_tuple_getitem _ _)))))
end
section
variable {X : Cx} {e : Expr} {ta : TE}
def zRevT (K : PySem.W.Frag) (te : TE) : TE := fun σ H Q => te σ H fun x H1 => match x with | .ref a => ∃ xs, SqT K H1 a xs ∧ New H1 (.tup xs.reverse) Q | _ => False
theorem zrevT {k : Nat} {p1 p2 p3 pos : Pos} (he : PE X e ta) : PE X (.Subscript e (.Slice none none (some (.UnaryOp .USub (.Constant (.int 1) k p1) p2)) p3) pos) (zRevT X.K ta) := by
  refine ⟨fun pins s σ H Q I h => Subscript_ (thn ((PE.up he).run pins s σ H _ I ⟨_, h, fun _ _ q => q⟩) fun v s1 ⟨x, H1, I1, r1, q1⟩ => ?_)⟩
  cases x with
  | ref a =>
    obtain ⟨xs, hx, q⟩ := q1
    cases r1
    have part : PO X (some (.UnaryOp .USub (.Constant (.int 1) k p1) p2)) (tPart (tUn (rU fun i => .int (-i)) (tC (.int 1)))) := po_some (pe_un un_neg pe_int)
    refine wpAny_Slice (thn (po_none.run pins s1 σ H1 (fun o G => o = none ∧ G = H1) I1 ⟨rfl, rfl⟩) fun vl s2 ⟨o1, G1, J1, pl, e1, f1⟩ => ?_)
    subst e1 f1
    refine thn (po_none.run pins s2 σ G1 (fun o G => o = none ∧ G = G1) J1 ⟨rfl, rfl⟩) fun vu s3 ⟨o2, G2, J2, pu, e2, f2⟩ => ?_
    subst e2 f2
    refine thn (part.run pins s3 σ G2 (fun o G => o = some (-1) ∧ G = G2) J2 ⟨1, rfl, -1, rfl, rfl, rfl⟩) fun vs s4 ⟨o3, G3, J3, ps, e3, f3⟩ => ?_
    subst e3 f3
    have J4 : Inv X pins σ G3 { s4 with heap := s4.heap.push { cls := .type "slice", data := .fields #[vl, vu, vs] } } := J3.kept (t' := s4.toks) fun b ob z => Heap.get?_push_of_some _ z
    obtain ⟨its, r, hT, hz⟩ := J4.tuple hx
    show wpAny (model X.prog X.w) X.A (subscriptTail e (.Slice none none (some (.UnaryOp .USub (.Constant (.int 1) k p1) p2)) p3) (.ref a) (.ref s4.heap.objs.size)) (EP X pins σ Q) X.xe _
    have hlen := r.length
    refine tail_any (ops := [.ref a, .ref s4.heap.objs.size]) hT.typeIs (PyProof.Rows.slot_tuple_getitem.lookup) ?_ (by with_unfolding_all rfl)
    refine item_back hT (Heap.IsSliceOf.new _ vl vu vs) pl pu ps (by rw [List.size_toArray]; omega) ?_
    refine ⟨.ref _, _, J4.laid (t' := s4.toks) (o := .tup xs.reverse) (fun b ob z => Heap.get?_push_of_some _ z) (Nat.le_refl _) ?_, rfl, q.up _ (J4.hok.fresh (Nat.le_refl _))⟩
    exact ⟨by rw [List.length_reverse]; exact hz, _, r.reverse, IsTup.new _ _⟩
  | _ => exact (show False from q1).elim
end
end Z
namespace Z
open PySem L2
section
variable {X : Cx}
/-! ### i << j -/
theorem bits_lt {i : Int} {k : Nat} (h : Builtin.Int.intBits i ≤ k) : i.natAbs < 2 ^ k := by
  unfold Builtin.Int.intBits at h
  by_cases z : i = 0
  · subst z
    exact Nat.pow_pos (by decide)
  · rw [if_neg (by simpa using z)] at h
    exact Nat.lt_of_lt_of_le Nat.lt_log2_self (Nat.pow_le_pow_right (by decide) h)
theorem bits_le {i : Int} {k : Nat} (h : i.natAbs < 2 ^ k) : Builtin.Int.intBits i ≤ k := by
  unfold Builtin.Int.intBits
  by_cases z : i = 0
  · subst z
    exact Nat.zero_le _
  · rw [if_neg (by simpa using z)]
    exact (Nat.log2_lt (by omega)).mpr h
theorem zshl : OpR X (binaryOp .LShift) (zI (fun i j => 0 ≤ j ∧ ∃ k : Nat, i.natAbs < 2 ^ k ∧ (k : Int) + j ≤ 134217728) fun i j => .int (i * 2 ^ j.toNat)) := zI_of <| by
  refine opM op_shlW fun x y H Q q => ?_
  obtain ⟨i, j, e1, e2, ⟨h0, k, h1, h2⟩, q⟩ := q
  have := bits_le h1
  exact ⟨i, j, e1, e2, ⟨h0, by
    show (Builtin.Int.intBits i : Int) + j ≤ 134217728
    omega⟩, q⟩
/-! ### isinstance of an exception, by a tuple of classes -/
def zIsXT (K : PySem.W.Frag) : List V → Hp → VK → Prop := fun xs H Q => match xs with
  | [.ref a, .ref tp] => ∃ (D : Addr) (d : Option Addr) (cs : List V) (us : List Value) (b : Bool), HasEx H a D d ∧ ExcC K D ∧ H tp = some (.tup cs) ∧ Paired ClsV cs us ∧ PySem.W.kitAny K (.ref D) us = some b ∧ Q (.bl b) H
  | _ => False
theorem zisXT : CallR X (.builtin "isinstance") (zIsXT X.K) := by
  intro pins s σ H xs us Q I r h
  unfold zIsXT at h
  split at h
  · rename_i a tp
    obtain ⟨D, d, cs, ws, b, hx, C, hT, k, e, q⟩ := h
    obtain ⟨u1, u2, rfl, r1, r2⟩ := vals2 r
    cases r1; cases r2
    obtain ⟨oe, od, J⟩ := inst_of I hx
    have hcl : (PySem.W.clsIn X.K D).isSome = true := by obtain ⟨cd, hc, _⟩ := PySem.W.any_some C.hd; rw [hc]; rfl
    obtain ⟨_, its, rv, ⟨oc, od2, dt, sl⟩, g1, g2, n, g3⟩ := (show ObjOk X.prog X.w H s.heap tp (.tup cs) from I.hok tp _ hT)
    have e3 := ClsV.all k rv
    subst e3
    simp only at g2 g3
    subst g2 g3
    exact PySem.W.kia_tup (PySem.W.kitx_exc hcl C.hg C.hk C.hs C.ha C.hn C.ht C.hm) I.kIn J g1 e (fun z => nomatch z) fun tk => ⟨.bl b, H, I.kept (t' := tk) fun _ _ z => z, rfl, q⟩
  · exact h.elim
end
end Z
namespace Z
open PySem L2
section
variable {X : Cx}
theorem zinsert : MtR X "list.insert" (fun x vs H Q => match x, vs with | .ref l, [.int i, y] => ∃ xs, H l = some (.lst xs) ∧ xs.length < sizeLine ∧ (0 ≤ i ∧ i < 9223372036854775808) ∧ Wr H l (.lst (xs.take i.toNat ++ [y] ++ xs.drop i.toNat)) (Q .non) | _, _ => False) :=
  mtM mt_insert fun x vs H Q q => by
    split at q
    · obtain ⟨xs, h1, h2, h3, q⟩ := q
      exact ⟨_, xs, _, _, rfl, rfl, h1, h2, h3.1, h3.2, Wr.up h1 q⟩
    · exact q.elim
end
end Z
namespace Z
open PySem L2
section
variable {X : Cx}
/-- an index in a comprehension: the fragment by its own name -/
theorem zixLK {K : PySem.W.Frag} (h : X.K = K) : IxR X (zIxL K) := h ▸ zixL
theorem zixTK {K : PySem.W.Frag} (h : X.K = K) : IxR X (zIxT K) := h ▸ zixT
end
end Z
namespace Z
open PySem L2
section
variable {X : Cx}
/-! ### == of data that lies deeper -/
def zEqD (K : PySem.W.Frag) (a b : Bool) : R2 := fun x y H Q => ∃ d e, Dp K H x d ∧ Dp K H y e ∧ (SeqAt.shaped d = true ∧ SeqAt.shaped e = true) ∧ Two (PyData.eqv d e = true) (Q (.bl a) H) (Q (.bl b) H)
theorem zeqD (hu : X.A.units + 64 < cLine) : OpR X (compareOp .Eq) (zEqD X.K true false) := opM (op_eqD hu) fun x y H Q q => by
  obtain ⟨d, e, h1, h2, ⟨s1, s2⟩, t⟩ := q
  refine ⟨d, e, h1, h2, s1, s2, ?_⟩
  cases hv : PyData.eqv d e with
  | true => exact t.1 hv
  | false => exact t.2 (by rw [hv]; exact Bool.false_ne_true)
theorem zneD (hu : X.A.units + 64 < cLine) : OpR X (compareOp .NotEq) (zEqD X.K false true) := opM (op_neD hu) fun x y H Q q => by
  obtain ⟨d, e, h1, h2, ⟨s1, s2⟩, t⟩ := q
  refine ⟨d, e, h1, h2, s1, s2, ?_⟩
  cases hv : PyData.eqv d e with
  | true => exact t.1 hv
  | false => exact t.2 (by rw [hv]; exact Bool.false_ne_true)
end
end Z
namespace Z
open PySem L2
section
variable {X : Cx}
/-! ### the greatest and the least of a list of numbers, the place of one -/
theorem zmaxL (hc : X.calm = true) : CallR X (.builtin "max") (fun vs H Q => match vs with | [.ref a] => ∃ ns : List Int, SqL X.K H a (ns.map V.int) ∧ 0 < ns.length ∧ ∀ m, m ∈ ns → (∀ y, y ∈ ns → y ≤ m) → Q (.int m) H | _ => False) := callM (cr_max hc) fun vs H Q q => by
  split at q
  · obtain ⟨ns, h⟩ := q
    exact ⟨_, ns, rfl, h⟩
  · exact q.elim
theorem zminL (hc : X.calm = true) : CallR X (.builtin "min") (fun vs H Q => match vs with | [.ref a] => ∃ ns : List Int, SqL X.K H a (ns.map V.int) ∧ 0 < ns.length ∧ ∀ m, m ∈ ns → (∀ y, y ∈ ns → m ≤ y) → Q (.int m) H | _ => False) := callM (cr_min hc) fun vs H Q q => by
  split at q
  · obtain ⟨ns, h⟩ := q
    exact ⟨_, ns, rfl, h⟩
  · exact q.elim
theorem zindex : MtR X "list.index" (fun x vs H Q => match x, vs with | .ref a, [.int y] => ∃ (ns : List Int) (j : Nat), SqL X.K H a (ns.map V.int) ∧ ns[j]? = some y ∧ (∀ m z, m < j → ns[m]? = some z → z ≠ y) ∧ Q (.int (j : Nat)) H | _, _ => False) := mtM mt_index fun x vs H Q q => by
  split at q
  · obtain ⟨ns, j, h1, h2, h3, q⟩ := q
    refine ⟨_, ns.map V.int, _, j, _, rfl, rfl, h1, rfl, ?_, by rw [List.getElem?_map, h2]; rfl, ?_, fun m z hm hz => ?_, q⟩
    · rw [List.all_eq_true]
      intro v hv
      obtain ⟨n, _, rfl⟩ := List.mem_map.mp hv
      rfl
    · simp [eqV]
    · rw [List.getElem?_map] at hz
      cases hc : ns[m]? with
      | none => rw [hc] at hz; cases hz
      | some n =>
        rw [hc] at hz; cases hz
        have := h3 m n hm hc
        simpa [eqV] using this
  · exact q.elim
end
end Z
namespace Z
open PySem L2 PyProof.Rows
/-! ### xs[-2::-1] of a list -/
theorem pick_back2 (items : Array Value) (h : 1 ≤ items.size) : slicePick items (some (-2)) none (some (-1)) = (items.toList.take (items.size - 1)).reverse.toArray := by
  have e1 : sliceBounds (some (-2)) none (some (-1)) items.size = (((items.size - 1 : Nat) : Int) - 1, -1, -1) := by
    unfold sliceBounds
    simp
    omega
  unfold slicePick
  rw [e1]
  dsimp only
  rw [PySem.W.krv_sliceRange, PySem.W.krv_range, List.filterMap_reverse]
  congr 2
  have : ∀ m, m ≤ items.size → (List.range m).filterMap (fun j => items[j]?) = items.toList.take m := by
    intro m
    induction m with
    | zero => intro _; rfl
    | succ m ih =>
      intro hm
      rw [List.range_succ, List.filterMap_append, ih (by omega), List.take_add_one]
      congr 1
      have h2 : m < items.size := by omega
      rw [List.getElem?_eq_getElem (by simpa using h2)]
      simp [h2]
  exact this _ (by omega)
section
variable {X : Cx} {e : Expr} {ta : TE}
def zRev2 (K : PySem.W.Frag) (te : TE) : TE := fun σ H Q => te σ H fun x H1 => match x with | .ref a => ∃ xs, SqL K H1 a xs ∧ 1 ≤ xs.length ∧ New H1 (.lst (xs.take (xs.length - 1)).reverse) Q | _ => False
theorem zrev2 {k k2 : Nat} {p1 p2 p3 p4 p5 pos : Pos} (he : PE X e ta) : PE X (.Subscript e (.Slice (some (.UnaryOp .USub (.Constant (.int 2) k2 p4) p5)) none (some (.UnaryOp .USub (.Constant (.int 1) k p1) p2)) p3) pos) (zRev2 X.K ta) := by
  refine ⟨fun pins s σ H Q I h => Subscript_ (thn ((PE.up he).run pins s σ H _ I ⟨_, h, fun _ _ q => q⟩) fun v s1 ⟨x, H1, I1, r1, q1⟩ => ?_)⟩
  cases x with
  | ref a =>
    obtain ⟨xs, hx, hx1, q⟩ := q1
    cases r1
    have part : ∀ (n : Int) (kk : Nat) (pa pb : Pos), PO X (some (.UnaryOp .USub (.Constant (.int n) kk pa) pb)) (tPart (tUn (rU fun i => .int (-i)) (tC (.int n)))) := fun n kk pa pb => po_some (pe_un un_neg pe_int)
    refine wpAny_Slice (thn ((part 2 k2 p4 p5).run pins s1 σ H1 (fun o G => o = some (-2) ∧ G = H1) I1 ⟨2, rfl, -2, rfl, rfl, rfl⟩) fun vl s2 ⟨o1, G1, J1, pl, e1, f1⟩ => ?_)
    subst e1 f1
    refine thn (po_none.run pins s2 σ G1 (fun o G => o = none ∧ G = G1) J1 ⟨rfl, rfl⟩) fun vu s3 ⟨o2, G2, J2, pu, e2, f2⟩ => ?_
    subst e2 f2
    refine thn ((part 1 k p1 p2).run pins s3 σ G2 (fun o G => o = some (-1) ∧ G = G2) J2 ⟨1, rfl, -1, rfl, rfl, rfl⟩) fun vs s4 ⟨o3, G3, J3, ps, e3, f3⟩ => ?_
    subst e3 f3
    have J4 : Inv X pins σ G3 { s4 with heap := s4.heap.push { cls := .type "slice", data := .fields #[vl, vu, vs] } } := J3.kept (t' := s4.toks) fun b ob z => Heap.get?_push_of_some _ z
    obtain ⟨its, r, hT, hz⟩ := J4.list hx
    show wpAny (model X.prog X.w) X.A (subscriptTail e (.Slice (some (.UnaryOp .USub (.Constant (.int 2) k2 p4) p5)) none (some (.UnaryOp .USub (.Constant (.int 1) k p1) p2)) p3) (.ref a) (.ref s4.heap.objs.size)) (EP X pins σ Q) X.xe _
    have hlen := r.length
    refine tail_any (ops := [.ref a, .ref s4.heap.objs.size]) hT.isList.typeIs (PySem.slot_list_getitem.lookup) ?_ (by with_unfolding_all rfl)
    refine wpAny_getItem_list_slice hT.isList (Heap.IsSliceOf.new _ vl vu vs) pl pu ps (by decide) ?_ (by rw [List.size_toArray]; omega)
    rw [pick_back2 _ (by rw [List.size_toArray]; omega)]
    have e4 : (its.toArray.toList.take (its.toArray.size - 1)).reverse = (its.take (xs.length - 1)).reverse := by rw [List.size_toArray, ← hlen]
    rw [e4]
    refine ⟨.ref _, _, J4.laid (t' := s4.toks) (o := .lst (xs.take (xs.length - 1)).reverse) (fun b ob z => Heap.get?_push_of_some _ z) (Nat.le_refl _) ?_, rfl, q.up _ (J4.hok.fresh (Nat.le_refl _))⟩
    exact ⟨by rw [List.length_reverse, List.length_take]; omega, _, 0, (r.take _).reverse, Heap.get?_push_size _ rfl⟩
  | _ => exact (show False from q1).elim
end
end Z

set_option Elab.async false
set_option linter.all false
set_option maxRecDepth 100000
/-! objects of own classes -/
namespace Z
open PySem PySem.Spec PyProof.Rows L2
theorem Keep.fresh {d p : Addr} {H H1 H2 : Hp} (n : H p = none) (a : Keep d H H1) (b : Keep p H1 H2) : Keep d H H2 := fun x u nx hx => b x u (ne_of_none hx n) (a x u nx hx)
theorem same_fresh {p : Addr} {H H1 H2 : Hp} (n : H p = none) (a : Same H H1) (b : Keep p H1 H2) : Same H H2 := fun x u hx => b x u (ne_of_none hx n) (a x u hx)
/-- a method of the class C, that raises nothing -/
structure CalM (P : Program) (w : World) (K : PySem.W.Frag) (mg : Str → Option Value) (base : Heap) (k : Nat) (C : Addr) (m : Str) (ps : List Str) (sp : Sp) : Prop where
  ex : ∃ (f : Addr) (fd : FuncData), FnOk P w K mg base CX0 k f fd ps sp ∧ Binds K fd ps [] ∧ Meth K C m f
/-- .. that may raise -/
structure CalMX (P : Program) (w : World) (K : PySem.W.Frag) (mg : Str → Option Value) (base : Heap) (k : Nat) (C : Addr) (m : Str) (ps : List Str) (sp : Sp) : Prop where
  ex : ∃ (f : Addr) (fd : FuncData), FnOk P w K mg base (L2.CX P w) k f fd ps sp ∧ Binds K fd ps [] ∧ Meth K C m f
/-- what makes an object of the class C -/
structure CalI (P : Program) (w : World) (K : PySem.W.Frag) (mg : Str → Option Value) (base : Heap) (k : Nat) (C : Addr) (ps : List Str) (sp : Sp) : Prop where
  ex : ∃ (f : Addr) (fd : FuncData), FnOk P w K mg base CX0 k f fd ps sp ∧ Binds K fd ps [] ∧ Mk K C f
structure DefAtM (K : PySem.W.Frag) (C : Addr) (m q : Str) (st : Stmt) (ps : List Str) : Prop where
  ex : ∃ (f : Addr) (fd : FuncData), Fun K m q st f fd ∧ Binds K fd ps [] ∧ Meth K C m f
structure DefAtI (K : PySem.W.Frag) (C : Addr) (q : Str) (st : Stmt) (ps : List Str) : Prop where
  ex : ∃ (f : Addr) (fd : FuncData), Fun K "__init__" q st f fd ∧ Binds K fd ps [] ∧ Mk K C f
section
variable {P : Program} {w : World} {K : PySem.W.Frag} {mg : Str → Option Value} {base : Heap} {C : Addr}
theorem mkCalM {m q : Str} {st : Stmt} {N ps : List Str} {k : Nat} {sp : Sp} (D : DefAtM K C m q st ps) (S : FnScope N ps (defScope st)) (len : ∀ vs H Q E, sp vs H Q E → vs.length = ps.length)
    (hbody : ∀ (f : Addr) (cdv : Value) (A : Around) (outer : List Env) (s : Shared) (H : Hp) (vs : List V) (Q : VK) (E : XK), Room k (A.deeper (envOfC q (defScope st) s.heap.objs.size f cdv)) → sp vs H Q E →
      ∃ t, PSs (cxOf CX0 P w K mg base N q (defScope st) f cdv A outer s H E).nox (defBody st) t ∧ t { nx := fun _ H' => Q .non H', rt := Q } (start N vs) H) : CalM P w K mg base (k + 1) C m ps sp := by
  obtain ⟨f, fd, F, b, m⟩ := D
  exact ⟨f, fd, F.ok S len (hbody f), b, m⟩
theorem mkCalI {q : Str} {st : Stmt} {N ps : List Str} {k : Nat} {sp : Sp} (D : DefAtI K C q st ps) (S : FnScope N ps (defScope st)) (len : ∀ vs H Q E, sp vs H Q E → vs.length = ps.length)
    (hbody : ∀ (f : Addr) (cdv : Value) (A : Around) (outer : List Env) (s : Shared) (H : Hp) (vs : List V) (Q : VK) (E : XK), Room k (A.deeper (envOfC q (defScope st) s.heap.objs.size f cdv)) → sp vs H Q E →
      ∃ t, PSs (cxOf CX0 P w K mg base N q (defScope st) f cdv A outer s H E).nox (defBody st) t ∧ t { nx := fun _ H' => Q .non H', rt := Q } (start N vs) H) : CalI P w K mg base (k + 1) C ps sp := by
  obtain ⟨f, fd, F, b, m⟩ := D
  exact ⟨f, fd, F.ok S len (hbody f), b, m⟩
theorem mkCalMX {m q : Str} {st : Stmt} {N ps : List Str} {k : Nat} {sp : Sp} (D : DefAtM K C m q st ps) (S : FnScope N ps (defScope st)) (len : ∀ vs H Q E, sp vs H Q E → vs.length = ps.length)
    (hbody : ∀ (f : Addr) (cdv : Value) (A : Around) (outer : List Env) (s : Shared) (H : Hp) (vs : List V) (Q : VK) (E : XK), Room k (A.deeper (envOfC q (defScope st) s.heap.objs.size f cdv)) → sp vs H Q E →
      ∃ t, PSs (cxOf (L2.CX P w) P w K mg base N q (defScope st) f cdv A outer s H E) (defBody st) t ∧ t { nx := fun _ H' => Q .non H', rt := Q } (start N vs) H) : CalMX P w K mg base (k + 1) C m ps sp := by
  obtain ⟨f, fd, F, b, m⟩ := D
  exact ⟨f, fd, F.okX S len (hbody f), b, m⟩
theorem CalM.mono {j k : Nat} {m : Str} {ps : List Str} {sp : Sp} (c : CalM P w K mg base j C m ps sp) (h : j ≤ k) : CalM P w K mg base k C m ps sp := by
  obtain ⟨f, fd, F, r⟩ := c
  exact ⟨f, fd, F.mono h, r⟩
end
/-! fields -/
section
variable {X : Cx} {o e value : Expr} {f : Str} {pos pos' tpos : Pos} {ta tv : TE} {C : Addr}
def zFldO (C : Addr) (f : Str) (ta : TE) : TE := fun σ H Q => ta σ H fun x H1 => match x with
  | .ref a => ∃ dx fs v, H1 a = some (.ins C dx fs) ∧ fs.lookup f = some v ∧ Q v H1
  | _ => False
theorem zfldO (c : Cls X.K C) (n : NoAttr X.K C f) (he : PE X e ta) (hb : attributeBase e f X.env (eval e X.env) = eval e X.env := by rfl) : PE X (.Attribute e f pos) (zFldO C f ta) :=
  peM (pe_fld (PE.up he) hb) fun σ H Q q => ⟨_, q, fun x H1 q1 => by
    cases x with
    | ref a =>
      obtain ⟨dx, fs, v, h1, h2, q⟩ := q1
      exact ⟨a, C, dx, fs, v, rfl, h1, c, n, h2, q⟩
    | _ => exact (show False from q1).elim⟩
def zFldS (C : Addr) (f : Str) (ta tv : TE) : TS := fun D σ H => tv σ H fun y H1 => ta σ H1 fun x H2 => match x with
  | .ref a => ∃ dx fs, H2 a = some (.ins C dx fs) ∧ fs.length < 1000 ∧ Wr H2 a (.ins C dx (putF f y fs)) (D.nx σ)
  | _ => False
theorem zps_fld (c : Cls X.K C) (n : NoAttr X.K C f) (he : PE X o ta) (hv : PE X value tv) (hs : swapsWithSole [.Attribute o f pos'] value pos.line X.env = pure false := by rfl) (hw : swapsWith value (some (.Attribute o f pos')) pos.line X.env = pure false := by rfl) : PS X (.Assign [.Attribute o f pos'] value pos) (zFldS C f ta tv) := by
  refine ⟨fun pins s σ H D I h => ?_⟩
  refine (ps_fld (PE.up he) (PE.up hv) hw).run pins s σ H D I ⟨_, h, fun y H1 q1 => ⟨_, q1, fun x H2 q2 => ?_⟩⟩
  cases x with
  | ref a =>
    obtain ⟨dx, fs, h1, h2, q⟩ := q2
    exact ⟨a, C, dx, fs, rfl, h1, c, n, h2, q.up h1⟩
  | _ => exact (show False from q2).elim
def zFldA (C : Addr) (f : Str) (ta tv : TE) (rd : V → V → Hp → VK → Prop) : TS := fun D σ H => ta σ H fun x H1 => match x with
  | .ref a => ∃ dx fs v, H1 a = some (.ins C dx fs) ∧ fs.lookup f = some v ∧ tv σ H1 fun y H2 => rd v y H2 fun z H3 => ∃ dx' fs', H3 a = some (.ins C dx' fs') ∧ fs'.length < 1000 ∧ Wr H3 a (.ins C dx' (putF f z fs')) (D.nx σ)
  | _ => False
def rdUp (rd : V → V → Hp → VK → Prop) : V → V → Hp → VK → Prop := fun x y H Q => ∃ Q0 : VK, rd x y H Q0 ∧ ∀ z H, Q0 z H → Q z H
theorem inOpUp {op : Operator} {rd : V → V → Hp → VK → Prop} (h : InOp X op rd) : InOp X op (rdUp rd) := fun pins s σ H x y u v Q I rx ry ⟨Q0, q, m⟩ =>
  thn (h pins s σ H x y u v Q0 I rx ry q) fun w s1 ⟨z, H1, I1, r1, q1⟩ => ⟨z, H1, I1, r1, m _ _ q1⟩
theorem zps_fldaug {op : Operator} {rd : V → V → Hp → VK → Prop} (c : Cls X.K C) (n : NoAttr X.K C f) (he : PE X o ta) (hv : PE X value tv) (hop : InOp X op rd) : PS X (.AugAssign (.Attribute o f tpos) op value pos) (zFldA C f ta tv rd) := by
  refine ⟨fun pins s σ H D I h => ?_⟩
  refine (ps_fldaug (PE.up he) (PE.up hv) (inOpUp hop)).run pins s σ H D I ⟨_, h, fun x H1 q1 => ?_⟩
  cases x with
  | ref a =>
    obtain ⟨dx, fs, v, h1, h2, q⟩ := q1
    refine ⟨a, C, dx, fs, v, rfl, h1, c, n, h2, _, q, fun y H2 q2 => ⟨_, q2, fun z H3 q3 => ?_⟩⟩
    obtain ⟨dx', fs', h3, h4, q⟩ := q3
    exact ⟨dx', fs', h3, h4, q.up h3⟩
  | _ => exact (show False from q1).elim
/-! methods -/
variable {m : Str} {k : Nat} {ps : List Str} {sp : Sp} {es : List Expr} {t : TA} {apos p : Pos}
def zMeth (C : Addr) (m : Str) (sp : Sp) (E : XK) (ta : TE) (t : TA) : TE := fun σ H Q => ta σ H fun x H1 => match x with
  | .ref a => ∃ dx fs, H1 a = some (.ins C dx fs) ∧ fs.lookup m = none ∧ t σ H1 fun vs H2 => sp (.ref a :: vs) H2 Q E
  | _ => False
theorem zmeth_of {dvs : List V} {E : XK} {σ : L2.St} {H : Hp} {Q : VK} (q : zMeth C m sp E ta t σ H Q) : tMeth C m sp [] E (fun σ H Q => ∃ Q0 : VK, ta σ H Q0 ∧ ∀ b H, Q0 b H → Q b H) (fun σ H Q => ∃ Q0 : List V → Hp → Prop, t σ H Q0 ∧ ∀ b H, Q0 b H → Q b H) σ H Q := ⟨_, q, fun x H1 q1 => by
    cases x with
    | ref a =>
      obtain ⟨dx, fs, h1, h2, q⟩ := q1
      exact ⟨a, dx, fs, rfl, h1, h2, _, q, fun vs H2 q => by
        show sp (V.ref a :: (vs ++ [])) H2 Q E
        rw [List.append_nil]; exact q⟩
    | _ => exact (show False from q1).elim⟩
theorem zmeth {pl : Sem Bool} (c : Cls X.K C) (M : CalM X.prog X.w X.K X.mg X.base k C m ps sp) (hr : Room k X.A) (he : PE X o ta) (ha : PA X (e :: es) t)
    (hst : starEach (e :: es) X.env = (false, eval e X.env) :: starEach es X.env := by rfl) (hpl : (backTo pos (starEach es X.env)).any (·.1) = false := by rfl)
    (ht : eval (.Call (.Attribute o m apos) (e :: es) [] pos) X.env = (do
      let ov ← eval o X.env
      standAt apos.atName
      let (f, first) ← holding [ov] (getMethod ov m pl)
      callWith pos f first (backTo pos (starEach (e :: es) X.env)) (backToKw pos (keywordEach [] X.env))) := by rfl) :
    PE X (.Call (.Attribute o m apos) (e :: es) [] pos) (zMeth C m sp E0 ta t) := by
  obtain ⟨f, fd, F, b, hm⟩ := M
  exact peM (pe_meth (PE.up he) c hm F hr b .nil pass0 (PA.up ha) hst hpl ht) fun σ H Q q => zmeth_of (dvs := []) q
theorem zmeth0 {pl : Sem Bool} (c : Cls X.K C) (M : CalM X.prog X.w X.K X.mg X.base k C m ps sp) (hr : Room k X.A) (he : PE X o ta)
    (ht : eval (.Call (.Attribute o m apos) [] [] pos) X.env = (do
      let ov ← eval o X.env
      standAt apos.atName
      let (f, first) ← holding [ov] (getMethod ov m pl)
      callWith pos f first (backTo pos (starEach [] X.env)) (backToKw pos (keywordEach [] X.env))) := by rfl) :
    PE X (.Call (.Attribute o m apos) [] [] pos) (zMeth C m sp E0 ta tNil) := by
  obtain ⟨f, fd, F, b, hm⟩ := M
  exact peM (pe_meth0 (PE.up he) c hm F hr b .nil pass0 ht) fun σ H Q q => ⟨_, q, fun x H1 q1 => by
    cases x with
    | ref a =>
      obtain ⟨dx, fs, h1, h2, q⟩ := q1
      exact ⟨a, dx, fs, rfl, h1, h2, q⟩
    | _ => exact (show False from q1).elim⟩
/-- a method that may raise, and does not here -/
theorem zmethL {pl : Sem Bool} (c : Cls X.K C) (M : CalMX X.prog X.w X.K X.mg X.base k C m ps sp) (hr : Room k X.A) (he : PE X o ta) (ha : PA X (e :: es) t)
    (hst : starEach (e :: es) X.env = (false, eval e X.env) :: starEach es X.env := by rfl) (hpl : (backTo pos (starEach es X.env)).any (·.1) = false := by rfl)
    (ht : eval (.Call (.Attribute o m apos) (e :: es) [] pos) X.env = (do
      let ov ← eval o X.env
      standAt apos.atName
      let (f, first) ← holding [ov] (getMethod ov m pl)
      callWith pos f first (backTo pos (starEach (e :: es) X.env)) (backToKw pos (keywordEach [] X.env))) := by rfl) :
    PE X (.Call (.Attribute o m apos) (e :: es) [] pos) (zMeth C m sp E0 ta t) := by
  obtain ⟨f, fd, F, b, hm⟩ := M
  exact peM (pe_meth (PE.up he) c hm F hr b .nil passL (PA.up ha) hst hpl ht) fun σ H Q q => zmeth_of (dvs := []) q
/-- .. and may do so here: what is in the air is taken by W -/
def zMethX (C : Addr) (m : Str) (sp : Sp) (W : WX) (ta : TE) (t : TA) : TE := fun σ H Q => ta σ H fun x H1 => match x with
  | .ref a => ∃ dx fs, H1 a = some (.ins C dx fs) ∧ fs.lookup m = none ∧ t σ H1 fun vs H2 => sp (.ref a :: vs) H2 Q (WE W σ)
  | _ => False
theorem zmethX {pl : Sem Bool} {W : WX} (c : Cls X.K C) (M : CalMX X.prog X.w X.K X.mg X.base k C m ps sp) (hr : Room k X.A) (tk : Takes X W) (he : PE X o ta) (ha : PA X (e :: es) t)
    (hst : starEach (e :: es) X.env = (false, eval e X.env) :: starEach es X.env := by rfl) (hpl : (backTo pos (starEach es X.env)).any (·.1) = false := by rfl)
    (ht : eval (.Call (.Attribute o m apos) (e :: es) [] pos) X.env = (do
      let ov ← eval o X.env
      standAt apos.atName
      let (f, first) ← holding [ov] (getMethod ov m pl)
      callWith pos f first (backTo pos (starEach (e :: es) X.env)) (backToKw pos (keywordEach [] X.env))) := by rfl) :
    PE X (.Call (.Attribute o m apos) (e :: es) [] pos) (zMethX C m sp W ta t) := by
  obtain ⟨f, fd, F, b, hm⟩ := M
  refine ⟨fun pins s σ H Q I h => ?_⟩
  refine PySem.W.methodCall_KW (pl := pl) (thn (he.run pins s σ H _ I h) fun u s1 ⟨x, H1, I1, rx, q1⟩ => ?_) ht
  cases x with
  | ref a =>
    obtain ⟨dx, fs, ea, l, q⟩ := q1
    obtain rfl : u = Value.ref a := rx
    refine getmeth_ok I1 ea c hm l ?_
    refine PySem.W.callWith_K (h₀ := X.base) (first := [.ref a]) I.ok.mod.kin hm.kp (thn (ha.run pos pins s1 σ H1 _ I1 q) fun us s2 ⟨vs, H2, I2, r, q2⟩ => ⟨I2.kIn, ?_⟩) hst hpl
    exact run_fnS (us := .ref a :: us) (vs := .ref a :: vs) F hr b (passAt tk σ) I2 (.cons rfl r) q2
  | _ => exact (show False from q1).elim
/-- making an object -/
def zMake (C : Addr) (sp : Sp) (t : TA) : TE := fun σ H Q => t σ H fun vs H1 => ∀ x dx H', H1 x = none → H' x = some (.ins C dx []) → Same H1 H' → sp (.ref x :: vs) H' (fun v H2 => v = .non ∧ Q (.ref x) H2) E0
theorem zmake {x : Str} (M : CalI X.prog X.w X.K X.mg X.base k C ps sp) (hr : Room (k + 1) X.A) (hg : Gl X x) (hm : X.mg x = some (.ref C)) (ha : PA X (e :: es) t) (hdb : (x == ("__debug__" : Str)) = false := by decide)
    (he : starEach (e :: es) X.env = (false, eval e X.env) :: starEach es X.env := by rfl) (hpl : (backTo pos (starEach es X.env)).any (·.1) = false := by rfl) :
    PE X (.Call (.Name x p) (e :: es) [] pos) (zMake C sp t) := by
  obtain ⟨f, fd, F, b, M⟩ := M
  refine peM (pe_make M F hr hg hm b .nil pass0 (PA.up ha) hdb he hpl) fun σ H Q q => ⟨_, q, fun vs H1 q1 y dx h1 h2 h3 => ?_⟩
  rw [List.append_nil]
  refine q1 y dx _ h1 upd_same fun a o ha => ?_
  rw [upd_ne (ne_of_none ha h1), upd_ne (ne_of_none ha h2)]
  exact ha
theorem zmake0 {x : Str} (M : CalI X.prog X.w X.K X.mg X.base k C ps sp) (hr : Room (k + 1) X.A) (hg : Gl X x) (hm : X.mg x = some (.ref C)) (hdb : (x == ("__debug__" : Str)) = false := by decide) :
    PE X (.Call (.Name x p) [] [] pos) (zMake C sp tNil) := by
  obtain ⟨f, fd, F, b, M⟩ := M
  refine peM (pe_make0 M F hr hg hm b .nil pass0 hdb) fun σ H Q q y dx h1 h2 h3 => ?_
  refine q y dx _ h1 upd_same fun a o ha => ?_
  rw [upd_ne (ne_of_none ha h1), upd_ne (ne_of_none ha h2)]
  exact ha
end
end Z

set_option Elab.async false
set_option linter.all false
set_option maxRecDepth 100000
/-! count and index in lists of bools -/
namespace Z
open PySem PySem.Spec PyProof.Rows L2
section
variable {X : Cx}
theorem plain_bools : ∀ ns : List Bool, PyData.plainAll (ns.map PyData.bool) = true
  | [] => rfl
  | n :: ns => by
    show (PyData.plain (.bool n) && PyData.plainAll (ns.map PyData.bool)) = true
    rw [plain_bools ns]; rfl
theorem countP_bools (y : Bool) : ∀ ns : List Bool, (ns.map PyData.bool).countP (fun z => PyData.eqv z (.bool y)) = ns.count y
  | [] => rfl
  | n :: ns => by
    rw [List.map_cons, List.countP_cons, countP_bools y ns, List.count_cons]
    have e : PyData.eqv (.bool n) (.bool y) = (n == y) := by cases n <;> cases y <;> rfl
    rw [e]
theorem zcountB (hu : X.A.units + 64 < cLine) : MtR X "list.count" (fun x vs H Q => match x, vs with | .ref p, [.bl y] => ∃ ns : List Bool, SqL X.K H p (ns.map V.bl) ∧ Q (.int (ns.count y : Nat)) H | _, _ => False) := by
  intro pins s σ H x xs v us Q I rx rxs h
  split at h
  · rename_i p y
    obtain ⟨ns, hs, q⟩ := h
    cases rx
    obtain ⟨u, rfl, ru⟩ := rxs.one
    obtain ⟨its, rv, hl, hlen⟩ := I.list hs
    obtain ⟨as, h4⟩ := Dp.readsAll I (ns.map PyData.bool) _ its (dpAll_bools ns) rv
    obtain ⟨bs, r1⟩ := Dp.reads I (.bool y) (.bl y) _ (.bl y) ru
    obtain ⟨o, n, ho, hc, hdn, hd⟩ := hl
    refine SeqAt.count_list_data (xs := ns.map PyData.bool) ⟨o, ho, hc, n, hd⟩ (by simpa using h4) r1 (plain_bools ns) rfl ?_ ?_
    · rw [depth_bools]
      show X.A.units + 1 + min 0 _ < cLine
      rw [Nat.zero_min]; omega
    · rw [countP_bools]
      exact ⟨.int (ns.count y : Nat), H, I.tok _, ⟨s.toks, rfl⟩, q⟩
  · exact h.elim
theorem zindexB : MtR X "list.index" (fun x vs H Q => match x, vs with | .ref a, [.bl y] => ∃ (ns : List Bool) (j : Nat), SqL X.K H a (ns.map V.bl) ∧ ns[j]? = some y ∧ (∀ m z, m < j → ns[m]? = some z → z ≠ y) ∧ Q (.int (j : Nat)) H | _, _ => False) := mtM mt_index fun x vs H Q q => by
  split at q
  · rename_i y
    obtain ⟨ns, j, h1, h2, h3, q⟩ := q
    refine ⟨_, ns.map V.bl, _, j, _, rfl, rfl, h1, rfl, ?_, by rw [List.getElem?_map, h2]; rfl, ?_, fun m z hm hz => ?_, q⟩
    · rw [List.all_eq_true]
      intro v hv
      obtain ⟨n, _, rfl⟩ := List.mem_map.mp hv
      rfl
    · simp [eqV]
    · rw [List.getElem?_map] at hz
      cases hc : ns[m]? with
      | none => rw [hc] at hz; cases hz
      | some n =>
        rw [hc] at hz; cases hz
        have := h3 m n hm hc
        simpa [eqV] using this
  · exact q.elim
end
end Z

set_option Elab.async false
set_option linter.all false
set_option maxRecDepth 100000
/-! shifts, masks, bit_length; the call of a class's own __init__ -/
namespace Z
open PySem PySem.Spec PyProof.Rows L2
section
variable {X : Cx} {o e : Expr} {to te : TE} {pos apos p : Pos}
theorem zandM : OpR X (binaryOp .BitAnd) (fun x y H Q => match x, y with | .int i, .int j => ∃ k : Nat, j = 2 ^ k - 1 ∧ Q (.int (i % 2 ^ k)) H | _, _ => False) := opM op_andM fun x y H Q q => by
  split at q
  · obtain ⟨k, e, q⟩ := q
    exact ⟨_, k, rfl, congrArg V.int e, q⟩
  · exact q.elim
theorem zshr : OpR X (binaryOp .RShift) (zI (fun _ j => 0 ≤ j) fun i j => .int (i / 2 ^ j.toNat)) := zI_of op_shr
def zBits (to : TE) : TE := fun σ H Q => to σ H fun x H1 => match x with | .int i => ∀ k : Nat, (∀ m : Nat, i.natAbs < 2 ^ m → k ≤ m) → i.natAbs < 2 ^ k → Q (.int (k : Nat)) H1 | _ => False
theorem zbits (ho : PE X o to) (hbase : attributeBase o "bit_length" X.env (eval o X.env) = eval o X.env := by rfl) (hline : (apos.endLine == pos.line) = true := by rfl) : PE X (.Call (.Attribute o "bit_length" apos) [] [] pos) (zBits to) :=
  peM (pe_bits (PE.up ho) hbase hline) fun σ H Q q => ⟨_, q, fun x H1 q => by
    cases x with
    | int i => exact ⟨i, rfl, q _ (fun m h => bits_le h) (bits_lt (Nat.le_refl _))⟩
    | _ => exact (show False from q).elim⟩
/-! C.__init__(self, ..) -/
structure CalF (P : Program) (w : World) (K : PySem.W.Frag) (mg : Str → Option Value) (base : Heap) (k : Nat) (C : Addr) (ps : List Str) (sp : Sp) : Prop where
  ex : ∃ (f : Addr) (fd : FuncData), FnOk P w K mg base CX0 k f fd ps sp ∧ Binds K fd ps [] ∧ PySem.W.keepIn K (.ref f) = true ∧ ClX.CRead K C (.type "type") ∧ PySem.W.findCls K (.ref C) (.type "type") "__init__" = some (.val (.ref f))
theorem CalI.toF {P : Program} {w : World} {K : PySem.W.Frag} {mg : Str → Option Value} {base : Heap} {k : Nat} {C f0 : Addr} {ps : List Str} {sp : Sp} (c : CalI P w K mg base k C ps sp) (r : ClX.CRead K C (.type "type")) (kp : PySem.W.keepIn K (.ref f0) = true) (hi : PySem.W.findIn K (.ref C) "__init__" = some (some (.ref f0)))
    (hf : PySem.W.findCls K (.ref C) (.type "type") "__init__" = some (.val (.ref f0))) : CalF P w K mg base k C ps sp := by
  obtain ⟨f, fd, F, b, M⟩ := c
  have e := M.init.symm.trans hi
  cases e
  exact ⟨_, fd, F, b, kp, r, hf⟩
variable {C : Addr} {k : Nat} {ps : List Str} {sp : Sp} {es : List Expr} {t : TA}
theorem zclsinit {pl : Sem Bool} (hcn : PE X o (tC (.ref C))) (M : CalF X.prog X.w X.K X.mg X.base k C ps sp) (hr : Room k X.A) (ha : PA X (e :: es) t)
    (hst : starEach (e :: es) X.env = (false, eval e X.env) :: starEach es X.env := by rfl) (hpl : (backTo pos (starEach es X.env)).any (·.1) = false := by rfl)
    (ht : eval (.Call (.Attribute o "__init__" apos) (e :: es) [] pos) X.env = (do
      let ov ← eval o X.env
      standAt apos.atName
      let (f, first) ← holding [ov] (getMethod ov "__init__" pl)
      callWith pos f first (backTo pos (starEach (e :: es) X.env)) (backToKw pos (keywordEach [] X.env))) := by rfl) :
    PE X (.Call (.Attribute o "__init__" apos) (e :: es) [] pos) (tCall sp [] E0 t) := by
  obtain ⟨f, fd, F, b, kp, r, hf⟩ := M
  refine ⟨fun pins s σ H Q I h => ?_⟩
  refine PySem.W.methodCall_KW (pl := pl) (thn (hcn.run pins s σ H (fun x G => x = V.ref C ∧ tCall sp [] E0 t σ G Q) I ⟨rfl, h⟩) fun u s1 ⟨x, H1, I1, rx, ex, q⟩ => ?_) ht
  subst ex
  obtain rfl : u = Value.ref C := rx
  refine PySem.W.method_cls I1.kIn r.ga (PySem.W.cls_value I1.kIn r.rd hf rfl ?_)
  have I1' := I1.tok (s1.toks + 1)
  refine PySem.W.callWith_K (h₀ := X.base) (first := []) I.ok.mod.kin kp (thn (ha.run pos pins _ σ H1 _ I1' q) fun us s2 ⟨vs, H2, I2, r2, q2⟩ => ⟨I2.kIn, ?_⟩) hst hpl
  exact run_fn (us := us) (vs := vs) F hr b .nil pass0 I2 r2 q2
end
end Z

set_option Elab.async false
set_option linter.all false
set_option maxRecDepth 100000
set_option maxHeartbeats 4000000
/-! enumerate(zip(a, b)), its pairs unpacked: the inner tuple is not given back, so the zip may find its own tuple held -/
namespace Z
open PySem PySem.Spec PyProof.Rows L2
/-- a zip's record, whatever tuple it gave out -/
def ZRec (h : Heap) (z TI TO : Addr) : Prop := ∃ (v : Value) (f : Bool), (v = .none ∨ ∃ T : Addr, v = rawInt T) ∧
  h.get? z = some { cls := .type "zip", dict := none, data := .fields #[v, .bool f, .bool false, .ref TI, .ref TO], slots := #[] }
section
variable {prog : Program} {w : World} {A : Around} {E : Value → Shared → Prop} {s : Shared} {z TI TO i1 i2 : Addr} {c1 c2 : List Addr} {n1 n2 i : Nat} {P1 P2 : Nat → Value → Prop} {St1 St2 : Nat → Heap → Prop}
/-- is the own tuple free: the answer is open, the record stands -/
theorem own_free {v : Value} {f : Bool} {Q : Bool → Shared → Prop} (hv : v = .none ∨ ∃ T : Addr, v = rawInt T)
    (hz : s.heap.get? z = some { cls := .type "zip", dict := none, data := .fields #[v, .bool f, .bool false, .ref TI, .ref TO], slots := #[] })
    (go : ∀ (b : Bool) (g : Heap) (f2 : Bool), g.get? z = some { cls := .type "zip", dict := none, data := .fields #[v, .bool f2, .bool false, .ref TI, .ref TO], slots := #[] } → Heap.SameBut z s.heap g → Q b { s with heap := g }) :
    wpAny (model prog w) A (Builtin.SmallTypes.ownedTupleIsFree (.ref z)) Q E s := by
  unfold Builtin.SmallTypes.ownedTupleIsFree
  rcases hv with rfl | ⟨T, rfl⟩
  · exact wpAny_bind (wpAny_field hz rfl (x := .none) rfl (wpAny_pure (go true s.heap f hz (Heap.SameBut.refl _ _))))
  · refine wpAny_bind (wpAny_field hz rfl (x := rawInt T) rfl ?_)
    have look : ∀ {R : Option Obj → Shared → Prop}, R (s.heap.get? T) s → wpAny (model prog w) A (loadIfAlive T) R E s := fun r _ _ _ => r
    show wpAny _ _ (loadIfAlive (((T : Nat) : Int).toNat) >>= _) _ _ _
    rw [Int.toNat_natCast]
    refine wpAny_bind (look ?_)
    cases s.heap.get? T with
    | none => exact wpAny_pure (go true s.heap f hz (Heap.SameBut.refl _ _))
    | some o =>
      refine wpAny_bind (wpAny_field hz rfl (x := .bool f) rfl ?_)
      cases f with
      | true => exact wpAny_pure (go false s.heap true hz (Heap.SameBut.refl _ _))
      | false => exact wpAny_bind (wpAny_setField_rec hz (by simp) fun g hg same => wpAny_pure (go false g true hg same))
/-- what a turn of the zip leaves -/
def ZOut (s : Shared) (z TI TO i1 i2 : Addr) (n : Nat) (P1 P2 : Nat → Value → Prop) (St1 St2 : Nat → Heap → Prop) (Q : Value → Shared → Prop) : Prop :=
  ∀ (U : Addr) (x y : Value) (g : Heap) (tk : Nat), s.heap.objs.size ≤ U → P1 n x → P2 n y → ZRec g z TI TO → (∃ p q, IsTupOf2 g TO p q) → St1 (n + 1) g → St2 (n + 1) g → IsTupOf2 g U x y →
    (∀ b o, b ≠ z → b ≠ TO → b ≠ i1 → b ≠ i2 → s.heap.get? b = some o → g.get? b = some o) → Q (.ref U) { s with heap := g, toks := tk }
theorem zip_turn {Q : Value → Shared → Prop} (S : ZipSep2 z TI TO i1 i2 c1 c2) (D1 : Draws prog w A i1 c1 n1 P1 St1) (D2 : Draws prog w A i2 c2 n2 P2 St2) (hz : ZRec s.heap z TI TO)
    (hI : IsTupOf2 s.heap TI (.ref i1) (.ref i2)) (hO : ∃ p q, IsTupOf2 s.heap TO p q) (t1 : St1 i s.heap) (t2 : St2 i s.heap) (l1 : i < n1) (l2 : i < n2) (go : ZOut s z TI TO i1 i2 i P1 P2 St1 St2 Q) :
    wpAny (model prog w) A (Builtin.«zip.__next__» ⟨[.ref z], []⟩) (fun r s2 => ∃ v, r = .done (.ret v) ∧ Q v s2) E s := by
  obtain ⟨v, f, hv, hz⟩ := hz
  obtain ⟨p, q, hO⟩ := hO
  obtain ⟨h0, gn, dr, tk0, os⟩ := s
  change wpAny _ _ (field (Value.ref z) 2 >>= _) _ _ _
  refine wpAny_bind (wpAny_field hz rfl (x := .bool false) rfl ?_)
  change wpAny _ _ (field (Value.ref z) 3 >>= _) _ _ _
  refine wpAny_bind (wpAny_field hz rfl (x := .ref TI) rfl ?_)
  refine wpAny_bind (wpAny_seqItems hI rfl ?_)
  change wpAny _ _ (Builtin.SmallTypes.ownedTupleIsFree (Value.ref z) >>= _) _ _ _
  refine wpAny_bind (own_free hv hz fun b g f2 hz2 same => ?_)
  replace same : Heap.SameBut z h0 g := same
  have hI2 : IsTupOf2 g TI (.ref i1) (.ref i2) := same.extBut _ _ S.TIz hI
  have hO2 : IsTupOf2 g TO p q := same.extBut _ _ S.TOz hO
  have u1 : St1 i g := D1.over t1 same S.zf1
  have u2 : St2 i g := D2.over t2 same S.zf2
  have size0 : g.objs.size = h0.objs.size := same.1
  cases b with
  | false =>
    -- a new tuple, its own one is held
    simp only [Bool.false_eq_true, if_false]
    refine wpAny_bind ?_
    rw [← Array.forIn_toList]
    simp only [List.forIn_cons, List.forIn_nil]
    refine wpAny_bind (wpAny_bind (wpAny_holding ?_))
    change wpAny _ _ (Builtin.SmallTypes.nextOf (Value.ref i1) >>= _) _ _ ⟨g, gn, dr, tk0, os⟩
    refine wpAny_bind (D1.item i _ _ _ l1 u1 fun x ga ka px v1 s1 => wpAny_pure ?_)
    replace s1 : Heap.SameBut i1 g ga := s1
    refine wpAny_pure (wpAny_bind (wpAny_bind (wpAny_holding ?_)))
    change wpAny _ _ (Builtin.SmallTypes.nextOf (Value.ref i2) >>= _) _ _ ⟨ga, gn, dr, ka, os⟩
    refine wpAny_bind (D2.item i _ _ _ l2 (D2.over u2 s1 S.sep1_2) fun y gb kb py v2 s2 => wpAny_pure ?_)
    replace s2 : Heap.SameBut i2 ga gb := s2
    refine wpAny_pure (wpAny_pure ?_)
    change wpAny _ _ (newTuple [x, y] >>= _) _ _ ⟨gb, gn, dr, kb, os⟩
    refine wpAny_bind (wpAny_newTuple (wpAny_pure ⟨_, rfl, ?_⟩))
    have up : ∀ {c : Addr} {o : Obj}, gb.get? c = some o → (gb.push { cls := .type "tuple", data := .seq #[x, y] }).get? c = some o := fun e => Heap.get?_push_of_some _ e
    refine go gb.objs.size x y _ kb (by rw [s2.1, s1.1, size0]; exact Nat.le_refl _) px py ⟨v, f2, hv, up (s2.extBut _ _ S.zi2 (s1.extBut _ _ S.zi1 hz2))⟩ ⟨p, q, up (s2.extBut _ _ S.Ti2 (s1.extBut _ _ S.Ti1 hO2))⟩ ?_ ?_ (Heap.get?_push_size _ rfl) ?_
    · exact D1.frame _ _ _ (D1.over v1 s2 S.sep2_1) fun c _ o e => up e
    · exact D2.frame _ _ _ v2 fun c _ o e => up e
    · exact fun b o n1 _ n3 n4 e => up (s2.extBut _ _ n4 (s1.extBut _ _ n3 (same.extBut _ _ n1 e)))
  | true =>
    -- its own tuple, filled anew
    simp only [if_true]
    refine wpAny_bind (wpAny_rule ?_)
    refine wpAny_bind (wpAny_field hz2 rfl (x := .ref TO) rfl ?_)
    refine wpAny_bind (wpAny_setField_rec hz2 (by simp) fun ge hze se => ?_)
    replace se : Heap.SameBut z g ge := se
    refine wpAny_bind ?_
    simp only [List.zipIdx_cons, List.zipIdx_nil, List.forIn_cons, List.forIn_nil]
    refine wpAny_bind (wpAny_bind (wpAny_onRaise ?_))
    change wpAny _ _ (Builtin.SmallTypes.nextOf (Value.ref i1) >>= _) _ _ ⟨ge, gn, dr, tk0, os⟩
    refine wpAny_bind (D1.item i _ _ _ l1 (D1.over u1 se S.zf1) fun x ga ka px v1 s1 => wpAny_pure ?_)
    replace s1 : Heap.SameBut i1 ge ga := s1
    have o1 : IsTupOf2 ga TO p q := s1.extBut _ _ S.Ti1 (se.extBut _ _ S.TOz hO2)
    refine wpAny_bind (wpAny_seqItems (s := ⟨ga, gn, dr, ka, os⟩) o1 rfl ?_)
    refine wpAny_bind (updateSeq_IsTupOf2 (s := ⟨ga, gn, dr, ka, os⟩) o1 fun gc oc sc => ?_)
    replace oc : IsTupOf2 gc TO x q := oc
    replace sc : Heap.SameBut TO ga gc := sc
    refine wpAny_bind (wpAny_letGo (wpAny_pure (wpAny_bind (wpAny_bind (wpAny_onRaise ?_)))))
    change wpAny _ _ (Builtin.SmallTypes.nextOf (Value.ref i2) >>= _) _ _ ⟨gc, gn, dr, ka, os⟩
    refine wpAny_bind (D2.item i _ _ _ l2 (D2.over (D2.over (D2.over u2 se S.zf2) s1 S.sep1_2) sc S.Tf2) fun y gb kb py v2 s2 => wpAny_pure ?_)
    replace s2 : Heap.SameBut i2 gc gb := s2
    have o2 : IsTupOf2 gb TO x q := s2.extBut _ _ S.Ti2 oc
    refine wpAny_bind (wpAny_seqItems (s := ⟨gb, gn, dr, kb, os⟩) o2 rfl ?_)
    refine wpAny_bind (updateSeq_IsTupOf2 (s := ⟨gb, gn, dr, kb, os⟩) o2 fun gd od sd => ?_)
    replace od : IsTupOf2 gd TO x y := od
    replace sd : Heap.SameBut TO gb gd := sd
    refine wpAny_bind (wpAny_letGo (wpAny_pure (wpAny_pure ?_)))
    refine wpAny_bind (wpAny_seqItems (s := ⟨gd, gn, dr, kb, os⟩) od rfl (wpAny_bind (wpAny_newTuple ?_)))
    have size1 : gd.objs.size = h0.objs.size := by rw [sd.1, s2.1, sc.1, s1.1, se.1, size0]
    have zd := sd.extBut _ _ S.TOz.symm (s2.extBut _ _ S.zi2 (sc.extBut _ _ S.TOz.symm (s1.extBut _ _ S.zi1 hze)))
    have zlt := Heap.lt_size zd
    have push : ∀ {c : Addr} {o : Obj}, gd.get? c = some o → (gd.push { cls := .type "tuple", data := .seq #[x, y] }).get? c = some o := fun e => Heap.get?_push_of_some _ e
    change wpAny _ _ (Builtin.SmallTypes.ownedTupleHandOut (Value.ref z) (Value.ref gd.objs.size) >>= _) _ _ ⟨gd.push { cls := .type "tuple", data := .seq #[x, y] }, gn, dr, kb, os⟩
    refine wpAny_bind ?_
    unfold Builtin.SmallTypes.ownedTupleHandOut
    refine wpAny_bind (wpAny_setField_rec (push zd) (by simp) fun gx hzx sx => ?_)
    refine wpAny_setField_rec hzx (by simp) fun gy hzy sy => wpAny_pure ⟨_, rfl, ?_⟩
    replace sx : Heap.SameBut z (gd.push { cls := .type "tuple", data := .seq #[x, y] }) gx := sx
    replace sy : Heap.SameBut z gx gy := sy
    have up : ∀ {c : Addr} {o : Obj}, c ≠ z → gd.get? c = some o → gy.get? c = some o := fun n e => sy.extBut _ _ n (sx.extBut _ _ n (push e))
    have tup : IsTupOf2 gy gd.objs.size x y := sy.extBut _ _ (Nat.ne_of_gt zlt) (sx.extBut _ _ (Nat.ne_of_gt zlt) (Heap.get?_push_size _ rfl))
    refine go gd.objs.size x y gy kb (by rw [size1]; exact Nat.le_refl _) px py ⟨rawInt gd.objs.size, false, .inr ⟨_, rfl⟩, hzy⟩ ⟨x, y, up S.TOz od⟩ ?_ ?_ tup ?_
    · exact D1.frame _ _ _ (D1.over (D1.over (D1.over v1 sc S.Tf1) s2 S.sep2_1) sd S.Tf1) fun c m o e => up (fun q => S.zf1 (q ▸ m)) e
    · exact D2.frame _ _ _ (D2.over v2 sd S.Tf2) fun c m o e => up (fun q => S.zf2 (q ▸ m)) e
    · exact fun b o n1 n2 n3 n4 e => up n1 (sd.extBut _ _ n2 (s2.extBut _ _ n4 (sc.extBut _ _ n2 (s1.extBut _ _ n3 (se.extBut _ _ n1 (same.extBut _ _ n1 e))))))
theorem zip_stop {Q : PySem.Fin → Shared → Prop} (S : ZipSep2 z TI TO i1 i2 c1 c2) (D1 : Draws prog w A i1 c1 n1 P1 St1) (hz : ZRec s.heap z TI TO) (hI : IsTupOf2 s.heap TI (.ref i1) (.ref i2)) (hO : ∃ p q, IsTupOf2 s.heap TO p q) (t1 : St1 n1 s.heap)
    (go : ∀ (g : Heap) (tk : Nat) (x : Addr), (∀ b o, b ≠ z → b ≠ TO → b ≠ i1 → b ≠ i2 → s.heap.get? b = some o → g.get? b = some o) → (∃ o, g.get? x = some o ∧ o.cls = .type "StopIteration") → E (.ref x) { s with heap := g, toks := tk }) :
    wpAny (model prog w) A (Builtin.«zip.__next__» ⟨[.ref z], []⟩) Q E s := by
  obtain ⟨v, f, hv, hz⟩ := hz
  obtain ⟨p, q, hO⟩ := hO
  obtain ⟨h0, gn, dr, tk0, os⟩ := s
  change wpAny _ _ (field (Value.ref z) 2 >>= _) _ _ _
  refine wpAny_bind (wpAny_field hz rfl (x := .bool false) rfl ?_)
  change wpAny _ _ (field (Value.ref z) 3 >>= _) _ _ _
  refine wpAny_bind (wpAny_field hz rfl (x := .ref TI) rfl ?_)
  refine wpAny_bind (wpAny_seqItems hI rfl ?_)
  change wpAny _ _ (Builtin.SmallTypes.ownedTupleIsFree (Value.ref z) >>= _) _ _ _
  refine wpAny_bind (own_free hv hz fun b g f2 hz2 same => ?_)
  replace same : Heap.SameBut z h0 g := same
  have u1 : St1 n1 g := D1.over t1 same S.zf1
  cases b with
  | false =>
    simp only [Bool.false_eq_true, if_false]
    refine wpAny_bind ?_
    rw [← Array.forIn_toList]
    simp only [List.forIn_cons, List.forIn_nil]
    refine wpAny_bind (wpAny_bind (wpAny_holding ?_))
    change wpAny _ _ (Builtin.SmallTypes.nextOf (Value.ref i1) >>= _) _ _ ⟨g, gn, dr, tk0, os⟩
    refine wpAny_bind (D1.done ⟨g, gn, dr, tk0, os⟩ _ _ u1 fun ga x ext st => ?_)
    exact go ga tk0 x (fun b o n1 _ n3 _ e => ext _ _ n3 (same.extBut _ _ n1 e)) st
  | true =>
    simp only [if_true]
    refine wpAny_bind (wpAny_rule ?_)
    refine wpAny_bind (wpAny_field hz2 rfl (x := .ref TO) rfl ?_)
    refine wpAny_bind (wpAny_setField_rec hz2 (by simp) fun ge hze se => ?_)
    replace se : Heap.SameBut z g ge := se
    refine wpAny_bind ?_
    simp only [List.zipIdx_cons, List.zipIdx_nil, List.forIn_cons, List.forIn_nil]
    refine wpAny_bind (wpAny_bind (wpAny_onRaise ?_))
    change wpAny _ _ (Builtin.SmallTypes.nextOf (Value.ref i1) >>= _) _ _ ⟨ge, gn, dr, tk0, os⟩
    refine wpAny_bind (D1.done ⟨ge, gn, dr, tk0, os⟩ _ _ (D1.over u1 se S.zf1) fun ga x ext st => ?_)
    replace ext : Heap.ExtBut i1 ge ga := ext
    obtain ⟨o, ho, hc⟩ := st
    replace ho : ga.get? x = some o := ho
    have za := ext _ _ S.zi1 hze
    have xz : x ≠ z := fun q => by
      rw [q, za] at ho
      cases ho
      exact nomatch (show Value.type "zip" = Value.type "StopIteration" from hc)
    refine wpAny_setField_rec (s := ⟨ga, gn, dr, tk0, os⟩) za (by simp) fun gb _ sb => ?_
    replace sb : Heap.SameBut z ga gb := sb
    exact go gb tk0 x (fun b o n1 _ n3 _ e => sb.extBut _ _ n1 (ext _ _ n3 (se.extBut _ _ n1 (same.extBut _ _ n1 e)))) ⟨o, sb.extBut _ _ xz ho, hc⟩
/-- the enumerate's turn over it -/
theorem num_turn {e : Addr} {c : Int} {old : Value} {Q : Value → Shared → Prop} (S : ZipSep2 z TI TO i1 i2 c1 c2) (D1 : Draws prog w A.in1 i1 c1 n1 P1 St1) (D2 : Draws prog w A.in1 i2 c2 n2 P2 St2)
    (ne : e ≠ z ∧ e ≠ TO ∧ e ≠ TI ∧ e ≠ i1 ∧ e ≠ i2 ∧ e ∉ c1 ∧ e ∉ c2) (he : IsEnum s.heap e z c old) (hz : ZRec s.heap z TI TO) (hI : IsTupOf2 s.heap TI (.ref i1) (.ref i2)) (hO : ∃ p q, IsTupOf2 s.heap TO p q) (t1 : St1 i s.heap) (t2 : St2 i s.heap) (l1 : i < n1) (l2 : i < n2)
    (go : ∀ (T U : Addr) (x y : Value) (t : Tok) (g : Heap) (tk : Nat), s.heap.objs.size ≤ U → U ≠ T → s.heap.objs.size ≤ T → P1 i x → P2 i y → IsEnumOut g e z (c + 1) (.ref U) T → ZRec g z TI TO → (∃ p q, IsTupOf2 g TO p q) → St1 (i + 1) g → St2 (i + 1) g →
      IsTupOf2 g U x y → IsTupOf2 g T (.int c t) (.ref U) → (∀ b o, b ≠ e → b ≠ z → b ≠ TO → b ≠ i1 → b ≠ i2 → s.heap.get? b = some o → g.get? b = some o) → Q (.ref T) { s with heap := g, toks := tk }) :
    wpAny (model prog w) A (Builtin.«enumerate.__next__» ⟨[.ref e], []⟩) (fun r s2 => ∃ v, r = .done (.ret v) ∧ Q v s2) E s := by
  obtain ⟨nz, nO, nI, n1', n2', m1, m2⟩ := ne
  have hT : s.TypeIs (.ref z) "zip" := by obtain ⟨v, f, _, k⟩ := hz; exact ⟨_, k, rfl⟩
  obtain ⟨h0, gn, dr, tk0, os⟩ := s
  change wpAny _ _ (field (Value.ref e) 2 >>= _) _ _ _
  refine wpAny_bind (wpAny_field he rfl (x := .ref z) rfl ?_)
  refine wpAny_bind ?_
  unfold Builtin.SmallTypes.nextOf
  refine wpAny_bind (wpAny_callSpecial?_slot (name := Str.ofString "__next__") hT F.slot_zip_next (wpAny_call_entry F.slot_zip_next hT F.entry_zip_next
    (zip_turn (s := ⟨h0, gn, dr, tk0, os⟩) S D1 D2 hz hI hO t1 t2 l1 l2 fun U x y ga ka bU px py za oa v1 v2 tu keep => wpAny_pure ?_) (F.args_zip_next_1 _)))
  replace bU : h0.objs.size ≤ U := bU
  replace keep : ∀ b o, b ≠ z → b ≠ TO → b ≠ i1 → b ≠ i2 → h0.get? b = some o → ga.get? b = some o := keep
  have ea : IsEnum ga e z c old := keep _ _ nz nO n1' n2' he
  have eU : e ≠ U := fun q => by
    have := Heap.lt_size he
    rw [q] at this
    exact absurd bU (Nat.not_le.mpr this)
  change wpAny _ _ (field (Value.ref e) 3 >>= _) _ _ ⟨ga, gn, dr, ka, os⟩
  refine wpAny_bind (wpAny_field ea rfl (x := rawInt c) rfl ?_)
  change wpAny _ _ (field (Value.ref e) 4 >>= _) _ _ ⟨ga, gn, dr, ka, os⟩
  refine wpAny_bind (wpAny_field ea rfl (x := .none) rfl ?_)
  change wpAny _ _ (mkInt c >>= _) _ _ ⟨ga, gn, dr, ka, os⟩
  refine wpAny_bind (wpAny_mkInt ?_)
  change wpAny _ _ (setField (Value.ref e) 3 (rawInt (c + 1)) >>= _) _ _ ⟨ga, gn, dr, ka + 1, os⟩
  refine wpAny_bind (wpAny_setField_rec ea (by simp) fun gb eb sb => ?_)
  change wpAny _ _ (setField (Value.ref e) 4 Value.none >>= _) _ _ ⟨gb, gn, dr, ka + 1, os⟩
  replace eb : IsEnum gb e z (c + 1) old := eb
  refine wpAny_bind (wpAny_setField_rec eb (by simp) fun gc ec sc => ?_)
  replace ec : IsEnum gc e z (c + 1) old := ec
  replace sb : Heap.SameBut e ga gb := sb
  replace sc : Heap.SameBut e gb gc := sc
  change wpAny _ _ (newTuple [.int c ka, .ref U] >>= _) _ _ ⟨gc, gn, dr, ka + 1, os⟩
  refine wpAny_bind (wpAny_newTuple ?_)
  change wpAny _ _ (Builtin.SmallTypes.ownedTupleIsFree (Value.ref e) >>= _) _ _ ⟨gc.push { cls := .type "tuple", data := .seq #[.int c ka, .ref U] }, gn, dr, ka + 1, os⟩
  have push : ∀ {b : Addr} {o : Obj}, gc.get? b = some o → (gc.push { cls := .type "tuple", data := .seq #[.int c ka, .ref U] }).get? b = some o := fun k => Heap.get?_push_of_some _ k
  have tT : IsTupOf2 (gc.push { cls := .type "tuple", data := .seq #[.int c ka, .ref U] }) gc.objs.size (.int c ka) (.ref U) := Heap.get?_push_size _ rfl
  have elt : e < gc.objs.size := Heap.lt_size ec
  have Ult : U < gc.objs.size := by rw [sc.1, sb.1]; exact Heap.lt_size tu
  have big : h0.objs.size ≤ gc.objs.size := Nat.le_trans bU (Nat.le_of_lt Ult)
  refine wpAny_bind ?_
  unfold Builtin.SmallTypes.ownedTupleIsFree
  refine wpAny_bind (wpAny_field (push ec) rfl (x := .none) rfl (wpAny_pure ?_))
  simp only [if_true]
  refine wpAny_bind (wpAny_rule (wpAny_bind (wpAny_field (push ec) rfl (x := old) rfl ?_)))
  refine wpAny_bind (wpAny_setField_rec (push ec) (by simp) fun gd ed sd => ?_)
  replace ed : IsEnum gd e z (c + 1) (.ref U) := ed
  replace sd : Heap.SameBut e (gc.push { cls := .type "tuple", data := .seq #[.int c ka, .ref U] }) gd := sd
  change wpAny _ _ (Builtin.SmallTypes.ownedTupleHandOut (Value.ref e) (Value.ref gc.objs.size) >>= _) _ _ ⟨gd, gn, dr, ka + 1, os⟩
  refine wpAny_bind ?_
  unfold Builtin.SmallTypes.ownedTupleHandOut
  refine wpAny_bind (wpAny_setField_rec ed (by simp) fun gx ex sx => ?_)
  refine wpAny_setField_rec ex (by simp) fun gy ey sy => ?_
  replace ey : IsEnumOut gy e z (c + 1) (.ref U) gc.objs.size := ey
  replace sx : Heap.SameBut e gd gx := sx
  replace sy : Heap.SameBut e gx gy := sy
  have up : ∀ {b : Addr} {o : Obj}, b ≠ e → ga.get? b = some o → gy.get? b = some o := fun n k => sy.extBut _ _ n (sx.extBut _ _ n (sd.extBut _ _ n (push (sc.extBut _ _ n (sb.extBut _ _ n k)))))
  have tT2 : IsTupOf2 gy gc.objs.size (.int c ka) (.ref U) := sy.extBut _ _ (Nat.ne_of_gt elt) (sx.extBut _ _ (Nat.ne_of_gt elt) (sd.extBut _ _ (Nat.ne_of_gt elt) tT))
  refine wpAny_bind (wpAny_letGo (wpAny_pure ⟨_, rfl, ?_⟩))
  obtain ⟨v, f, hv, zk⟩ := za
  obtain ⟨p2, q2, ok⟩ := oa
  refine go gc.objs.size U x y ka gy (ka + 1) bU (Nat.ne_of_lt Ult) big px py ey ⟨v, f, hv, up nz.symm zk⟩ ⟨p2, q2, up nO.symm ok⟩ ?_ ?_ (up eU.symm tu) tT2 ?_
  · exact D1.frame _ _ _ v1 fun b m o k => up (fun q => m1 (q ▸ m)) k
  · exact D2.frame _ _ _ v2 fun b m o k => up (fun q => m2 (q ▸ m)) k
  · exact fun b o k0 k1 k2 k3 k4 k => up k0 (keep b o k1 k2 k3 k4 k)
end
section
variable {X : Cx} {pins : List (Addr × Obj)} {σ : L2.St} {H : Hp} {s : Shared}
/-- cells of ours turned, and two new things are laid -/
theorem turned_two {g : Heap} {tk : Nat} {ch : List Addr} {U T : Addr} {o1 o2 : HO} (I : Inv X pins σ H s) (k : ∀ b o, b ∉ ch → s.heap.get? b = some o → g.get? b = some o) (hf : ∀ b ∈ ch, FpOk X pins H b) (hU : s.heap.objs.size ≤ U) (hT : s.heap.objs.size ≤ T) (ne : T ≠ U)
    (new1 : ObjOk X.prog X.w (upd H U o1) g U o1) (new2 : ObjOk X.prog X.w (upd (upd H U o1) T o2) g T o2) : Inv X pins σ (upd (upd H U o1) T o2) { s with heap := g, toks := tk } := by
  have J := Inv.turnedNew (t' := tk) I k hf hU new1
  obtain ⟨q1, q2, q3, q4, q5, q6⟩ := Inv.fpOk I hT (I.hok.fresh hT)
  refine Inv.trackN J ?_ (by rw [upd_ne ne]; exact q1) q2 q5 q6 new2
  cases e : X.s_0.heap.get? T with
  | none => rfl
  | some o => exact absurd (Nat.lt_of_lt_of_le (Heap.lt_size e) (Nat.le_trans I.sz hT)) (Nat.lt_irrefl _)
end
/-! making it -/
theorem enum_of_zip (z TI TO : Addr) : Meets (Builtin.«enumerate.__new__» ⟨[.type "enumerate", .ref z], []⟩) (fun _ R s => IsZip s.heap z TI TO .none ∧
    R (.ok (.ret (.ref s.heap.objs.size))) { s with heap := s.heap.push { cls := .type "enumerate", data := .fields #[.none, .bool false, .ref z, rawInt 0, .none, .none] } }) :=
  Meets.of_wp fun prog w A R s ⟨hz, told⟩ => by
    obtain ⟨h0, gn, dr, tk0, os⟩ := s
    have same_class := sub_enumerate
    have again : ∀ {B : Around} {F : Value → Shared → Prop} {G : Value → Shared → Prop}, G (.ref z) ⟨h0, gn, dr, tk0, os⟩ → wpAny (model prog w) B (pyIter (.ref z)) G F ⟨h0, gn, dr, tk0, os⟩ := fun q => wpAny_pyIter_zip hz q
    wp_walk using again
    refine wpAny_stack_any fun st => wpAny_pure ?_
    split
    · rename_i c _ _ _ _ _
      cases (c == Value.type "enumerate") <;> (wp_walk using again; exact ⟨_, rfl, told⟩)
    · wp_walk using again
      exact ⟨_, rfl, told⟩
theorem call_enum_zip {prog : Program} {w : World} {A : Around} {E : Value → Shared → Prop} {s : Shared} {z TI TO : Addr} {Q : Value → Shared → Prop} (hz : IsZip s.heap z TI TO .none)
    (go : ∀ g, IsEnum g s.heap.objs.size z 0 .none → (∀ b o, s.heap.get? b = some o → g.get? b = some o) → Q (.ref s.heap.objs.size) { s with heap := g }) : wpAny (model prog w) A (call (.type "enumerate") [.ref z]) Q E s := by
  refine callType_new F.called_enumerate (by decide) (F.typeCall_enumerate_1 _) (F.newCall_enumerate_1 _) (fun obj => F.args_object_init_2 obj _) F.entry_enumerate_new (enum_of_zip z TI TO) ⟨hz, ?_⟩
  have new : IsEnum (s.heap.push { cls := .type "enumerate", data := .fields #[.none, .bool false, .ref z, rawInt 0, .none, .none] }) s.heap.objs.size z 0 .none := Heap.get?_push_size _ rfl
  exact ⟨⟨_, new, rfl⟩, go _ new fun b o k => Heap.get?_push_of_some _ k⟩
/-! the turn -/
/-- pairs (number, pair) of two rows -/
def ItN (K : PySem.W.Frag) (b1 b2 : Bool) (a b : Addr) : It where
  go := fun i H => ∃ (xs ys : List V) (x y : V), (SqB K b1 H a xs ∧ SqB K b2 H b ys) ∧ xs[i]? = some x ∧ ys[i]? = some y
  yld := fun i H v H' => ∃ (T U : Addr) (x y : V), v = .ref T ∧ H U = none ∧ H T = none ∧ T ≠ U ∧ H' = upd (upd H U (.tup [x, y])) T (.tup [.int (i : Nat), .ref U]) ∧ ∀ xs ys : List V, SqB K b1 H a xs → SqB K b2 H b ys → xs[i]? = some x ∧ ys[i]? = some y
  stop := fun i H => ∃ xs ys : List V, (SqB K b1 H a xs ∧ SqB K b2 H b ys) ∧ xs.length = i ∧ ys.length = i
/-- the state ahead of a turn -/
def NumZ (b1 b2 : Bool) (e z TI TO i1 i2 a b : Addr) (i : Nat) (h : Heap) : Prop :=
  (∃ old, IsEnum h e z ((i : Nat) : Int) old) ∧ ZRec h z TI TO ∧ IsTupOf2 h TI (.ref i1) (.ref i2) ∧ (∃ p q, IsTupOf2 h TO p q) ∧ IterB b1 h i1 a i ∧ IterB b2 h i2 b i
abbrev nCells (e z TI TO i1 i2 : Addr) : List Addr := [e, z, TI, TO, i1, i2]
structure NApart (e z TI TO i1 i2 a b : Addr) : Prop where
  zip : ZipApart z TI TO i1 i2 a b
  ez : e ≠ z
  eI : e ≠ TI
  eO : e ≠ TO
  e1 : e ≠ i1
  e2 : e ≠ i2
  ea : e ≠ a
  eb : e ≠ b
theorem turn_numzip {P : Program} {w : World} {K : PySem.W.Frag} {elts : List Expr} {kk : Nat} {tpos : Pos} {b1 b2 : Bool} {a b e z TI TO i1 i2 : Addr} (D : NApart e z TI TO i1 i2 a b) :
    Turn P w K (.Tuple elts kk tpos) (ItN K b1 b2 a b) (nCells e z TI TO i1 i2) e (NumZ b1 b2 e z TI TO i1 i2 a b) where
  mem := .head _
  obj := by
    rintro i h ⟨⟨old, ce⟩, ⟨v, f, _, cz⟩, cI, ⟨_, _, cO⟩, k1, k2⟩ c m
    obtain ⟨o1, g1, q1⟩ := k1.cell
    obtain ⟨o2, g2, q2⟩ := k2.cell
    simp at m
    rcases m with rfl | rfl | rfl | rfl | rfl | rfl
    · exact ⟨_, ce, nofun⟩
    · exact ⟨_, cz, nofun⟩
    · exact ⟨_, cI, nofun⟩
    · exact ⟨_, cO, nofun⟩
    · exact ⟨o1, g1, fun v => by simp [q1]⟩
    · exact ⟨o2, g2, fun v => by simp [q2]⟩
  keep := by
    rintro i h h2 ⟨⟨old, ce⟩, ⟨v, f, hv, cz⟩, cI, ⟨x, y, cO⟩, k1, k2⟩ same
    exact ⟨⟨old, same _ (by simp) _ ce⟩, ⟨v, f, hv, same _ (by simp) _ cz⟩, same _ (by simp) _ cI, ⟨x, y, same _ (by simp) _ cO⟩, k1.at fun o => same _ (by simp) o, k2.at fun o => same _ (by simp) o⟩
  self := by
    rintro A i s Q E ⟨⟨_, ce⟩, _⟩ q
    exact wpAny_pyIter_enum ce q
  item := by
    rintro X rfl rfl rfl calm i pins s σ H E I free ⟨⟨old, ce⟩, cz, cI, cO, k1, k2⟩ ⟨xs, ys, x, y, ⟨hx, hy⟩, ex, ey⟩
    obtain ⟨us, vus, isu⟩ := invB I hx
    obtain ⟨vs, vvs, isv⟩ := invB I hy
    obtain ⟨u, gu, ru⟩ := vus.get ex
    obtain ⟨v, gv, rv⟩ := vvs.get ey
    have lu := (List.getElem?_eq_some_iff.mp gu).1
    have lv := (List.getElem?_eq_some_iff.mp gv).1
    have hT : s.TypeIs (.ref e) "enumerate" := ⟨_, ce, rfl⟩
    have d1 := drawsB (prog := X.prog) (w := X.w) (A := X.A.in1.in1) b1 (I.ok.hd calm) i1 a D.zip.l1i1 us.toArray
    have d2 := drawsB (prog := X.prog) (w := X.w) (A := X.A.in1.in1) b2 (I.ok.hd calm) i2 b D.zip.l2i2 vs.toArray
    unfold pyNext
    refine wpAny_bind (wpAny_attempt (wpAny_callSpecial?_slot (name := Str.ofString "__next__") hT F.slot_enumerate_next (wpAny_call_entry F.slot_enumerate_next hT F.entry_enumerate_next
      (num_turn (sepB D.zip) d1 d2 ⟨D.ez, D.eO, D.eI, D.e1, D.e2, ?_, ?_⟩ ce cz cI cO ⟨k1, isu⟩ ⟨k2, isv⟩ (by rw [List.size_toArray]; exact lu) (by rw [List.size_toArray]; exact lv) fun T U x2 y2 t g tk bU nUT bT px py eo zo oo s1 s2 tU tT keep => wpAny_pure ⟨_, rfl, ?_⟩) (F.args_enumerate_next_1 _))))
    · intro m
      simp at m
      rcases m with q | q
      · exact D.e1 q
      · exact D.ea q
    · intro m
      simp at m
      rcases m with q | q
      · exact D.e2 q
      · exact D.eb q
    have eu : x2 = u := by
      have : us[i]? = some x2 := by simpa using px
      rw [gu] at this; exact (Option.some.inj this).symm
    have ev : y2 = v := by
      have : vs[i]? = some y2 := by simpa using py
      rw [gv] at this; exact (Option.some.inj this).symm
    subst eu ev
    have elt := Heap.lt_size ce
    refine wpAny_letOwnedTupleGo_enum eo fun g2 ce2 same => ?_
    replace same : Heap.SameBut e g g2 := same
    have nU : U ≠ e := fun q => absurd (q ▸ elt) (Nat.not_lt.mpr bU)
    have nT : T ≠ e := fun q => absurd (q ▸ elt) (Nat.not_lt.mpr bT)
    have old2 : ∀ b o, b ∉ nCells e z TI TO i1 i2 → s.heap.get? b = some o → g2.get? b = some o := fun b o nb q => by
      have n1 : b ≠ e := fun k => nb (by simp [k])
      refine same.extBut _ _ n1 (keep b o n1 (fun k => nb (by simp [k])) (fun k => nb (by simp [k])) (fun k => nb (by simp [k])) (fun k => nb (by simp [k])) q)
    have hU : H U = none := I.hok.fresh bU
    have hTn : H T = none := I.hok.fresh bT
    have o1 : ObjOk X.prog X.w (upd H U (.tup [x, y])) g2 U (.tup [x, y]) := ⟨(by decide : 2 ≤ sizeLine), [x2, y2], .cons ru (.cons rv .nil), ⟨_, same.extBut _ _ nU tU, rfl, _, rfl⟩⟩
    have o2 : ObjOk X.prog X.w (upd (upd H U (.tup [x, y])) T (.tup [.int (i : Nat), .ref U])) g2 T (.tup [.int (i : Nat), .ref U]) := ⟨(by decide : 2 ≤ sizeLine), [.int ((i : Nat) : Int) t, .ref U], .cons ⟨t, rfl⟩ (.cons rfl .nil), ⟨_, same.extBut _ _ nT tT, rfl, _, rfl⟩⟩
    have after := turned_two (tk := tk) I old2 free bU bT nUT.symm o1 o2
    have far : ∀ b ∈ nCells e z TI TO i1 i2, b ≠ U ∧ b ≠ T := fun b m => by
      have lt : b < s.heap.objs.size := by
        obtain ⟨o1, g1, _⟩ := k1.cell
        obtain ⟨o2, g2, _⟩ := k2.cell
        obtain ⟨_, _, _, czk⟩ := cz
        obtain ⟨_, _, cOk⟩ := cO
        simp at m
        rcases m with q | q | q | q | q | q <;> subst q
        · exact elt
        · exact Heap.lt_size czk
        · exact Heap.lt_size cI
        · exact Heap.lt_size cOk
        · exact Heap.lt_size g1
        · exact Heap.lt_size g2
      exact ⟨fun q => absurd (q ▸ lt) (Nat.not_lt.mpr bU), fun q => absurd (q ▸ lt) (Nat.not_lt.mpr bT)⟩
    obtain ⟨vz, fz, hvz, zk⟩ := zo
    obtain ⟨p3, q3, ok⟩ := oo
    refine ⟨.ref T, _, after, rfl, ⟨T, U, x, y, rfl, hU, hTn, nUT.symm, rfl, fun xs' ys' hx' hy' => ⟨injB I hx' hx ▸ ex, injB I hy' hy ▸ ey⟩⟩, ⟨⟨_, by rw [Int.natCast_add]; exact ce2⟩, ⟨vz, fz, hvz, same.extBut _ _ D.ez.symm zk⟩, ?_, ⟨p3, q3, same.extBut _ _ D.eO.symm ok⟩, s1.1.at fun o => same.extBut _ o D.e1.symm, s2.1.at fun o => same.extBut _ o D.e2.symm⟩, fun b m => by rw [upd_ne (far b m).2, upd_ne (far b m).1]; exact (free b m).1⟩
    have kI := keep TI _ D.eI.symm D.zip.TIz D.zip.TITO D.zip.TIi1 D.zip.TIi2 cI
    exact same.extBut _ _ D.eI.symm kI
  done := by
    rintro X rfl rfl rfl calm i pins s σ H E I free ⟨⟨old, ce⟩, cz, cI, cO, k1, k2⟩ ⟨xs, ys, ⟨hx, hy⟩, lx, ly⟩
    obtain ⟨us, vus, isu⟩ := invB I hx
    have len := vus.length
    have hT : s.TypeIs (.ref e) "enumerate" := ⟨_, ce, rfl⟩
    have hZ : s.TypeIs (.ref z) "zip" := by obtain ⟨v, f, _, k⟩ := cz; exact ⟨_, k, rfl⟩
    have d1 := drawsB (prog := X.prog) (w := X.w) (A := X.A.in1.in1) b1 (I.ok.hd calm) i1 a D.zip.l1i1 us.toArray
    have last : IterB b1 s.heap i1 a us.toArray.size ∧ IsB b1 s.heap a us.toArray := ⟨by rw [List.size_toArray, ← len, lx]; exact k1, isu⟩
    unfold pyNext
    refine wpAny_bind (wpAny_attempt (wpAny_callSpecial?_slot (name := Str.ofString "__next__") hT F.slot_enumerate_next (wpAny_call_entry F.slot_enumerate_next hT F.entry_enumerate_next ?_ (F.args_enumerate_next_1 _))))
    change wpAny _ _ (field (Value.ref e) 2 >>= _) _ _ _
    refine wpAny_bind (wpAny_field ce rfl (x := .ref z) rfl (wpAny_bind ?_))
    unfold Builtin.SmallTypes.nextOf
    refine wpAny_bind (wpAny_callSpecial?_slot (name := Str.ofString "__next__") hZ F.slot_zip_next (wpAny_call_entry F.slot_zip_next hZ F.entry_zip_next
      (zip_stop (sepB D.zip (b := b)) d1 cz cI cO last fun g tk x keep st => ?_) (F.args_zip_next_1 _)))
    obtain ⟨o, ho, hc⟩ := st
    refine wpAny_bind (wpAny_isInstance (T := "StopIteration") (b := true) ⟨o, ho, hc⟩ isSubtype_stop (wpAny_pure ⟨rfl, ?_⟩))
    refine Inv.turnedL (t' := tk) I (fun b o nb q => keep b o (fun k => nb (by simp [k])) (fun k => nb (by simp [k])) (fun k => nb (by simp [k])) (fun k => nb (by simp [k])) q) free
/-! the rule -/
def iNumZ (K : PySem.W.Frag) (ta : TA) : TI := fun σ H R => ta σ H fun vs H1 => match vs with | [.ref a, .ref b] => ∃ (b1 b2 : Bool) (xs ys : List V), SqB K b1 H1 a xs ∧ SqB K b2 H1 b ys ∧ R (ItN K b1 b2 a b) H1 | _ => False
theorem zpi_numzip {X : Cx} {e1 e2 : Expr} {ta : TA} {p p2 pos pos2 tpos : Pos} {elts : List Expr} {kk : Nat} (hg : Gl X "enumerate") (hm : X.mg "enumerate" = none) (hg2 : Gl X "zip") (hm2 : X.mg "zip" = none) (ha : PA X [e1, e2] ta)
    (hs : starEach [e1, e2] X.env = (false, eval e1 X.env) :: starEach [e2] X.env := by rfl) (hpl : (backTo pos2 (starEach [e2] X.env)).any (·.1) = false := by rfl)
    (hs2 : starEach [.Call (.Name "zip" p2) [e1, e2] [] pos2] X.env = [(false, eval (.Call (.Name "zip" p2) [e1, e2] [] pos2) X.env)] := by rfl) :
    PI X (.Tuple elts kk tpos) (.Call (.Name "enumerate" p) [.Call (.Name "zip" p2) [e1, e2] [] pos2] [] pos) (iNumZ X.K ta) := by
  refine ⟨fun pins s σ H R I h => ?_⟩
  refine Call_ (ld_blt I hg hm boot_enumerate (PyProof.Rows.callWith_type1 ?_ hs2 rfl))
  rw [hs2]
  change wpAny _ _ (spliced ((false, eval (.Call (.Name "zip" p2) [e1, e2] [] pos2) X.env) :: backTo pos [])) _ _ s
  refine Calls.spliced_cons (Call_ (ld_blt I hg2 hm2 PyProof.Rows.boot_zip (PyProof.Rows.callWith_type1 (thn (ha.run pos2 pins s σ H _ I h) fun us s1 ⟨vs, H1, I1, r1, q1⟩ => ?_) hs hpl)))
  dsimp only at q1
  split at q1
  · rename_i a b
    obtain ⟨b1, b2, xs, ys, hqx, hqy, q⟩ := q1
    cases r1 with
    | cons r rr =>
      cases rr with
      | cons r' rr =>
        cases rr
        cases r
        cases r'
        obtain ⟨its, rv, p1⟩ := invB I1 hqx
        obtain ⟨its2, rv2, p3⟩ := invB I1 hqy
        refine zip_begins2 (beginsB b1 a its.toArray) (beginsB b2 b its2.toArray) p1 p3 fun g hz hTI hTO h1 h2 hsz hk => ?_
        refine Calls.spliced_nil ?_
        refine call_enum_zip hz fun g2 he keep => wpAny_pyIter_enum he ?_
        generalize hN : s1.heap.objs.size = N at *
        replace hsz : g.objs.size = N + 5 := hsz
        have la : a < N := hN ▸ p1.lt
        have lb : b < N := hN ▸ p3.lt
        have six : ∀ c ∈ nCells g.objs.size (N + 4) (N + 2) (N + 3) N (N + 1), FpOk X pins H1 c := fun c m => by
          have big : s1.heap.objs.size ≤ c := by
            rw [hN]
            simp at m
            rcases m with q | q | q | q | q | q
            · exact Nat.le_trans (Nat.le_add_right N 5) (Nat.le_of_eq (hsz.symm.trans (show (c : Nat) = g.objs.size from q).symm))
            · exact Nat.le_trans (Nat.le_add_right N 4) (Nat.le_of_eq (show (c : Nat) = N + 4 from q).symm)
            · exact Nat.le_trans (Nat.le_add_right N 2) (Nat.le_of_eq (show (c : Nat) = N + 2 from q).symm)
            · exact Nat.le_trans (Nat.le_add_right N 3) (Nat.le_of_eq (show (c : Nat) = N + 3 from q).symm)
            · exact Nat.le_of_eq (show (c : Nat) = N from q).symm
            · exact Nat.le_trans (Nat.le_add_right N 1) (Nat.le_of_eq (show (c : Nat) = N + 1 from q).symm)
          exact Inv.fpOk I1 big (HOk.fresh I1.hok big)
        have begun := Inv.kept (t' := s1.toks) I1 fun b o k => keep b o (hk b o k)
        have far : ∀ c : Nat, c < N + 5 → (g.objs.size : Addr) ≠ c := fun c l q => by
          have q' : (g.objs.size : Nat) = c := q
          omega
        have D : NApart g.objs.size (N + 4) (N + 2) (N + 3) N (N + 1) a b := ⟨PySem.W.ktu_apart N a b la lb, far (N + 4) (by omega), far (N + 2) (by omega), far (N + 3) (by omega), far N (by omega), far (N + 1) (by omega), far a (Nat.lt_trans la (by omega)), far b (Nat.lt_trans lb (by omega))⟩
        exact ⟨_, _, _, _, H1, rfl, begun, turn_numzip (b1 := b1) (b2 := b2) D, ⟨⟨.none, he⟩, ⟨.none, false, .inl rfl, keep _ _ hz⟩, keep _ _ hTI, ⟨_, _, keep _ _ hTO⟩, iterB_new (keep _ _ h1), iterB_new (keep _ _ h2)⟩, six, q⟩
  · exact q1.elim
end Z

set_option Elab.async false
set_option linter.all false
set_option maxRecDepth 100000
set_option maxHeartbeats 4000000
namespace Z
open PySem PySem.Spec PyProof.Rows L2
/-! t * k for each k, t + u for each t and u -/
/-- tuple.__mul__ gives the tuple itself: once, or where there is nothing in it -/
theorem mul_itself (l : Addr) (row : Array Value) (ep : Nat) (dict : Option Addr) (slots : Array (Option Value)) (k : Int) (tk : Tok) (fits : (decide (k < -(2 ^ 63)) || decide (k ≥ 2 ^ 63)) = false) (once : (row.isEmpty || k == 1) = true) :
    Meets (Builtin.«tuple.__mul__» ⟨[.ref l, .int k tk], []⟩) fun _ R s => s.heap.get? l = some { cls := .type "tuple", dict := dict, data := .seq row ep, slots := slots } ∧ R (.ok (.ret (Value.ref l))) { s with heap := s.heap, toks := s.toks } :=
  .of_wp fun _ _ _ _ s q => by
    obtain ⟨hp, gs, dr, n, os⟩ := s
    obtain ⟨at_l, q⟩ := q
    have index := AutoSeq1.idx_int
    wp_walk using wpAny_loadPart' at_l
    rw [if_neg (by rw [fits]; exact Bool.false_ne_true)]
    wp_walk using wpAny_loadPart' at_l
    exact ⟨_, rfl, q⟩
/-- tuple.__mul__ gives a new empty tuple: none of it -/
theorem mul_nothing (l : Addr) (row : Array Value) (ep : Nat) (dict : Option Addr) (slots : Array (Option Value)) (k : Int) (tk : Tok) (fits : (decide (k < -(2 ^ 63)) || decide (k ≥ 2 ^ 63)) = false) (more : (row.isEmpty || k == 1) = false) (none : (decide (k ≤ 0) || row.isEmpty) = true) :
    Meets (Builtin.«tuple.__mul__» ⟨[.ref l, .int k tk], []⟩) fun _ R s => s.heap.get? l = some { cls := .type "tuple", dict := dict, data := .seq row ep, slots := slots } ∧
      R (.ok (.ret (Value.ref s.heap.objs.size))) { s with heap := s.heap.push { cls := Value.type "tuple", data := Data.seq #[] }, toks := s.toks } :=
  .of_wp fun _ _ _ _ s q => by
    obtain ⟨hp, gs, dr, n, os⟩ := s
    obtain ⟨at_l, q⟩ := q
    have index := AutoSeq1.idx_int
    wp_walk using wpAny_loadPart' at_l
    rw [if_neg (by rw [fits]; exact Bool.false_ne_true)]
    wp_walk using wpAny_loadPart' at_l
    exact ⟨_, rfl, q⟩
section
variable {X : Cx}
/-- t * k ends as tuple.__mul__ of it does -/
theorem times_by {prog : Program} {w : World} {A : Around} {E Q : Value → Shared → Prop} {s : Shared} {l : Addr} {row : Array Value} {ep : Nat} {dict : Option Addr} {slots : Array (Option Value)} {k : Int} {tk : Tok}
    (at_l : s.heap.get? l = some { cls := .type "tuple", dict := dict, data := .seq row ep, slots := slots }) (m : wpAny (model prog w) A (call (.builtin "tuple.__mul__") [.ref l, .int k tk]) Q E s) : wpAny (model prog w) A (binaryOp .Mult (.ref l) (.int k tk)) Q E s := by
  have isT : s.TypeIs (.ref l) "tuple" := ⟨_, at_l, rfl⟩
  have declines := call_meets (Q := fun v s' => v = .notImplemented ∧ s'.TypeIs (.ref l) "tuple" ∧ wpAny (model prog w) A (call (.builtin "tuple.__mul__") [.ref l, .int k tk]) Q E s') (E := E) (A := A) (prog := prog) (w := w) F.slot_int_rmul (typeIs_int s k tk) F.entry_int_rmul (F.args_int_rmul_2 _ _) (int_rmul_tuple k tk l row ep dict slots) ⟨at_l, rfl, isT, m⟩
  exact wpAny_binaryOp_repeat_ref (by decide) isT (fun z => typeIs_int z k tk) noFill_tuple_mul F.fills_int_mul F.slot_int_rmul repeat_tuple F.slot_int_index.lookup declines
/-- t * k -/
def zTRepA (K : PySem.W.Frag) : R2 := fun x y H Q => match x, y with | .ref l, .int k => ∃ xs, SqT K H l xs ∧ (xs ≠ [] ∧ k ≤ 1000 ∧ -1000 ≤ k ∧ xs.length ≤ 1000) ∧ (∀ p H', SqT K H' p (List.replicate k.toNat xs).flatten → Same H H' → Q (.ref p) H') | _, _ => False
theorem zmulTA : OpR X (binaryOp .Mult) (zTRepA X.K) := by
  intro pins s σ H x y v u Q I rx ry q
  unfold zTRepA at q
  split at q
  case h_2 => exact q.elim
  rename_i l k
  obtain ⟨xs, known, ⟨some, up, down, short⟩, q⟩ := q
  by_cases two : 2 ≤ k
  · exact op_repT pins s σ H _ _ v u Q I rx ry ⟨l, k, xs, rfl, rfl, known, some, two, up, short, fun p free => q p _ (SqT.of upd_same) (same_upd free)⟩
  cases rx
  obtain ⟨tk, rfl⟩ := ry
  obtain ⟨row, same, ⟨⟨c, dict, data, slots⟩, at_l, isT, ep, isSeq⟩, _⟩ := I.tuple known
  simp only at isT isSeq
  subst isT isSeq
  have fits : (decide (k < -(2 ^ 63)) || decide (k ≥ 2 ^ 63)) = false := by
    rw [decide_eq_false (by omega : ¬ k < -(2 ^ 63)), decide_eq_false (by omega : ¬ k ≥ 2 ^ 63)]; rfl
  have tup : s.TypeIs (.ref l) "tuple" := ⟨_, at_l, rfl⟩
  refine times_by at_l ?_
  by_cases one : k = 1
  · have all : (List.replicate k.toNat xs).flatten = xs := by
      rw [one]
      show (List.replicate 1 xs).flatten = xs
      simp
    rw [all] at q
    have once : (row.toArray.isEmpty || k == 1) = true := by rw [one, beq_self_eq_true, Bool.or_true]
    exact call_meets F.slot_tuple_mul tup F.entry_tuple_mul (F.args_tuple_mul_2 _ _) (mul_itself l row.toArray ep dict slots k tk fits once) ⟨at_l, .ref l, H, I, rfl, q l H known (Same.refl H)⟩
  · have nought : k ≤ 0 := by omega
    have nothing : (List.replicate k.toNat xs).flatten = [] := by rw [Int.toNat_of_nonpos nought]; rfl
    rw [nothing] at q
    have filled : row.toArray.isEmpty = false := by
      cases row with
      | nil => cases same; exact absurd rfl some
      | cons _ _ => rfl
    have more : (row.toArray.isEmpty || k == 1) = false := by rw [filled, Bool.false_or, beq_eq_false_iff_ne.mpr one]
    have none : (decide (k ≤ 0) || row.toArray.isEmpty) = true := by rw [decide_eq_true nought]; rfl
    have free := I.hok.fresh (Nat.le_refl s.heap.objs.size)
    have laid := I.laid (t' := s.toks) (o := .tup []) (h' := s.heap.push { cls := Value.type "tuple", data := Data.seq #[] }) (fun _ _ e => Heap.get?_push_of_some _ e) (Nat.le_refl _) ⟨Nat.zero_le _, [], .nil, IsTup.new _ _⟩
    exact call_meets F.slot_tuple_mul tup F.entry_tuple_mul (F.args_tuple_mul_2 _ _) (mul_nothing l row.toArray ep dict slots k tk fits more none) ⟨at_l, .ref s.heap.objs.size, _, laid, rfl, q _ _ (SqT.of upd_same) (same_upd free)⟩
/-- t + u -/
def zTCatA (K : PySem.W.Frag) : R2 := fun x y H Q => match x, y with | .ref l, .ref b => ∃ xs zs, SqT K H l xs ∧ SqT K H b zs ∧ xs.length + zs.length ≤ sizeLine ∧ (∀ p H', SqT K H' p (xs ++ zs) → Same H H' → Q (.ref p) H') | _, _ => False
theorem ztcatA : OpR X (binaryOp .Add) (zTCatA X.K) := opM op_catA fun x y H Q q => by
  unfold zTCatA at q
  split at q
  · obtain ⟨xs, zs, h1, h2, h5, q⟩ := q
    refine ⟨_, _, xs, zs, rfl, rfl, h1, h2, h5, fun e => ?_, fun _ e => ?_, fun _ _ p n => q p _ (SqT.of upd_same) (same_upd n)⟩
    · subst e
      exact q _ H h2 (Same.refl H)
    · subst e
      rw [List.append_nil] at q
      exact q _ H h1 (Same.refl H)
  · exact q.elim
end
end Z
namespace Z
open PySem PySem.Spec PyProof.Rows L2
/-- a new pair of the number and a new pair of the i-th of two rows -/
def YNumZ (xs ys : List V) : Nat → Hp → V → Hp → Prop := fun i H v H' => ∃ (T U : Addr) (x y : V), v = .ref T ∧ H' T = some (.tup [.int (i : Nat), .ref U]) ∧ H' U = some (.tup [x, y]) ∧ Same H H' ∧ xs[i]? = some x ∧ ys[i]? = some y
theorem walk_numzip {K : PySem.W.Frag} {b1 b2 : Bool} {a b : Addr} {xs ys : List V} {n : Nat} (h1 : xs.length = n) (h2 : ys.length = n) : Walk (ItN K b1 b2 a b) n (fun H => SqB K b1 H a xs ∧ SqB K b2 H b ys) (YNumZ xs ys) := by
  subst h1
  refine ⟨fun i _ lt q => ⟨xs, ys, xs[i], ys[i], q, by simp [lt], by simp [h2, lt]⟩, fun _ q => ⟨xs, ys, q, rfl, h2⟩, ?_⟩
  rintro i H v H' _ q ⟨T, U, x, y, e, nU, nT, ne, rfl, told⟩
  obtain ⟨k1, k2⟩ := told xs ys q.1 q.2
  have nT2 : upd H U (.tup [x, y]) T = none := (upd_ne ne).trans nT
  exact ⟨T, U, x, y, e, upd_same, (upd_ne (Ne.symm ne)).trans upd_same, (same_upd nU).trans (same_upd nT2), k1, k2⟩
theorem sqT_same {K : PySem.W.Frag} {H H' : Hp} {a : Addr} {xs : List V} (h : SqT K H a xs) (S : Same H H') : SqT K H' a xs := by
  rcases h with h | h
  · rcases h with h | ⟨u, h⟩
    · exact .inl (.inl (S _ _ h))
    · exact .inl (.inr ⟨u, S _ _ h⟩)
  · exact .inr h
end Z

set_option Elab.async false
set_option linter.all false
set_option maxRecDepth 100000
namespace Z
open PySem PySem.Spec PyProof.Rows L2
/-! list(range(a, b)) with ends of any size -/
/-- ahead of the loop: the list at S is empty, the long iterator at I stands at its first number, all but S as in h0 -/
structure Ready (h0 : Heap) (S I : Addr) (a : Int) (n : Nat) (h : Heap) : Prop where
  iter : IsLongIter h I a (n : Int) 1
  empty : ∃ ep, h.get? S = some { cls := .type "list", data := .seq #[] ep }
  rest : ∀ b o, b ≠ S → h0.get? b = some o → h.get? b = some o
/-- what the list is when the loop has ended -/
def Filled (h0 : Heap) (S : Addr) (a : Int) (n : Nat) (h : Heap) : Prop :=
  (∃ (us : Array Value) (ep : Nat), h.get? S = some { cls := .type "list", data := .seq us ep } ∧ ItemsOf (fun i v => ∃ t, v = .int (a + i * 1) t) us n) ∧ ∀ b o, b ≠ S → h0.get? b = some o → h.get? b = some o
section
variable {prog : Program} {w : World} {A : Around}
theorem Ready.runs {R : Result → Shared → Prop} {s : Shared} {h0 : Heap} {S I : Addr} {a : Int} {n : Nat} {x : Value} (y : Ready h0 S I a n s.heap) (calm : A.handled = none) (few : n ≤ 2 ^ 24) (far : h0.objs.size ≤ I) (ne : S ≠ I)
    (q : ∀ h tk, Filled h0 S a n h → R (.ok (.ret x)) { s with heap := h, toks := tk }) : codeAny (model prog w) A (.builtin "list.extend.loop" ⟨[.ref S, .ref I, x], []⟩) R s := by
  obtain ⟨ep, em⟩ := y.empty
  have walk := (Walks.longrange (prog := prog) (w := w) (A := A.in1) calm I a 1 n).toS
  have first : IsLongIter s.heap I (a + ((0 : Nat) : Int) * 1) ((n : Int) - ((0 : Nat) : Int)) 1 := by
    have e1 : a + ((0 : Nat) : Int) * 1 = a := by simp
    have e2 : (n : Int) - ((0 : Nat) : Int) = (n : Int) := by simp
    rw [e1, e2]
    exact y.iter
  refine codeAny_extend_loopS walk (Nat.le_trans few (by decide)) S (fun m => ne (List.mem_singleton.mp m)) x n 0 s #[] ep rfl (Nat.zero_le n) first em (ItemsOf.nil _) fun s' us ep' moved full items => ?_
  rw [Moved.eq_with moved]
  refine q _ _ ⟨⟨us, ep', full, items⟩, fun b o nS old => moved.heap b o (fun m => ?_) (y.rest b o nS old)⟩
  rcases List.mem_cons.mp m with z | z
  · exact nS z
  · have lt := Heap.lt_size old
    rw [List.mem_singleton.mp z] at lt
    exact absurd far (Nat.not_le.mpr lt)
/-- a value is put at the end and taken off again: the list is empty as before -/
theorem Ready.room {E : Value → Shared → Prop} {s : Shared} {h0 : Heap} {S I : Addr} {a : Int} {n : Nat} {Q : Unit → Shared → Prop} (y : Ready h0 S I a n s.heap) (ne : S ≠ I) (q : ∀ h, Ready h0 S I a n h → Q () { s with heap := h }) :
    wpAny (model prog w) A (updateSeq S (·.push .none) >>= fun _ => updateSeq S (·.pop)) Q E s := by
  obtain ⟨ep, em⟩ := y.empty
  have em1 := Heap.get?_update_self (Obj.mapSeq (·.push Value.none)) em rfl
  have em2 := Heap.get?_update_self (Obj.mapSeq (·.pop)) em1 rfl
  have same : ∀ b, b ≠ S → ((s.heap.update S (Obj.mapSeq (·.push Value.none))).update S (Obj.mapSeq (·.pop))).get? b = s.heap.get? b := fun b nb => (Heap.get?_update_other _ _ (Ne.symm nb)).trans (Heap.get?_update_other _ _ (Ne.symm nb))
  refine wpAny_bind (wpAny_updateSeq em rfl (wpAny_updateSeq (hz := by seq_fits) em1 rfl (q _ ⟨?_, ⟨_, em2⟩, fun b o nb old => (same b nb).trans (y.rest b o nb old)⟩)))
  exact (same I (Ne.symm ne)).trans y.iter
theorem extend_long {R : Result → Shared → Prop} {s : Shared} {r S : Addr} {a b : Int} {t u v : Tok} {n ep : Nat} {x : Value} (calm : A.handled = none) (hr : IsRange s.heap r a b 1 t u v) (long : Builtin.Range.small a b 1 = false)
    (many : Builtin.Range.rangeSize a b 1 = n) (few : n ≤ 2 ^ 24) (em : s.heap.get? S = some { cls := .type "list", data := .seq #[] ep }) (q : ∀ h tk, Filled s.heap S a n h → R (.ok (.ret x)) { s with heap := h, toks := tk }) :
    wpAny (model prog w) A.in1 (Builtin.List.listExtendWith (.ref S) (.ref r) x)
      (fun f s' => match f with | .done z => R (.ok z) s' | .again c => c.quiet = true ∧ codeAny (model prog w) A c R s') (fun e s' => R (.error e) s') s := by
  have nr : S ≠ r := fun z => by
    rw [z, hr] at em
    exact absurd (congrArg (fun o : Option Obj => o.map (·.cls)) em) (by simp)
  have nI : S ≠ s.heap.objs.size := Nat.ne_of_lt (Heap.lt_size em)
  have other : Builtin.List.listSameRef (.ref S) (.ref r) = false := beq_eq_false_iff_ne.mpr nr
  unfold Builtin.List.listExtendWith
  refine wpAny_bind (wpAny_typeOf (T := "range") ⟨_, hr, rfl⟩ ?_)
  have k1 : (Value.type "range" == Value.type "list") = false := by decide
  have k2 : (Value.type "range" == Value.type "tuple") = false := by decide
  simp only [other, k1, k2, Bool.or_false, Bool.false_eq_true, if_false]
  refine wpAny_bind (wpAny_pyIter_longrange hr long (wpAny_bind (wpAny_holding (wpAny_hint_range (n := n) (Heap.get?_push_of_some _ hr) many few ?_))))
  have ready : Ready s.heap S s.heap.objs.size a n (s.heap.push { cls := .type "longrange_iterator", data := .fields #[rawInt a, rawInt (Builtin.Range.rangeSize a b 1), rawInt 1] }) := by
    refine ⟨?_, ⟨ep, Heap.get?_push_of_some _ em⟩, fun c o _ old => Heap.get?_push_of_some _ old⟩
    rw [many]
    exact Heap.get?_push_size _ rfl
  have plain := plainId_quiet F.plain_extend_loop ⟨[.ref S, .ref s.heap.objs.size, x], []⟩
  refine wpAny_ite_split (fun _ => wpAny_bind (wpAny_rule (wpAny_bind ?_))) (fun _ => wpAny_pure ⟨plain, ready.runs (s := { s with heap := _, toks := _ }) calm few (Nat.le_refl _) nI q⟩)
  exact Ready.room (s := { s with heap := _, toks := _ }) ready nI fun h y => wpAny_pure ⟨plain, y.runs (s := { s with heap := h, toks := _ }) calm few (Nat.le_refl _) nI q⟩
theorem call_list_rangeW {E : Value → Shared → Prop} {s : Shared} {Q : Value → Shared → Prop} {r : Addr} {a b : Int} {t u v : Tok} {n : Nat} (calm : A.handled = none) (hr : IsRange s.heap r a b 1 t u v)
    (many : Builtin.Range.rangeSize a b 1 = n) (few : n ≤ 2 ^ 24)
    (q : ∀ h tk us ep, (∀ b o, s.heap.get? b = some o → h.get? b = some o) → h.get? s.heap.objs.size = some { cls := .type "list", data := .seq us ep } →
      ItemsOf (fun i v => ∃ t, v = .int (a + i * 1) t) us n → Q (.ref s.heap.objs.size) { s with heap := h, toks := tk }) : wpAny (model prog w) A (call (.type "list") [.ref r]) Q E s := by
  cases size : Builtin.Range.small a b 1 with
  | true => exact call_list_range calm hr size many few q
  | false =>
  refine callType_codes (Q₁ := fun made s1 => made = .ref s.heap.objs.size ∧ s1 = { s with heap := s.heap.push { cls := .type "list", data := .seq #[] } }) F.called_list (F.typeCall_list_1 _) F.entry_list_init (code_list_new _ ⟨rfl, rfl⟩) fun made s1 e => ?_
  obtain ⟨rfl, rfl⟩ := e
  have em : (s.heap.push { cls := .type "list", data := .seq #[] }).get? s.heap.objs.size = some { cls := .type "list", data := .seq #[] } := Heap.get?_push_size _ rfl
  have hr1 := Heap.get?_push_of_some { cls := .type "list", data := .seq #[] } hr
  have em1 := Heap.get?_update_self (Obj.mapSeq (fun _ => (#[] : Array Value))) em rfl
  have off : ∀ c o, c ≠ s.heap.objs.size → (s.heap.push { cls := .type "list", data := .seq #[] }).get? c = some o → ((s.heap.push { cls := .type "list", data := .seq #[] }).update s.heap.objs.size (Obj.mapSeq (fun _ => (#[] : Array Value)))).get? c = some o := fun c o nc old => (Heap.get?_update_other _ _ (Ne.symm nc)).trans old
  refine ⟨⟨_, em, rfl⟩, F.args_list_init_2 _ _, ?_⟩
  show wpAny _ _ (Builtin.List.listItems (.ref s.heap.objs.size) >>= fun was => Builtin.List.listUpdate (.ref s.heap.objs.size) (fun _ => #[]) >>= fun _ => letGo was.toList.reverse >>= fun _ => Builtin.List.listExtendWith (.ref s.heap.objs.size) (.ref r) .none) _ _ _
  unfold Builtin.List.listItems
  refine wpAny_bind (wpAny_bind (wpAny_seqItems em rfl (wpAny_pure ?_)))
  refine wpAny_bind (m := updateSeq s.heap.objs.size fun _ => #[]) (wpAny_updateSeq em rfl (wpAny_bind (wpAny_letGo ?_)))
  refine extend_long (A := A.in1) (s := { s with heap := _ }) calm (off r _ (Nat.ne_of_lt (Heap.lt_size hr)) hr1) size many few em1 fun h tk ⟨⟨us, ep, full, items⟩, rest⟩ => ?_
  exact ⟨rfl, q h tk us ep (fun c o old => rest c o (Nat.ne_of_lt (Heap.lt_size old)) (off c o (Nat.ne_of_lt (Heap.lt_size old)) (Heap.get?_push_of_some _ old))) full items⟩
end
section
variable {X : Cx} {e : Expr} {te : L2.St → Hp → (Int → Int → Hp → Prop) → Prop}
def zLstRg (te : L2.St → Hp → (Int → Int → Hp → Prop) → Prop) : TE := fun σ H Q => te σ H fun a b H1 => (b - a).toNat ≤ 2 ^ 24 ∧ New H1 (.lst (rgV a b)) Q
theorem zpe_listRg {p pos : Pos} (calm : X.calm = true) (hg : Gl X "list") (hm : X.mg "list" = none) (he : PRg X e te) (na : starEach [e] X.env = (false, eval e X.env) :: starEach [] X.env := by rfl) : PE X (.Call (.Name "list" p) [e] [] pos) (zLstRg te) := by
  refine ⟨fun pins s σ H Q I h => Call_ (ld_blt I hg hm boot_list (PyProof.Rows.callWith_type1 (args_cons (thn (he pins s σ H _ I h) fun x s1 ⟨r, a, b, t, u, v, H1, ex, hr, I1, few, q⟩ => args_nil ?_) na) na))⟩
  subst ex
  have new := I1.hok.fresh (Nat.le_refl s1.heap.objs.size)
  refine call_list_rangeW (n := (b - a).toNat) (I1.ok.hd calm) hr (rangeSize_nat a b) few fun h tk us ep old full items => ?_
  have short : (rgV a b).length ≤ sizeLine := by
    rw [rgV_length, sizeLine_eq]
    omega
  have listed : ObjOk X.prog X.w (upd H1 s1.heap.objs.size (.lst (rgV a b))) h s1.heap.objs.size (.lst (rgV a b)) := ⟨short, us.toList, ep, vals_rg items, by rw [Array.toArray_toList]; exact full⟩
  exact ⟨.ref s1.heap.objs.size, _, I1.laid old (Nat.le_refl _) listed, rfl, q _ _ new upd_same (same_upd new)⟩
end
end Z

set_option Elab.async false
set_option linter.all false
set_option maxRecDepth 100000
set_option maxHeartbeats 4000000
namespace Z
open PySem PySem.Spec PyProof.Rows L2
/-! set(xs) of a list of whole numbers, sorted of it -/
abbrev noMembers (w : World) : Obj := { cls := .type "set", dict := none, data := .set #[] 0 (.fresh 0 0 (!w.params.followText "set-order")) }
section
variable {prog : Program} {w : World} {A : Around} {E Q : Value → Shared → Prop} {s : Shared}
/-- set(x): a new set, and what set.__init__ does with it and x -/
theorem set_made {x : Value} (init : codeAny (model prog w) A.in1 (.call (.builtin "set.__init__") ⟨[.ref s.heap.objs.size, x], []⟩) (wants (fun r s2 => r = .none ∧ Q (.ref s.heap.objs.size) s2) E) { s with heap := s.heap.push (noMembers w) }) :
    wpAny (model prog w) A (call (.type "set") [x]) Q E s := by
  obtain ⟨above, rest, order⟩ := F.called_set.mro
  have u1 := F.called_set.made
  have u2 := F.called_set.sub
  have u3 := F.called_set.notType
  have u4 := F.called_set.canCreate
  have u5 := F.typeCall_set_1 x
  refine wpAny_call (codeAny_of_tree ?_)
  show wpAny _ _ (callAny (.type "set") _) _ _ _
  refine wpAny_pure ⟨Code.quiet_builtin _ (by decide +kernel), codeAny_builtin F.entry_type_call ?_⟩
  rw [Around.under_plain (weight_type_call_type "set" [x] []) rfl]
  repeat (any_goals (first | assumption | wp_step))
  refine codeAny_mono (code_set_led1 x (E := E) (Q₁ := fun made s1 => made = .ref s.heap.objs.size ∧ s1 = { s with heap := s.heap.push (noMembers w) }) ⟨rfl, rfl⟩) fun r s1 made => ?_
  rcases r with e | f
  · exact made
  cases f with
  | ret o =>
    obtain ⟨rfl, rfl⟩ := made
    have typed : Shared.TypeIs { s with heap := s.heap.push (noMembers w) } (.ref s.heap.objs.size) "set" := ⟨_, Heap.get?_push_size _ rfl, rfl⟩
    have u6 := F.called_set.init.lookup
    have u7 := F.called_set.init.bind (.ref s.heap.objs.size)
    repeat (any_goals (first | assumption | wp_step))
    refine codeAny_mono init fun r2 s2 ended => ?_
    rcases r2 with e | f2
    · exact ended
    cases f2 with
    | ret y =>
      obtain ⟨rfl, ended⟩ := ended
      repeat (any_goals (first | assumption | wp_step))
    | _ => exact ended.elim
  | _ => exact made.elim
end
section
variable {prog : Program} {w : World} {A : Around} {E Q : Value → Shared → Prop} {s : Shared}
/-- set(xs), xs a list of whole numbers -/
theorem set_of_ints {l : Addr} {us : Array Value} {ns : List Int} (calm : A.handled = none) (hl : s.heap.IsList l us) (whole : IntsAre us.toList ns) (few : ns.length + 1 < scanBound)
    (q : ∀ (h : Heap) (tk c : Nat), SetR w h s.heap.objs.size (fun j => decide (j ∈ ns)) c → c ≤ ns.length → (∀ b o, s.heap.get? b = some o → h.get? b = some o) → Q (.ref s.heap.objs.size) { s with heap := h, toks := tk }) :
    wpAny (model prog w) A (call (.type "set") [.ref l]) Q E s := by
  have many : us.size = ns.length := by
    rw [← Array.length_toList]
    exact IntsAre.length whole
  have new : (s.heap.push (noMembers w)).get? s.heap.objs.size = some (noMembers w) := Heap.get?_push_size _ rfl
  have typed : Shared.TypeIs { s with heap := s.heap.push (noMembers w) } (.ref s.heap.objs.size) "set" := ⟨_, new, rfl⟩
  have low : l < s.heap.objs.size := by
    obtain ⟨_, at_l, _⟩ := hl
    exact Heap.lt_size at_l
  obtain ⟨⟨c, dict, data, slots⟩, at_l, isL, ep, isS⟩ := id hl
  simp only at isL isS
  subst isL isS
  have there : (s.heap.push (noMembers w)).IsList l us := ⟨_, Heap.get?_push_of_some _ at_l, rfl, ep, rfl⟩
  have at_l2 := Heap.get?_push_of_some (noMembers w) at_l
  have size1 : (s.heap.push (noMembers w)).objs.size = s.heap.objs.size + 1 := Heap.size_push ..
  have k1 := F.sub_list_set
  have k2 := F.sub_list_frozenset
  have k3 : (Value.type "list" == Value.type "dict") = false := by decide
  refine set_made (codeAny_call_builtin F.called_set.init.plain F.entry_set_init (check_set_init_1 typed ?_))
  unfold Builtin.«set.__init__» noKeywords Builtin.Frozenset.updateFrom
  generalize asks : pyIter = P
  wp_walk
  subst asks
  refine wpAny_pyIter_list there (wpAny_bind (wpAny_runValue ?_))
  have apart : l ≠ (s.heap.push (noMembers w)).objs.size := by
    rw [size1]
    exact Nat.ne_of_lt (Nat.lt_succ_of_lt low)
  have far : s.heap.objs.size ∉ [(s.heap.push (noMembers w)).objs.size, l] := by
    rw [size1]
    intro m
    rcases List.mem_cons.mp m with z | z
    · exact absurd z (Nat.ne_of_lt (Nat.lt_succ_self _))
    · exact absurd (List.mem_singleton.mp z) (Nat.ne_of_gt low)
  have value : ∀ (i : Nat) (v : Value), us[i]? = some v → ∃ k t, ns[i]? = some k ∧ v = .int k t := fun i v hv => by
    have lt : i < ns.length := by
      rw [← many]
      exact (Array.getElem?_eq_some_iff.mp hv).1
    obtain ⟨t, e⟩ := PyProof.Rows.IntsAre.int_at whole i v (by rw [Array.getElem?_toList]; exact hv)
    refine ⟨ns[i], t, List.getElem?_eq_getElem lt, ?_⟩
    rw [e, List.getD_eq_getElem?_getD, List.getElem?_eq_getElem lt] <;> rfl
  have calm3 : A.in1.in1.in1.handled = none := by simp [calm]
  have walk := (Walks.list (prog := prog) (w := w) (A := A.in1.in1.in1) calm3 (s.heap.push (noMembers w)).objs.size l apart us).toS
  refine set_update_ints walk s.heap.objs.size far ns many few value us.size 0 _ (Nat.sub_zero _) (Nat.zero_le _) ⟨⟨_, Heap.get?_push_size _ rfl, rfl, rfl⟩, there.push _⟩ ⟨0, Nat.le_refl 0, setR_new_at (Heap.get?_push_of_some _ new)⟩ fun s2 c moved small made => ?_
  obtain ⟨h2, g2, d2, t2, o2⟩ := s2
  cases moved.gens
  cases moved.drawn
  cases moved.os
  rw [many] at small
  refine wpAny_pure (wpAny_pure ⟨rfl, q h2 t2 c made small fun b o old => ?_⟩)
  have lt := Heap.lt_size old
  refine moved.heap b o (fun m => ?_) (Heap.get?_push_of_some _ (Heap.get?_push_of_some _ old))
  rcases List.mem_cons.mp m with z | z
  · exact absurd z (Nat.ne_of_lt lt)
  · rw [List.mem_singleton.mp z, size1] at lt
    exact absurd lt (Nat.not_lt.mpr (Nat.le_succ _))
end
section
variable {X : Cx}
def zSet (K : PySem.W.Frag) (w : World) : List V → Hp → VK → Prop := fun vs H Q => match vs with
  | [.ref a] => ∃ ns : List Int, SqL K H a (ns.map V.int) ∧ ns.length < 60 ∧ ∀ p c H', c ≤ ns.length → H p = none → H' p = some (SetO w p (fun j => decide (j ∈ ns)) c) → Same H H' → Q (.ref p) H'
  | _ => False
theorem zset (calm : X.calm = true) : CallR X (.type "set") (zSet X.K X.w) := by
  intro pins s σ H vs us Q I r q
  unfold zSet at q
  split at q
  case h_2 => exact q.elim
  rename_i a
  obtain ⟨ns, known, few, q⟩ := q
  rw [Vals.ref1 r]
  obtain ⟨row, same, isL, _⟩ := I.list known
  have hn : H s.heap.objs.size = none := I.hok.fresh (Nat.le_refl _)
  refine set_of_ints (ns := ns) (I.ok.hd calm) isL.isList ?_ (by show ns.length + 1 < scanBound; unfold scanBound; omega) fun h tk c made small old => ?_
  · exact intsAre_of same
  exact ⟨.ref s.heap.objs.size, _, I.laid (t' := tk) old (Nat.le_refl _) (setO_new made), rfl, q _ c _ small hn upd_same (same_upd hn)⟩
def zSorted (w : World) : List V → Hp → VK → Prop := fun vs H Q => match vs with
  | [.ref a] => ∃ S n, H a = some (SetO w a S n) ∧ n < 64 ∧ ∀ (ns : List Int) p H', ns.Pairwise (· < ·) → (∀ k : Int, k ∈ ns ↔ S k = true) → ns.length = n → H p = none → H' p = some (.lst (ns.map V.int)) → Same H H' → Q (.ref p) H'
  | _ => False
theorem zsortedSet (calm : X.calm = true) : CallR X (.builtin "sorted") (zSorted X.w) := callM (cr_sortedSet calm) fun vs H Q q => by
  unfold zSorted at q
  split at q
  · obtain ⟨S, n, h1, h2, q⟩ := q
    exact ⟨_, S, n, rfl, h1, h2, fun ns p a1 a2 a3 free => q ns p _ a1 a2 a3 free upd_same (same_upd free)⟩
  · exact q.elim
end
end Z

set_option Elab.async false
set_option linter.all false
set_option maxRecDepth 100000
set_option maxHeartbeats 4000000
/-! super().__init__(..) of a class over ValueError -/
namespace Z
open PySem PySem.Spec PyProof.Rows L2
namespace VE
open PySem.W PySem.Calls
abbrev held (e : Addr) : Obj := kxs_mw "ValueError.__init__" e
section
variable {prog : Program} {w : World} {A : Around} {E : Value → Shared → Prop} {h : Heap} {g : Array GenState} {dr : Drawn} {tk : Nat} {os : OsState}
variable {nm q : Str} {C N : Addr} {bs bm : List Value} {hdct : Bool} {sn : List Str} {sub : List Value} {ab : Bool} {col : Option Bool} {dd : Option Addr} {k0 k1 k2 k3 k5 : Option Value}
theorem runHeld {u e t0 : Addr} {us : List Value} {Q : Value → Shared → Prop} (cls : h.get? C = some (excClassObj nm q C N bs bm hdct sn sub ab col dd k0 k1 k2 k3 k5 "ValueError.__new__")) (ex : h.get? e = some (HandSPX.excO C t0)) (wr : h.get? u = some (held e)) (few : us.length ≤ sizeLine)
    (fin : ∀ h' t1, (∀ b o, b ≠ e → h.get? b = some o → h'.get? b = some o) → h'.get? e = some (HandSPX.excO C t1) → Q .none ⟨h', g, dr, tk, os⟩) : wpAny (model prog w) A (call (.ref u) us) Q E ⟨h, g, dr, tk, os⟩ := by
  refine wpAny_call (codeAny_of_tree ?_)
  show wpAny _ A.in1 (callAny (.ref u) ⟨us, []⟩) _ _ _
  simp only [callAny]
  refine wpAny_bind (wpAny_load wr ?_)
  simp only [held, (by decide : (Value.type "method-wrapper" == Value.type "method" || Value.type "method-wrapper" == Value.type "builtin_function_or_method" || Value.type "method-wrapper" == Value.type "method-wrapper") = true), if_true]
  refine KFB.if_so (by decide) (wpAny_bind (check_bound_init F.excBase_ValueError.toExcCallFacts cls ex rfl (wpAny_bind (wpAny_pure (wpAny_pure ?_)))))
  refine ⟨Code.quiet_builtin _ (by decide +kernel), codeAny_builtin F.excBase_ValueError.initEntry ?_⟩
  rw [Around.under_plainId F.excBase_ValueError.init.plain _]
  wp_walk
  refine fin _ h.objs.size ?_ ?_
  · intro b o nb gb
    exact (Heap.get?_update_other _ _ (Ne.symm nb)).trans (Heap.get?_push_of_some _ gb)
  · exact (Heap.get?_update_self _ (Heap.get?_push_of_some _ ex) rfl).trans rfl
end
end VE
/-! ### a def that closes over __class__ -/
structure KScope (P : List Str) (sc : Scope) : Prop where
  kind : sc.kind = .function
  co : sc.isCoroutine = false
  gen : sc.isGenerator = false
  nd : P.Nodup
  par : ∀ y ∈ P, sc.names.lookup y = some .local
  nocell : ∀ y ∈ sc.names, y.2 ≠ .cell
  free : ∀ y ∈ sc.names, y.2 = .free → y.1 = "__class__"
/-- the context of such a def's body -/
def kcx (CX : CXT) (P : Program) (w : World) (K : PySem.W.Frag) (mg : Str → Option Value) (base : Heap) (N : List Str) (qual : Str) (sc : Scope) (f cc : Addr) (cd : Value) (A : Around) (outer : List Env) (s : Shared) (H : Hp) (E : XK) : Cx :=
  { prog := P, w := w, K := K, mg := mg, base := base, A := A.deeper (PySem.W.ksEnv qual sc s.heap.objs.size f cd cc), N := N, s_0 := s, H_0 := H, env := PySem.W.ksEnv qual sc s.heap.objs.size f cd cc, outer := outer,
    stack := PySem.W.ksEnv qual sc s.heap.objs.size f cd cc :: outer, ex := [], calm := true, fn := fun y => y != "__class__", pn := [],
    xe := fun e t => wpAny (model P w) (A.deeper (PySem.W.ksEnv qual sc s.heap.objs.size f cd cc)) (leaving (PySem.W.ksEnv qual sc s.heap.objs.size f cd cc) e) (fun _ t2 => CX outer H s E e t2) (fun e2 t2 => CX outer H s E e2 t2) t }
theorem zrev : ∀ {P : List Str} {U : List Value} {i : Nat} {y : Str} {u : Value}, P.Nodup → P[i]? = some y → U[i]? = some u → (P.zip U).reverse.lookup y = some u
  | [], _, _, _, _, _, h, _ => by simp at h
  | _ :: _, [], _, _, _, _, _, h => by simp at h
  | p :: P, v :: U, 0, y, u, nd, hp, hu => by
    simp only [List.getElem?_cons_zero, Option.some.injEq] at hp hu
    subst hp
    subst hu
    rw [List.zip_cons_cons, List.reverse_cons, List.lookup_append]
    have no : (P.zip U).reverse.lookup p = none := by
      rw [List.lookup_eq_none_iff]
      rintro ⟨a, b⟩ m
      have ma := (List.of_mem_zip (List.mem_reverse.mp m)).1
      have : p ≠ a := fun z => (List.nodup_cons.mp nd).1 (z ▸ ma)
      simpa using this
    rw [no]
    simp
  | p :: P, v :: U, i + 1, y, u, nd, hp, hu => by
    simp only [List.getElem?_cons_succ] at hp hu
    rw [List.zip_cons_cons, List.reverse_cons, List.lookup_append, zrev (List.nodup_cons.mp nd).2 hp hu]
    rfl
section
variable {CX : CXT} {P : Program} {w : World} {K : PySem.W.Frag} {mg : Str → Option Value} {base : Heap} {ps : List Str} {qual : Str} {sc : Scope} {f cc : Addr} {cd : Value} {A : Around} {outer : List Env} {s : Shared} {H : Hp} {E : XK} {us : List Value} {vs : List V}
theorem kcx_start {h1 : Heap} {tk : Nat} {cl v : Value} {cld : Option Addr} {csl : Array (Option Value)} (S : KScope ps sc) (calm : A.handled = none) (e0 : Env0 P w K mg base A outer s H) (hl : vs.length = ps.length) (r : Vals vs us)
    (cell : K.lookup cc = some ⟨cl, cld, .cell (some v), csl⟩) (ns : h1.Ns s.heap.objs.size (fun y => (ps.zip us).reverse.lookup y)) (kept : ∀ b o, s.heap.get? b = some o → h1.get? b = some o) :
    Inv (kcx CX P w K mg base ps qual sc f cc cd A outer s H E) [] (vs.map some) H { s with heap := h1, toks := tk } := by
  have inBase := e0.mod.kin _ _ cell
  obtain ⟨inS, freeCC⟩ := e0.bs _ _ inBase
  have only : ∀ {y : Str} {c : Addr}, ([("__class__", cc)] : List (Str × Addr)).lookup y = some c → y = "__class__" ∧ c = cc := by
    intro y c hy
    simp only [List.lookup] at hy
    split at hy
    · rename_i e
      exact ⟨by simpa using e, (Option.some.inj hy).symm⟩
    · cases hy
  have lt : cc < s.heap.objs.size := Heap.lt_size inS
  constructor
  · constructor
    · exact e0.mod
    · exact S.kind
    · rfl
    · rfl
    · exact Nat.le_refl _
    · intro x y c hx hy
      exact (only hx).1.trans (only hy).1.symm
    · intro y hy
      have : y = "__class__" := by
        rcases hy with hy | hy
        · exact absurd rfl (S.nocell _ (PySem.mem_of_lookup hy))
        · exact S.free _ (PySem.mem_of_lookup hy) rfl
      exact ⟨cc, by rw [this]; rfl⟩
    · intro y c hf hy
      rw [(only hy).1] at hf
      exact absurd (show (("__class__" : Str) != "__class__") = true from hf) (by decide)
    · exact fun _ => calm
    · exact Around.frames_deeper e0.frames
    · exact .inr ⟨rfl, rfl⟩
    · exact fun b m => nomatch m
    · exact e0.bs
    · exact e0.bsz
    · exact fun b _ _ m => nomatch m
    · exact fun b m => nomatch m
    · exact e0.funs
    · exact e0.frf
  · rfl
  · exact e0.bare
  · exact Un.kept kept
  · refine ⟨_, ns, fun i y v hy hv vis => ?_⟩
    rw [List.getElem?_map] at hv
    cases z : vs[i]? with
    | none => rw [z] at hv; cases hv
    | some v2 =>
      rw [z] at hv
      cases hv
      obtain ⟨u, hu, rel⟩ := r.get z
      exact ⟨u, rel, .inl ⟨S.par y (List.mem_of_getElem? hy), zrev S.nd hy hu⟩⟩
  · intro y c hy
    obtain ⟨rfl, rfl⟩ := only hy
    exact ⟨_, _, kept _ _ inS, rfl⟩
  · exact e0.hok.fresh (Nat.le_refl _)
  · intro y c hy
    obtain ⟨rfl, rfl⟩ := only hy
    exact freeCC
  · exact fun p m => nomatch m
  · exact e0.hok.kept kept
  · rw [List.length_map]
    exact hl
end
/-- what the written part says of such a class and its __init__ -/
structure SupC (P : Program) (K : PySem.W.Frag) (C cc cda : Addr) : Prop where
  T : OexC K C
  up : PySem.W.ks_superIn K C C "__init__" = some (some (.builtin "ValueError.__init__"))
  isV : PySem.W.mroIn K C (.type "ValueError") = some true
  self : PySem.W.mroIn K C (.ref C) = some true
  op : PySem.W.nsIn K cStatics "thirdparty.any" = some none
  cell : ∃ cl cld csl, K.lookup cc = some ⟨cl, cld, .cell (some (.ref C)), csl⟩
  code : ∃ ccl cdd vs ccs file tf, K.lookup cda = some ⟨ccl, cdd, .fields vs, ccs⟩ ∧ vs[2]? = some (.str file tf) ∧ ((P.main.file : Str) == file) = true
  top : (P.main.scope.names.lookup ("super" : Str)).isSome = false
section
variable {X : Cx} {pins : List (Addr × Obj)} {σ : L2.St} {H : Hp} {s : Shared} {C cc cda f a : Addr} {body : List Stmt} {q0 q1 q2 q3 q4 : Pos} {ar : Arg} {e : Expr} {te : TE} {D : Ends} {oc : Value} {od : Option Addr} {fd : FuncData} {osl : Array (Option Value)}
theorem superInit {pl : Sem Bool} (U : SupC X.prog X.K C cc cda) (lk : X.K.lookup f = some ⟨oc, od, .func fd, osl⟩) (par : (fd.params.posonlyargs ++ fd.params.args).head? = some ar)
    (gs : Gl X "super") (ms : X.mg "super" = none) (kc : X.env.kindOf "__class__" = some .free) (cl : X.env.cells.lookup ("__class__" : Str) = some cc) (fu : X.env.func = some f) (co : X.env.code = .ref cda)
    (n0 : X.N[0]? = some ar.arg) (ka : X.env.kindOf ar.arg = some .local) (he : PE X e te) (I : Inv X pins σ H s) (s0 : σ[0]? = some (some (.ref a))) (ea : H a = some (exo a C none))
    (told : te σ H fun v H1 => H1 a = some (exo a C none) ∧ D.nx σ H1)
    (form : eval (.Call (.Attribute (.Call (.Name "super" q0) [] [] q1) "__init__" q2) [e] [] q3) X.env = (attributeBase (.Call (.Name "super" q0) [] [] q1) "__init__" X.env (eval (.Call (.Name "super" q0) [] [] q1) X.env) >>= fun ov =>
      standAt q2.atName >>= fun _ => holding [ov] (getMethod ov "__init__" pl) >>= fun fx => callWith q3 fx.1 fx.2 (backTo q3 (starEach [e] X.env)) []) := by rfl)
    (one : starEach [e] X.env = (false, eval e X.env) :: starEach [] X.env := by rfl) :
    PySem.wpAt (model X.prog X.w) X.A (.func body X.env) (exec (.Expr (.Call (.Attribute (.Call (.Name "super" q0) [] [] q1) "__init__" q2) [e] [] q3) q4) X.env) (SP X pins D) X.xe s := by
  obtain ⟨nm, q, N, bs, bm, sn, sub, ab, col, dd, k0, k1, k2, k3, k5, hC, hbm⟩ := U.T.cls
  obtain ⟨ccl, cdd, cvs, ccs, file, tf, hcode, hvs, hfile⟩ := U.code
  obtain ⟨celC, celD, celS, hcell⟩ := U.cell
  obtain ⟨t0, ho⟩ := exo_at I.hok ea
  have cls : ∃ oD cdD, s.heap.get? C = some oD ∧ oD.data = .cls cdD ∧ PySem.W.clsIn X.K C = some cdD := by
    refine ⟨_, _, I.kIn _ _ hC, rfl, ?_⟩
    unfold PySem.W.clsIn
    rw [hC] <;> rfl
  obtain ⟨oD, cdD, hD1, hD2, hcd⟩ := cls
  have inst : PySem.W.InstAt s.heap a _ C none := ⟨ho, rfl, rfl, trivial⟩
  refine ks_wpAt_Expr_any (ks_wpAt_MethodCall ?_ form) I.quiet
  refine ks_wpAt_super_base gs kc (by decide +kernel) fu (I.kIn _ _ lk) rfl par co (I.kIn _ _ hcode) rfl hvs hfile U.top ?_
  obtain ⟨mb, hb1, hb2⟩ := I.mod.blt
  refine PySem.W.ks_loadName_global I.ok.kind gs (Calls.loadGlobal_builtin (by rw [I.ok.glob]; exact I.mod.glob.keeps I.bk) ms (by rw [I.ok.blt]; exact hb1.keeps I.bk) ((hb2 "super" (by decide)).trans PyProof.Rows.Boot.«super») ⟨rfl, ?_⟩)
  refine PySem.wpAny_loadName_free I.ok.kind kc cl ⟨_, I.kIn _ _ hcell, rfl⟩ ?_
  obtain ⟨m, hn, hl⟩ := I.loc
  obtain ⟨u, ru, lu⟩ := hl 0 ar.arg _ n0 s0 (.inl ka)
  obtain rfl : u = Value.ref a := ru
  have mu : m ar.arg = some (.ref a) := by
    rcases lu with ⟨_, z⟩ | ⟨z, _⟩
    · exact z
    · rw [ka] at z
      rcases z with z | z <;> cases z
  refine wpAny_loadName_local I.ok.kind ka hn mu ?_
  refine ks_wpAny_isType_cls hD1 hD2 ⟨rfl, ?_⟩
  obtain ⟨hp, g, dr, tk, os⟩ := s
  refine ks_wpAny_call_super hD1 hD2 ho rfl (fun c z => nomatch z) (PySem.W.looks_mroIn I.kIn U.self) fun h2 sup kept => ?_
  have I2 : Inv X pins σ H ⟨h2, g, dr, tk, os⟩ := I.kept (t' := tk) kept
  have inst2 : PySem.W.InstAt h2 a _ C none := ⟨kept _ _ ho, rfl, rfl, trivial⟩
  have up := U.up
  unfold PySem.W.ks_superIn at up
  rw [hcd] at up
  refine PySem.W.kxs_getMethod PySem.W.kxs_ValueError (l₀ := cdD.mro) sup (PySem.W.looks_opaque I2.kIn U.op) (fun A Q E s k z => wpAny_bind ((PySem.W.looks_clsIn I2.kIn hcd) A _ E s k (wpAny_pure z))) rfl I2.kIn up
    (inst2.type.andThen (PySem.W.looks_mroIn I2.kIn U.isV)) (PySem.W.ks_ne I2.kIn inst2 hcd) (by decide +kernel) ?_
  have keep3 : ∀ b o, h2.get? b = some o → (h2.push (VE.held a)).get? b = some o := fun b o z => Heap.get?_push_of_some _ z
  have at3 : (h2.push (VE.held a)).get? h2.objs.size = some (VE.held a) := Heap.get?_push_at rfl rfl
  have I3 : Inv X pins σ H ⟨h2.push (VE.held a), g, dr, tk + 1, os⟩ := I2.kept (t' := tk + 1) keep3
  have I4 : Inv X ((h2.objs.size, VE.held a) :: pins) σ H ⟨h2.push (VE.held a), g, dr, tk + 1, os⟩ := I3.pins_of fun p hp => by
    rcases List.mem_cons.mp hp with rfl | hp
    · exact ⟨at3, I2.hok.fresh (Nat.le_refl _), fun z => Nat.lt_irrefl _ (z ▸ I2.lt), I2.nofs (Nat.le_refl _), fun v z => nomatch z⟩
    · exact I3.pin p (List.mem_append_right _ hp)
  rw [one]
  refine PySem.W.kxs_callWith (i := "ValueError.__init__") (x := a) rfl (Calls.evalArgs_plain (Calls.spliced_cons (thn (he.run _ _ σ H _ I4 told) ?_)))
  rintro v s5 ⟨x, H5, I5, _, e5, q5⟩
  have at5 := (I5.pin (h2.objs.size, VE.held a) (by simp)).1
  have J5 : Inv X pins σ H5 s5 := { I5 with pin := fun p hp => I5.pin p (by
    rcases List.mem_append.mp hp with z | z
    · simp [z]
    · simp [z]) }
  refine Calls.spliced_nil ⟨at5, ?_⟩
  obtain ⟨t5, ho5⟩ := exo_at J5.hok e5
  obtain ⟨hp5, g5, dr5, tk5, os5⟩ := s5
  refine VE.runHeld (J5.kIn _ _ hC) ho5 at5 (by show (1 : Nat) ≤ sizeLine; rw [sizeLine_eq]; decide) fun h6 t6 kept6 at6 => ?_
  have J6 := J5.write (t' := tk5) (x := a) (e := a) (o := exo a C none) (by rw [e5]; exact True.intro) (.inl rfl) kept6 ⟨_, at6⟩ (exo_ok at6)
  have same : upd H5 a (exo a C none) = H5 := funext fun b => by
    by_cases z : b = a
    · rw [z, upd_same, e5]
    · exact upd_ne z
  rw [same] at J6
  exact ⟨σ, H5, J6, q5⟩
end
/-- what `__init__` of such a class promises: the one field -/
def spOwn (C : Addr) (fld : Str) : Sp := fun vs H Q _ => ∃ (a : Addr) (n : Int), vs = [.ref a, .int n] ∧ n.natAbs.log2 < 1920 ∧ H a = some (exo a C none) ∧
  ∀ dx, H dx = none → dx ≠ a → Q .non (upd (upd H dx (exd dx [(fld, .int n)])) a (exo a C (some dx)))
section
variable {CX : CXT} {P : Program} {w : World} {K : PySem.W.Frag} {mg : Str → Option Value} {base : Heap} {k : Nat} {f C cc cda : Addr} {name qual txt fld : Str} {params : Arguments} {body : List Stmt} {sc : Scope} {dV kV doc pm ct oc : Value} {an od : Option Addr} {osl : Array (Option Value)}
  {q0 q1 q2 q3 q4 q5 q6 q7 q8 q9 q10 q11 q12 : Pos} {j : Nat} {ar : Arg}
theorem ownFn (U : SupC P K C cc cda) (lk : K.lookup f = some ⟨oc, od, .func (PySem.W.ksFn name qual params body sc dV kV doc pm an (.ref cda) ct cc), osl⟩) (code : PySem.W.codeIn K (.ref cda) qual = true) (S : KScope [ar.arg, fld] sc)
    (par : (params.posonlyargs ++ params.args).head? = some ar) (gs : sc.names.lookup ("super" : Str) = some .globalImplicit) (kc : sc.names.lookup ("__class__" : Str) = some .free) (ms : mg "super" = none) (no : PySem.W.findIn K (.ref C) fld = some none)
    (hb : body = [.Expr (.Call (.Attribute (.Call (.Name "super" q0) [] [] q1) "__init__" q2) [.JoinedStr [.Constant (.str txt) j q9, .FormattedValue (.Name fld q10) (-1) none q11] q12] [] q3) q4, .Assign [.Attribute (.Name ar.arg q5) fld q6] (.Name fld q7) q8])
    (short : txt.length ≤ 1000) (d0 : (ar.arg == ("__debug__" : Str)) = false) (d1 : (fld == ("__debug__" : Str)) = false) (c0 : (ar.arg == ("__classdict__" : Str)) = false) (c1 : (fld == ("__classdict__" : Str)) = false)
    (form : ∀ env, ∃ pl, eval (.Call (.Attribute (.Call (.Name "super" q0) [] [] q1) "__init__" q2) [.JoinedStr [.Constant (.str txt) j q9, .FormattedValue (.Name fld q10) (-1) none q11] q12] [] q3) env =
      (attributeBase (.Call (.Name "super" q0) [] [] q1) "__init__" env (eval (.Call (.Name "super" q0) [] [] q1) env) >>= fun ov =>
      standAt q2.atName >>= fun _ => holding [ov] (getMethod ov "__init__" pl) >>= fun fx => callWith q3 fx.1 fx.2 (backTo q3 (starEach [.JoinedStr [.Constant (.str txt) j q9, .FormattedValue (.Name fld q10) (-1) none q11] q12] env)) [])) :
    FnOk P w K mg base CX (k + 1) f (PySem.W.ksFn name qual params body sc dV kV doc pm an (.ref cda) ct cc) [ar.arg, fld] (spOwn C fld) := by
  constructor
  · rintro vs H Q E ⟨a, n, rfl, _⟩
    rfl
  intro A outer s H args us vs Q E hr e0 bind rel told
  obtain ⟨a, n, rfl, small, ea, q⟩ := told
  have inK : K.In s.heap := e0.mod.kin.keeps fun b o z => (e0.bs b o z).1
  have lim : s.heap.NoLimit := e0.mod.nolimit.keeps fun b o z => (e0.bs b o z).1
  obtain ⟨celC, celD, celS, hcell⟩ := U.cell
  have locals : ∀ y ∈ [ar.arg, fld].zip us, sc.names.lookup y.1 = some .local := fun y hy => S.par _ (List.of_mem_zip (show (y.1, y.2) ∈ _ from hy)).1
  refine ks_codeAny_call_defAt (body := body) (binds := [ar.arg, fld].zip us) hr.depth (inK _ _ lk) rfl lim (PySem.W.codeRec_of inK code) rfl bind S.nocell locals (fun h1 ns kept => ?_) S.co S.gen S.kind
  have I := kcx_start (CX := CX) (P := P) (w := w) (mg := mg) (qual := qual) (f := f) (cd := .ref cda) (E := E) (tk := s.toks + ([ar.arg, fld].zip us).length) S hr.hd e0 (by rfl) rel hcell ns kept
  have v0 : Vis sc ar.arg := .inl (S.par _ (by simp))
  have v1 : Vis sc fld := .inl (S.par _ (by simp))
  obtain ⟨pl, form⟩ := form (PySem.W.ksEnv qual sc s.heap.objs.size f (.ref cda) cc)
  subst hb
  refine ks_wpAt_execs_cons (ks_wpAt_mono (superInit (X := kcx CX P w K mg base [ar.arg, fld] qual sc f cc (.ref cda) A outer s H E)
    (D := { nx := fun σ' H' => H' = H ∧ σ' = [some (.ref a), some (.int n)], rt := fun _ _ => False, bk := fun _ _ => False, ct := fun _ _ => False }) (pins := []) (a := a) (ar := ar) U lk par gs ms kc (by rfl) (by rfl) (by rfl) (by rfl) (S.par _ (by simp))
    (pe_joined (.cons pe_str (.cons (pe_fmt (pe_var (i := 1) (x := fld) (by rfl) v1 d1 c1)) .nil))) I (by rfl) ea ?_ form) ?_ fun e t z => z)
  · have zero : Str.empty.length = 0 := rfl
    refine ⟨txt, rfl, ?_, ⟨.int n, rfl, .inr ⟨n, rfl, small, ⟨_, rfl, ?_, ea, rfl, rfl⟩⟩⟩⟩
    · rw [PySem.Str.length_append, sizeLine_eq, zero]
      omega
    · have z := int_text_length_le (k := 1920) (by decide) small
      rw [PySem.Str.length_append, PySem.Str.length_append, sizeLine_eq, zero, PySem.ofString_length]
      omega
  · intro fl t1 end1
    cases fl with
    | next =>
      obtain ⟨σ1, H1, I1, rfl, rfl⟩ := end1
      have two := ps_ost (X := kcx CX P w K mg base [ar.arg, fld] qual sc f cc (.ref cda) A outer s H1 E) (f := fld) (p' := q6) (pos := q8) (pe_var (i := 0) (x := ar.arg) (pos := q5) (by rfl) v0 d0 c0) (pe_var (i := 1) (x := fld) (pos := q7) (by rfl) v1 d1 c1)
      refine PySem.wpAt_of_wpAny (wpAny_mono ((pss_one two).run [] t1 _ H1 { nx := fun _ H' => Q .non H', rt := fun _ _ => False, bk := fun _ _ => False, ct := fun _ _ => False } I1 ?_) ?_ fun e t z => z)
      · exact ⟨.int n, rfl, .ref a, rfl, a, C, rfl, U.T, no, .inl ⟨ea, fun dx nd dn => q dx nd dn⟩⟩
      · intro fl t2 end2
        cases fl with
        | next =>
          obtain ⟨σ2, H2, J, q2⟩ := end2
          exact ⟨.non, H2, J.os, J.bare, J.base, J.hok, rfl, q2⟩
        | brk => obtain ⟨_, _, _, z⟩ := end2; exact z.elim
        | cont => obtain ⟨_, _, _, z⟩ := end2; exact z.elim
        | ret u => obtain ⟨_, _, _, _, _, z⟩ := end2; exact z.elim
    | brk => obtain ⟨_, _, _, z⟩ := end1; exact z.elim
    | cont => obtain ⟨_, _, _, z⟩ := end1; exact z.elim
    | ret u => obtain ⟨_, _, _, _, _, z⟩ := end1; exact z.elim
end
/-- C(n), of a class with such an `__init__` -/
structure CalN (P : Program) (w : World) (K : PySem.W.Frag) (mg : Str → Option Value) (base : Heap) (k : Nat) (C : Addr) (fld : Str) : Prop where
  ex : ∃ (fI : Addr) (fd : FuncData) (ps : List Str), FnOk P w K mg base CX0 k fI fd ps (spOwn C fld) ∧ Binds K fd ps [] ∧ PySem.W.findIn K (.ref C) "__init__" = some (some (.ref fI)) ∧ PySem.W.typeIn K (.ref fI) = some (.type "function") ∧ OexC K C
def tMkN (C : Addr) (fld : Str) (te : TE) : L2.St → Hp → XK → Prop := fun σ H Q => te σ H fun x H1 => ∃ n : Int, x = .int n ∧ n.natAbs.log2 < 1920 ∧ ∀ dx, H1 dx = none → Q (.ref C) (some dx) (upd H1 dx (.xd [(fld, .int n)]))
section
variable {X : Cx} {k : Nat} {C : Addr} {x fld : Str} {e : Expr} {te : TE} {p pos : Pos}
theorem pmkN (c : CalN X.prog X.w X.K X.mg X.base k C fld) (hr : Room (k + 1) X.A) (hg : Gl X x) (m : X.mg x = some (.ref C)) (he : PE X e te) (hdb : (x == ("__debug__" : Str)) = false := by decide)
    (hs : starEach [e] X.env = (false, eval e X.env) :: starEach [] X.env := by rfl) : PMk X (.Call (.Name x p) [e] [] pos) (tMkN C fld te) := by
  obtain ⟨fI, fd, ps, F, b, iC, tI, T⟩ := c.ex
  have made := pmk_oex (p := p) (pos := pos) T iC tI F hr b .nil (fun _ _ _ _ _ _ _ z => False.elim z) hg m (pa_cons (PE.up he) pa_nil hs) hdb hs (by rfl)
  intro pins s σ H Q I told
  refine made pins s σ H Q I ⟨_, told, ?_⟩
  rintro v H1 ⟨n, rfl, small, go⟩
  refine ⟨by show 1 ≤ 1000; decide, fun a free => ⟨a, n, rfl, small, upd_same, fun dx nd apart => ⟨rfl, dx, _, upd_same, (upd_ne apart).trans upd_same, ?_, ?_⟩⟩⟩
  · exact (upd_ne apart).symm.trans nd
  · have same : upd (del (upd (upd (upd H1 a (exo a C none)) dx (exd dx [(fld, .int n)])) a (exo a C (some dx))) a) dx (.xd [(fld, .int n)]) = upd H1 dx (.xd [(fld, .int n)]) := by
      funext b
      by_cases z : b = dx
      · rw [z, upd_same, upd_same]
      · rw [upd_ne z, upd_ne z]
        by_cases y : b = a
        · rw [y, del_same, free]
        · rw [del_ne y, upd_ne y, upd_ne z, upd_ne y]
    rw [same]
    exact go dx ((upd_ne apart).symm.trans nd)
/-- .. as a value -/
def zExN (C : Addr) (fld : Str) (te : TE) : TE := fun σ H Q => te σ H fun x H1 => ∃ n : Int, x = .int n ∧ n.natAbs.log2 < 1920 ∧ ∀ a dx H', H1 a = none → H1 dx = none → H' a = some (ExK (.ref C) (some dx) a) → H' dx = some (.xd [(fld, .int n)]) → Same H1 H' → Q (.ref a) H'
theorem zexcN (c : CalN X.prog X.w X.K X.mg X.base k C fld) (hr : Room (k + 1) X.A) (hg : Gl X x) (m : X.mg x = some (.ref C)) (he : PE X e te) (hex : X.ex = [] := by rfl) (hdb : (x == ("__debug__" : Str)) = false := by decide)
    (hs : starEach [e] X.env = (false, eval e X.env) :: starEach [] X.env := by rfl) : PE X (.Call (.Name x p) [e] [] pos) (zExN C fld te) := by
  constructor
  intro pins s σ H Q I told
  have made := pmkN (p := p) (pos := pos) c hr hg m (PE.up he) hdb hs pins s σ H (fun cls d H' => ∃ H1 n dx, cls = .ref C ∧ d = some dx ∧ H' = upd H1 dx (.xd [(fld, .int n)]) ∧ H1 dx = none ∧ ∀ a dx H', H1 a = none → H1 dx = none → H' a = some (ExK (.ref C) (some dx) a) → H' dx = some (.xd [(fld, .int n)]) → Same H1 H' → Q (.ref a) H') I
    ⟨_, told, fun v H1 ⟨n, e, small, go⟩ => ⟨n, e, small, fun dx nd => ⟨H1, n, dx, rfl, rfl, rfl, nd, go⟩⟩⟩
  refine thn made ?_
  rintro u s1 ⟨a, oe, vs, sI, H2, cls, d, rfl, J, kept, noA, at1, kind, dat, _, free, osI, bare, _, H1, n, dx, rfl, rfl, rfl, nd, go⟩
  have out : ∀ {b : Addr}, (∃ o, sI.heap.get? b = some o) → b ≠ a := by
    rintro b ⟨o, g⟩ rfl
    exact nomatch noA.symm.trans g
  have apart : a ≠ dx := by
    rintro rfl
    rw [upd_same] at free
    cases free
  have J1 : Inv X pins σ (upd H1 dx (.xd [(fld, .int n)])) s1 := J.call' (ch := []) osI (Un.kept kept) (J.hok.kept kept) bare fun b z => nomatch z
  have start : X.s_0.heap.get? a = none := by
    cases g : X.s_0.heap.get? a with
    | none => rfl
    | some o => exact absurd rfl (out (J.base.there a o g (by simp [hex])))
  have both : Inv X pins σ (upd (upd H1 dx (.xd [(fld, .int n)])) a (ExK (.ref C) (some dx) a)) s1 := by
    refine Inv.trackN J1 start free ?_ ?_ ?_ (exK_ok at1 kind dat)
    · obtain ⟨_, ⟨o, _, _, g, _⟩, _⟩ := J.loc
      exact (out ⟨o, g⟩).symm
    · intro y c g
      obtain ⟨_, o, g2, _⟩ := J.cell y c g
      exact out ⟨o, g2⟩
    · exact fun r mr => out ⟨_, (J.pin r mr).1⟩
  exact ⟨.ref a, _, both, rfl, go a dx _ ((upd_ne apart).symm.trans free) nd upd_same ((upd_ne (Ne.symm apart)).trans upd_same) ((same_upd nd).trans (same_upd free))⟩
end
section
variable {P : Program} {w : World} {K : PySem.W.Frag} {mg : Str → Option Value} {base : Heap} {k : Nat} {f C S cc cda N : Addr} {name qual txt fld nm q file : Str} {params : Arguments} {body : List Stmt} {sc : Scope} {dV kV doc pm ct oc cl ccl : Value} {an od cld cdd dd : Option Addr}
  {osl csl ccs : Array (Option Value)} {cvs : Array Value} {q0 q1 q2 q3 q4 q5 q6 q7 q8 q9 q10 q11 q12 : Pos} {j : Nat} {ar : Arg} {bs sub : List Value} {sn : List Str} {ab : Bool} {col : Option Bool} {k0 k1 k2 k3 k5 : Option Value} {tf : Tok}
theorem supC_of (hcls : K.lookup C = some (excClassObj nm q C N bs [.ref S, .type "ValueError", .type "Exception", .type "BaseException", .type "object"] true sn sub ab col dd k0 k1 k2 k3 k5 "ValueError.__new__"))
    (hsa : PySem.W.findIn K (.ref C) "__setattr__" = some (some (.builtin "object.__setattr__"))) (hbe : PySem.W.subIn K (.ref C) (.type "BaseException") = some true) (hty : PySem.W.typeIn K (.ref C) = some (.type "type")) (hk : PySem.W.keepIn K (.ref C) = true)
    (up : PySem.W.ks_superIn K C C "__init__" = some (some (.builtin "ValueError.__init__"))) (isV : PySem.W.mroIn K C (.type "ValueError") = some true) (self : PySem.W.mroIn K C (.ref C) = some true) (op : PySem.W.nsIn K cStatics "thirdparty.any" = some none)
    (cell : K.lookup cc = some ⟨cl, cld, .cell (some (.ref C)), csl⟩) (code : K.lookup cda = some ⟨ccl, cdd, .fields cvs, ccs⟩) (third : cvs[2]? = some (.str file tf)) (same : ((P.main.file : Str) == file) = true) (top : (P.main.scope.names.lookup ("super" : Str)).isSome = false) : SupC P K C cc cda :=
  ⟨⟨⟨_, _, _, _, _, _, _, _, _, _, _, _, _, _, _, hcls, by show PySem.HandSPX.refsVE [.type "ValueError", .type "Exception", .type "BaseException", .type "object"] = true; decide +kernel⟩, hsa, hbe, hty, hk⟩, up, isV, self, op, ⟨_, _, _, cell⟩, ⟨_, _, _, _, _, _, code, third, same⟩, top⟩
theorem calN_of (U : SupC P K C cc cda) (F : FnOk P w K mg base CX0 (k + 1) f (PySem.W.ksFn name qual params body sc dV kV doc pm an (.ref cda) ct cc) [ar.arg, fld] (spOwn C fld)) (b : Binds K (PySem.W.ksFn name qual params body sc dV kV doc pm an (.ref cda) ct cc) [ar.arg, fld] [])
    (iC : PySem.W.findIn K (.ref C) "__init__" = some (some (.ref f))) (tI : PySem.W.typeIn K (.ref f) = some (.type "function")) : CalN P w K mg base (k + 1) C fld := ⟨_, _, _, F, b, iC, tI, U.T⟩
end
end Z

set_option Elab.async false
set_option linter.all false
set_option maxRecDepth 100000
namespace M
open PySem L2 Z
/-! figures of a number, the last place first -/
def digsF (b : Nat) : Nat → Nat → List Nat
  | 0, n => [n]
  | f + 1, n => if n < b then [n] else n % b :: digsF b f (n / b)
def digs (b n : Nat) : List Nat := digsF b n n
theorem digsF_eq {b : Nat} (hb : 2 ≤ b) : ∀ f g n, n ≤ f → n ≤ g → digsF b f n = digsF b g n := by
  intro f
  induction f with
  | zero =>
    intro g n h1 h2
    have e : n = 0 := by omega
    subst e
    cases g with
    | zero => rfl
    | succ g => show [0] = if 0 < b then [0] else _; rw [if_pos (by omega)]
  | succ f ih =>
    intro g n h1 h2
    cases g with
    | zero =>
      have e : n = 0 := by omega
      subst e
      show (if 0 < b then [0] else _) = [0]
      rw [if_pos (by omega)]
    | succ g =>
      show (if n < b then [n] else n % b :: digsF b f (n / b)) = (if n < b then [n] else n % b :: digsF b g (n / b))
      by_cases h : n < b
      · rw [if_pos h, if_pos h]
      · rw [if_neg h, if_neg h]
        have q : n / b < n := Nat.div_lt_self (by omega) (by omega)
        rw [ih g (n / b) (by omega) (by omega)]
theorem digs_small {b n : Nat} (h : n < b) : digs b n = [n] := by
  unfold digs
  cases n with
  | zero => rfl
  | succ n => show (if n + 1 < b then [n + 1] else _) = [n + 1]; rw [if_pos h]
theorem digs_big {b n : Nat} (hb : 2 ≤ b) (h : b ≤ n) : digs b n = n % b :: digs b (n / b) := by
  unfold digs
  obtain ⟨m, rfl⟩ : ∃ m, n = m + 1 := ⟨n - 1, by omega⟩
  show (if m + 1 < b then [m + 1] else (m + 1) % b :: digsF b m ((m + 1) / b)) = _
  rw [if_neg (by omega)]
  have q : (m + 1) / b < m + 1 := Nat.div_lt_self (by omega) (by omega)
  rw [digsF_eq hb m ((m + 1) / b) ((m + 1) / b) (by omega) (Nat.le_refl _)]
/-- by strong induction along the figures -/
theorem digs_ind {b : Nat} (hb : 2 ≤ b) {P : Nat → Prop} (h0 : ∀ n, n < b → P n) (h1 : ∀ n, b ≤ n → P (n / b) → P n) : ∀ n, P n := by
  intro n
  induction n using Nat.strongRecOn with
  | _ n ih =>
    by_cases h : n < b
    · exact h0 n h
    · exact h1 n (by omega) (ih (n / b) (Nat.div_lt_self (by omega) (by omega)))
theorem digs_lt {b : Nat} (hb : 2 ≤ b) : ∀ n, ∀ d ∈ digs b n, d < b := by
  refine digs_ind hb (fun n h d hd => ?_) (fun n h ih d hd => ?_)
  · rw [digs_small h] at hd; rw [List.mem_singleton.mp hd]; exact h
  · rw [digs_big hb h] at hd
    rcases List.mem_cons.mp hd with e | e
    · rw [e]; exact Nat.mod_lt _ (by omega)
    · exact ih d e
theorem digs_ne (b n : Nat) : digs b n ≠ [] := by
  unfold digs
  cases n with
  | zero => intro h; cases h
  | succ n =>
    show (if n + 1 < b then [n + 1] else (n + 1) % b :: digsF b n ((n + 1) / b)) ≠ []
    by_cases h : n + 1 < b
    · rw [if_pos h]; intro z; cases z
    · rw [if_neg h]; intro z; cases z
theorem digs_len {b : Nat} (hb : 2 ≤ b) : ∀ n k, n < 2 ^ (k + 1) → (digs b n).length ≤ k + 1 := by
  refine digs_ind hb (P := fun n => ∀ k, n < 2 ^ (k + 1) → (digs b n).length ≤ k + 1) (fun n h k hk => ?_) (fun n h ih k hk => ?_)
  · rw [digs_small h]; show 1 ≤ k + 1; omega
  · rw [digs_big hb h, List.length_cons]
    cases k with
    | zero => have : n < 2 := by simpa using hk
              omega
    | succ k =>
      have q : n / b ≤ n / 2 := Nat.div_le_div_left hb (by omega)
      have e : (2 : Nat) ^ (k + 1 + 1) = 2 * 2 ^ (k + 1) := by rw [Nat.pow_succ]; omega
      have := ih k (by omega)
      omega
set_option exponentiation.threshold 5000 in
/-- below 2 ** 4000, not to be looked into -/
def Big (n : Nat) : Prop := n < 2 ^ 4000
set_option exponentiation.threshold 5000 in
theorem digs_big_len {b : Nat} (hb : 2 ≤ b) {n : Nat} (h : Big n) : (digs b n).length ≤ 4000 := digs_len hb n 3999 h
theorem pow_big : 10 ^ 1000 ≤ 2 ^ 4000 := by decide +kernel
theorem Big.of {n : Nat} (h : n ≤ 10 ^ 60) : Big n := Nat.lt_of_lt_of_le (Nat.lt_of_le_of_lt h (Nat.pow_lt_pow_right (by omega) (by omega : 60 < 1000))) pow_big
/-- what figures come to, the last place first -/
def val (b : Nat) : List Nat → Nat
  | [] => 0
  | d :: r => d + b * val b r
theorem val_digs {b : Nat} (hb : 2 ≤ b) : ∀ n, val b (digs b n) = n := by
  refine digs_ind hb (fun n h => ?_) (fun n h ih => ?_)
  · rw [digs_small h]; show n + b * 0 = n; omega
  · rw [digs_big hb h]
    show n % b + b * val b (digs b (n / b)) = n
    rw [ih]; exact Nat.mod_add_div n b
/-- a list of numbers as values -/
def vN (xs : List Nat) : List V := xs.map fun d : Nat => V.int (d : Int)
theorem vN_append (xs ys : List Nat) : vN (xs ++ ys) = vN xs ++ vN ys := List.map_append
theorem vN_rev (xs : List Nat) : (vN xs).reverse = vN xs.reverse := by unfold vN; rw [List.map_reverse]
theorem vN_len (xs : List Nat) : (vN xs).length = xs.length := List.length_map _
theorem vN_get {xs : List Nat} {i : Nat} {v : V} (h : (vN xs)[i]? = some v) : ∃ d, xs[i]? = some d ∧ v = .int (d : Int) := by
  unfold vN at h
  rw [List.getElem?_map] at h
  cases q : xs[i]? with
  | none => rw [q] at h; cases h
  | some d => rw [q] at h; cases h; exact ⟨d, rfl, rfl⟩
/-! signs -/
def sgs : Str := "0123456789abcdefghijklmnopqrstuvwxyz"
def sg16 : Str := "0123456789abcdef"
def chr (d : Nat) : Nat := sgs.cps.toList.getD d 0
theorem sg_at : ∀ d : Nat, d < 36 → atI sgs.cps.toList (d : Int) = some (chr d) := by decide +kernel
theorem sg16_at : ∀ d : Nat, d < 16 → atI sg16.cps.toList (d : Int) = some (chr d) := by decide +kernel
theorem sg_find : ∀ d : Nat, d < 36 → Txt.find sgs ⟨#[chr d]⟩ = (d : Int) := by decide +kernel
theorem chr_nought : ∀ d, d < 36 → (chr d = 48 ↔ d = 0) := by decide +kernel
/-- the text of figures, the greatest place first -/
def tx (ds : List Nat) : Str := ⟨(ds.map chr).toArray⟩
theorem tx_len (ds : List Nat) : (tx ds).length = ds.length := by unfold tx Str.length; simp
theorem tx_cons (d : Nat) (ds : List Nat) : (⟨#[chr d]⟩ : Str) ++ tx ds = tx (d :: ds) := by
  show Str.append _ _ = _
  unfold Str.append tx
  simp
theorem fold_signs : ∀ (ds : List Nat) (acc : Array Nat), ((ds.map fun d => (⟨#[chr d]⟩ : Str)).foldl (fun acc p => acc ++ ("" : Str).cps ++ p.cps) acc) = acc ++ (ds.map chr).toArray
  | [], acc => by simp
  | d :: r, acc => by
    rw [List.map_cons, List.foldl_cons, fold_signs r]
    have e : ("" : Str).cps = #[] := by decide +kernel
    rw [e]
    simp
theorem join_signs (ds : List Nat) : Txt.join "" (ds.map fun d => (⟨#[chr d]⟩ : Str)) = tx ds := by
  cases ds with
  | nil => rfl
  | cons d r =>
    show Builtin.Str.glued "" _ = _
    unfold Builtin.Str.glued tx
    rw [List.map_cons, List.drop_one, List.tail_cons, List.headD_cons, fold_signs]
    simp
/-- what figures come to, the greatest place first -/
def valB (b : Nat) (ds : List Nat) : Nat := ds.foldl (fun a d => a * b + d) 0
theorem valB_snoc (b : Nat) (ds : List Nat) (d : Nat) : valB b (ds ++ [d]) = valB b ds * b + d := by unfold valB; rw [List.foldl_append]; rfl
theorem valB_rev (b : Nat) : ∀ ds : List Nat, valB b ds.reverse = val b ds
  | [] => rfl
  | d :: r => by
    rw [List.reverse_cons, valB_snoc, valB_rev b r]
    show val b r * b + d = d + b * val b r
    rw [Nat.mul_comm, Nat.add_comm]
theorem valB_take {b : Nat} {ds : List Nat} {i d : Nat} (h : ds[i]? = some d) : valB b (ds.take (i + 1)) = valB b (ds.take i) * b + d := by
  rw [List.take_add_one, h]; exact valB_snoc b _ d
theorem digs_last {b : Nat} (hb : 2 ≤ b) : ∀ n, ∃ (r : List Nat) (t : Nat), digs b n = r ++ [t] ∧ (t = 0 → r = [] ∧ n = 0) := by
  refine digs_ind hb (fun n h => ?_) (fun n h ih => ?_)
  · exact ⟨[], n, digs_small h, fun z => ⟨rfl, z⟩⟩
  · obtain ⟨r, t, e, k⟩ := ih
    refine ⟨n % b :: r, t, by rw [digs_big hb h, e]; rfl, fun z => ?_⟩
    have := (k z).2
    have h2 : 0 < n / b := Nat.div_pos h (by omega)
    omega
theorem digs_top {b : Nat} (hb : 2 ≤ b) (n : Nat) : ∃ (t : Nat) (r : List Nat), (digs b n).reverse = t :: r ∧ t < b ∧ (t = 0 → r = []) := by
  obtain ⟨r, t, e, k⟩ := digs_last hb n
  refine ⟨t, r.reverse, by rw [e, List.reverse_append]; rfl, digs_lt hb n t (by rw [e]; simp), fun z => by rw [(k z).1]; rfl⟩
theorem tx_at {ds : List Nat} {i c : Nat} (h : (tx ds).cps[i]? = some c) : ∃ d, ds[i]? = some d ∧ c = chr d := by
  unfold tx at h
  rw [List.getElem?_toArray, List.getElem?_map] at h
  cases q : ds[i]? with
  | none => rw [q] at h; cases h
  | some d => rw [q] at h; exact ⟨d, rfl, (Option.some.inj h).symm⟩
theorem tx_size (ds : List Nat) : (tx ds).cps.size = ds.length := tx_len ds
theorem tx_head (d : Nat) (r : List Nat) : atI (tx (d :: r)).cps.toList 0 = some (chr d) := by
  unfold tx
  show (ixN _ 0).bind _ = _
  unfold ixN
  rw [if_pos (by omega), if_pos (by simp)]
  simp
/-- the law's own figures: none of 0 -/
def d0 (b n : Nat) : List Nat := if n = 0 then [] else digs b n
theorem d0_zero (b : Nat) : d0 b 0 = [] := rfl
theorem d0_pos {b n : Nat} (hb : 2 ≤ b) (h : 0 < n) : d0 b n = n % b :: d0 b (n / b) := by
  unfold d0
  rw [if_neg (by omega)]
  by_cases c : n < b
  · rw [digs_small c, Nat.div_eq_of_lt c, if_pos rfl, Nat.mod_eq_of_lt c]
  · rw [digs_big hb (by omega), if_neg]
    have := Nat.div_pos (show b ≤ n by omega) (by omega)
    omega
theorem d0_or {b n : Nat} (hb : 2 ≤ b) : (d0 b n = [] → digs b n = [0]) ∧ (d0 b n ≠ [] → d0 b n = digs b n) := by
  unfold d0
  by_cases c : n = 0
  · rw [if_pos c]
    refine ⟨fun _ => ?_, fun h => absurd rfl h⟩
    rw [c]; exact digs_small (by omega)
  · rw [if_neg c]
    exact ⟨fun h => absurd h (digs_ne b n), fun _ => rfl⟩
theorem d0_len {b : Nat} (hb : 2 ≤ b) {n : Nat} (h : Big n) : (d0 b n).length ≤ 4000 := by
  unfold d0
  by_cases c : n = 0
  · rw [if_pos c]; exact Nat.zero_le _
  · rw [if_neg c]; exact digs_big_len hb h
theorem vN_ints (xs : List Nat) : vN xs = (xs.map fun d : Nat => (d : Int)).map V.int := by unfold vN; rw [List.map_map]; rfl
theorem sum_ints : ∀ xs : List Nat, (xs.map fun d : Nat => (d : Int)).sum = ((xs.sum : Nat) : Int)
  | [] => rfl
  | x :: r => by rw [List.map_cons, List.sum_cons, List.sum_cons, sum_ints r, Int.natCast_add]
theorem sum_rev : ∀ xs : List Nat, xs.reverse.sum = xs.sum
  | [] => rfl
  | x :: r => by rw [List.reverse_cons, List.sum_append, sum_rev r, List.sum_cons, List.sum_cons]; show r.sum + (x + 0) = _; omega
def dsum (b n : Nat) : Nat := (digs b n).sum
theorem dsum_small {b n : Nat} (h : n < b) : dsum b n = n := by unfold dsum; rw [digs_small h]; show n + 0 = n; omega
theorem dsum_big {b n : Nat} (hb : 2 ≤ b) (h : b ≤ n) : dsum b n = n % b + dsum b (n / b) := by unfold dsum; rw [digs_big hb h, List.sum_cons]
theorem dsum_step {b : Nat} (hb : 2 ≤ b) (n : Nat) : dsum b n = n % b + dsum b (n / b) := by
  by_cases h : n < b
  · rw [dsum_small h, Nat.mod_eq_of_lt h, Nat.div_eq_of_lt h, dsum_small (show 0 < b by omega), Nat.add_zero]
  · exact dsum_big hb (by omega)
theorem dsum_le {b : Nat} (hb : 2 ≤ b) : ∀ n, dsum b n ≤ n := by
  refine digs_ind hb (fun n h => ?_) (fun n h ih => ?_)
  · rw [dsum_small h]; exact Nat.le_refl _
  · rw [dsum_big hb h]
    have e := Nat.mod_add_div n b
    have : n / b ≤ b * (n / b) := Nat.le_mul_of_pos_left _ (by omega)
    omega
theorem dsum_lt {b n : Nat} (hb : 2 ≤ b) (h : b ≤ n) : dsum b n < n := by
  rw [dsum_big hb h]
  have e := Nat.mod_add_div n b
  have q := dsum_le hb (n / b)
  have p : 0 < n / b := Nat.div_pos h (by omega)
  have : 2 * (n / b) ≤ b * (n / b) := Nat.mul_le_mul_right _ hb
  omega
def rootF (b : Nat) : Nat → Nat → Nat
  | 0, n => n
  | f + 1, n => if n < b then n else rootF b f (dsum b n)
theorem rootF_eq {b : Nat} (hb : 2 ≤ b) : ∀ f g n, n ≤ f → n ≤ g → rootF b f n = rootF b g n := by
  intro f
  induction f with
  | zero =>
    intro g n h1 h2
    cases g with
    | zero => rfl
    | succ g => show n = if n < b then n else _; rw [if_pos (by omega)]
  | succ f ih =>
    intro g n h1 h2
    cases g with
    | zero => show (if n < b then n else _) = n; rw [if_pos (by omega)]
    | succ g =>
      show (if n < b then n else rootF b f (dsum b n)) = if n < b then n else rootF b g (dsum b n)
      by_cases h : n < b
      · rw [if_pos h, if_pos h]
      · rw [if_neg h, if_neg h]
        have := dsum_lt hb (show b ≤ n by omega)
        exact ih g _ (by omega) (by omega)
def root (b n : Nat) : Nat := rootF b n n
theorem root_small {b n : Nat} (h : n < b) : root b n = n := by
  unfold root
  cases n with
  | zero => rfl
  | succ n => show (if n + 1 < b then n + 1 else _) = _; rw [if_pos h]
theorem root_big {b n : Nat} (hb : 2 ≤ b) (h : b ≤ n) : root b n = root b (dsum b n) := by
  unfold root
  obtain ⟨m, rfl⟩ : ∃ m, n = m + 1 := ⟨n - 1, by omega⟩
  show (if m + 1 < b then m + 1 else rootF b m (dsum b (m + 1))) = _
  rw [if_neg (by omega)]
  have := dsum_lt hb h
  exact rootF_eq hb _ _ _ (by omega) (Nat.le_refl _)
theorem Big.le {n m : Nat} (h : Big n) (k : m ≤ n) : Big m := Nat.lt_of_le_of_lt k h
end M

set_option Elab.async false
set_option linter.all false
set_option maxRecDepth 100000
namespace M
open PySem L2 Z
/-! sums over the numbers below a bound -/
def sumTo (g : Nat → Nat) : Nat → Nat
  | 0 => 0
  | n + 1 => sumTo g n + g n
theorem sumTo_congr {g h : Nat → Nat} : ∀ {N : Nat}, (∀ n, n < N → g n = h n) → sumTo g N = sumTo h N
  | 0, _ => rfl
  | N + 1, e => by
    show sumTo g N + g N = sumTo h N + h N
    rw [sumTo_congr (fun n hn => e n (by omega)), e N (by omega)]
theorem sumTo_add (g h : Nat → Nat) : ∀ N, sumTo (fun n => g n + h n) N = sumTo g N + sumTo h N
  | 0 => rfl
  | N + 1 => by
    show sumTo (fun n => g n + h n) N + (g N + h N) = (sumTo g N + g N) + (sumTo h N + h N)
    rw [sumTo_add g h N]; omega
theorem sumTo_zero : ∀ N, sumTo (fun _ => 0) N = 0
  | 0 => rfl
  | N + 1 => by show sumTo (fun _ => 0) N + 0 = 0; rw [sumTo_zero N]
theorem sumTo_mul (c : Nat) (g : Nat → Nat) : ∀ N, sumTo (fun n => c * g n) N = c * sumTo g N
  | 0 => by show 0 = c * 0; omega
  | N + 1 => by show sumTo (fun n => c * g n) N + c * g N = c * (sumTo g N + g N); rw [sumTo_mul c g N, Nat.mul_add]
theorem sumTo_swap (g : Nat → Nat → Nat) (N : Nat) : ∀ k, sumTo (fun j => sumTo (g j) N) k = sumTo (fun n => sumTo (fun j => g j n) k) N
  | 0 => (sumTo_zero N).symm
  | k + 1 => by
    show sumTo (fun j => sumTo (g j) N) k + sumTo (g k) N = sumTo (fun n => sumTo (fun j => g j n) k + g k n) N
    rw [sumTo_swap g N k, sumTo_add]
theorem sumTo_mono {g : Nat → Nat} {N : Nat} : ∀ {K : Nat}, N ≤ K → sumTo g N ≤ sumTo g K
  | 0, h => by have : N = 0 := by omega
               subst this; exact Nat.le_refl _
  | K + 1, h => by
    by_cases e : N = K + 1
    · subst e; exact Nat.le_refl _
    · exact Nat.le_trans (sumTo_mono (by omega)) (Nat.le_add_right _ _)
theorem sum_range (g : Nat → Nat) : ∀ b, ((List.range b).map g).sum = sumTo g b
  | 0 => rfl
  | b + 1 => by
    rw [List.range_succ, List.map_append, List.sum_append, sum_range g b]
    show _ + (g b + 0) = _
    rw [Nat.add_zero]; rfl
theorem sumTo_pick (d : Nat) (g : Nat → Nat) : ∀ b, d < b → sumTo (fun f => if d = f then g f else 0) b = g d
  | 0, h => by omega
  | b + 1, h => by
    show sumTo (fun f => if d = f then g f else 0) b + (if d = b then g b else 0) = g d
    by_cases e : d = b
    · subst e
      rw [if_pos rfl, sumTo_congr (h := fun _ => 0) (fun n hn => if_neg (by omega)), sumTo_zero]; omega
    · rw [if_neg e, sumTo_pick d g b (by omega), Nat.add_zero]
/-! a figure at a place -/
def ind (b w f n : Nat) : Nat := if n / w % b = f then 1 else 0
/-- how often below N, closed -/
def cl (b w f N : Nat) : Nat := N / (w * b) * w + min (N % (w * b) - f * w) w
theorem cl_step {b w f : Nat} (hb : 0 < b) (hw : 0 < w) (hf : f < b) (N : Nat) : cl b w f (N + 1) = cl b w f N + ind b w f N := by
  unfold cl ind
  have hM : 0 < w * b := Nat.mul_pos hw hb
  have e := Nat.mod_add_div N (w * b)
  have hr := Nat.mod_lt N hM
  generalize hq : N / (w * b) = q at *
  generalize hrr : N % (w * b) = r at *
  -- the figure at the place is r / w
  have hdiv : N / w % b = r / w := by
    have h1 : N = r + w * (b * q) := by rw [← e, Nat.mul_assoc]
    rw [h1, Nat.add_mul_div_left _ _ hw, Nat.add_mul_mod_self_left]
    exact Nat.mod_eq_of_lt (Nat.div_lt_of_lt_mul hr)
  have hfw : (f + 1) * w ≤ b * w := Nat.mul_le_mul_right _ hf
  have hbw : b * w = w * b := Nat.mul_comm _ _
  have hf1 : (f + 1) * w = f * w + w := Nat.succ_mul _ _
  have hif : (r / w = f) ↔ (f * w ≤ r ∧ r < f * w + w) := by
    rw [← hf1]
    constructor
    · intro h
      rw [← h]
      exact ⟨Nat.div_mul_le_self r w, by rw [Nat.mul_comm]; exact Nat.lt_mul_div_succ r hw⟩
    · rintro ⟨h1, h2⟩
      exact Nat.le_antisymm (Nat.le_of_lt_succ (Nat.div_lt_of_lt_mul (by rw [Nat.mul_comm]; exact h2))) ((Nat.le_div_iff_mul_le hw).mpr h1)
  rw [hdiv]
  by_cases hlast : r + 1 = w * b
  · have hN : N + 1 = w * b * (q + 1) := by rw [Nat.mul_add, Nat.mul_one]; omega
    have h1 : (N + 1) / (w * b) = q + 1 := by rw [hN]; exact Nat.mul_div_cancel_left _ hM
    have h2 : (N + 1) % (w * b) = 0 := by rw [hN]; exact Nat.mul_mod_right _ _
    rw [h1, h2, Nat.succ_mul]
    by_cases c : r / w = f
    · have := hif.mp c
      rw [if_pos c]; omega
    · rw [if_neg c]
      have : ¬ (f * w ≤ r ∧ r < f * w + w) := fun z => c (hif.mpr z)
      omega
  · have hN : N + 1 = (r + 1) + w * b * q := by omega
    have h1 : (N + 1) / (w * b) = q := by
      rw [hN, Nat.add_mul_div_left _ _ hM, Nat.div_eq_of_lt (by omega)]; omega
    have h2 : (N + 1) % (w * b) = r + 1 := by
      rw [hN, Nat.add_mul_mod_self_left]; exact Nat.mod_eq_of_lt (by omega)
    rw [h1, h2]
    by_cases c : r / w = f
    · have := hif.mp c
      rw [if_pos c]; omega
    · rw [if_neg c]
      have : ¬ (f * w ≤ r ∧ r < f * w + w) := fun z => c (hif.mpr z)
      omega
theorem cl_zero {b w f : Nat} : cl b w f 0 = 0 := by
  unfold cl
  rw [Nat.zero_div, Nat.zero_mod]; omega
theorem cl_sum {b w f : Nat} (hb : 0 < b) (hw : 0 < w) (hf : f < b) : ∀ N, sumTo (ind b w f) N = cl b w f N
  | 0 => cl_zero.symm
  | N + 1 => by show sumTo (ind b w f) N + ind b w f N = _; rw [cl_sum hb hw hf N, cl_step hb hw hf]
/-- the figure at place k as it is written: none ahead of the greatest -/
def place (b k f n : Nat) : Nat := if k = 0 ∨ b ^ k ≤ n then ind b (b ^ k) f n else 0
theorem place_sum {b k f N : Nat} (hb : 2 ≤ b) (hf : f < b) (hN : b ^ k ≤ N) : sumTo (place b k f) N + (if 0 < k ∧ f = 0 then b ^ k else 0) = cl b (b ^ k) f N := by
  have hw : 0 < b ^ k := Nat.pow_pos (by omega)
  rw [← cl_sum (by omega) hw hf N]
  by_cases hk : k = 0
  · subst hk
    rw [if_neg (by omega), Nat.add_zero]
    exact sumTo_congr fun n _ => by unfold place; rw [if_pos (Or.inl rfl)]
  · have h1 : sumTo (ind b (b ^ k) f) N = sumTo (place b k f) N + sumTo (fun n => if n < b ^ k then (if f = 0 then 1 else 0) else 0) N := by
      rw [← sumTo_add]
      refine sumTo_congr fun n _ => ?_
      unfold place
      by_cases c : b ^ k ≤ n
      · rw [if_pos (Or.inr c), if_neg (by omega)]; omega
      · rw [if_neg (by omega), if_pos (by omega)]
        unfold ind
        rw [Nat.div_eq_of_lt (by omega), Nat.zero_mod]
        by_cases z : f = 0
        · rw [if_pos z.symm, if_pos z]
        · rw [if_neg (Ne.symm z), if_neg z]
    have h2 : ∀ (W c K : Nat), K ≤ W → sumTo (fun n => if n < W then c else 0) K = K * c := by
      intro W c K
      induction K with
      | zero => intro _; show 0 = 0 * c; omega
      | succ K ih =>
        intro hK
        show sumTo (fun n => if n < W then c else 0) K + (if K < W then c else 0) = (K + 1) * c
        rw [ih (by omega), if_pos (by omega), Nat.succ_mul]
    have h3 : ∀ (W c K : Nat), W ≤ K → sumTo (fun n => if n < W then c else 0) K = W * c := by
      intro W c K
      induction K with
      | zero => intro h; have : W = 0 := by omega
                subst this; exact h2 0 c 0 (Nat.le_refl _)
      | succ K ih =>
        intro hK
        by_cases e : W = K + 1
        · rw [← e]; exact h2 _ _ _ (Nat.le_refl _)
        · show sumTo (fun n => if n < W then c else 0) K + (if K < W then c else 0) = W * c
          rw [ih (by omega), if_neg (by omega), Nat.add_zero]
    rw [h1, h3 _ _ N hN]
    by_cases z : f = 0
    · rw [if_pos ⟨by omega, z⟩, if_pos z, Nat.mul_one]
    · rw [if_neg (fun q => z q.2), if_neg z, Nat.mul_zero]
theorem place_zero (b f n : Nat) : place b 0 f n = if n % b = f then 1 else 0 := by
  unfold place ind
  rw [if_pos (Or.inl rfl), Nat.pow_zero, Nat.div_one]
theorem place_succ {b k f n : Nat} (hb : 2 ≤ b) (h : b ≤ n) : place b (k + 1) f n = place b k f (n / b) := by
  unfold place ind
  have e : n / b ^ (k + 1) = n / b / b ^ k := by rw [Nat.pow_succ, Nat.mul_comm, Nat.div_div_eq_div_mul]
  rw [e]
  by_cases c : k = 0
  · subst c
    have e1 : b ^ (0 + 1) = b := by rw [Nat.pow_succ, Nat.pow_zero, Nat.one_mul]
    rw [e1, if_pos (Or.inr h), if_pos (Or.inl rfl)]
  · have i : b ^ (k + 1) ≤ n ↔ b ^ k ≤ n / b := by rw [Nat.pow_succ]; exact (Nat.le_div_iff_mul_le (by omega)).symm
    by_cases q : b ^ k ≤ n / b
    · rw [if_pos (Or.inr (i.mpr q)), if_pos (Or.inr q)]
    · rw [if_neg (by intro z; rcases z with z | z; · omega
                     · exact q (i.mp z)), if_neg (by intro z; rcases z with z | z; · exact c z
                                                     · exact q z)]
theorem sumTo_front (g : Nat → Nat) : ∀ k, sumTo g (k + 1) = g 0 + sumTo (fun j => g (j + 1)) k
  | 0 => by show 0 + g 0 = g 0 + 0; omega
  | k + 1 => by
    show sumTo g (k + 1) + g (k + 1) = g 0 + (sumTo (fun j => g (j + 1)) k + g (k + 1))
    rw [sumTo_front g k]; omega
/-- how often a figure is written in a number, place by place -/
theorem place_count {b : Nat} (hb : 2 ≤ b) (f : Nat) : ∀ n k, n < b ^ k → 0 < k → sumTo (fun j => place b j f n) k = (digs b n).count f := by
  refine digs_ind hb (P := fun n => ∀ k, n < b ^ k → 0 < k → sumTo (fun j => place b j f n) k = (digs b n).count f) (fun n h k hk h0 => ?_) (fun n h ih k hk h0 => ?_)
  · obtain ⟨j, rfl⟩ : ∃ j, k = j + 1 := ⟨k - 1, by omega⟩
    rw [sumTo_front, place_zero, sumTo_congr (h := fun _ => 0), sumTo_zero, digs_small h, Nat.mod_eq_of_lt h]
    · show (if n = f then 1 else 0) + 0 = List.count f [n]
      rw [List.count_cons, List.count_nil]
      simp
    · intro i _
      unfold place
      rw [if_neg]
      rintro (z | z)
      · omega
      · have : b ≤ b ^ (i + 1) := by rw [Nat.pow_succ]; exact Nat.le_mul_of_pos_left _ (Nat.pow_pos (by omega))
        omega
  · obtain ⟨j, rfl⟩ : ∃ j, k = j + 1 := ⟨k - 1, by omega⟩
    have hj : 0 < j := by
      by_cases z : j = 0
      · subst z
        rw [Nat.pow_succ, Nat.pow_zero, Nat.one_mul] at hk
        omega
      · omega
    rw [sumTo_front, place_zero, sumTo_congr (h := fun i => place b i f (n / b)) (fun i _ => place_succ hb h), ih j ((Nat.div_lt_iff_lt_mul (by omega)).mpr (by rw [Nat.pow_succ] at hk; exact hk)) hj, digs_big hb h, List.count_cons]
    by_cases c : n % b = f
    · rw [if_pos c]; simp [c]; omega
    · rw [if_neg c]; simp [c]
/-- how often a figure stands in all numbers below N -/
def cnt (b f N : Nat) : Nat := sumTo (fun n => (digs b n).count f) N
theorem cnt_places {b f N k : Nat} (hb : 2 ≤ b) (hN : N ≤ b ^ k) (hk : 0 < k) : sumTo (fun j => sumTo (place b j f) N) k = cnt b f N := by
  rw [sumTo_swap]
  exact sumTo_congr fun n hn => place_count hb f n k (by omega) hk
/-- the sums of all numbers below N together -/
def tot (b N : Nat) : Nat := sumTo (dsum b) N
theorem count_total {b : Nat} : ∀ ds : List Nat, (∀ d ∈ ds, d < b) → sumTo (fun f => f * ds.count f) b = ds.sum
  | [], _ => by
    rw [sumTo_congr (h := fun _ => 0) (fun n _ => by simp), sumTo_zero]; rfl
  | d :: r, h => by
    have ih := count_total r fun x hx => h x (List.mem_cons_of_mem _ hx)
    rw [sumTo_congr (h := fun f => f * r.count f + if d = f then f else 0) (fun f _ => by
      rw [List.count_cons, Nat.mul_add]
      by_cases c : d = f
      · simp [c]
      · simp [c]), sumTo_add, ih, sumTo_pick d (fun f => f) b (h d List.mem_cons_self), List.sum_cons]
    omega
theorem cnt_total {b : Nat} (hb : 2 ≤ b) (N : Nat) : sumTo (fun f => f * cnt b f N) b = tot b N := by
  unfold cnt tot
  rw [sumTo_congr (h := fun f => sumTo (fun n => f * (digs b n).count f) N) (fun f _ => (sumTo_mul f _ N).symm), sumTo_swap]
  exact sumTo_congr fun n _ => count_total _ (digs_lt hb n)
theorem tot_succ (b N : Nat) : tot b (N + 1) = tot b N + dsum b N := rfl
/-! all numbers of so many figures -/
theorem sum_id_c (c : Nat) : ∀ b, 2 * sumTo (fun r => r + c) b + b = b * b + 2 * (b * c)
  | 0 => by show 2 * 0 + 0 = 0 * 0 + 2 * (0 * c); omega
  | b + 1 => by
    show 2 * (sumTo (fun r => r + c) b + (b + c)) + (b + 1) = (b + 1) * (b + 1) + 2 * ((b + 1) * c)
    have ih := sum_id_c c b
    have e1 : (b + 1) * (b + 1) = b * b + 2 * b + 1 := by rw [Nat.add_mul, Nat.mul_add]; omega
    have e2 : (b + 1) * c = b * c + c := Nat.succ_mul b c
    omega
theorem sumTo_shift (g : Nat → Nat) (a : Nat) : ∀ k, sumTo g (a + k) = sumTo g a + sumTo (fun r => g (a + r)) k
  | 0 => rfl
  | k + 1 => by
    show sumTo g (a + k) + g (a + k) = sumTo g a + (sumTo (fun r => g (a + r)) k + g (a + k))
    rw [sumTo_shift g a k]; omega
theorem tot_block {b : Nat} (hb : 2 ≤ b) (q : Nat) : 2 * tot b (b * (q + 1)) + b = 2 * tot b (b * q) + b * b + 2 * (b * dsum b q) := by
  unfold tot
  rw [Nat.mul_succ, sumTo_shift]
  rw [sumTo_congr (g := fun r => dsum b (b * q + r)) (h := fun r => r + dsum b q) (fun r hr => by
    rw [dsum_step hb, Nat.mul_add_mod, Nat.mod_eq_of_lt hr, Nat.mul_add_div (by omega), Nat.div_eq_of_lt hr, Nat.add_zero])]
  have := sum_id_c (dsum b q) b
  omega
theorem tot_mul {b : Nat} (hb : 2 ≤ b) : ∀ N, 2 * tot b (b * N) + N * b = 2 * (b * tot b N) + N * (b * b)
  | 0 => by rw [Nat.mul_zero]; show 2 * 0 + 0 * b = 2 * (b * 0) + 0 * (b * b); omega
  | N + 1 => by
    have h1 := tot_block hb N
    have h2 := tot_mul hb N
    rw [tot_succ]
    have e1 : b * (tot b N + dsum b N) = b * tot b N + b * dsum b N := Nat.mul_add _ _ _
    have e2 : (N + 1) * b = N * b + b := Nat.succ_mul _ _
    have e3 : (N + 1) * (b * b) = N * (b * b) + b * b := Nat.succ_mul _ _
    omega
theorem tot_pow {b : Nat} (hb : 2 ≤ b) : ∀ m, 2 * tot b (b ^ m) = b ^ m * m * (b - 1)
  | 0 => by
    rw [Nat.pow_zero]
    show 2 * (0 + dsum b 0) = _
    rw [dsum_small (by omega)]; omega
  | m + 1 => by
    have h := tot_mul hb (b ^ m)
    have ih := tot_pow hb m
    have e : b ^ (m + 1) = b * b ^ m := by rw [Nat.pow_succ, Nat.mul_comm]
    rw [e]
    obtain ⟨c, rfl⟩ : ∃ c, b = c + 1 := ⟨b - 1, by omega⟩
    rw [Nat.add_sub_cancel] at *
    generalize (c + 1) ^ m = p at *
    generalize tot (c + 1) ((c + 1) * p) = x at *
    generalize tot (c + 1) p = y at *
    have e1 : p * ((c + 1) * (c + 1)) = p * (c + 1) + p * (c + 1) * c := by rw [← Nat.mul_assoc, Nat.mul_succ, Nat.add_comm]
    have e2 : 2 * ((c + 1) * y) = (c + 1) * (p * m * c) := by rw [Nat.mul_left_comm, ih]
    have e3 : (c + 1) * p * (m + 1) * c = (c + 1) * (p * m * c) + p * (c + 1) * c := by
      rw [Nat.mul_succ, Nat.add_mul, Nat.mul_assoc (c + 1) p m, Nat.mul_assoc (c + 1) (p * m) c, Nat.mul_comm (c + 1) p]
    omega
end M

set_option Elab.async false
set_option linter.all false
set_option maxRecDepth 100000
namespace M
open PySem L2 Z
/-! texts that write numbers, and those that write none -/
def fg (c : Nat) : Int := Txt.find sgs ⟨#[c]⟩
def fg16 (c : Nat) : Int := Txt.find sg16 ⟨#[c]⟩
theorem find_no {s : Str} {c : Nat} (h : c ∉ s.cps.toList) : Txt.find s ⟨#[c]⟩ = -1 := by
  unfold Txt.find
  rw [PySem.W.occ_nil_of_no]
  intro i hi
  cases e : PySem.Builtin.Str.subAt s ⟨#[c]⟩ i with
  | false => rfl
  | true =>
    have m : c ∈ (⟨#[c]⟩ : Str).cps := by simp
    rw [← beq_iff_eq.mp e] at m
    obtain ⟨k, hk, e2⟩ := Array.mem_extract_iff_getElem.mp m
    exact absurd (by rw [← e2]; exact Array.mem_toList_iff.mpr (Array.getElem_mem _)) h
theorem sgs_list : sgs.cps.toList = (List.range 36).map chr := by decide +kernel
theorem sg16_list : sg16.cps.toList = (List.range 16).map chr := by decide +kernel
theorem fg_chr : ∀ d : Nat, d < 36 → fg (chr d) = (d : Int) := sg_find
theorem fg16_chr : ∀ d : Nat, d < 36 → fg16 (chr d) = if d < 16 then (d : Int) else -1 := by decide +kernel
theorem fg_out {c : Nat} (h : ¬ ∃ d, d < 36 ∧ c = chr d) : fg c = -1 ∧ fg16 c = -1 := by
  constructor
  · refine find_no fun m => h ?_
    rw [sgs_list] at m
    obtain ⟨d, hd, e⟩ := List.mem_map.mp m
    exact ⟨d, List.mem_range.mp hd, e.symm⟩
  · refine find_no fun m => h ?_
    rw [sg16_list] at m
    obtain ⟨d, hd, e⟩ := List.mem_map.mp m
    exact ⟨d, by have := List.mem_range.mp hd; omega, e.symm⟩
/-- c is no figure of the base -/
def Bad (b c : Nat) : Prop := fg c < 0 ∨ (b : Int) ≤ fg c
theorem fg_same {b : Nat} (hb : b ≤ 16) (c : Nat) : (fg16 c < 0 ∨ (b : Int) ≤ fg16 c ↔ Bad b c) ∧ (¬ Bad b c → fg16 c = fg c) := by
  unfold Bad
  by_cases h : ∃ d, d < 36 ∧ c = chr d
  · obtain ⟨d, hd, rfl⟩ := h
    rw [fg_chr d hd, fg16_chr d hd]
    by_cases k : d < 16
    · rw [if_pos k]
      exact ⟨Iff.rfl, fun _ => rfl⟩
    · rw [if_neg k]
      exact ⟨⟨fun _ => .inr (by omega), fun _ => .inl (by omega)⟩, fun z => absurd (.inr (by omega)) z⟩
  · obtain ⟨e1, e2⟩ := fg_out h
    rw [e1, e2]
    exact ⟨Iff.rfl, fun _ => rfl⟩
/-- the number that signs tell -/
def num (b : Nat) (cs : List Nat) : Int := cs.foldl (fun n c => n * (b : Int) + fg c) 0
theorem num_take {b : Nat} {cs : List Nat} {i c : Nat} (h : cs[i]? = some c) : num b (cs.take (i + 1)) = num b (cs.take i) * (b : Int) + fg c := by
  unfold num
  rw [List.take_add_one, h, List.foldl_append]
  rfl
def Lead (t : Str) : Prop := t.cps[0]? = some 48 ∧ 1 < t.length
def Plain (b : Nat) (t : Str) (k : Nat) : Prop := ∀ (i c : Nat), i < k → t.cps[i]? = some c → ¬ Bad b c
theorem Plain.zero {b : Nat} {t : Str} : Plain b t 0 := fun i c h => absurd h (by omega)
theorem Plain.next {b : Nat} {t : Str} {k c : Nat} (h : Plain b t k) (e : t.cps[k]? = some c) (g : ¬ Bad b c) : Plain b t (k + 1) := fun i d hi hd => by
  by_cases z : i = k
  · subst z
    rw [e] at hd
    cases hd
    exact g
  · exact h i d (by omega) hd
def Taken (b : Nat) (t : Str) (n : Int) : Prop := (t ≠ "" ∧ ¬ Lead t) ∧ Plain b t t.cps.size ∧ n = num b t.cps.toList
def Refused (b : Nat) (t : Str) (k : Nat) : Prop := ((t = "" ∨ Lead t) ∧ k = 0) ∨ ((t ≠ "" ∧ ¬ Lead t) ∧ Plain b t k ∧ ∃ c, t.cps[k]? = some c ∧ Bad b c)
theorem told (b : Nat) (t : Str) : (∃ n, Taken b t n) ∨ ∃ k, Refused b t k := by
  by_cases h : t = "" ∨ Lead t
  · exact .inr ⟨0, .inl ⟨h, rfl⟩⟩
  have h2 : t ≠ "" ∧ ¬ Lead t := ⟨fun z => h (.inl z), fun z => h (.inr z)⟩
  have all : ∀ k, k ≤ t.cps.size → Plain b t k ∨ ∃ k, Refused b t k := by
    intro k
    induction k with
    | zero => exact fun _ => .inl Plain.zero
    | succ k ih =>
      intro hk
      rcases ih (by omega) with p | r
      · obtain ⟨c, hc⟩ : ∃ c, t.cps[k]? = some c := ⟨_, Array.getElem?_eq_getElem (by omega)⟩
        by_cases g : Bad b c
        · exact .inr ⟨k, .inr ⟨h2, p, c, hc, g⟩⟩
        · exact .inl (p.next hc g)
      · exact .inr r
  rcases all _ (Nat.le_refl _) with p | r
  · exact .inl ⟨_, h2, p, rfl⟩
  · exact .inr r
theorem Refused.le {b : Nat} {t : Str} {k : Nat} (h : Refused b t k) : k ≤ t.length := by
  rcases h with ⟨_, rfl⟩ | ⟨_, _, c, hc, _⟩
  · omega
  · exact Nat.le_of_lt (Array.getElem?_eq_some_iff.mp hc).1
theorem small_place {k : Nat} (h : k ≤ 16777216) : (k : Int).natAbs.log2 < 1920 := by
  have e : (k : Int).natAbs = k := Int.natAbs_natCast k
  rw [e]
  by_cases z : k = 0
  · subst z; decide
  · exact (Nat.log2_lt z).mpr (Nat.lt_of_le_of_lt h (by decide +kernel))
/-- the pieces of a text that is cut in two -/
theorem cut_len (u : Str) (lo hi : Option Int) : (cutS u lo hi).length = min (HT.sIx u.length u.length hi - HT.sIx u.length 0 lo) (u.length - HT.sIx u.length 0 lo) := by
  have e : u.length = u.cps.toList.length := (Array.length_toList).symm
  unfold cutS
  show (List.toArray _).size = _
  rw [List.size_toArray, List.length_take, List.length_drop, ← e]
theorem cut_to (u : Str) (p : Nat) (h : p ≤ u.length) : (cutS u none (some (p : Int))).length = p := by
  rw [cut_len, HT.sIx_nat]
  show min (min p u.length - 0) (u.length - 0) = p
  omega
theorem cut_from (u : Str) (p : Nat) : (cutS u (some (p : Int)) none).length = u.length - p := by
  rw [cut_len, HT.sIx_nat]
  show min (u.length - min p u.length) (u.length - min p u.length) = u.length - p
  omega
theorem app_len (a b : Str) : (a ++ b).length = a.length + b.length := PySem.Str.length_append a b
theorem one_len (z : Nat) : (⟨#[z]⟩ : Str).length = 1 := rfl
theorem cut_one (t : Str) : cutS t none (some 1) = "0" ↔ t.cps[0]? = some 48 := by
  have e0 : ("0" : Str) = ⟨#[48]⟩ := by decide +kernel
  have e1 : cutS t none (some 1) = ⟨(t.cps.toList.take 1).toArray⟩ := by
    unfold cutS
    have s : HT.sIx t.length t.length (some 1) = min 1 t.length := HT.sIx_nat t.length t.length 1
    rw [s]
    show (⟨(List.take (min 1 t.length - 0) (List.drop 0 t.cps.toList)).toArray⟩ : Str) = _
    have l : t.length = t.cps.toList.length := (Array.length_toList).symm
    rw [List.drop_zero, Nat.sub_zero, l]
    congr 2
    rw [← List.take_take, List.take_length]
  rw [e1, e0, ← Array.getElem?_toList]
  cases t.cps.toList with
  | nil => simp
  | cons a r =>
    simp
theorem excl {b : Nat} {t : Str} {n : Int} {k : Nat} (h : Taken b t n) (r : Refused b t k) : False := by
  obtain ⟨⟨h1, h2⟩, pl, _⟩ := h
  rcases r with ⟨z | z, _⟩ | ⟨_, _, c, hc, bad⟩
  · exact h1 z
  · exact h2 z
  · exact pl k c (Array.getElem?_eq_some_iff.mp hc).1 hc bad
theorem Taken.eq {b : Nat} {t : Str} {n m : Int} (h : Taken b t n) (h2 : Taken b t m) : n = m := h.2.2.trans h2.2.2.symm
theorem Refused.eq {b : Nat} {t : Str} {k j : Nat} (h : Refused b t k) (h2 : Refused b t j) : k = j := by
  rcases h with ⟨z, rfl⟩ | ⟨z, pl, c, hc, bad⟩
  · rcases h2 with ⟨_, rfl⟩ | ⟨y, _⟩
    · rfl
    · exact (z.elim y.1 y.2).elim
  · rcases h2 with ⟨y, _⟩ | ⟨y, pl2, c2, hc2, bad2⟩
    · exact (y.elim z.1 z.2).elim
    · rcases Nat.lt_trichotomy k j with l | l | l
      · exact absurd bad (pl2 k c l hc)
      · exact l
      · exact absurd bad2 (pl j c2 l hc2)
end M

set_option Elab.async false
set_option linter.all false
set_option maxRecDepth 100000
set_option maxHeartbeats 4000000
namespace Lw
open PySem L2 Z
local macro_rules | `(tactic| walk_at "ne") => `(tactic| first | assumption | (refine Ne.symm ?_; assumption) | (refine ne_of_none (by assumption) (by assumption)) | (refine Ne.symm ?_; refine ne_of_none (by assumption) (by assumption)))
local macro_rules | `(tactic| walk_at "hp") => `(tactic| first | assumption | (refine sameAt (by assumption) ?_; walk_at "hp") | (refine keepAt (by assumption) (by walk_at "ne") ?_; walk_at "hp"))
local macro_rules | `(tactic| walk_at "sc") => `(tactic| (try dsimp only); first | omega | assumption | (refine And.intro ?_ (Or.inl ?_) <;> omega) | with_reducible rfl | (exact Nat.le_of_ble_eq_true rfl) | (refine Or.inl (And.intro ?_ ?_) <;> omega) | (refine Or.inr (Or.inl (And.intro ?_ ?_)) <;> omega) | (refine And.intro ?_ (Or.inl ?_) <;> omega) | decide | (exact ⟨_, rfl⟩))
local macro_rules | `(tactic| walk_at "w") => `(tactic| conv => whnf)
local macro_rules | `(tactic| walk_at "go") => `(tactic| ((conv => whnf); repeat ((first | refine And.intro (by walk_at "sc") ?_ | refine ⟨_, _, .inl (.inl (by walk_at "hp")), by rfl, ?_⟩ | refine ⟨.inl ⟨rfl, _, .inl (.inl (by walk_at "hp"))⟩, ?_⟩); (conv => whnf))))
local macro_rules | `(tactic| walk_at "t2") => `(tactic| (refine ⟨_, _, rfl, .inl (.inl (by walk_at "hp")), rfl, ?_⟩; (conv => whnf); refine ⟨_, _, rfl, ?_⟩; (conv => whnf); refine ⟨_, _, rfl, ?_⟩; (conv => whnf); refine ⟨rfl, ?_⟩; walk_at "go"))
local macro_rules | `(tactic| walk_at "t3") => `(tactic| (refine ⟨_, _, rfl, .inl (.inl (by walk_at "hp")), rfl, ?_⟩; (conv => whnf); refine ⟨_, _, rfl, ?_⟩; (conv => whnf); refine ⟨_, _, rfl, ?_⟩; (conv => whnf); refine ⟨_, _, rfl, ?_⟩; (conv => whnf); refine ⟨rfl, ?_⟩; walk_at "go"))
local macro_rules | `(tactic| walk_at "t4") => `(tactic| (refine ⟨_, _, rfl, .inl (.inl (by walk_at "hp")), rfl, ?_⟩; (conv => whnf); refine ⟨_, _, rfl, ?_⟩; (conv => whnf); refine ⟨_, _, rfl, ?_⟩; (conv => whnf); refine ⟨_, _, rfl, ?_⟩; (conv => whnf); refine ⟨_, _, rfl, ?_⟩; (conv => whnf); refine ⟨rfl, ?_⟩; walk_at "go"))
def top (i : Nat) : Stmt := PySem.Challenge.pw_figuresums_k02_texts_of_no_numbers.main.body.getD i (.Pass ⟨0, 0, 0, 0⟩)
structure Blt (mg : Str → Option Value) : Prop where
  b_ValueError : mg "ValueError" = none
  b_bool : mg "bool" = none
  b_enumerate : mg "enumerate" = none
  b_int : mg "int" = none
  b_isinstance : mg "isinstance" = none
  b_len : mg "len" = none
  b_max : mg "max" = none
  b_min : mg "min" = none
  b_range : mg "range" = none
  b_str : mg "str" = none
  b_sum : mg "sum" = none
  b_super : mg "super" = none
  b_tuple : mg "tuple" = none
def v_SIGNS : V := .str "0123456789abcdefghijklmnopqrstuvwxyz"
structure Cst (mg : Str → Option Value) : Prop where
  c_SIGNS : ∃ u, mg "SIGNS" = some u ∧ RelV v_SIGNS u
structure Ads where
  SumError : Addr
  NoStretch : Addr
  NoAsk : Addr
  NoNumber : Addr
structure Kls (K : PySem.W.Frag) (mg : Str → Option Value) (ad : Ads) : Prop where
  g_SumError : mg "SumError" = some (.ref ad.SumError)
  g_NoStretch : mg "NoStretch" = some (.ref ad.NoStretch)
  g_NoAsk : mg "NoAsk" = some (.ref ad.NoAsk)
  g_NoNumber : mg "NoNumber" = some (.ref ad.NoNumber)
  b_SumError : PySem.W.subIn K (.ref ad.SumError) (.type "BaseException") = some true
  t_SumError : PySem.W.typeIn K (.ref ad.SumError) = some (.type "type")
  d_SumError : PySem.W.hasDictIn K ad.SumError = true
  s_SumError_SumError : PySem.W.subIn K (.ref ad.SumError) (.ref ad.SumError) = some true
  b_NoStretch : PySem.W.subIn K (.ref ad.NoStretch) (.type "BaseException") = some true
  t_NoStretch : PySem.W.typeIn K (.ref ad.NoStretch) = some (.type "type")
  d_NoStretch : PySem.W.hasDictIn K ad.NoStretch = true
  s_NoStretch_SumError : PySem.W.subIn K (.ref ad.NoStretch) (.ref ad.SumError) = some true
  k_NoStretch : PySem.W.keepIn K (.ref ad.NoStretch) = true
  x_NoStretch : PySem.W.excIn K ad.NoStretch [.type "ValueError", .type "Exception", .type "BaseException", .type "object"] "ValueError.__new__" = true
  sr_NoStretch : PySem.W.findIn K (.ref ad.NoStretch) "__str__" = some (some (.builtin "BaseException.__str__"))
  ga_NoStretch : PySem.W.findIn K (.ref ad.NoStretch) "__getattribute__" = some (some (.builtin "BaseException.__getattribute__"))
  gt_NoStretch : PySem.W.findIn K (.ref ad.NoStretch) "__getattr__" = some none
  cl_NoStretch : PySem.W.findIn K (.ref ad.NoStretch) "__class__" = some (some (.builtin "object.__class__"))
  mr_NoStretch : PySem.W.mroIn K ad.NoStretch (.type "object") = some true
  v_NoStretch : PySem.W.subIn K (.ref ad.NoStretch) (.type "ValueError") = some true
  j_NoStretch_SumError : PySem.W.subIn K (.ref ad.NoStretch) (.ref ad.SumError) = some true
  j_NoStretch_NoStretch : PySem.W.subIn K (.ref ad.NoStretch) (.ref ad.NoStretch) = some true
  j_NoStretch_NoAsk : PySem.W.subIn K (.ref ad.NoStretch) (.ref ad.NoAsk) = some false
  j_NoStretch_NoNumber : PySem.W.subIn K (.ref ad.NoStretch) (.ref ad.NoNumber) = some false
  b_NoAsk : PySem.W.subIn K (.ref ad.NoAsk) (.type "BaseException") = some true
  t_NoAsk : PySem.W.typeIn K (.ref ad.NoAsk) = some (.type "type")
  d_NoAsk : PySem.W.hasDictIn K ad.NoAsk = true
  s_NoAsk_SumError : PySem.W.subIn K (.ref ad.NoAsk) (.ref ad.SumError) = some true
  k_NoAsk : PySem.W.keepIn K (.ref ad.NoAsk) = true
  x_NoAsk : PySem.W.excIn K ad.NoAsk [.type "ValueError", .type "Exception", .type "BaseException", .type "object"] "ValueError.__new__" = true
  sr_NoAsk : PySem.W.findIn K (.ref ad.NoAsk) "__str__" = some (some (.builtin "BaseException.__str__"))
  ga_NoAsk : PySem.W.findIn K (.ref ad.NoAsk) "__getattribute__" = some (some (.builtin "BaseException.__getattribute__"))
  gt_NoAsk : PySem.W.findIn K (.ref ad.NoAsk) "__getattr__" = some none
  cl_NoAsk : PySem.W.findIn K (.ref ad.NoAsk) "__class__" = some (some (.builtin "object.__class__"))
  mr_NoAsk : PySem.W.mroIn K ad.NoAsk (.type "object") = some true
  v_NoAsk : PySem.W.subIn K (.ref ad.NoAsk) (.type "ValueError") = some true
  j_NoAsk_SumError : PySem.W.subIn K (.ref ad.NoAsk) (.ref ad.SumError) = some true
  j_NoAsk_NoStretch : PySem.W.subIn K (.ref ad.NoAsk) (.ref ad.NoStretch) = some false
  j_NoAsk_NoAsk : PySem.W.subIn K (.ref ad.NoAsk) (.ref ad.NoAsk) = some true
  j_NoAsk_NoNumber : PySem.W.subIn K (.ref ad.NoAsk) (.ref ad.NoNumber) = some false
  b_NoNumber : PySem.W.subIn K (.ref ad.NoNumber) (.type "BaseException") = some true
  t_NoNumber : PySem.W.typeIn K (.ref ad.NoNumber) = some (.type "type")
  d_NoNumber : PySem.W.hasDictIn K ad.NoNumber = true
  s_NoNumber_SumError : PySem.W.subIn K (.ref ad.NoNumber) (.ref ad.SumError) = some true
  k_NoNumber : PySem.W.keepIn K (.ref ad.NoNumber) = true
  sr_NoNumber : PySem.W.findIn K (.ref ad.NoNumber) "__str__" = some (some (.builtin "BaseException.__str__"))
  ga_NoNumber : PySem.W.findIn K (.ref ad.NoNumber) "__getattribute__" = some (some (.builtin "BaseException.__getattribute__"))
  gt_NoNumber : PySem.W.findIn K (.ref ad.NoNumber) "__getattr__" = some none
  cl_NoNumber : PySem.W.findIn K (.ref ad.NoNumber) "__class__" = some (some (.builtin "object.__class__"))
  mr_NoNumber : PySem.W.mroIn K ad.NoNumber (.type "object") = some true
  np_NoNumber : PySem.W.findIn K (.ref ad.NoNumber) "place" = some none
  v_NoNumber : PySem.W.subIn K (.ref ad.NoNumber) (.type "ValueError") = some true
  j_NoNumber_SumError : PySem.W.subIn K (.ref ad.NoNumber) (.ref ad.SumError) = some true
  j_NoNumber_NoStretch : PySem.W.subIn K (.ref ad.NoNumber) (.ref ad.NoStretch) = some false
  j_NoNumber_NoAsk : PySem.W.subIn K (.ref ad.NoNumber) (.ref ad.NoAsk) = some false
  j_NoNumber_NoNumber : PySem.W.subIn K (.ref ad.NoNumber) (.ref ad.NoNumber) = some true
  sn : PySem.W.specialIn K (.builtin "object.__class__") "__get__" = some (some (.builtin "getset_descriptor.__get__"))
  st : PySem.W.takesIn K (.builtin "object.__class__") = some true
theorem Kls.iv_NoStretch {K : PySem.W.Frag} {mg : Str → Option Value} {ad : Ads} (k : Kls K mg ad) : PySem.W.kitOne K (.ref ad.NoStretch) (.type "ValueError") = some true := kit_type k.v_NoStretch (by decide +kernel)
theorem Kls.i_NoStretch_SumError {K : PySem.W.Frag} {mg : Str → Option Value} {ad : Ads} (k : Kls K mg ad) : PySem.W.kitOne K (.ref ad.NoStretch) (.ref ad.SumError) = some true := kit_own k.j_NoStretch_SumError k.d_SumError k.t_SumError k.j_NoStretch_NoStretch
theorem Kls.i_NoStretch_NoStretch {K : PySem.W.Frag} {mg : Str → Option Value} {ad : Ads} (k : Kls K mg ad) : PySem.W.kitOne K (.ref ad.NoStretch) (.ref ad.NoStretch) = some true := kit_own k.j_NoStretch_NoStretch k.d_NoStretch k.t_NoStretch k.j_NoStretch_NoStretch
theorem Kls.i_NoStretch_NoAsk {K : PySem.W.Frag} {mg : Str → Option Value} {ad : Ads} (k : Kls K mg ad) : PySem.W.kitOne K (.ref ad.NoStretch) (.ref ad.NoAsk) = some false := kit_own k.j_NoStretch_NoAsk k.d_NoAsk k.t_NoAsk k.j_NoStretch_NoStretch
theorem Kls.i_NoStretch_NoNumber {K : PySem.W.Frag} {mg : Str → Option Value} {ad : Ads} (k : Kls K mg ad) : PySem.W.kitOne K (.ref ad.NoStretch) (.ref ad.NoNumber) = some false := kit_own k.j_NoStretch_NoNumber k.d_NoNumber k.t_NoNumber k.j_NoStretch_NoStretch
theorem Kls.c_NoStretch {K : PySem.W.Frag} {mg : Str → Option Value} {ad : Ads} (k : Kls K mg ad) : ExcC K ad.NoStretch := ⟨k.ga_NoStretch, k.gt_NoStretch, k.b_NoStretch, k.d_NoStretch, k.cl_NoStretch, k.sn, k.st, k.mr_NoStretch⟩
theorem Kls.iv_NoAsk {K : PySem.W.Frag} {mg : Str → Option Value} {ad : Ads} (k : Kls K mg ad) : PySem.W.kitOne K (.ref ad.NoAsk) (.type "ValueError") = some true := kit_type k.v_NoAsk (by decide +kernel)
theorem Kls.i_NoAsk_SumError {K : PySem.W.Frag} {mg : Str → Option Value} {ad : Ads} (k : Kls K mg ad) : PySem.W.kitOne K (.ref ad.NoAsk) (.ref ad.SumError) = some true := kit_own k.j_NoAsk_SumError k.d_SumError k.t_SumError k.j_NoAsk_NoAsk
theorem Kls.i_NoAsk_NoStretch {K : PySem.W.Frag} {mg : Str → Option Value} {ad : Ads} (k : Kls K mg ad) : PySem.W.kitOne K (.ref ad.NoAsk) (.ref ad.NoStretch) = some false := kit_own k.j_NoAsk_NoStretch k.d_NoStretch k.t_NoStretch k.j_NoAsk_NoAsk
theorem Kls.i_NoAsk_NoAsk {K : PySem.W.Frag} {mg : Str → Option Value} {ad : Ads} (k : Kls K mg ad) : PySem.W.kitOne K (.ref ad.NoAsk) (.ref ad.NoAsk) = some true := kit_own k.j_NoAsk_NoAsk k.d_NoAsk k.t_NoAsk k.j_NoAsk_NoAsk
theorem Kls.i_NoAsk_NoNumber {K : PySem.W.Frag} {mg : Str → Option Value} {ad : Ads} (k : Kls K mg ad) : PySem.W.kitOne K (.ref ad.NoAsk) (.ref ad.NoNumber) = some false := kit_own k.j_NoAsk_NoNumber k.d_NoNumber k.t_NoNumber k.j_NoAsk_NoAsk
theorem Kls.c_NoAsk {K : PySem.W.Frag} {mg : Str → Option Value} {ad : Ads} (k : Kls K mg ad) : ExcC K ad.NoAsk := ⟨k.ga_NoAsk, k.gt_NoAsk, k.b_NoAsk, k.d_NoAsk, k.cl_NoAsk, k.sn, k.st, k.mr_NoAsk⟩
theorem Kls.iv_NoNumber {K : PySem.W.Frag} {mg : Str → Option Value} {ad : Ads} (k : Kls K mg ad) : PySem.W.kitOne K (.ref ad.NoNumber) (.type "ValueError") = some true := kit_type k.v_NoNumber (by decide +kernel)
theorem Kls.i_NoNumber_SumError {K : PySem.W.Frag} {mg : Str → Option Value} {ad : Ads} (k : Kls K mg ad) : PySem.W.kitOne K (.ref ad.NoNumber) (.ref ad.SumError) = some true := kit_own k.j_NoNumber_SumError k.d_SumError k.t_SumError k.j_NoNumber_NoNumber
theorem Kls.i_NoNumber_NoStretch {K : PySem.W.Frag} {mg : Str → Option Value} {ad : Ads} (k : Kls K mg ad) : PySem.W.kitOne K (.ref ad.NoNumber) (.ref ad.NoStretch) = some false := kit_own k.j_NoNumber_NoStretch k.d_NoStretch k.t_NoStretch k.j_NoNumber_NoNumber
theorem Kls.i_NoNumber_NoAsk {K : PySem.W.Frag} {mg : Str → Option Value} {ad : Ads} (k : Kls K mg ad) : PySem.W.kitOne K (.ref ad.NoNumber) (.ref ad.NoAsk) = some false := kit_own k.j_NoNumber_NoAsk k.d_NoAsk k.t_NoAsk k.j_NoNumber_NoNumber
theorem Kls.i_NoNumber_NoNumber {K : PySem.W.Frag} {mg : Str → Option Value} {ad : Ads} (k : Kls K mg ad) : PySem.W.kitOne K (.ref ad.NoNumber) (.ref ad.NoNumber) = some true := kit_own k.j_NoNumber_NoNumber k.d_NoNumber k.t_NoNumber k.j_NoNumber_NoNumber
theorem Kls.c_NoNumber {K : PySem.W.Frag} {mg : Str → Option Value} {ad : Ads} (k : Kls K mg ad) : ExcC K ad.NoNumber := ⟨k.ga_NoNumber, k.gt_NoNumber, k.b_NoNumber, k.d_NoNumber, k.cl_NoNumber, k.sn, k.st, k.mr_NoNumber⟩
abbrev s_own : Stmt := (inClass (top 4) 0)
theorem sc_own : KScope ["self", "place"] (defScope s_own) := ⟨rfl, rfl, rfl, by decide +kernel, by decide +kernel, by decide +kernel, by decide +kernel⟩
section
variable {P : Program} {w : World} {K : PySem.W.Frag} {mg : Str → Option Value} {base : Heap} {ad : Ads}
/-- the deck at d: the cells, how many are begun, what is left, how many were mixed (at most n), the sum -/
def Deck (H : Hp) (d c : Addr) (n : Nat) : Prop := ∃ (ns : List Int) (i rest mixed total : Int), H d = some (.lst [.ref c, .int i, .int rest, .int mixed, .int total]) ∧ H c = some (.lst (ns.map V.int)) ∧ c ≠ d ∧
  ns.length ≤ 63 ∧ 0 ≤ i ∧ i ≤ ns.length ∧ 0 ≤ rest ∧ 0 ≤ mixed ∧ mixed ≤ n
theorem Deck.same {H H' : Hp} {d c : Addr} {n : Nat} (h : Deck H d c n) (S : Same H H') : Deck H' d c n := by
  obtain ⟨ns, i, rest, mixed, total, hd, hc, r⟩ := h
  exact ⟨ns, i, rest, mixed, total, S _ _ hd, S _ _ hc, r⟩
theorem Deck.wr {H H' : Hp} {d c p : Addr} {n : Nat} (h : Deck H d c n) (S : Keep p H H') (n1 : d ≠ p) (n2 : c ≠ p) : Deck H' d c n := by
  obtain ⟨ns, i, rest, mixed, total, hd, hc, r⟩ := h
  exact ⟨ns, i, rest, mixed, total, S _ _ n1 hd, S _ _ n2 hc, r⟩
theorem Deck.ne {H : Hp} {d c p : Addr} {n : Nat} (h : Deck H d c n) (np : H p = none) : d ≠ p := by
  obtain ⟨ns, i, rest, mixed, total, hd, _⟩ := h
  exact ne_of_none hd np
theorem Deck.nec {H : Hp} {d c p : Addr} {n : Nat} (h : Deck H d c n) (np : H p = none) : c ≠ p := by
  obtain ⟨ns, i, rest, mixed, total, hd, hc, _⟩ := h
  exact ne_of_none hc np
theorem Deck.lst {H : Hp} {d c : Addr} {n : Nat} (h : Deck H d c n) : ∃ ys, H d = some (.lst ys) := by
  obtain ⟨ns, i, rest, mixed, total, hd, _⟩ := h
  exact ⟨_, hd⟩
theorem Deck.more {H : Hp} {d c : Addr} {n m : Nat} (h : Deck H d c n) (l : n ≤ m) : Deck H d c m := by
  obtain ⟨ns, i, rest, mixed, total, hd, hc, a, b, e, f, g, u, v⟩ := h
  exact ⟨ns, i, rest, mixed, total, hd, hc, a, b, e, f, g, u, by omega⟩
theorem at_ints {ns : List Int} {k : Int} (h0 : 0 ≤ k) (h : k < (ns.length : Int)) : ∃ v : Int, atI (ns.map V.int) k = some (.int v) ∧ ns[k.toNat]? = some v := by
  have hk : k.toNat < ns.length := by omega
  have ek : k = ((k.toNat : Nat) : Int) := by omega
  have q : atI (ns.map V.int) ((k.toNat : Nat) : Int) = some (.int ns[k.toNat]) := atI_nat (by rw [List.getElem?_map, List.getElem?_eq_getElem hk] <;> rfl)
  rw [← ek] at q
  exact ⟨_, q, List.getElem?_eq_getElem hk⟩

/-! _law_deck -/
abbrev s__law_deck : Stmt := top 10
abbrev ps__law_deck : List Str := ["script"]
theorem sc__law_deck : FnScope ["script"] ["script"] (defScope s__law_deck) := ⟨rfl, rfl, rfl, by decide +kernel, rfl, by decide +kernel, by decide +kernel⟩
def sp__law_deck (K : PySem.W.Frag) (_ : Ads) : Sp := fun vs H Q _ => ∃ (a : Addr) (ns : List Int), vs = [.ref a] ∧ SqL K H a (ns.map V.int) ∧ ns.length ≤ 63 ∧ ∀ d c H', H d = none → Same H H' → Deck H' d c 0 → Q (.ref d) H'
theorem ok__law_deck (D : DefAt K mg "_law_deck" s__law_deck ps__law_deck) (B : Blt mg) (C : Cst mg) (KC : Kls K mg ad) : Cal P w K mg base 1 "_law_deck" ps__law_deck (sp__law_deck K ad) := by
  have sc := sc__law_deck
  refine mkCal D sc (fun vs H Q E h => ?_) (fun f cdv A outer s H vs Q E hr h => ?_)
  · obtain ⟨a, ns, rfl, hS, hn, q⟩ := h
    rfl
  obtain ⟨a, ns, rfl, hS, hn, q⟩ := h
  refine ⟨_, (pss_one (ps_ret (zlst (pa_cons (pe_slice zslL (zv 0) po_none (zpo pe_int)) (pa_cons pe_int (pa_cons pe_int (pa_cons pe_int (pa_cons (pe_callB (zsum rfl) (by rfl) B.b_sum (by decide +kernel) (pa_cons (pe_slice zslL (zv 0) po_none (zpo pe_int)) pa_nil)) pa_nil)))))))), ?_⟩
  walk_at "go"
  refine ⟨_, hS, fun c H1 nc hc S1 => ?_⟩
  walk_at "go"
  refine ⟨_, S1.seq hS, fun c2 H2 nc2 hc2 S2 => ?_⟩
  walk_at "go"
  have ec : cutV (ns.map V.int) none (some 63) = (ns.take 63).map V.int := by
    have e2 : (ns.map V.int).length = ns.length := List.length_map _
    have e1 : HT.sIx (ns.map V.int).length (ns.map V.int).length (some 63) = ns.length := by
      rw [e2]
      exact (HT.sIx_nat ns.length ns.length 63).trans (by omega)
    unfold cutV
    rw [e1, List.take_of_length_le hn]
    show (ns.map V.int).take (ns.length - 0) = _
    rw [List.take_of_length_le (by omega)]
  rw [ec] at hc hc2
  refine ⟨ns.take 63, .inl (.inl hc2), ?_⟩
  walk_at "go"
  refine fun d H3 nd hd S3 => ?_
  walk_at "go"
  refine q d c H3 ((S1.trans S2).free nd) ((S1.trans S2).trans S3) ⟨ns.take 63, 0, 0, 0, _, hd, S3 _ _ (S2 _ _ hc), ne_of_none (S2 _ _ hc) nd, ?_, by omega, by omega, by omega, by omega, by omega⟩
  rw [List.length_take]; omega
/-! _law_mix -/
abbrev s__law_mix : Stmt := top 9
abbrev ps__law_mix : List Str := ["cell", "k"]
theorem sc__law_mix : FnScope ["cell", "k", "number"] ["cell", "k"] (defScope s__law_mix) := ⟨rfl, rfl, rfl, by decide +kernel, rfl, by decide +kernel, by decide +kernel⟩
def sp__law_mix (K : PySem.W.Frag) (_ : Ads) : Sp := fun vs H Q _ => ∃ cell k : Int, vs = [.int cell, .int k] ∧ 0 ≤ k ∧ k ≤ 1000000000000 ∧ ∀ r : Int, 0 ≤ r → Q (.int r) H
theorem ok__law_mix (D : DefAt K mg "_law_mix" s__law_mix ps__law_mix) (B : Blt mg) (C : Cst mg) (KC : Kls K mg ad) : Cal P w K mg base 1 "_law_mix" ps__law_mix (sp__law_mix K ad) := by
  have sc := sc__law_mix
  refine mkCal D sc (fun vs H Q E h => ?_) (fun f cdv A outer s H vs Q E hr h => ?_)
  · obtain ⟨cell, k, rfl, hk0, hk, q⟩ := h
    rfl
  obtain ⟨cell, k, rfl, hk0, hk, q⟩ := h
  refine ⟨_, (pss_cons (ps_set (i := 2) sc.nd rfl (Or.inl rfl) (pe_op zadd (pe_op zmod (zv 0) pe_int) (pe_op zmul (pe_op zmul pe_int (zv 1)) (zv 1))))
    (pss_cons (ps_set (i := 2) sc.nd rfl (Or.inl rfl) (pe_op zmod (pe_op zadd (zv 2) (pe_op zmul pe_int (zv 1))) pe_int))
    (pss_cons (ps_set (i := 2) sc.nd rfl (Or.inl rfl) (pe_op zmod (pe_op zmul (zv 2) (zv 2)) pe_int))
    (pss_one (ps_ret (pe_op zfdiv (pe_op zmod (pe_op zmul (zv 2) (pe_op zadd (zv 2) pe_int)) pe_int) pe_int)))))), ?_⟩
  walk_at "go"
  exact q _ (by omega)
/-! _law_next -/
abbrev s__law_next : Stmt := top 11
abbrev ps__law_next : List Str := ["deck", "many"]
theorem sc__law_next : FnScope ["deck", "many", "cell", "found"] ["deck", "many"] (defScope s__law_next) := ⟨rfl, rfl, rfl, by decide +kernel, rfl, by decide +kernel, by decide +kernel⟩
def sp__law_next (K : PySem.W.Frag) (_ : Ads) : Sp := fun vs H Q _ => ∃ (d c : Addr) (many : Int) (n : Nat), vs = [.ref d, .int many] ∧ Deck H d c n ∧ n < 1000000000 ∧ 0 < many ∧ many < 1073741824 ∧ ∀ r H', 0 ≤ r → r < many → Deck H' d c (n + 1) → Keep d H H' → Q (.int r) H'
theorem ok__law_next (D : DefAt K mg "_law_next" s__law_next ps__law_next) (B : Blt mg) (C : Cst mg) (KC : Kls K mg ad) (c__law_mix : Cal P w K mg base 1 "_law_mix" ps__law_mix (sp__law_mix K ad)) : Cal P w K mg base 2 "_law_next" ps__law_next (sp__law_next K ad) := by
  have sc := sc__law_next
  refine mkCal D sc (fun vs H Q E h => ?_) (fun f cdv A outer s H vs Q E hr h => ?_)
  · obtain ⟨d, c, many, n, rfl, hD, hn, hm0, hm, q⟩ := h
    rfl
  obtain ⟨d, c, many, n, rfl, hD, hn, hm0, hm, q⟩ := h
  refine ⟨_, (pss_zcut (zps_if (PW.pt (zpw_and (zpc zeq (pe_ix zixL (zv 0) pe_int (fun _ _ => rfl)) pe_int) (zpw_and1 (zpc zlt (pe_ix zixL (zv 0) pe_int (fun _ _ => rfl)) (pe_callB zlen (by rfl) B.b_len (by decide +kernel) (pa_cons (pe_ix zixL (zv 0) pe_int (fun _ _ => rfl)) pa_nil)))))) (pss_cons (ps_set (i := 2) sc.nd rfl (Or.inl rfl) (pe_ix zixL (pe_ix zixL (zv 0) pe_int (fun _ _ => rfl)) (pe_ix zixL (zv 0) pe_int (fun _ _ => rfl)) (fun _ _ => rfl)))
    (pss_cons (ps_asg (pe_op zadd (pe_ix zixL (zv 0) pe_int (fun _ _ => rfl)) pe_int) (pg_sub (zv 0) pe_int zsetL))
    (pss_cons (zps_if (zpc zlt (zv 2) (zpow (r := 1000000000000000000) (by decide +kernel) (by decide))) (pss_one (ps_ret (pe_op zmod (zcall c__law_mix (hr.mono (by decide)) (by rfl) (pa_cons (zv 2) (pa_cons (pe_ix zixL (zv 0) pe_int (fun _ _ => rfl)) pa_nil))) (zv 1)))) pss_nil)
    (pss_one (ps_asg (zv 2) (pg_sub (zv 0) pe_int zsetL)))))) pss_nil)
    (pss_cons (zps_if (zpc zgt (pe_ix zixL (zv 0) pe_int (fun _ _ => rfl)) pe_int) (pss_cons (ps_set (i := 3) sc.nd rfl (Or.inl rfl) (pe_op zmod (pe_ix zixL (zv 0) pe_int (fun _ _ => rfl)) (zv 1)))
    (pss_cons (ps_asg (pe_op zfdiv (pe_ix zixL (zv 0) pe_int (fun _ _ => rfl)) (zv 1)) (pg_sub (zv 0) pe_int zsetL))
    (pss_one (ps_ret (zv 3))))) pss_nil)
    (pss_cons (ps_asg (pe_op zadd (pe_ix zixL (zv 0) pe_int (fun _ _ => rfl)) pe_int) (pg_sub (zv 0) pe_int zsetL))
    (pss_one (ps_ret (pe_op zmod (zcall c__law_mix (hr.mono (by decide)) (by rfl) (pa_cons (pe_ix zixL (zv 0) pe_int (fun _ _ => rfl)) (pa_cons (pe_op zadd (pe_ix zixL (zv 0) pe_int (fun _ _ => rfl)) pe_int) pa_nil))) (zv 1))))))), ?_⟩
  obtain ⟨ns, i, rest, mixed, total, hd, hc, ncd, hl, hi0, hi, hr0, hx0, hx⟩ := hD
  walk_at "w"
  refine ⟨fun σ' H' => ∃ v2 v3, σ' = [some (.ref d), some (.int many), v2, v3] ∧ Keep d H H' ∧ ∃ i rest : Int, H' d = some (.lst [.ref c, .int i, .int rest, .int mixed, .int total]) ∧ 0 ≤ i ∧ i ≤ ns.length ∧ 0 ≤ rest, ?_, ?_⟩
  · walk_at "go"
    refine ⟨fun c1 => ?_, fun c1 => ?_⟩
    · walk_at "go"
      refine ⟨_, .inl (.inl (.inl hc)), ?_⟩
      walk_at "go"
      refine ⟨fun c2 => ?_, fun c2 => ?_⟩
      · rw [List.length_map] at c2
        walk_at "go"
        obtain ⟨cell, hcell, _⟩ := at_ints hi0 c2
        refine ⟨_, _, .inl (.inl hc), hcell, ?_⟩
        walk_at "go"
        refine ⟨_, _, hd, rfl, fun H1 hd1 K1 F1 => ?_⟩
        walk_at "go"
        refine ⟨fun c3 => ?_, fun c3 => ?_⟩
        · walk_at "go"
          refine ⟨_, _, rfl, by omega, by omega, fun r hr => ?_⟩
          walk_at "go"
          refine q _ H1 (Int.emod_nonneg _ (by omega)) (Int.emod_lt_of_pos _ hm0) ⟨ns, i + 1, rest, mixed, total, hd1, K1 _ _ ncd hc, ncd, hl, by omega, by omega, hr0, hx0, by omega⟩ K1
        · walk_at "go"
          refine ⟨_, _, hd1, rfl, fun H2 hd2 K2 F2 => ?_⟩
          refine ⟨_, _, rfl, K1.trans K2, i + 1, cell, hd2, by omega, by omega, by omega⟩
      · walk_at "go"
        exact ⟨_, _, rfl, Keep.refl _ _, i, rest, hd, hi0, hi, hr0⟩
    · walk_at "go"
      exact ⟨_, _, rfl, Keep.refl _ _, i, rest, hd, hi0, hi, hr0⟩
  · rintro σ1 H1 ⟨v2, v3, rfl, K1, i, rest, hd1, hi0, hi, hr0⟩
    have hc1 := K1 _ _ ncd hc
    walk_at "go"
    refine ⟨fun c1 => ?_, fun c1 => ?_⟩
    · walk_at "go"
      refine ⟨_, _, hd1, rfl, fun H2 hd2 K2 F2 => ?_⟩
      walk_at "go"
      refine q _ H2 (Int.emod_nonneg _ (by omega)) (Int.emod_lt_of_pos _ hm0) ⟨ns, i, rest / many, mixed, total, hd2, K2 _ _ ncd hc1, ncd, hl, hi0, hi, Int.ediv_nonneg (by omega) (by omega), hx0, by omega⟩ (K1.trans K2)
    · walk_at "go"
      refine ⟨_, _, hd1, rfl, fun H2 hd2 K2 F2 => ?_⟩
      walk_at "go"
      refine ⟨_, _, rfl, by omega, by omega, fun r hr => ?_⟩
      walk_at "go"
      refine q _ H2 (Int.emod_nonneg _ (by omega)) (Int.emod_lt_of_pos _ hm0) ⟨ns, i, rest, mixed + 1, total, hd2, K2 _ _ ncd hc1, ncd, hl, hi0, hi, hr0, by omega, by omega⟩ (K1.trans K2)
/-! _law_great -/
abbrev s__law_great : Stmt := top 12
abbrev ps__law_great : List Str := ["deck", "most"]
theorem sc__law_great : FnScope ["deck", "most", "found", "k"] ["deck", "most"] (defScope s__law_great) := ⟨rfl, rfl, rfl, by decide +kernel, rfl, by decide +kernel, by decide +kernel⟩
def sp__law_great (K : PySem.W.Frag) (_ : Ads) : Sp := fun vs H Q _ => ∃ (d c : Addr) (most : Int) (n : Nat), vs = [.ref d, .int most] ∧ Deck H d c n ∧ n < 900000000 ∧ 0 < most ∧ ∀ r H', 0 ≤ r → r < most → Deck H' d c (n + 6) → Keep d H H' → Q (.int r) H'
theorem ok__law_great (D : DefAt K mg "_law_great" s__law_great ps__law_great) (B : Blt mg) (C : Cst mg) (KC : Kls K mg ad) (c__law_next : Cal P w K mg base 2 "_law_next" ps__law_next (sp__law_next K ad)) : Cal P w K mg base 3 "_law_great" ps__law_great (sp__law_great K ad) := by
  have sc := sc__law_great
  refine mkCal D sc (fun vs H Q E h => ?_) (fun f cdv A outer s H vs Q E hr h => ?_)
  · obtain ⟨d, c, most, n, rfl, hD, hn, hm, q⟩ := h
    rfl
  obtain ⟨d, c, most, n, rfl, hD, hn, hm, q⟩ := h
  refine ⟨_, (pss_cons (ps_set (i := 2) sc.nd rfl (Or.inl rfl) pe_int)
    (pss_cons (ps_for PassesOwn.never rfl (pi_range1 (by rfl) B.b_range (pa_cons pe_int pa_nil)) (pg_name (i := 3) sc.nd rfl (Or.inl rfl)) (pss_one (ps_set (i := 2) sc.nd rfl (Or.inl rfl) (pe_op zadd (pe_op zmul (zv 2) (zpow (r := 1000000) (by decide +kernel) (by decide))) (zcall c__law_next (hr.mono (by decide)) (by rfl) (pa_cons (zv 0) (pa_cons (zpow (r := 1000000) (by decide +kernel) (by decide)) pa_nil)))))))
    (pss_one (ps_ret (pe_op zmod (zv 2) (zv 1)))))), ?_⟩
  walk_at "go"
  refine ⟨_, rfl, by omega, by omega, for_range (fun i σ H' => ∃ (found : Int) (v3 : Option V), σ = [some (.ref d), some (.int most), some (.int found), v3] ∧ Deck H' d c (n + i) ∧ Keep d H H') ?_ ?_ ?_⟩
  · exact ⟨0, _, rfl, hD, Keep.refl _ _⟩
  · rintro i σ1 H1 hi ⟨found, v3, rfl, hD1, K1⟩
    have hi' : i < 6 := hi
    walk_at "go"
    refine ⟨_, _, _, _, rfl, hD1, by omega, by omega, by omega, fun r H2 hr0 hr hD2 K2 => ?_⟩
    walk_at "w"
    exact ⟨_, _, rfl, hD2, K1.trans K2⟩
  · rintro σ1 H1 ⟨found, v3, rfl, hD1, K1⟩
    walk_at "go"
    exact q _ H1 (Int.emod_nonneg _ (by omega)) (Int.emod_lt_of_pos _ hm) hD1 K1
/-! _law_number -/
abbrev s__law_number : Stmt := top 13
abbrev ps__law_number : List Str := ["deck", "base", "most"]
theorem sc__law_number : FnScope ["deck", "base", "most", "power", "rep", "figure", "k", "some"] ["deck", "base", "most"] (defScope s__law_number) := ⟨rfl, rfl, rfl, by decide +kernel, rfl, by decide +kernel, by decide +kernel⟩
def sp__law_number (K : PySem.W.Frag) (_ : Ads) : Sp := fun vs H Q _ => ∃ (d c : Addr) (base most : Int) (n : Nat), vs = [.ref d, .int base, .int most] ∧ Deck H d c n ∧ n < 800000000 ∧ 2 ≤ base ∧ base ≤ 16 ∧ 0 ≤ most ∧ most ≤ 10 ^ 40 ∧
  ∀ r H', 0 ≤ r → r ≤ most → Deck H' d c (n + 18) → Keep d H H' → Q (.int r) H'
theorem ok__law_number (D : DefAt K mg "_law_number" s__law_number ps__law_number) (B : Blt mg) (C : Cst mg) (KC : Kls K mg ad) (c__law_next : Cal P w K mg base 2 "_law_next" ps__law_next (sp__law_next K ad)) (c__law_great : Cal P w K mg base 3 "_law_great" ps__law_great (sp__law_great K ad)) : Cal P w K mg base 4 "_law_number" ps__law_number (sp__law_number K ad) := by
  have sc := sc__law_number
  refine mkCal D sc (fun vs H Q E h => ?_) (fun f cdv A outer s H vs Q E hr h => ?_)
  · obtain ⟨d, c, base, most, n, rfl, hD, hn, hb, hb2, hm, hm2, q⟩ := h
    rfl
  obtain ⟨d, c, base, most, n, rfl, hD, hn, hb, hb2, hm, hm2, q⟩ := h
  refine ⟨_, (pss_cons (ps_set (i := 3) sc.nd rfl (Or.inl rfl) pe_int)
    (pss_cons (ps_set (i := 4) sc.nd rfl (Or.inl rfl) pe_int)
    (pss_cons (ps_set (i := 5) sc.nd rfl (Or.inl rfl) (zcall c__law_next (hr.mono (by decide)) (by rfl) (pa_cons (zv 0) (pa_cons (zv 1) pa_nil))))
    (pss_cons (ps_for PassesOwn.never rfl (pi_range1 (by rfl) B.b_range (pa_cons (zcall c__law_next (hr.mono (by decide)) (by rfl) (pa_cons (zv 0) (pa_cons pe_int pa_nil))) pa_nil)) (pg_name (i := 6) sc.nd rfl (Or.inl rfl)) (pss_one (zps_if (zpc zle (pe_op zmul (zv 3) (zv 1)) (zv 2)) (pss_cons (ps_set (i := 3) sc.nd rfl (Or.inl rfl) (pe_op zmul (zv 3) (zv 1)))
    (pss_one (ps_set (i := 4) sc.nd rfl (Or.inl rfl) (pe_op zadd (pe_op zmul (zv 4) (zv 1)) (zv 5))))) pss_nil)))
    (pss_cons (ps_set (i := 7) sc.nd rfl (Or.inl rfl) (zlst (pa_cons (zcall c__law_next (hr.mono (by decide)) (by rfl) (pa_cons (zv 0) (pa_cons pe_int pa_nil))) (pa_cons (zcall c__law_great (hr.mono (by decide)) (by rfl) (pa_cons (zv 0) (pa_cons (pe_op zadd (zv 2) pe_int) pa_nil))) (pa_cons (pe_op zsub (pe_op zadd (zv 3) (zcall c__law_next (hr.mono (by decide)) (by rfl) (pa_cons (zv 0) (pa_cons pe_int pa_nil)))) pe_int) (pa_cons (zv 4) pa_nil))))))
    (pss_cons (ps_set (i := 7) sc.nd rfl (Or.inl rfl) (pe_op zcat (zv 7) (zlst (pa_cons (pe_op zsub (zv 2) (zcall c__law_next (hr.mono (by decide)) (by rfl) (pa_cons (zv 0) (pa_cons pe_int pa_nil)))) (pa_cons (pe_op zfdiv (zcall c__law_great (hr.mono (by decide)) (by rfl) (pa_cons (zv 0) (pa_cons (pe_op zadd (zv 2) pe_int) pa_nil))) (zv 3)) pa_nil)))))
    (pss_one (ps_ret (pe_callB (zmin2 rfl) (by rfl) B.b_min (by decide +kernel) (pa_cons (zv 2) (pa_cons (pe_callB (zmax2 rfl) (by rfl) B.b_max (by decide +kernel) (pa_cons pe_int (pa_cons (pe_ix zixL (zv 7) (zcall c__law_next (hr.mono (by decide)) (by rfl) (pa_cons (zv 0) (pa_cons pe_int pa_nil))) (fun _ _ => rfl)) pa_nil))) pa_nil))))))))))), ?_⟩
  have hm9 : (10 : Int) ^ 40 = 10000000000000000000000000000000000000000 := by decide +kernel
  rw [hm9] at hm2
  walk_at "go"
  refine ⟨_, _, _, _, rfl, hD, by omega, by omega, by omega, fun figure H1 hf0 hf hD1 K1 => ?_⟩
  walk_at "w"
  refine ⟨_, _, _, _, rfl, hD1, by omega, by omega, by omega, fun times H2 ht0 ht hD2 K2 => ?_⟩
  walk_at "w"
  refine ⟨_, rfl, by omega, by omega, for_range (fun i σ H' => ∃ (power rep : Int) (v6 : Option V), σ = [some (.ref d), some (.int base), some (.int most), some (.int power), some (.int rep), some (.int figure), v6, none] ∧ H' = H2 ∧ 1 ≤ power ∧ power ≤ most + 1) ?_ ?_ ?_⟩
  · exact ⟨1, 0, _, rfl, rfl, by omega, by omega⟩
  · rintro i σ1 H1 hi ⟨power, rep, v6, rfl, rfl, hp1, hp2⟩
    walk_at "go"
    refine ⟨fun cc => ?_, fun cc => ?_⟩
    · walk_at "go"
      refine ⟨_, _, _, rfl, rfl, ?_, Int.le_add_one cc⟩
      have : 1 * 1 ≤ power * base := Int.mul_le_mul hp1 (by omega) (by omega) (by omega)
      omega
    · walk_at "w"
      exact ⟨_, _, _, rfl, rfl, hp1, hp2⟩
  · rintro σ1 H3 ⟨power, rep, v6, rfl, rfl, hp1, hp2⟩
    have K12 := K1.trans K2
    walk_at "go"
    refine ⟨_, _, _, _, rfl, hD2, by omega, by omega, by omega, fun a0 H4 _ _ hD4 K4 => ?_⟩
    walk_at "w"
    refine ⟨_, _, _, _, rfl, hD4, by omega, by omega, fun a1 H5 _ _ hD5 K5 => ?_⟩
    walk_at "w"
    refine ⟨_, _, _, _, rfl, hD5, by omega, by omega, by omega, fun a2 H6 _ _ hD6 K6 => ?_⟩
    walk_at "go"
    refine fun p H7 np hp S7 => ?_
    have hD7 := hD6.same S7
    have npd : p ≠ d := Ne.symm (hD6.ne np)
    walk_at "go"
    refine ⟨_, _, _, _, rfl, hD7, by omega, by omega, by omega, fun a4 H8 _ _ hD8 K8 => ?_⟩
    walk_at "go"
    refine ⟨_, _, _, _, rfl, hD8, by omega, by omega, fun a5 H9 _ _ hD9 K9 => ?_⟩
    walk_at "w"
    refine ⟨⟨by omega, .inr (Nat.lt_of_lt_of_le (show power.natAbs < 10 ^ 41 by omega) (by decide +kernel))⟩, ?_⟩
    walk_at "go"
    refine fun p2 H10 np2 hp2' S10 => ?_
    have hp9 := S10 _ _ (K9 _ _ npd (K8 _ _ npd hp))
    walk_at "w"
    refine ⟨_, _, hp9, hp2', by show 6 ≤ sizeLine; decide, fun p3 H11 np3 hp3 S11 => ?_⟩
    have hD11 := (hD9.same S10).same S11
    walk_at "w"
    refine ⟨_, _, _, _, rfl, hD11, by omega, by omega, by omega, fun r H12 hr0 hr hD12 K12' => ?_⟩
    have np3d : p3 ≠ d := Ne.symm ((hD9.same S10).ne np3)
    obtain ⟨v, hv, _⟩ := at_ints (ns := [a0, a1, power + a2 - 2, rep, most - a4, a5 / power]) (k := r) hr0 hr
    walk_at "w"
    refine ⟨_, _, .inl (.inl (K12' _ _ np3d hp3)), hv, ?_⟩
    walk_at "w"
    refine q _ H12 (by omega) (by omega) hD12 ?_
    exact K12.trans (K4.trans (K5.trans (K6.trans ((Keep.of S7).trans (K8.trans (K9.trans ((Keep.of S10).trans ((Keep.of S11).trans K12'))))))))
/-! _law_figures -/
abbrev s__law_figures : Stmt := top 14
abbrev ps__law_figures : List Str := ["number", "base"]
theorem sc__law_figures : FnScope ["number", "base", "found"] ["number", "base"] (defScope s__law_figures) := ⟨rfl, rfl, rfl, by decide +kernel, rfl, by decide +kernel, by decide +kernel⟩
def sp__law_figures (K : PySem.W.Frag) (_ : Ads) : Sp := fun vs H Q _ => ∃ n b : Nat, vs = [.int (n : Int), .int (b : Int)] ∧ 2 ≤ b ∧ b ≤ 36 ∧ M.Big n ∧ ∀ p H', H p = none → Same H H' → H' p = some (.lst (M.vN (M.digs b n))) → Q (.ref p) H'
theorem ok__law_figures (D : DefAt K mg "_law_figures" s__law_figures ps__law_figures) (B : Blt mg) (C : Cst mg) (KC : Kls K mg ad) : Cal P w K mg base 1 "_law_figures" ps__law_figures (sp__law_figures K ad) := by
  have sc := sc__law_figures
  refine mkCal D sc (fun vs H Q E h => ?_) (fun f cdv A outer s H vs Q E hr h => ?_)
  · obtain ⟨n, b, rfl, hb, hb2, hn, q⟩ := h
    rfl
  obtain ⟨n, b, rfl, hb, hb2, hn, q⟩ := h
  refine ⟨_, (pss_cons (ps_set (i := 2) sc.nd rfl (Or.inl rfl) (zlst pa_nil))
    (pss_cons (zps_while PassesOwn.never (zpc zgt (zv 0) pe_int) (pss_cons (ps_expr (pe_bm PySem.F.plainAttrs_list PySem.F.slot_list_append PySem.F.type_list_append zappend (zv 2) (pa_cons (pe_op zmod (zv 0) (zv 1)) pa_nil)))
    (pss_one (ps_set (i := 0) sc.nd rfl (Or.inl rfl) (pe_op zfdiv (zv 0) (zv 1))))))
    (pss_one (ps_ret (zpe_orL (zv 2) (pe_one (zlst (pa_cons pe_int pa_nil)))))))), ?_⟩
  have hlen := M.d0_len hb hn
  walk_at "go"
  refine fun p H1 np hp S1 => ?_
  walk_at "w"
  refine ⟨fun m σ H' => ∃ (fs : List Nat), σ = [some (.int (m : Int)), some (.int (b : Int)), some (.ref p)] ∧ H' p = some (.lst (M.vN fs)) ∧ Same H H' ∧ fs ++ M.d0 b m = M.d0 b n, ⟨n, [], rfl, hp, S1, rfl⟩, ?_⟩
  rintro k σ1 H2 ⟨fs, rfl, hp2, S2, e⟩
  walk_at "go"
  refine ⟨fun c => ?_, fun c => ?_⟩
  · have c' : 0 < k := by omega
    have hfl : fs.length < 16777216 := by
      have := congrArg List.length e
      rw [List.length_append] at this
      omega
    walk_at "go"
    refine ⟨_, hp2, by rw [M.vN_len]; exact hfl, fun H4 hp4 K4 F4 => ?_⟩
    walk_at "go"
    refine ⟨k / b, Nat.div_lt_self (by omega) (by omega), fs ++ [k % b], rfl, ?_, fun a o h => K4 _ _ ?_ (S2 _ _ h), ?_⟩
    · rw [M.vN_append]; exact hp4
    · exact ne_of_none h np
    · rw [M.d0_pos hb c'] at e
      rw [← e, List.append_assoc]; rfl
  · have c' : k = 0 := by omega
    subst c'
    rw [M.d0_zero, List.append_nil] at e
    have D := M.d0_or (n := n) hb
    walk_at "go"
    refine ⟨_, .inl (.inl (.inl hp2)), fun z => ?_, fun z => ?_⟩
    · have z' : M.d0 b n = [] := by
        rw [← e]
        exact List.eq_nil_of_length_eq_zero (by have := congrArg List.length z; rw [M.vN_len] at this; exact this)
      walk_at "go"
      refine fun p6 H6 np6 hp6 S6 => ?_
      refine q p6 H6 (S2.free np6) (S2.trans S6) ?_
      rw [D.1 z']; exact hp6
    · have z' : M.d0 b n ≠ [] := fun y => z (by rw [e, y]; rfl)
      walk_at "w"
      refine q p H2 np S2 ?_
      rw [← D.2 z', ← e]; exact hp2
/-! _law_sign -/
abbrev s__law_sign : Stmt := top 17
abbrev ps__law_sign : List Str := ["deck", "base"]
theorem sc__law_sign : FnScope ["deck", "base", "signs", "figures"] ["deck", "base"] (defScope s__law_sign) := ⟨rfl, rfl, rfl, by decide +kernel, rfl, by decide +kernel, by decide +kernel⟩
def sp__law_sign (K : PySem.W.Frag) (_ : Ads) : Sp := fun vs H Q _ => ∃ (d c : Addr) (base : Int) (n : Nat), vs = [.ref d, .int base] ∧ Deck H d c n ∧ n < 900000000 ∧ 2 ≤ base ∧ base ≤ 16 ∧ ∀ (z : Nat) H', Deck H' d c (n + 3) → Keep d H H' → Q (.str ⟨#[z]⟩) H'
theorem ok__law_sign (D : DefAt K mg "_law_sign" s__law_sign ps__law_sign) (B : Blt mg) (C : Cst mg) (KC : Kls K mg ad) (c__law_next : Cal P w K mg base 2 "_law_next" ps__law_next (sp__law_next K ad)) : Cal P w K mg base 3 "_law_sign" ps__law_sign (sp__law_sign K ad) := by
  have sc := sc__law_sign
  refine mkCal D sc (fun vs H Q E h => ?_) (fun f cdv A outer s H vs Q E hr h => ?_)
  · obtain ⟨d, c, base, n, rfl, hD, hn, hb, hb2, q⟩ := h
    rfl
  obtain ⟨d, c, base, n, rfl, hD, hn, hb, hb2, q⟩ := h
  refine ⟨_, (pss_cons (ps_set (i := 2) sc.nd rfl (Or.inl rfl) pe_str)
    (pss_cons (ps_set (i := 3) sc.nd rfl (Or.inl rfl) pe_str)
    (pss_one (ps_ret (pe_ix zixL (zlst (pa_cons (pe_ix zixS (zv 2) (zcall c__law_next (hr.mono (by decide)) (by rfl) (pa_cons (zv 0) (pa_cons (pe_callB zlen (by rfl) B.b_len (by decide +kernel) (pa_cons (zv 2) pa_nil)) pa_nil))) (fun _ _ => rfl)) (pa_cons (pe_ix zixS (zv 3) (zcall c__law_next (hr.mono (by decide)) (by rfl) (pa_cons (zv 0) (pa_cons pe_int pa_nil))) (fun _ _ => rfl)) (pa_cons (pe_ix zixS (zv 3) (zv 1) (fun _ _ => rfl)) pa_nil)))) (zcall c__law_next (hr.mono (by decide)) (by rfl) (pa_cons (zv 0) (pa_cons pe_int pa_nil))) (fun _ _ => rfl)))))), ?_⟩
  have sl : (Str.ofString " !\"#$&'()*+,-./0123456789:;<=>?@ABCDEFGHIJKLMNOPQRSTUVWXYZ[\\]^_`abcdefghijklmnopqrstuvwxyz{|}~\n").length = 95 := by decide +kernel
  have fl : (Str.ofString "0123456789abcdefg").length = 17 := by decide +kernel
  have pick : ∀ (t : Str) (x : Int), 0 ≤ x → x < (t.length : Nat) → ∃ z, atI t.cps.toList x = some z := fun t x h0 h1 => by
    have lt : x.toNat < t.cps.toList.length := by
      show x.toNat < t.cps.size
      have : t.length = t.cps.size := rfl
      omega
    have e : x = ((x.toNat : Nat) : Int) := by omega
    rw [e]
    exact ⟨_, atI_nat (List.getElem?_eq_getElem lt)⟩
  walk_at "w"
  refine ⟨by rw [sl, sizeLine_eq]; decide, ?_⟩
  walk_at "w"
  refine ⟨_, _, _, _, rfl, hD, by omega, by rw [sl]; decide, by rw [sl]; decide, fun x H1 hx0 hx hD1 K1 => ?_⟩
  obtain ⟨z1, ez1⟩ := pick _ x hx0 hx
  walk_at "w"
  refine ⟨z1, by rw [sl, sizeLine_eq]; decide, ez1, ?_⟩
  walk_at "w"
  refine ⟨_, _, _, _, rfl, hD1, by omega, by decide, by decide, fun y H2 hy0 hy hD2 K2 => ?_⟩
  obtain ⟨z2, ez2⟩ := pick (Str.ofString "0123456789abcdefg") y hy0 (by rw [fl]; exact hy)
  walk_at "w"
  refine ⟨z2, by rw [fl, sizeLine_eq]; decide, ez2, ?_⟩
  obtain ⟨z3, ez3⟩ := pick (Str.ofString "0123456789abcdefg") base (by omega) (by rw [fl]; omega)
  walk_at "w"
  refine ⟨z3, by rw [fl, sizeLine_eq]; decide, ez3, ?_⟩
  walk_at "go"
  refine fun l H3 nl hl S3 => ?_
  walk_at "w"
  refine ⟨_, _, _, _, rfl, hD2.same S3, by omega, by decide, by decide, fun u H4 hu0 hu hD4 K4 => ?_⟩
  have dl := (hD2.ne nl)
  have hl4 := K4 _ _ (Ne.symm dl) hl
  have some3 : ∃ zz : Nat, atI [V.str ⟨#[z1]⟩, V.str ⟨#[z2]⟩, V.str ⟨#[z3]⟩] u = some (.str ⟨#[zz]⟩) := by
    rcases (by omega : u = 0 ∨ u = 1 ∨ u = 2) with e | e | e <;> subst e <;> exact ⟨_, rfl⟩
  obtain ⟨zz, ezz⟩ := some3
  walk_at "w"
  refine ⟨_, _, .inl (.inl hl4), ezz, ?_⟩
  exact q zz H4 hD4 (K1.trans (K2.trans ((Keep.of S3).trans K4)))
/-! _law_spoilt -/
abbrev s__law_spoilt : Stmt := top 18
abbrev ps__law_spoilt : List Str := ["deck", "text", "base"]
theorem sc__law_spoilt : FnScope ["deck", "text", "base", "k", "at", "sign", "some"] ["deck", "text", "base"] (defScope s__law_spoilt) := ⟨rfl, rfl, rfl, by decide +kernel, rfl, by decide +kernel, by decide +kernel⟩
def sp__law_spoilt (K : PySem.W.Frag) (_ : Ads) : Sp := fun vs H Q _ => ∃ (d c : Addr) (base : Int) (n L : Nat) (t : Str), vs = [.ref d, .str t, .int base] ∧ Deck H d c n ∧ n < 800000000 ∧ 2 ≤ base ∧ base ≤ 16 ∧ t.length ≤ L ∧ L ≤ 10000 ∧ ∀ (t2 : Str) H', t2.length ≤ L + 3 → Deck H' d c (n + 19) → Keep d H H' → Q (.str t2) H'
theorem ok__law_spoilt (D : DefAt K mg "_law_spoilt" s__law_spoilt ps__law_spoilt) (B : Blt mg) (C : Cst mg) (KC : Kls K mg ad) (c__law_next : Cal P w K mg base 2 "_law_next" ps__law_next (sp__law_next K ad)) (c__law_sign : Cal P w K mg base 3 "_law_sign" ps__law_sign (sp__law_sign K ad)) : Cal P w K mg base 4 "_law_spoilt" ps__law_spoilt (sp__law_spoilt K ad) := by
  have sc := sc__law_spoilt
  refine mkCal D sc (fun vs H Q E h => ?_) (fun f cdv A outer s H vs Q E hr h => ?_)
  · obtain ⟨d, c, base, n, L, t, rfl, hD, hn, hb, hb2, hL, hL2, q⟩ := h
    rfl
  obtain ⟨d, c, base, n, L, t, rfl, hD, hn, hb, hb2, hL, hL2, q⟩ := h
  refine ⟨_, (pss_cons (ps_for PassesOwn.never rfl (pi_range1 (by rfl) B.b_range (pa_cons (pe_op zadd pe_int (zcall c__law_next (hr.mono (by decide)) (by rfl) (pa_cons (zv 0) (pa_cons pe_int pa_nil)))) pa_nil)) (pg_name (i := 3) sc.nd rfl (Or.inl rfl)) (pss_cons (ps_set (i := 4) sc.nd rfl (Or.inl rfl) (pe_ix zixL (zlst (pa_cons (zcall c__law_next (hr.mono (by decide)) (by rfl) (pa_cons (zv 0) (pa_cons (pe_op zadd (pe_callB zlen (by rfl) B.b_len (by decide +kernel) (pa_cons (zv 1) pa_nil)) pe_int) pa_nil))) (pa_cons (pe_callB (zmax2 rfl) (by rfl) B.b_max (by decide +kernel) (pa_cons pe_int (pa_cons (pe_op zsub (pe_callB zlen (by rfl) B.b_len (by decide +kernel) (pa_cons (zv 1) pa_nil)) pe_int) pa_nil))) (pa_cons pe_int pa_nil)))) (zcall c__law_next (hr.mono (by decide)) (by rfl) (pa_cons (zv 0) (pa_cons pe_int pa_nil))) (fun _ _ => rfl)))
    (pss_cons (ps_set (i := 5) sc.nd rfl (Or.inl rfl) (zcall c__law_sign (hr.mono (by decide)) (by rfl) (pa_cons (zv 0) (pa_cons (zv 2) pa_nil))))
    (pss_cons (ps_set (i := 6) sc.nd rfl (Or.inl rfl) (zlst (pa_cons (pe_op zaddS (pe_op zaddS (pe_slice zslS (zv 1) po_none (zpo (zv 4))) (zv 5)) (pe_slice zslS (zv 1) (zpo (zv 4)) po_none)) (pa_cons (pe_op zaddS (pe_op zaddS (pe_slice zslS (zv 1) po_none (zpo (zv 4))) (zv 5)) (pe_slice zslS (zv 1) (zpo (pe_op zadd (zv 4) pe_int)) po_none)) (pa_cons (pe_op zaddS (pe_slice zslS (zv 1) po_none (zpo (zv 4))) (pe_slice zslS (zv 1) (zpo (pe_op zadd (zv 4) pe_int)) po_none)) pa_nil)))))
    (pss_one (ps_set (i := 1) sc.nd rfl (Or.inl rfl) (pe_ix zixL (zv 6) (zcall c__law_next (hr.mono (by decide)) (by rfl) (pa_cons (zv 0) (pa_cons pe_int pa_nil))) (fun _ _ => rfl))))))))
    (pss_one (ps_ret (zv 1)))), ?_⟩
  walk_at "w"
  refine ⟨_, _, _, _, rfl, hD, by omega, by decide, by decide, fun m H1 hm0 hm hD1 K1 => ?_⟩
  walk_at "w"
  refine ⟨_, rfl, by omega, by omega, for_range (fun i σ H' => ∃ (u : Str) (v3 v4 v5 v6 : Option V), σ = [some (.ref d), some (.str u), some (.int base), v3, v4, v5, v6] ∧ u.length ≤ L + i ∧ Deck H' d c (n + 1 + 6 * i) ∧ Keep d H H') ?_ ?_ ?_⟩
  · exact ⟨t, _, _, _, _, rfl, by omega, hD1, K1⟩
  · rintro i σ1 H2 hi ⟨u, v3, v4, v5, v6, rfl, hu, hD2, K2⟩
    have hi3 : i < 3 := by omega
    have big : ∀ n : Nat, n ≤ 20000 → n ≤ sizeLine := fun n h => by rw [sizeLine_eq]; omega
    walk_at "w"
    refine ⟨big _ (by omega), ?_⟩
    walk_at "w"
    refine ⟨_, _, _, _, rfl, hD2, by omega, by omega, by omega, fun x H3 hx0 hx hD3 K3 => ?_⟩
    walk_at "w"
    refine ⟨big _ (by omega), ?_⟩
    walk_at "go"
    refine fun l H4 nl hl S4 => ?_
    walk_at "w"
    refine ⟨_, _, _, _, rfl, hD3.same S4, by omega, by decide, by decide, fun y H5 hy0 hy hD5 K5 => ?_⟩
    have hl5 := K5 _ _ (Ne.symm (hD3.ne nl)) hl
    have at3 : ∃ p : Int, atI [V.int x, V.int (max 0 ((u.length : Nat) - 1)), V.int 0] y = some (.int p) ∧ 0 ≤ p ∧ p ≤ (u.length : Nat) := by
      rcases (by omega : y = 0 ∨ y = 1 ∨ y = 2) with e | e | e <;> subst e <;> refine ⟨_, rfl, ?_, ?_⟩ <;> omega
    obtain ⟨p, hp, p0, p1⟩ := at3
    obtain ⟨p, rfl⟩ : ∃ q : Nat, p = (q : Int) := ⟨p.toNat, by omega⟩
    have pl : p ≤ u.length := by omega
    refine ⟨_, _, .inl (.inl hl5), hp, ?_⟩
    walk_at "w"
    refine ⟨_, _, _, _, rfl, hD5, by omega, hb, hb2, fun z H6 hD6 K6 => ?_⟩
    have e1 : (p : Int) + 1 = ((p + 1 : Nat) : Int) := rfl
    have c1 := M.cut_to u p pl
    have c2 := M.cut_from u p
    have c3 := M.cut_from u (p + 1)
    have c4 := M.one_len z
    have sum : ∀ a b : Str, a.length + b.length ≤ 20000 → a.length + b.length ≤ sizeLine := fun a b h => big _ h
    walk_at "w"
    refine ⟨big _ (by omega), ?_⟩
    walk_at "w"
    refine ⟨sum _ _ (by rw [c1, c4]; omega), ?_⟩
    walk_at "w"
    refine ⟨big _ (by omega), ?_⟩
    walk_at "w"
    refine ⟨sum _ _ (by rw [M.app_len, c1, c4, c2]; omega), ?_⟩
    walk_at "w"
    refine ⟨big _ (by omega), ?_⟩
    walk_at "w"
    refine ⟨sum _ _ (by rw [c1, c4]; omega), ?_⟩
    walk_at "w"
    rw [e1]
    refine ⟨big _ (by omega), ?_⟩
    walk_at "w"
    refine ⟨sum _ _ (by rw [M.app_len, c1, c4, c3]; omega), ?_⟩
    walk_at "w"
    refine ⟨big _ (by omega), ?_⟩
    walk_at "w"
    rw [e1]
    refine ⟨big _ (by omega), ?_⟩
    walk_at "w"
    refine ⟨sum _ _ (by rw [c1, c3]; omega), ?_⟩
    walk_at "go"
    refine fun l7 H7 nl7 hl7 S7 => ?_
    walk_at "w"
    refine ⟨_, _, _, _, rfl, hD6.same S7, by omega, by decide, by decide, fun y2 H8 hy20 hy2 hD8 K8 => ?_⟩
    have hl8 := K8 _ _ (Ne.symm (hD6.ne nl7)) hl7
    have end3 : ∃ w : Str, atI [V.str (cutS u none (some (p : Int)) ++ ⟨#[z]⟩ ++ cutS u (some (p : Int)) none), V.str (cutS u none (some (p : Int)) ++ ⟨#[z]⟩ ++ cutS u (some ((p + 1 : Nat) : Int)) none), V.str (cutS u none (some (p : Int)) ++ cutS u (some ((p + 1 : Nat) : Int)) none)] y2 = some (.str w) ∧ w.length ≤ u.length + 1 := by
      rcases (by omega : y2 = 0 ∨ y2 = 1 ∨ y2 = 2) with e | e | e <;> subst e <;> refine ⟨_, rfl, ?_⟩
      · rw [M.app_len, M.app_len, c1, c2, c4]; omega
      · rw [M.app_len, M.app_len, c1, c3, c4]; omega
      · rw [M.app_len, c1, c3]; omega
    obtain ⟨w2, hw, lw⟩ := end3
    walk_at "w"
    refine ⟨_, _, .inl (.inl hl8), hw, ?_⟩
    walk_at "w"
    exact ⟨w2, _, _, _, _, rfl, by omega, hD8.more (by omega), K2.trans (K3.trans ((Keep.of S4).trans (K5.trans (K6.trans ((Keep.of S7).trans K8)))))⟩
  · rintro σ1 H2 ⟨u, v3, v4, v5, v6, rfl, hu, hD2, K2⟩
    walk_at "w"
    exact q u H2 (by omega) (hD2.more (by omega)) K2
/-! _law_due -/
abbrev s__law_due : Stmt := top 19
abbrev ps__law_due : List Str := ["text", "base"]
theorem sc__law_due : FnScope ["text", "base", "number", "place", "figure"] ["text", "base"] (defScope s__law_due) := ⟨rfl, rfl, rfl, by decide +kernel, rfl, by decide +kernel, by decide +kernel⟩
def sp__law_due (K : PySem.W.Frag) (_ : Ads) : Sp := fun vs H Q _ => ∃ (t : Str) (b : Nat), vs = [.str t, .int (b : Int)] ∧ 2 ≤ b ∧ b ≤ 16 ∧ t.length ≤ sizeLine ∧ (∀ n, M.Taken b t n → ∀ H', Same H H' → Q (.int n) H') ∧
  ∀ k, M.Refused b t k → ∀ p H', H p = none → Same H H' → H' p = some (.tup [.str "number", .int (k : Int)]) → Q (.ref p) H'
theorem ok__law_due (D : DefAt K mg "_law_due" s__law_due ps__law_due) (B : Blt mg) (C : Cst mg) (KC : Kls K mg ad) : Cal P w K mg base 1 "_law_due" ps__law_due (sp__law_due K ad) := by
  have sc := sc__law_due
  refine mkCal D sc (fun vs H Q E h => ?_) (fun f cdv A outer s H vs Q E hr h => ?_)
  · obtain ⟨t, b, rfl, hb, hb2, hsz, qt, qr⟩ := h
    rfl
  obtain ⟨t, b, rfl, hb, hb2, hsz, qt, qr⟩ := h
  refine ⟨_, (pss_zcut (zps_if (PW.pt (zpw_or (zpc zeq (zv 0) pe_str) (zpw_or1 (PW.pt (zpw_and (zpc zeq (pe_slice zslS (zv 0) po_none (zpo pe_int)) pe_str) (zpw_and1 (zpc zgt (pe_callB zlen (by rfl) B.b_len (by decide +kernel) (pa_cons (zv 0) pa_nil)) pe_int))))))) (pss_one (ps_ret (ztup (pa_cons pe_str (pa_cons pe_int pa_nil))))) pss_nil)
    (pss_cons (ps_set (i := 2) sc.nd rfl (Or.inl rfl) pe_int)
    (pss_cons (ps_for PassesOwn.never rfl (pi_range1 (by rfl) B.b_range (pa_cons (pe_callB zlen (by rfl) B.b_len (by decide +kernel) (pa_cons (zv 0) pa_nil)) pa_nil)) (pg_name (i := 3) sc.nd rfl (Or.inl rfl)) (pss_cons (ps_set (i := 4) sc.nd rfl (Or.inl rfl) (pe_m1 PySem.F.slot_str_find PySem.F.type_str_find zfind pe_str (pe_ix zixS (zv 0) (zv 3) (fun _ _ => rfl))))
    (pss_cons (zps_if (PW.pt (zpw_or (zpc zlt (zv 4) pe_int) (zpw_or1 (zpc zge (zv 4) (zv 1))))) (pss_one (ps_ret (ztup (pa_cons pe_str (pa_cons (zv 3) pa_nil))))) pss_nil)
    (pss_one (ps_set (i := 2) sc.nd rfl (Or.inl rfl) (pe_op zadd (pe_op zmul (zv 2) (zv 1)) (zv 4)))))))
    (pss_one (ps_ret (zv 2)))))), ?_⟩
  have gone : (t = "" ∨ M.Lead t) → ∀ p H', H p = none → Same H H' → H' p = some (.tup [.str "number", .int 0]) → Q (.ref p) H' := fun z => qr 0 (.inl ⟨z, rfl⟩)
  walk_at "w"
  refine ⟨fun σ H' => σ = [some (.str t), some (.int (b : Int)), none, none, none] ∧ H' = H ∧ t ≠ "" ∧ ¬ M.Lead t, ?_, ?_⟩
  · walk_at "w"
    refine ⟨fun c => ?_, fun c => ?_⟩
    · walk_at "go"
      exact fun p H1 np hp S1 => gone (.inl c) p H1 np S1 hp
    · walk_at "w"
      refine ⟨hsz, ?_⟩
      walk_at "w"
      refine ⟨fun c0 => ?_, fun c0 => ?_⟩
      · walk_at "w"
        refine ⟨hsz, ?_⟩
        walk_at "w"
        refine ⟨fun c1 => ?_, fun c1 => ?_⟩
        · have ld : M.Lead t := ⟨(M.cut_one t).mp c0, by have : (1 : Int) < (t.length : Nat) := c1; omega⟩
          walk_at "go"
          exact fun p H1 np hp S1 => gone (.inr ld) p H1 np S1 hp
        · walk_at "w"
          exact ⟨rfl, rfl, c, fun z => c1 (by have := z.2; show (1 : Int) < (t.length : Nat); omega)⟩
      · walk_at "w"
        exact ⟨rfl, rfl, c, fun z => c0 ((M.cut_one t).mpr z.1)⟩
  · rintro σ1 H1 ⟨rfl, rfl, ne, nl⟩
    have hsz2 : t.length ≤ 16777216 := by rw [← sizeLine_eq]; exact hsz
    have size : t.length = t.cps.size := rfl
    walk_at "w"
    refine ⟨hsz, ?_⟩
    walk_at "w"
    refine ⟨_, rfl, by omega, by omega, for_range (fun i σ H' => H' = H1 ∧ M.Plain b t i ∧ ∃ v3 v4 : Option V, σ = [some (.str t), some (.int (b : Int)), some (.int (M.num b (t.cps.toList.take i))), v3, v4]) ⟨rfl, M.Plain.zero, _, _, rfl⟩ ?_ ?_⟩
    · rintro i σ1 H2 hi ⟨rfl, pl, v3, v4, rfl⟩
      have hi2 : i < t.cps.size := by omega
      have hc : t.cps[i]? = some t.cps[i] := Array.getElem?_eq_getElem hi2
      generalize t.cps[i] = c at hc
      have fc : (Txt.find (Str.ofString "0123456789abcdef") ⟨#[c]⟩ : Int) = M.fg16 c := rfl
      have at1 : atI t.cps.toList (0 + (i : Nat) : Int) = some c := by
        rw [Int.zero_add]
        exact atI_nat (by rw [Array.getElem?_toList]; exact hc)
      obtain ⟨sm1, sm2⟩ := M.fg_same hb2 c
      have bad : M.Bad b c → ∀ p H', H2 p = none → Same H2 H' → H' p = some (.tup [.str "number", .int (i : Int)]) → Q (.ref p) H' := fun z => qr i (.inr ⟨⟨ne, nl⟩, pl, c, hc, z⟩)
      walk_at "w"
      refine ⟨⟨_, rfl⟩, c, hsz, at1, ?_⟩
      walk_at "w"
      refine ⟨fun c1 => ?_, fun c1 => ?_⟩
      · walk_at "go"
        rw [Int.zero_add]
        exact fun p H3 np hp S3 => bad (sm1.mp (.inl c1)) p H3 np S3 hp
      walk_at "w"
      refine ⟨fun c2 => ?_, fun c2 => ?_⟩
      · walk_at "go"
        rw [Int.zero_add]
        exact fun p H3 np hp S3 => bad (sm1.mp (.inr c2)) p H3 np S3 hp
      have good : ¬ M.Bad b c := fun z => (sm1.mpr z).elim c1 c2
      have en := M.num_take (b := b) (cs := t.cps.toList) (i := i) (c := c) (by rw [Array.getElem?_toList]; exact hc)
      rw [← sm2 good] at en
      walk_at "go"
      exact ⟨rfl, pl.next hc good, some (.int (0 + (i : Nat))), some (.int (M.fg16 c)), congrArg (fun z => [some (V.str t), some (V.int (b : Int)), some (V.int z), some (V.int (0 + (i : Nat))), some (V.int (M.fg16 c))]) en.symm⟩
    · rintro σ1 H2 ⟨rfl, pl, v3, v4, rfl⟩
      walk_at "w"
      have full : t.cps.toList.take ((t.length : Nat) : Int).toNat = t.cps.toList := by
        rw [Int.toNat_natCast, size, ← Array.length_toList, List.take_length]
      rw [full]
      exact qt _ ⟨⟨ne, nl⟩, pl, rfl⟩ _ (Same.refl _)
/-! read_number -/
abbrev s_read_number : Stmt := top 7
abbrev ps_read_number : List Str := ["text", "base"]
theorem sc_read_number : FnScope ["text", "base", "number", "place", "sign", "figure"] ["text", "base"] (defScope s_read_number) := ⟨rfl, rfl, rfl, by decide +kernel, rfl, by decide +kernel, by decide +kernel⟩
def sp_read_number (K : PySem.W.Frag) (ad : Ads) : Sp := fun vs H Q E => ∃ (t : Str) (b : Nat), vs = [.str t, .int (b : Int)] ∧ 2 ≤ b ∧ b ≤ 16 ∧ t.length ≤ sizeLine ∧ (∀ n, M.Taken b t n → ∀ H', Same H H' → Q (.int n) H') ∧
  ∀ k, M.Refused b t k → ∀ dx H', Same H H' → H' dx = none → E (.ref ad.NoNumber) (some dx) (upd H' dx (.xd [("place", .int (k : Int))]))
theorem ok_read_number (D : DefAt K mg "read_number" s_read_number ps_read_number) (B : Blt mg) (C : Cst mg) (KC : Kls K mg ad) (c_own : CalN P w K mg base 1 ad.NoNumber "place") : CalX P w K mg base 3 "read_number" ps_read_number (sp_read_number K ad) := by
  have sc := sc_read_number
  obtain ⟨u_SIGNS, g_SIGNS, r_SIGNS⟩ := C.c_SIGNS
  refine mkCalX D sc (fun vs H Q E h => ?_) (fun f cdv A outer s H vs Q E hr h => ?_)
  · obtain ⟨t, b, rfl, hb, hb2, hsz, qt, qr⟩ := h
    rfl
  obtain ⟨t, b, rfl, hb, hb2, hsz, qt, qr⟩ := h
  refine ⟨_, (pss_cons (zps_if (zpc zeq (zv 0) pe_str) (pss_one (ps_raise rfl (takes_of rfl rfl rfl rfl) (pmkN c_own (hr.mono (by decide)) (by rfl) KC.g_NoNumber pe_int))) pss_nil)
    (pss_zcut (zps_if (PW.pt (zpw_and (zpc zeq (pe_ix zixS (zv 0) pe_int (fun _ _ => rfl)) pe_str) (zpw_and1 (zpc zgt (pe_callB zlen (by rfl) B.b_len (by decide +kernel) (pa_cons (zv 0) pa_nil)) pe_int)))) (pss_one (ps_raise rfl (takes_of rfl rfl rfl rfl) (pmkN c_own (hr.mono (by decide)) (by rfl) KC.g_NoNumber pe_int))) pss_nil)
    (pss_cons (ps_set (i := 2) sc.nd rfl (Or.inl rfl) pe_int)
    (pss_cons (ps_for (passes_of rfl) rfl (zpi_enumS (by rfl) B.b_enumerate (pa_cons (zv 0) pa_nil)) (pg_tup (n := 2) rfl (pgs_cons (pg_name (i := 3) sc.nd rfl (Or.inl rfl) (Or.inr rfl)) (pgs_cons (pg_name (i := 4) sc.nd rfl (Or.inl rfl) (Or.inr rfl)) pgs_nil))) (pss_cons (ps_set (i := 5) sc.nd rfl (Or.inl rfl) (pe_m1 PySem.F.slot_str_find PySem.F.type_str_find zfind (pe_glob rfl g_SIGNS r_SIGNS) (zv 4)))
    (pss_cons (zps_if (PW.pt (zpw_or (zpc zlt (zv 5) pe_int) (zpw_or1 (zpc zge (zv 5) (zv 1))))) (pss_one (ps_raise rfl (takes_of rfl rfl rfl rfl) (pmkN c_own (hr.mono (by decide)) (by rfl) KC.g_NoNumber (zv 3)))) pss_nil)
    (pss_one (ps_set (i := 2) sc.nd rfl (Or.inl rfl) (pe_op zadd (pe_op zmul (zv 2) (zv 1)) (zv 5)))))))
    (pss_one (ps_ret (zv 2))))))), ?_⟩
  walk_at "w"
  refine ⟨fun c => ?_, fun c => ?_⟩
  · walk_at "w"
    exact ⟨0, rfl, by decide, fun dx nd => qr 0 (.inl ⟨.inl c, rfl⟩) dx H (Same.refl _) nd⟩
  have ne : t ≠ "" := c
  have pos : 0 < t.cps.size := by
    by_cases z : t.cps.size = 0
    · exact absurd (PySem.Str.ext' (Array.eq_empty_of_size_eq_zero z)) ne
    · omega
  walk_at "w"
  refine ⟨fun σ H' => σ = [some (.str t), some (.int (b : Int)), none, none, none, none] ∧ H' = H ∧ ¬ M.Lead t, ?_, ?_⟩
  · walk_at "w"
    have at0 : t.cps[0]? = some t.cps[0] := Array.getElem?_eq_getElem pos
    refine ⟨t.cps[0], hsz, atI_nat (by rw [Array.getElem?_toList]; exact at0), ?_⟩
    walk_at "w"
    have lead : (⟨#[t.cps[0]]⟩ : Str) = "0" ↔ t.cps[0] = 48 := by
      have e0 : (Str.ofString "0").cps[0]? = some 48 := by decide +kernel
      constructor
      · intro z
        have z2 := congrArg (fun z : Str => z.cps[0]?) z
        exact Option.some.inj ((show some t.cps[0] = _ from z2).trans e0)
      · intro z
        rw [z]
        decide +kernel
    refine ⟨fun c0 => ?_, fun c0 => ?_⟩
    · walk_at "w"
      refine ⟨hsz, ?_⟩
      walk_at "w"
      refine ⟨fun c1 => ?_, fun c1 => ?_⟩
      · have ld : M.Lead t := ⟨at0.trans (congrArg some (lead.mp c0)), by have : (1 : Int) < (t.length : Nat) := c1; omega⟩
        walk_at "w"
        exact ⟨0, rfl, by decide, fun dx nd => qr 0 (.inl ⟨.inr ld, rfl⟩) dx H (Same.refl _) nd⟩
      · walk_at "w"
        exact ⟨rfl, rfl, fun z => c1 (by have := z.2; show (1 : Int) < (t.length : Nat); omega)⟩
    · walk_at "w"
      exact ⟨rfl, rfl, fun z => c0 (lead.mpr (Option.some.inj (at0.symm.trans z.1)))⟩
  · rintro σ1 H1 ⟨rfl, rfl, nl⟩
    walk_at "w"
    refine for_it walk_enumS (fun i σ H' => Same H1 H' ∧ M.Plain b t i ∧ ∃ v3 v4 v5 : Option V, σ = [some (.str t), some (.int (b : Int)), some (.int (M.num b (t.cps.toList.take i))), v3, v4, v5]) ⟨Same.refl _, M.Plain.zero, _, _, _, rfl⟩ (fun _ _ _ _ _ => trivial) (fun i x σ1 H2 H3 hi h y => ?_) (fun σ1 H2 h => ?_)
    · obtain ⟨S1, pl, v3, v4, v5, rfl⟩ := h
      obtain ⟨T, c, rfl, nT, rfl, hc⟩ := y
      have fc : (Txt.find (Str.ofString "0123456789abcdefghijklmnopqrstuvwxyz") ⟨#[c]⟩ : Int) = M.fg c := rfl
      have hT : upd H2 T (.tup [.int (i : Nat), .str ⟨#[c]⟩]) T = some (.tup [.int (i : Nat), .str ⟨#[c]⟩]) := upd_same
      have ST : Same H1 (upd H2 T (.tup [.int (i : Nat), .str ⟨#[c]⟩])) := S1.trans (same_upd nT)
      have hi2 : i ≤ 16777216 := by
        have h1 := (Array.getElem?_eq_some_iff.mp hc).1
        have h2 : t.length ≤ 16777216 := by rw [← sizeLine_eq]; exact hsz
        have h3 : t.length = t.cps.size := rfl
        omega
      have bad : M.Bad b c → ∀ dx : Addr, upd H2 T (.tup [.int (i : Nat), .str ⟨#[c]⟩]) dx = none → E (.ref ad.NoNumber) (some dx) (upd (upd H2 T (.tup [.int (i : Nat), .str ⟨#[c]⟩])) dx (.xd [("place", .int (i : Nat))])) :=
        fun z dx nd => qr i (.inr ⟨⟨ne, nl⟩, pl, c, hc, z⟩) dx _ ST nd
      walk_at "w"
      walk_at "t2"
      refine ⟨fun c1 => ?_, fun c1 => ?_⟩
      · walk_at "w"
        exact ⟨i, rfl, M.small_place hi2, fun dx nd => bad (.inl c1) dx nd⟩
      walk_at "w"
      refine ⟨fun c2 => ?_, fun c2 => ?_⟩
      · walk_at "w"
        exact ⟨i, rfl, M.small_place hi2, fun dx nd => bad (.inr c2) dx nd⟩
      walk_at "go"
      have en := M.num_take (b := b) (cs := t.cps.toList) (i := i) (c := c) (by rw [Array.getElem?_toList]; exact hc)
      exact ⟨pl.next hc (fun z => z.elim c1 c2), some (.int (i : Nat)), some (.str ⟨#[c]⟩), some (.int (M.fg c)), congrArg (fun z => [some (V.str t), some (V.int (b : Int)), some (V.int z), some (V.int (i : Nat)), some (V.str ⟨#[c]⟩), some (V.int (M.fg c))]) en.symm⟩
    · obtain ⟨S1, pl, v3, v4, v5, rfl⟩ := h
      walk_at "w"
      have full : t.cps.toList.take t.cps.size = t.cps.toList := by rw [← Array.length_toList, List.take_length]
      rw [full]
      exact qt _ ⟨⟨ne, nl⟩, pl, rfl⟩ H2 S1
/-! _law_kind -/
abbrev s__law_kind : Stmt := top 16
abbrev ps__law_kind : List Str := ["caught"]
theorem sc__law_kind : FnScope ["caught", "kinds"] ["caught"] (defScope s__law_kind) := ⟨rfl, rfl, rfl, by decide +kernel, rfl, by decide +kernel, by decide +kernel⟩
def sp__law_kind (K : PySem.W.Frag) (ad : Ads) : Sp := fun vs H Q _ => ∃ (a dx : Addr) (k : Int), vs = [.ref a] ∧ HasEx H a ad.NoNumber (some dx) ∧ H dx = some (.xd [("place", .int k)]) ∧ ∀ p H', H p = none → Same H H' → H' p = some (.tup [.str "number", .int k]) → Q (.ref p) H'
theorem ok__law_kind (D : DefAt K mg "_law_kind" s__law_kind ps__law_kind) (B : Blt mg) (C : Cst mg) (KC : Kls K mg ad) : Cal P w K mg base 1 "_law_kind" ps__law_kind (sp__law_kind K ad) := by
  have sc := sc__law_kind
  refine mkCal D sc (fun vs H Q E h => ?_) (fun f cdv A outer s H vs Q E hr h => ?_)
  · obtain ⟨a, dx, k, rfl, hx, hd, q⟩ := h
    rfl
  obtain ⟨a, dx, k, rfl, hx, hd, q⟩ := h
  refine ⟨_, (pss_cons (ps_set (i := 1) sc.nd rfl (Or.inl rfl) (zlst (pa_cons (zpisX (by rfl) B.b_isinstance (pe_glob rfl KC.g_NoAsk (show RelV (V.ref ad.NoAsk) _ from rfl)) (fun _ h => h) (zv 0)) (pa_cons (zpisX (by rfl) B.b_isinstance (pe_glob rfl KC.g_NoNumber (show RelV (V.ref ad.NoNumber) _ from rfl)) (fun _ h => h) (zv 0)) (pa_cons (zpisX (by rfl) B.b_isinstance (pe_glob rfl KC.g_NoStretch (show RelV (V.ref ad.NoStretch) _ from rfl)) (fun _ h => h) (zv 0)) pa_nil)))))
    (pss_cons (zps_if (PW.pt (zpw_or (pt_not (zpt (zpisX (by rfl) B.b_isinstance (pe_glob rfl KC.g_SumError (show RelV (V.ref ad.SumError) _ from rfl)) (fun _ h => h) (zv 0)))) (zpw_or (pt_not (zpt (zpisX (by rfl) B.b_isinstance (pe_bltn (by rfl) B.b_ValueError (by decide +kernel) (v := .ty "ValueError") rfl) (fun _ h => h) (zv 0)))) (zpw_or1 (zpc zne (pe_bm PySem.F.plainAttrs_list PySem.F.slot_list_count PySem.F.type_list_count (zcountB (hu64 hr)) (zv 1) (pa_cons pe_bl pa_nil)) pe_int))))) (pss_one (ps_ret (ztup (pa_cons pe_str pa_nil)))) pss_nil)
    (pss_cons (zps_if (zpt (pe_ix zixL (zv 1) pe_int (fun _ _ => rfl))) (pss_cons (zps_if (zpt (zpis k_bool (by rfl) B.b_isinstance (by rfl) B.b_bool (by decide +kernel) (zfldX (zv 0)))) (pss_one (ps_ret (ztup (pa_cons pe_str pa_nil)))) pss_nil)
    (pss_one (ps_ret (ztup (pa_cons pe_str (pa_cons (zfldX (zv 0)) pa_nil)))))) pss_nil)
    (pss_one (ps_ret (ztup (pa_cons (pe_ix zixL (zlst (pa_cons pe_str (pa_cons pe_str (pa_cons pe_str pa_nil)))) (pe_bm PySem.F.plainAttrs_list PySem.F.slot_list_index PySem.F.type_list_index zindexB (zv 1) (pa_cons pe_bl pa_nil)) (fun _ _ => rfl)) pa_nil))))))), ?_⟩
  have hC := KC.c_NoNumber
  walk_at "go"
  refine ⟨ad.NoNumber, _, _, hx, hC, KC.i_NoNumber_NoAsk, ?_⟩
  walk_at "go"
  refine ⟨ad.NoNumber, _, _, hx, hC, KC.i_NoNumber_NoNumber, ?_⟩
  walk_at "go"
  refine ⟨ad.NoNumber, _, _, hx, hC, KC.i_NoNumber_NoStretch, ?_⟩
  walk_at "go"
  refine fun p H1 np hp S1 => ?_
  have hx1 := hx.same S1
  have hp' : H1 p = some (.lst ([false, true, false].map V.bl)) := hp
  walk_at "w"
  refine ⟨ad.NoNumber, _, _, hx1, hC, KC.i_NoNumber_SumError, ?_⟩
  walk_at "w"
  refine ⟨ad.NoNumber, _, _, hx1, hC, KC.iv_NoNumber, ?_⟩
  walk_at "go"
  refine ⟨[false, true, false], .inl (.inl hp'), ?_⟩
  walk_at "w"
  refine ⟨fun _ => ?_, fun z => absurd (by decide) z⟩
  walk_at "w"
  refine ⟨_, _, .inl (.inl hp'), (rfl : atI _ (1 : Int) = some (.bl true)), ?_⟩
  walk_at "w"
  refine ⟨ad.NoNumber, dx, _, .int k, hx1, S1 _ _ hd, rfl, ⟨KC.ga_NoNumber, KC.gt_NoNumber, KC.b_NoNumber, KC.d_NoNumber⟩, KC.np_NoNumber, ?_⟩
  walk_at "w"
  refine ⟨ad.NoNumber, dx, _, .int k, hx1, S1 _ _ hd, rfl, ⟨KC.ga_NoNumber, KC.gt_NoNumber, KC.b_NoNumber, KC.d_NoNumber⟩, KC.np_NoNumber, ?_⟩
  walk_at "go"
  refine fun t3 H3 nt3 ht3 S3 => ?_
  exact q t3 H3 (S1.free nt3) (S1.trans S3) ht3
/-! _law_is_whole -/
abbrev s__law_is_whole : Stmt := top 15
abbrev ps__law_is_whole : List Str := ["found", "due"]
theorem sc__law_is_whole : FnScope ["found", "due"] ["found", "due"] (defScope s__law_is_whole) := ⟨rfl, rfl, rfl, by decide +kernel, rfl, by decide +kernel, by decide +kernel⟩
def sp__law_is_whole (K : PySem.W.Frag) (_ : Ads) : Sp := fun vs H Q _ => ∃ a : Int, vs = [.int a, .int a] ∧ Q (.bl true) H
theorem ok__law_is_whole (D : DefAt K mg "_law_is_whole" s__law_is_whole ps__law_is_whole) (B : Blt mg) (C : Cst mg) (KC : Kls K mg ad) : Cal P w K mg base 1 "_law_is_whole" ps__law_is_whole (sp__law_is_whole K ad) := by
  have sc := sc__law_is_whole
  refine mkCal D sc (fun vs H Q E h => ?_) (fun f cdv A outer s H vs Q E hr h => ?_)
  · obtain ⟨a, rfl, q⟩ := h
    rfl
  obtain ⟨a, rfl, q⟩ := h
  refine ⟨_, (pss_one (ps_ret (zpe_and (zpis k_int (by rfl) B.b_isinstance (by rfl) B.b_int (by decide +kernel) (zv 0)) (zpe_and (zpe_not (zpis k_bool (by rfl) B.b_isinstance (by rfl) B.b_bool (by decide +kernel) (zv 0))) (pe_one (pe_cmpR zeq (zv 0) (zv 1) (nomark _))))))), ?_⟩
  walk_at "w"
  exact ⟨fun _ => q, fun z => absurd rfl z⟩
/-! _law_right -/
abbrev s__law_right : Stmt := top 20
abbrev ps__law_right : List Str := ["text", "base"]
theorem sc__law_right : FnScope ["text", "base", "due", "again", "found", "caught", "e"] ["text", "base"] (defScope s__law_right) := ⟨rfl, rfl, rfl, by decide +kernel, rfl, by decide +kernel, by decide +kernel⟩
def sp__law_right (K : PySem.W.Frag) (_ : Ads) : Sp := fun vs H Q _ => ∃ (t : Str) (b : Nat), vs = [.str t, .int (b : Int)] ∧ 2 ≤ b ∧ b ≤ 16 ∧ t.length ≤ sizeLine ∧ ∀ H', Same H H' → Q (.bl true) H'
theorem ok__law_right (D : DefAt K mg "_law_right" s__law_right ps__law_right) (B : Blt mg) (C : Cst mg) (KC : Kls K mg ad) (c__law_due : Cal P w K mg base 1 "_law_due" ps__law_due (sp__law_due K ad)) (c_read_number : CalX P w K mg base 3 "read_number" ps_read_number (sp_read_number K ad)) (c__law_kind : Cal P w K mg base 1 "_law_kind" ps__law_kind (sp__law_kind K ad)) (c__law_is_whole : Cal P w K mg base 1 "_law_is_whole" ps__law_is_whole (sp__law_is_whole K ad)) : Cal P w K mg base 4 "_law_right" ps__law_right (sp__law_right K ad) := by
  have sc := sc__law_right
  refine mkCal D sc (fun vs H Q E h => ?_) (fun f cdv A outer s H vs Q E hr h => ?_)
  · obtain ⟨t, b, rfl, hb, hb2, hsz, q⟩ := h
    rfl
  obtain ⟨t, b, rfl, hb, hb2, hsz, q⟩ := h
  refine ⟨_, (pss_cons (ps_set (i := 2) sc.nd rfl (Or.inl rfl) (zcall c__law_due (hr.mono (by decide)) (by rfl) (pa_cons (zv 0) (pa_cons (zv 1) pa_nil))))
    (pss_cons (zps_if (PW.pt (zpw_and (zpt (zpis k_int (by rfl) B.b_isinstance (by rfl) B.b_int (by decide +kernel) (zv 2))) (zpw_and1 (zpc zgt (zv 2) (zpow (r := 1000000000000000000000000000000) (by decide +kernel) (by decide)))))) (pss_one (ps_ret pe_bl)) pss_nil)
    (pss_cons (ps_for PassesOwn.never rfl (pi_range1 (by rfl) B.b_range (pa_cons pe_int pa_nil)) (pg_name (i := 3) sc.nd rfl (Or.inl rfl)) (pss_cons (ps_set (i := 4) sc.nd rfl (Or.inl rfl) pe_non)
    (pss_cons (ps_set (i := 5) sc.nd rfl (Or.inl rfl) pe_non)
    (pss_cons (ps_try_keep (i := 6) rfl rfl rfl sc.nd rfl rfl (by rfl) (by decide) KC.g_SumError (fun W pn xe tk => (pss_one (ps_set (i := 4) sc.nd rfl (Or.inl rfl) (zcallX c_read_number (hr.mono (by decide)) (by rfl) tk (pa_cons (zv 0) (pa_cons (zv 1) pa_nil)))))) (fun a oe cls d pn hz hf => (pss_one (ps_set (i := 5) sc.nd rfl (Or.inl rfl) (zv 6)))))
    (pss_cons (zps_if (PW.pt (zpw_and (zpt (zpis k_tuple (by rfl) B.b_isinstance (by rfl) B.b_tuple (by decide +kernel) (zv 2))) (zpw_and1 (PW.pt (zpw_or (zpc zisN (zv 5) pe_non) (zpw_or1 (zpc (zneD (hu64 hr)) (zcall c__law_kind (hr.mono (by decide)) (by rfl) (pa_cons (zv 5) pa_nil)) (zv 2)))))))) (pss_one (ps_ret pe_bl)) pss_nil)
    (pss_one (zps_if (PW.pt (zpw_and (zpt (zpis k_int (by rfl) B.b_isinstance (by rfl) B.b_int (by decide +kernel) (zv 2))) (zpw_and1 (pt_not (zpt (zcall c__law_is_whole (hr.mono (by decide)) (by rfl) (pa_cons (zv 4) (pa_cons (zv 2) pa_nil)))))))) (pss_one (ps_ret pe_bl)) pss_nil)))))))
    (pss_one (ps_ret pe_bl))))), ?_⟩
  walk_at "w"
  refine ⟨t, b, rfl, hb, hb2, hsz, fun n tk H1 S1 => ?_, fun k rf p H1 np S1 hp => ?_⟩
  · walk_at "w"
    refine ⟨fun _ => ?_, fun _ => ?_⟩
    · walk_at "w"
      exact q H1 S1
    walk_at "w"
    refine ⟨_, rfl, by omega, by omega, for_range (fun i σ H' => ∃ v3 v4 v5 v6 : Option V, σ = [some (.str t), some (.int (b : Int)), some (.int n), v3, v4, v5, v6] ∧ Same H H') ⟨_, _, _, _, rfl, S1⟩ ?_ ?_⟩
    · rintro i σ1 H2 hi ⟨v3, v4, v5, v6, rfl, S2⟩
      walk_at "w"
      refine ⟨t, b, rfl, hb, hb2, hsz, fun n2 tk2 H3 S3 => ?_, fun k rf => (M.excl tk rf).elim⟩
      obtain rfl := tk.eq tk2
      walk_at "w"
      refine ⟨n, rfl, ?_⟩
      walk_at "w"
      exact ⟨_, _, _, _, rfl, S2.trans S3⟩
    · rintro σ1 H2 ⟨v3, v4, v5, v6, rfl, S2⟩
      walk_at "w"
      exact q H2 S2
  · have er : PySem.W.exmOne K (.ref ad.NoNumber) (.ref ad.SumError) = some true := PySem.W.exm_ref KC.b_SumError KC.d_SumError KC.t_SumError KC.s_NoNumber_SumError
    walk_at "w"
    refine ⟨_, .inr ⟨hp, ?_⟩⟩
    walk_at "w"
    refine ⟨_, rfl, by omega, by omega, for_range (fun i σ H' => ∃ v3 v4 v5 v6 : Option V, σ = [some (.str t), some (.int (b : Int)), some (.ref p), v3, v4, v5, v6] ∧ Same H1 H') ⟨_, _, _, _, rfl, Same.refl _⟩ ?_ ?_⟩
    · rintro i σ1 H2 hi ⟨v3, v4, v5, v6, rfl, S2⟩
      walk_at "w"
      refine ⟨t, b, rfl, hb, hb2, hsz, fun n2 tk2 => (M.excl tk2 rf).elim, fun k2 rf2 dx H3 S3 nd => ?_⟩
      obtain rfl := rf.eq rf2
      walk_at "w"
      refine ⟨er, fun a na => ?_⟩
      have nd2 := nd
      have S4 : Same H1 (upd (upd H3 dx (.xd [("place", .int (k : Int))])) a (ExK (.ref ad.NoNumber) (some dx) a)) := S2.trans (S3.trans ((same_upd nd).trans (same_upd na)))
      have ndx : dx ≠ a := fun z => by rw [← z, upd_same] at na; cases na
      have hdx : upd (upd H3 dx (.xd [("place", .int (k : Int))])) a (ExK (.ref ad.NoNumber) (some dx) a) dx = some (.xd [("place", .int (k : Int))]) := (upd_ne ndx).trans upd_same
      have hx : HasEx (upd (upd H3 dx (.xd [("place", .int (k : Int))])) a (ExK (.ref ad.NoNumber) (some dx) a)) a ad.NoNumber (some dx) := ⟨.inl upd_same, fun dd z => by cases z; exact ⟨_, hdx⟩⟩
      walk_at "w"
      refine ⟨_, .inr ⟨S4 _ _ hp, ?_⟩⟩
      walk_at "w"
      refine ⟨a, dx, k, rfl, hx, hdx, fun p2 H5 np2 S5 hp2 => ?_⟩
      walk_at "w"
      have dp : ∀ {G : Hp} {u : Addr}, G u = some (.tup [.str "number", .int (k : Int)]) → Dp K G (.ref u) (.tuple [.str "number", .int (k : Int)]) := fun h => .tup (.inl (.inl h)) (.cons (.str _) (.cons (.int _) .nil))
      have ev : PyData.eqv (.tuple [.str "number", .int (k : Int)]) (.tuple [.str "number", .int (k : Int)]) = true := by
        show (PyData.eqv (.str "number") (.str "number") && (PyData.eqv (.int (k : Int)) (.int (k : Int)) && true)) = true
        have e1 : PyData.eqv (.int (k : Int)) (.int (k : Int)) = true := by
          show ((k : Int) == (k : Int)) = true
          simp
        rw [e1]
        decide +kernel
      refine ⟨_, _, dp hp2, dp (S5 _ _ (S4 _ _ hp)), ⟨by kernel_rfl, by kernel_rfl⟩, fun _ => ?_, fun z => absurd ev z⟩
      walk_at "w"
      refine ⟨_, .inr ⟨S5 _ _ (S4 _ _ hp), ?_⟩⟩
      walk_at "w"
      exact ⟨_, _, _, _, rfl, S4.trans S5⟩
    · rintro σ1 H2 ⟨v3, v4, v5, v6, rfl, S2⟩
      walk_at "w"
      exact q H2 (S1.trans S2)
/-! law -/
abbrev s_law : Stmt := top 21
abbrev ps_law : List Str := ["script"]
theorem sc_law : FnScope ["script", "deck", "turn", "base", "number", "text", "some", "odd", "said", "figure", "k"] ["script"] (defScope s_law) := ⟨rfl, rfl, rfl, by decide +kernel, rfl, by decide +kernel, by decide +kernel⟩
/-- a list of n texts -/
def TL (H : Hp) (D : Addr) (n : Nat) : Prop := ∃ ts : List Str, H D = some (.lst (ts.map V.str)) ∧ ts.length = n ∧ ∀ t ∈ ts, t.length ≤ 5000
def sp_law (K : PySem.W.Frag) : Sp := fun vs H Q _ => ∃ (a : Addr) (ns : List Int), vs = [.ref a] ∧ SqL K H a (ns.map V.int) ∧ ns.length ≤ 63 ∧ ∀ H', Q (.bl true) H'
theorem ok_law {e : Addr} {ed : FuncData} (F : Fun K "law" "law" s_law e ed) (B : Blt mg) (C : Cst mg) (KC : Kls K mg ad) (c__law_deck : Cal P w K mg base 1 "_law_deck" ps__law_deck (sp__law_deck K ad)) (c__law_next : Cal P w K mg base 2 "_law_next" ps__law_next (sp__law_next K ad)) (c__law_number : Cal P w K mg base 4 "_law_number" ps__law_number (sp__law_number K ad)) (c__law_figures : Cal P w K mg base 1 "_law_figures" ps__law_figures (sp__law_figures K ad)) (c__law_spoilt : Cal P w K mg base 4 "_law_spoilt" ps__law_spoilt (sp__law_spoilt K ad)) (c__law_sign : Cal P w K mg base 3 "_law_sign" ps__law_sign (sp__law_sign K ad)) (c__law_right : Cal P w K mg base 4 "_law_right" ps__law_right (sp__law_right K ad)) (c__law_kind : Cal P w K mg base 1 "_law_kind" ps__law_kind (sp__law_kind K ad)) (c_own : CalN P w K mg base 1 ad.NoNumber "place") : FnOk P w K mg base CX0 5 e ed ps_law (sp_law K) := by
  have sc := sc_law
  refine F.ok sc (fun vs H Q E h => ?_) (fun cdv A outer s H vs Q E hr h => ?_)
  · obtain ⟨a, ns, rfl, hS, hn, q⟩ := h
    rfl
  obtain ⟨a, ns, rfl, hS, hn, q⟩ := h
  refine ⟨_, (pss_cons (ps_set (i := 1) sc.nd rfl (Or.inr rfl) (zcall c__law_deck (hr.mono (by decide)) (by rfl) (pa_cons (zv 0) pa_nil)))
    (pss_cons (ps_for PassesOwn.never rfl (pi_range1 (by rfl) B.b_range (pa_cons pe_int pa_nil)) (pg_name (i := 2) sc.nd rfl (Or.inl rfl)) (pss_cons (ps_set (i := 3) sc.nd rfl (Or.inr rfl) (pe_op zadd pe_int (zcall c__law_next (hr.mono (by decide)) (by rfl) (pa_cons (zv 1) (pa_cons pe_int pa_nil)))))
    (pss_cons (ps_set (i := 4) sc.nd rfl (Or.inl rfl) (zcall c__law_number (hr.mono (by decide)) (by rfl) (pa_cons (zv 1) (pa_cons (zv 3) (pa_cons (zpow (r := 1000000000000000000000000000000) (by decide +kernel) (by decide)) pa_nil)))))
    (pss_cons (ps_set (i := 5) sc.nd rfl (Or.inr rfl) (pe_join pe_str (pe_lc (own := [("figure", 9)]) rfl sc.nd (pi_list (zrevL (zcall c__law_figures (hr.mono (by decide)) (by rfl) (pa_cons (zv 4) (pa_cons (zv 3) pa_nil))))) (blkOk_by (own := [("figure", 9)]) (N := ["script", "deck", "turn", "base", "number", "text", "some", "odd", "said", "figure", "k"]) (sc := defScope (top 21)) (by decide +kernel)) (fun _ _ _ _ _ => (pg_name (i := 9) sc.nd rfl (Or.inl rfl))) (fun _ _ _ _ _ => pts_nil) (fun _ _ _ _ _ => (pe_ix zixS pe_str (zv 9) (fun _ _ => rfl))))))
    (pss_cons (ps_setLc (i := 6) (own := [("k", 10)]) rfl sc.nd rfl rfl (sw_true rfl rfl rfl (by decide +kernel)) (pi_range1 (by rfl) B.b_range (pa_cons pe_int pa_nil)) (blkOk_by (own := [("k", 10)]) (N := ["script", "deck", "turn", "base", "number", "text", "some", "odd", "said", "figure", "k"]) (sc := defScope (top 21)) (by decide +kernel)) (fun _ _ _ _ _ => (pg_name (i := 10) sc.nd rfl (Or.inl rfl))) (fun _ _ _ _ _ => pts_nil) (fun _ _ _ _ _ => (zcall c__law_spoilt (hr.mono (by decide)) (by rfl) (pa_cons (zv 1) (pa_cons (zv 5) (pa_cons (zv 3) pa_nil))))))
    (pss_cons (ps_set (i := 6) sc.nd rfl (Or.inl rfl) (pe_op zcat (zv 6) (zlst (pa_cons (pe_op zaddS pe_str (zv 5)) (pa_cons (pe_op zaddS (zv 5) pe_str) (pa_cons (pe_op zaddS (zv 5) pe_str) (pa_cons (pe_op zaddS pe_str (zv 5)) (pa_cons (pe_op zaddS pe_str (zv 5)) (pa_cons (pe_op zaddS pe_str (zv 5)) (pa_cons (pe_m0 PySem.F.slot_str_upper PySem.F.type_str_upper mt_upper (zv 5)) (pa_cons (zv 5) pa_nil)))))))))))
    (pss_one (ps_for PassesOwn.never rfl (pi_list (pe_op zcat (zv 6) (zlst (pa_cons (zcall c__law_sign (hr.mono (by decide)) (by rfl) (pa_cons (zv 1) (pa_cons (zv 3) pa_nil))) (pa_cons (pe_op zaddS (pe_op zaddS (pe_slice zslS (zv 5) po_none (zpo pe_int)) pe_str) (pe_slice zslS (zv 5) (zpo pe_int) po_none)) pa_nil))))) (pg_name (i := 7) sc.nd rfl (Or.inl rfl)) (pss_one (zps_if (PW.pt (zpw_or (pt_not (zpt (zcall c__law_right (hr.mono (by decide)) (by rfl) (pa_cons (zv 7) (pa_cons (zv 3) pa_nil))))) (zpw_or1 (pt_not (zpt (zcall c__law_right (hr.mono (by decide)) (by rfl) (pa_cons (zv 7) (pa_cons (pe_op zadd pe_int (zcall c__law_next (hr.mono (by decide)) (by rfl) (pa_cons (zv 1) (pa_cons pe_int pa_nil)))) pa_nil)))))))) (pss_one (ps_ret pe_bl)) pss_nil))))))))))
    (pss_cons (ps_set (i := 8) sc.nd rfl (Or.inl rfl) (pe_ix zixL (zlst (pa_cons pe_str (pa_cons pe_str (pa_cons pe_str (pa_cons (pe_op zaddS (pe_op zmulS pe_str pe_int) pe_str) pa_nil))))) (zcall c__law_next (hr.mono (by decide)) (by rfl) (pa_cons (zv 1) (pa_cons pe_int pa_nil))) (fun _ _ => rfl)))
    (pss_cons (zps_if (PW.pt (zpw_or (zpc (zneD (hu64 hr)) (zlst (pa_cons (zstrT (hu2 hr) (by rfl) B.b_str (zexcT PySem.F.excBase_ValueError KC.x_NoAsk KC.g_NoAsk KC.k_NoAsk (by rfl) (zv 8))) (pa_cons (zstrT (hu2 hr) (by rfl) B.b_str (zexcT PySem.F.excBase_ValueError KC.x_NoStretch KC.g_NoStretch KC.k_NoStretch (by rfl) (zv 8))) pa_nil))) (pe_op zrep (zlst (pa_cons (zv 8) pa_nil)) pe_int)) (zpw_or1 (zpc (zneD (hu64 hr)) (zcall c__law_kind (hr.mono (by decide)) (by rfl) (pa_cons (zexcN c_own (hr.mono (by decide)) (by rfl) KC.g_NoNumber pe_int) pa_nil)) (ztup (pa_cons pe_str (pa_cons pe_int pa_nil))))))) (pss_one (ps_ret pe_bl)) pss_nil)
    (pss_one (ps_ret (pe_cmpR (zeqD (hu64 hr)) (pe_lc (own := [("text", 5)]) rfl sc.nd (pi_list (zlst (pa_cons pe_str (pa_cons pe_str (pa_cons pe_str (pa_cons pe_str (pa_cons pe_str (pa_cons pe_str (pa_cons pe_str (pa_cons pe_str (pa_cons (pe_op zmulS pe_str pe_int) pa_nil))))))))))) (blkOk_by (own := [("text", 5)]) (N := ["script", "deck", "turn", "base", "number", "text", "some", "odd", "said", "figure", "k"]) (sc := defScope (top 21)) (by decide +kernel)) (fun _ _ _ _ _ => (pg_name (i := 5) sc.nd rfl (Or.inl rfl))) (fun _ _ _ _ _ => (pts_one (pt_not (zpt (zcall c__law_right (hr.mono (by decide)) (by rfl) (pa_cons (zv 5) (pa_cons pe_int pa_nil))))))) (fun _ _ _ _ _ => (zv 5))) (zlst pa_nil) (nomark _)))))))), ?_⟩
  have e30 : (10 : Int) ^ 30 = 1000000000000000000000000000000 := by decide +kernel
  have n30 : (10 : Nat) ^ 30 = 1000000000000000000000000000000 := by decide +kernel
  walk_at "go"
  refine ⟨a, ns, rfl, hS, hn, fun d c H1 nd S1 hD1 => ?_⟩
  walk_at "w"
  refine ⟨_, rfl, by omega, by omega, for_range (fun i σ H' => ∃ v2 v3 v4 v5 v6 v7 v8 v9 v10 : Option V, σ = [some (.ref a), some (.ref d), v2, v3, v4, v5, v6, v7, v8, v9, v10] ∧ Deck H' d c (200 * i)) ⟨_, _, _, _, _, _, _, _, _, rfl, hD1⟩ ?_ ?_⟩
  · rintro i σ1 H2 hi ⟨v2, v3, v4, v5, v6, v7, v8, v9, v10, rfl, hD2⟩
    have hi6 : i < 6 := by omega
    have big : ∀ n : Nat, n ≤ 20000 → n ≤ sizeLine := fun n h => by rw [sizeLine_eq]; omega
    walk_at "w"
    refine ⟨_, _, _, _, rfl, hD2, by omega, by decide, by decide, fun r H3 hr0 hr hD3 K3 => ?_⟩
    obtain ⟨b, eb, hb, hb2⟩ : ∃ b : Nat, (2 : Int) + r = (b : Int) ∧ 2 ≤ b ∧ b ≤ 16 := ⟨(2 + r).toNat, by omega, by omega, by omega⟩
    walk_at "w"
    dsimp only
    rw [eb]
    refine ⟨_, _, _, _, _, rfl, hD3, by omega, by omega, by omega, by decide, by decide +kernel, fun m H4 hm0 hm hD4 K4 => ?_⟩
    obtain ⟨m, rfl⟩ : ∃ k : Nat, m = (k : Int) := ⟨m.toNat, by omega⟩
    have hbig : M.Big m := M.Big.of (Nat.le_trans (by omega : m ≤ 1000000000000000000000000000000) (by decide +kernel))
    walk_at "w"
    refine ⟨⟨_, rfl⟩, m, b, rfl, hb, by omega, hbig, fun p5 H5 np5 S5 hp5 => ?_⟩
    have hlen := M.digs_big_len hb hbig
    walk_at "w"
    refine ⟨_, .inl (.inl hp5), fun p6 H6 np6 hp6 S6 => ?_⟩
    walk_at "w"
    refine ⟨_, rfl, ⟨_, .inl (.inl hp6)⟩, fun D nD => ?_⟩
    rw [M.vN_rev] at hp6
    refine lc_list (xs := M.vN (M.digs b m).reverse) (fun i H' => Same H6 H' ∧ H' D = some (.lst ((((M.digs b m).reverse.take i).map fun g => (⟨#[M.chr g]⟩ : Str)).map V.str))) ⟨same_upd nD, upd_same⟩ (fun i H' hi h => .inl (.inl (h.1 _ _ hp6))) (fun i x H' hx h => ?_) (fun H' h => ?_)
    · obtain ⟨g, hg, rfl⟩ := M.vN_get hx
      have hgb : g < b := M.digs_lt hb m g (List.mem_reverse.mp (List.mem_of_getElem? hg))
      have hil : i < 4000 := by
        have := (List.getElem?_eq_some_iff.mp hg).1
        rw [List.length_reverse] at this
        omega
      walk_at "w"
      refine ⟨rfl, ?_⟩
      walk_at "w"
      refine ⟨_, (by show (16 : Nat) ≤ sizeLine; decide), M.sg16_at g (by omega), ?_⟩
      walk_at "go"
      refine ⟨_, h.2, ?_, ⟨fun a o ha => ?_, ?_⟩⟩
      · rw [List.length_map, List.length_map, List.length_take]
        show _ < 16777216
        omega
      · rw [upd_ne (ne_of_none ha nD)]; exact h.1 _ _ ha
      · rw [upd_same, List.take_add_one, hg, List.map_append, List.map_append]; rfl
    · rw [M.vN_len, List.take_length] at h
      obtain ⟨S7, hD7⟩ := h
      refine ⟨"", D, (M.digs b m).reverse.map fun g => (⟨#[M.chr g]⟩ : Str), rfl, rfl, .inl (.inl (.inl hD7)), ?_, ?_⟩
      · rw [List.map_map, List.length_map]
        have e1 : ((M.digs b m).reverse.map ((fun x : Str => x.length) ∘ fun g => (⟨#[M.chr g]⟩ : Str))).sum = (M.digs b m).reverse.length := by
          induction (M.digs b m).reverse with
          | nil => rfl
          | cons y r ih => rw [List.map_cons, List.sum_cons, ih, List.length_cons]; show 1 + _ = _; omega
        have e2 : ("" : Str).length = 0 := by decide +kernel
        rw [e1, e2, List.length_reverse]
        omega
      · rw [M.join_signs]
        have tl : (M.tx (M.digs b m).reverse).length ≤ 4000 := by rw [M.tx_len, List.length_reverse]; exact hlen
        generalize M.tx (M.digs b m).reverse = tx at tl
        have hD8 := ((hD4.same S5).same S6).same S7
        walk_at "w"
        refine ⟨_, rfl, by omega, by omega, fun D9 nD9 => ?_⟩
        have ndD := hD8.ne nD9
        have ncD := hD8.nec nD9
        refine lc_range (lo := 0) (n := 6) (fun j G => Deck G d c (200 * i + 19 + 19 * j) ∧ TL G D9 j) ⟨(hD8.same (same_upd nD9)).more (by omega), [], upd_same, rfl, fun t h => nomatch h⟩ (fun j G hj h => ?_) (fun G h => ?_)
        · obtain ⟨hDj, ts, hts, hl, hb9⟩ := h
          walk_at "w"
          refine ⟨rfl, ?_⟩
          walk_at "w"
          refine ⟨d, c, b, _, 4000, tx, rfl, hDj, by omega, by omega, by omega, tl, by omega, fun t2 G2 hl2 hD10 K10 => ?_⟩
          have hts2 := K10 _ _ (Ne.symm ndD) hts
          walk_at "w"
          refine ⟨_, hts2, ?_, ?_, ts ++ [t2], ?_, ?_, fun w hw => ?_⟩
          · rw [List.length_map, hl]; show _ < 16777216; omega
          · exact (hD10.wr (fun x o hx ho => (upd_ne hx).trans ho) ndD ncD).more (by omega)
          · rw [upd_same, List.map_append]; rfl
          · rw [List.length_append, hl]; rfl
          · rcases List.mem_append.mp hw with z | z
            · exact hb9 w z
            · rw [List.mem_singleton] at z
              subst z
              omega
        · obtain ⟨hD10, ts, hts, hl, hb9⟩ := h
          have cat : ∀ x y : Str, x.length ≤ 10000 → y.length ≤ 10000 → x.length + y.length ≤ sizeLine := fun x y h1 h2 => by rw [sizeLine_eq]; omega
          have cut4 : ∀ lo hi : Option Int, (cutS tx lo hi).length ≤ 4000 := fun lo hi => by rw [M.cut_len]; omega
          have one : ∀ s : String, (Str.ofString s).length ≤ 10 → (Str.ofString s).length ≤ 10000 := fun s h => by omega
          walk_at "w"
          refine ⟨cat _ _ (by decide +kernel) (by omega), ?_⟩
          walk_at "w"
          refine ⟨cat _ _ (by omega) (by decide +kernel), ?_⟩
          walk_at "w"
          refine ⟨cat _ _ (by omega) (by decide +kernel), ?_⟩
          walk_at "w"
          refine ⟨cat _ _ (by decide +kernel) (by omega), ?_⟩
          walk_at "w"
          refine ⟨cat _ _ (by decide +kernel) (by omega), ?_⟩
          walk_at "w"
          refine ⟨cat _ _ (by decide +kernel) (by omega), ?_⟩
          walk_at "w"
          refine ⟨⟨_, rfl⟩, tx, rfl, rfl, by omega, ?_⟩
          walk_at "go"
          refine fun l1 G1 nl1 hl1 S1' => ?_
          walk_at "w"
          refine ⟨_, _, S1' _ _ hts, hl1, ?_, fun l2 G2 nl2 hl2 S2' => ?_⟩
          · rw [List.length_map, hl]; show 6 + 8 ≤ sizeLine; rw [sizeLine_eq]; decide
          have hD11 := (hD10.same S1').same S2'
          walk_at "w"
          refine ⟨_, _, _, _, rfl, hD11, by omega, by omega, by omega, fun z G3 hD12 K12 => ?_⟩
          have ndl := (hD10.same S1').ne nl2
          have hl3 := K12 _ _ (Ne.symm ndl) hl2
          walk_at "w"
          refine ⟨big _ (by omega), ?_⟩
          walk_at "w"
          have u1 := cut4 none (some 1)
          have u2 := cut4 (some 1) none
          have u3 : (Str.ofString "_").length = 1 := by decide +kernel
          refine ⟨cat _ _ (by omega) (by rw [u3]; decide), ?_⟩
          walk_at "w"
          refine ⟨big _ (by omega), ?_⟩
          walk_at "w"
          refine ⟨cat _ _ (by rw [M.app_len, u3]; omega) (by omega), ?_⟩
          walk_at "go"
          refine fun l4 G4 nl4 hl4 S4' => ?_
          walk_at "w"
          refine ⟨_, _, S4' _ _ hl3, hl4, ?_, fun l5 G5 nl5 hl5 S5' => ?_⟩
          · rw [List.length_append, List.length_map, hl]; show 6 + 8 + 2 ≤ sizeLine; rw [sizeLine_eq]; decide
          walk_at "w"
          have hD13 := (hD12.same S4').same S5'
          have texts : ∃ L : List Str, G5 l5 = some (.lst (L.map V.str)) ∧ L.length = 16 ∧ ∀ w ∈ L, w.length ≤ 16777216 := by
            refine ⟨ts ++ [(Str.ofString " ") ++ tx, tx ++ (Str.ofString " "), tx ++ (Str.ofString "\n"), (Str.ofString "0") ++ tx, (Str.ofString "-") ++ tx, (Str.ofString "+") ++ tx, Txt.upper tx, tx] ++ [⟨#[z]⟩, cutS tx none (some 1) ++ (Str.ofString "_") ++ cutS tx (some 1) none], ?_, ?_, ?_⟩
            · rw [hl5, List.map_append, List.map_append]
              rfl
            · rw [List.length_append, List.length_append, hl]; rfl
            · intro w hw
              have up := PyProof.Rows.len_upper tx
              have c1 : (Str.ofString " ").length = 1 := by decide +kernel
              have c2 : (Str.ofString "\n").length = 1 := by decide +kernel
              have c3 : (Str.ofString "0").length = 1 := by decide +kernel
              have c4 : (Str.ofString "-").length = 1 := by decide +kernel
              have c5 : (Str.ofString "+").length = 1 := by decide +kernel
              rcases List.mem_append.mp hw with hw | hw
              · rcases List.mem_append.mp hw with hw | hw
                · have := hb9 w hw; omega
                · simp only [List.mem_cons, List.not_mem_nil, or_false] at hw
                  rcases hw with rfl | rfl | rfl | rfl | rfl | rfl | rfl | rfl
                  · rw [M.app_len, c1]; omega
                  · rw [M.app_len, c1]; omega
                  · rw [M.app_len, c2]; omega
                  · rw [M.app_len, c3]; omega
                  · rw [M.app_len, c4]; omega
                  · rw [M.app_len, c5]; omega
                  · omega
                  · omega
              · simp only [List.mem_cons, List.not_mem_nil, or_false] at hw
                rcases hw with rfl | rfl
                · show (1 : Nat) ≤ _; omega
                · rw [M.app_len, M.app_len, u3]; omega
          obtain ⟨L, hL, hL16, hLs⟩ := texts
          refine ⟨_, rfl, ⟨_, .inl (.inl hl5)⟩, for_list (xs := L.map V.str) (fun j σ H' => ∃ v7 v8 v9 v10 : Option V, σ = [some (.ref a), some (.ref d), some (.int (0 + (i : Nat))), some (.int (b : Int)), some (.int (m : Int)), some (.str tx), some (.ref l2), v7, v8, v9, v10] ∧ Deck H' d c (200 * i + 160 + j) ∧ H' l5 = some (.lst (L.map V.str))) ⟨_, _, _, _, rfl, hD13.more (by omega), hL⟩ (fun j σ H' hj h => ?_) (fun j y σ H' hy h => ?_) (fun σ H' h => ?_)⟩
          · obtain ⟨_, _, _, _, _, _, h⟩ := h
            exact .inl (.inl h)
          · obtain ⟨w7, w8, w9, w10, rfl, hDj, hLj⟩ := h
            rw [List.getElem?_map] at hy
            have hj16 : j < 16 := by
              by_cases z : j < L.length
              · omega
              · rw [List.getElem?_eq_none (by omega)] at hy
                cases hy
            cases hw : L[j]? with
            | none => rw [hw] at hy; cases hy
            | some w =>
              rw [hw] at hy
              cases hy
              have lw : w.length ≤ sizeLine := by rw [sizeLine_eq]; exact hLs w (List.mem_of_getElem? hw)
              walk_at "w"
              refine ⟨w, b, rfl, hb, hb2, lw, fun F1 T1 => ?_⟩
              walk_at "w"
              refine ⟨_, _, _, _, rfl, hDj.same T1, by omega, by decide, by decide, fun r2 F2 hr20 hr2 hDk K2' => ?_⟩
              obtain ⟨b2, eb2, hb3, hb4⟩ : ∃ b2 : Nat, (2 : Int) + r2 = (b2 : Int) ∧ 2 ≤ b2 ∧ b2 ≤ 16 := ⟨(2 + r2).toNat, by omega, by omega, by omega⟩
              walk_at "w"
              dsimp only
              rw [eb2]
              refine ⟨w, b2, rfl, hb3, hb4, lw, fun F3 T3 => ?_⟩
              walk_at "w"
              have dl : l5 ≠ d := Ne.symm ((hD12.same S4').ne nl5)
              exact ⟨_, _, _, _, rfl, (hDk.same T3).more (by omega), T3 _ _ (K2' _ _ dl (T1 _ _ hLj))⟩
          · obtain ⟨w7, w8, w9, w10, rfl, hDj, hLj⟩ := h
            rw [List.length_map, hL16] at hDj
            walk_at "w"
            exact ⟨_, _, _, _, _, _, _, _, _, rfl, hDj.more (by omega)⟩
  · rintro σ1 H2 ⟨v2, v3, v4, v5, v6, v7, v8, v9, v10, rfl, hD2⟩
    walk_at "go"
    refine fun l1 H3 nl1 hl1 S3 => ?_
    walk_at "w"
    refine ⟨_, _, _, _, rfl, hD2.same S3, by omega, by decide, by decide, fun y H4 hy0 hy hD4 K4 => ?_⟩
    have hl4 := K4 _ _ (Ne.symm (hD2.ne nl1)) hl1
    have some4 : ∃ sd : Str, atI [V.str " No such: 7", V.str "", V.str "a  B", V.str (repS "x" (Int.toNat 60) ++ "\n")] y = some (.str sd) ∧ SeqAt.shaped (.list [.str sd, .str sd]) = true ∧ PyData.eqv (.list [.str sd, .str sd]) (.list [.str sd, .str sd]) = true := by
      rcases (by omega : y = 0 ∨ y = 1 ∨ y = 2 ∨ y = 3) with e | e | e | e <;> subst e <;> exact ⟨_, rfl, by decide +kernel, by decide +kernel⟩
    obtain ⟨sd, hsd, shd, evd⟩ := some4
    walk_at "w"
    refine ⟨_, _, .inl (.inl hl4), hsd, ?_⟩
    walk_at "w"
    refine fun a5 t5 H5 na5 ha5 ht5 S5 => ?_
    walk_at "w"
    refine ⟨_, t5, _, ha5, ht5, KC.sr_NoAsk, KC.b_NoAsk, ?_⟩
    walk_at "w"
    refine fun a6 t6 H6 na6 ha6 ht6 S6 => ?_
    walk_at "w"
    refine ⟨_, t6, _, ha6, ht6, KC.sr_NoStretch, KC.b_NoStretch, ?_⟩
    walk_at "go"
    refine fun l7 H7 nl7 hl7 S7 => ?_
    walk_at "go"
    refine fun l8 H8 nl8 hl8 S8 => ?_
    walk_at "w"
    refine ⟨_, hl8, by omega, by omega, by rw [sizeLine_eq]; show 1 * 2 ≤ 16777216; decide, fun l9 H9 nl9 hl9 S9 => ?_⟩
    have dp2 : ∀ {G : Hp} {u : Addr}, G u = some (.lst [.str sd, .str sd]) → Dp K G (.ref u) (.list [.str sd, .str sd]) := fun h => .lst (.inl (.inl h)) (.cons (.str _) (.cons (.str _) .nil))
    refine ⟨_, _, dp2 (S9 _ _ (S8 _ _ hl7)), dp2 hl9, ⟨shd, shd⟩, fun _ => ?_, fun z => absurd evd z⟩
    walk_at "w"
    refine ⟨7, rfl, by decide, fun b ex H10 nb nx hb hx S10 => ?_⟩
    walk_at "w"
    refine ⟨b, ex, 7, rfl, ⟨.inl hb, fun dd z => by cases z; exact ⟨_, hx⟩⟩, hx, fun p11 H11 np11 S11 hp11 => ?_⟩
    walk_at "go"
    refine fun p12 H12 np12 hp12 S12 => ?_
    walk_at "w"
    have dp : ∀ {G : Hp} {u : Addr}, G u = some (.tup [.str "number", .int 7]) → Dp K G (.ref u) (.tuple [.str "number", .int 7]) := fun h => .tup (.inl (.inl h)) (.cons (.str _) (.cons (.int _) .nil))
    refine ⟨_, _, dp (S12 _ _ hp11), dp hp12, ⟨by decide +kernel, by decide +kernel⟩, fun _ => ?_, fun z => absurd (by decide +kernel) z⟩
    walk_at "go"
    refine fun p13 H13 np13 hp13 S13 => ?_
    have nine : ∃ L : List Str, H13 p13 = some (.lst (L.map V.str)) ∧ ∀ w ∈ L, w.length ≤ 16777216 := by
      refine ⟨["", " ", "\n", "0", "00", "0g", "1 2", "A", repS "~" (Int.toNat 200)], hp13, ?_⟩
      decide +kernel
    obtain ⟨L, hL, hLs⟩ := nine
    walk_at "w"
    refine ⟨_, rfl, ⟨_, .inl (.inl hp13)⟩, fun D nD => ?_⟩
    refine lc_list (xs := L.map V.str) (fun i H' => Same H13 H' ∧ H' D = some (.lst [])) ⟨same_upd nD, upd_same⟩ (fun i H' hi h => .inl (.inl (h.1 _ _ hL))) (fun i x H' hx h => ?_) (fun H' h => ?_)
    · rw [List.getElem?_map] at hx
      cases hw : L[i]? with
      | none => rw [hw] at hx; cases hx
      | some w =>
        rw [hw] at hx
        cases hx
        walk_at "w"
        refine ⟨rfl, ?_⟩
        walk_at "w"
        refine ⟨w, 16, rfl, by omega, by omega, by rw [sizeLine_eq]; exact hLs w (List.mem_of_getElem? hw), fun F1 T1 => ?_⟩
        walk_at "w"
        exact ⟨h.1.trans T1, T1 _ _ h.2⟩
    · walk_at "go"
      refine fun p14 H14 np14 hp14 S14 => ?_
      walk_at "w"
      refine ⟨_, _, .lst (.inl (.inl (S14 _ _ h.2))) .nil, .lst (.inl (.inl hp14)) .nil, ⟨by decide +kernel, by decide +kernel⟩, fun _ => q H14, fun z => absurd (by decide +kernel) z⟩
end
theorem all_mk {l : PySem.W.OpenLaw} {w : World} {K : PySem.W.Frag} {h : Heap} {mg : Str → Option Value} {fa f0 f1 f2 f3 f4 f5 f6 f7 f8 f9 f10 f11 f12 f13 : Addr} (X : K.In h) (G : h.Ns mainGlobals mg) (hfa : mg "law" = some (.ref fa))
    {od0 an0 : Option Addr} {sl0 : Array (Option Value)} {oc0 kV0 dc0 pm0 cd0 ct0 : Value}
    {od1 an1 : Option Addr} {sl1 : Array (Option Value)} {oc1 kV1 dc1 pm1 cd1 ct1 : Value}
    {od2 an2 : Option Addr} {sl2 : Array (Option Value)} {oc2 kV2 dc2 pm2 cd2 ct2 : Value}
    {od3 an3 : Option Addr} {sl3 : Array (Option Value)} {oc3 kV3 dc3 pm3 cd3 ct3 : Value}
    {od4 an4 : Option Addr} {sl4 : Array (Option Value)} {oc4 kV4 dc4 pm4 cd4 ct4 : Value}
    {od5 an5 : Option Addr} {sl5 : Array (Option Value)} {oc5 kV5 dc5 pm5 cd5 ct5 : Value}
    {od6 an6 : Option Addr} {sl6 : Array (Option Value)} {oc6 kV6 dc6 pm6 cd6 ct6 : Value}
    {od7 an7 : Option Addr} {sl7 : Array (Option Value)} {oc7 kV7 dc7 pm7 cd7 ct7 : Value}
    {od8 an8 : Option Addr} {sl8 : Array (Option Value)} {oc8 kV8 dc8 pm8 cd8 ct8 : Value}
    {od9 an9 : Option Addr} {sl9 : Array (Option Value)} {oc9 kV9 dc9 pm9 cd9 ct9 : Value}
    {od10 an10 : Option Addr} {sl10 : Array (Option Value)} {oc10 kV10 dc10 pm10 cd10 ct10 : Value}
    {od11 an11 : Option Addr} {sl11 : Array (Option Value)} {oc11 kV11 dc11 pm11 cd11 ct11 : Value}
    {od12 an12 : Option Addr} {sl12 : Array (Option Value)} {oc12 kV12 dc12 pm12 cd12 ct12 : Value}
    {od13 an13 : Option Addr} {sl13 : Array (Option Value)} {oc13 kV13 dc13 pm13 cd13 ct13 : Value}
    {c_SumError : Addr}
    {c_NoStretch : Addr}
    {c_NoAsk : Addr}
    {c_NoNumber : Addr}
    {nmN qN fileN : Str} {NN fN ccN cdaN : Addr} {bsN subN : List Value} {snN : List Str} {abN : Bool} {colN : Option Bool} {ddN odN cldN cddN anN : Option Addr} {k0N k1N k2N k3N k5N : Option Value} {ocN clN cclN kVN dcN pmN ctN : Value} {slN cslN ccsN : Array (Option Value)} {vsN : Array Value} {tfN : Tok}
    {t_SIGNS : Tok}
    (a0 : PySem.W.nsIn K mainGlobals "_law_deck" = some (some (.ref f0))) (l0 : K.lookup f0 = some ⟨oc0, od0, .func (PySem.W.fnOf "_law_deck" "_law_deck" (defArgs s__law_deck) (defBody s__law_deck) (defScope s__law_deck) .none kV0 dc0 pm0 an0 cd0 ct0), sl0⟩) (c0 : PySem.W.codeIn K cd0 "_law_deck" = true) (k0 : PySem.W.keepIn K (.ref f0) = true)
    (a1 : PySem.W.nsIn K mainGlobals "_law_mix" = some (some (.ref f1))) (l1 : K.lookup f1 = some ⟨oc1, od1, .func (PySem.W.fnOf "_law_mix" "_law_mix" (defArgs s__law_mix) (defBody s__law_mix) (defScope s__law_mix) .none kV1 dc1 pm1 an1 cd1 ct1), sl1⟩) (c1 : PySem.W.codeIn K cd1 "_law_mix" = true) (k1 : PySem.W.keepIn K (.ref f1) = true)
    (a2 : PySem.W.nsIn K mainGlobals "_law_next" = some (some (.ref f2))) (l2 : K.lookup f2 = some ⟨oc2, od2, .func (PySem.W.fnOf "_law_next" "_law_next" (defArgs s__law_next) (defBody s__law_next) (defScope s__law_next) .none kV2 dc2 pm2 an2 cd2 ct2), sl2⟩) (c2 : PySem.W.codeIn K cd2 "_law_next" = true) (k2 : PySem.W.keepIn K (.ref f2) = true)
    (a3 : PySem.W.nsIn K mainGlobals "_law_great" = some (some (.ref f3))) (l3 : K.lookup f3 = some ⟨oc3, od3, .func (PySem.W.fnOf "_law_great" "_law_great" (defArgs s__law_great) (defBody s__law_great) (defScope s__law_great) .none kV3 dc3 pm3 an3 cd3 ct3), sl3⟩) (c3 : PySem.W.codeIn K cd3 "_law_great" = true) (k3 : PySem.W.keepIn K (.ref f3) = true)
    (a4 : PySem.W.nsIn K mainGlobals "_law_number" = some (some (.ref f4))) (l4 : K.lookup f4 = some ⟨oc4, od4, .func (PySem.W.fnOf "_law_number" "_law_number" (defArgs s__law_number) (defBody s__law_number) (defScope s__law_number) .none kV4 dc4 pm4 an4 cd4 ct4), sl4⟩) (c4 : PySem.W.codeIn K cd4 "_law_number" = true) (k4 : PySem.W.keepIn K (.ref f4) = true)
    (a5 : PySem.W.nsIn K mainGlobals "_law_figures" = some (some (.ref f5))) (l5 : K.lookup f5 = some ⟨oc5, od5, .func (PySem.W.fnOf "_law_figures" "_law_figures" (defArgs s__law_figures) (defBody s__law_figures) (defScope s__law_figures) .none kV5 dc5 pm5 an5 cd5 ct5), sl5⟩) (c5 : PySem.W.codeIn K cd5 "_law_figures" = true) (k5 : PySem.W.keepIn K (.ref f5) = true)
    (a6 : PySem.W.nsIn K mainGlobals "_law_sign" = some (some (.ref f6))) (l6 : K.lookup f6 = some ⟨oc6, od6, .func (PySem.W.fnOf "_law_sign" "_law_sign" (defArgs s__law_sign) (defBody s__law_sign) (defScope s__law_sign) .none kV6 dc6 pm6 an6 cd6 ct6), sl6⟩) (c6 : PySem.W.codeIn K cd6 "_law_sign" = true) (k6 : PySem.W.keepIn K (.ref f6) = true)
    (a7 : PySem.W.nsIn K mainGlobals "_law_spoilt" = some (some (.ref f7))) (l7 : K.lookup f7 = some ⟨oc7, od7, .func (PySem.W.fnOf "_law_spoilt" "_law_spoilt" (defArgs s__law_spoilt) (defBody s__law_spoilt) (defScope s__law_spoilt) .none kV7 dc7 pm7 an7 cd7 ct7), sl7⟩) (c7 : PySem.W.codeIn K cd7 "_law_spoilt" = true) (k7 : PySem.W.keepIn K (.ref f7) = true)
    (a8 : PySem.W.nsIn K mainGlobals "_law_due" = some (some (.ref f8))) (l8 : K.lookup f8 = some ⟨oc8, od8, .func (PySem.W.fnOf "_law_due" "_law_due" (defArgs s__law_due) (defBody s__law_due) (defScope s__law_due) .none kV8 dc8 pm8 an8 cd8 ct8), sl8⟩) (c8 : PySem.W.codeIn K cd8 "_law_due" = true) (k8 : PySem.W.keepIn K (.ref f8) = true)
    (a9 : PySem.W.nsIn K mainGlobals "read_number" = some (some (.ref f9))) (l9 : K.lookup f9 = some ⟨oc9, od9, .func (PySem.W.fnOf "read_number" "read_number" (defArgs s_read_number) (defBody s_read_number) (defScope s_read_number) .none kV9 dc9 pm9 an9 cd9 ct9), sl9⟩) (c9 : PySem.W.codeIn K cd9 "read_number" = true) (k9 : PySem.W.keepIn K (.ref f9) = true)
    (a10 : PySem.W.nsIn K mainGlobals "_law_kind" = some (some (.ref f10))) (l10 : K.lookup f10 = some ⟨oc10, od10, .func (PySem.W.fnOf "_law_kind" "_law_kind" (defArgs s__law_kind) (defBody s__law_kind) (defScope s__law_kind) .none kV10 dc10 pm10 an10 cd10 ct10), sl10⟩) (c10 : PySem.W.codeIn K cd10 "_law_kind" = true) (k10 : PySem.W.keepIn K (.ref f10) = true)
    (a11 : PySem.W.nsIn K mainGlobals "_law_is_whole" = some (some (.ref f11))) (l11 : K.lookup f11 = some ⟨oc11, od11, .func (PySem.W.fnOf "_law_is_whole" "_law_is_whole" (defArgs s__law_is_whole) (defBody s__law_is_whole) (defScope s__law_is_whole) .none kV11 dc11 pm11 an11 cd11 ct11), sl11⟩) (c11 : PySem.W.codeIn K cd11 "_law_is_whole" = true) (k11 : PySem.W.keepIn K (.ref f11) = true)
    (a12 : PySem.W.nsIn K mainGlobals "_law_right" = some (some (.ref f12))) (l12 : K.lookup f12 = some ⟨oc12, od12, .func (PySem.W.fnOf "_law_right" "_law_right" (defArgs s__law_right) (defBody s__law_right) (defScope s__law_right) .none kV12 dc12 pm12 an12 cd12 ct12), sl12⟩) (c12 : PySem.W.codeIn K cd12 "_law_right" = true) (k12 : PySem.W.keepIn K (.ref f12) = true)
    (a13 : PySem.W.nsIn K mainGlobals "law" = some (some (.ref f13))) (l13 : K.lookup f13 = some ⟨oc13, od13, .func (PySem.W.fnOf "law" "law" (defArgs s_law) (defBody s_law) (defScope s_law) .none kV13 dc13 pm13 an13 cd13 ct13), sl13⟩) (c13 : PySem.W.codeIn K cd13 "law" = true) (k13 : PySem.W.keepIn K (.ref f13) = true)
    (z_ValueError : PySem.W.nsIn K mainGlobals "ValueError" = some none)
    (z_bool : PySem.W.nsIn K mainGlobals "bool" = some none)
    (z_enumerate : PySem.W.nsIn K mainGlobals "enumerate" = some none)
    (z_int : PySem.W.nsIn K mainGlobals "int" = some none)
    (z_isinstance : PySem.W.nsIn K mainGlobals "isinstance" = some none)
    (z_len : PySem.W.nsIn K mainGlobals "len" = some none)
    (z_max : PySem.W.nsIn K mainGlobals "max" = some none)
    (z_min : PySem.W.nsIn K mainGlobals "min" = some none)
    (z_range : PySem.W.nsIn K mainGlobals "range" = some none)
    (z_str : PySem.W.nsIn K mainGlobals "str" = some none)
    (z_sum : PySem.W.nsIn K mainGlobals "sum" = some none)
    (z_super : PySem.W.nsIn K mainGlobals "super" = some none)
    (z_tuple : PySem.W.nsIn K mainGlobals "tuple" = some none)
    (g_SumError : PySem.W.nsIn K mainGlobals "SumError" = some (some (.ref c_SumError)))
    (g_NoStretch : PySem.W.nsIn K mainGlobals "NoStretch" = some (some (.ref c_NoStretch)))
    (g_NoAsk : PySem.W.nsIn K mainGlobals "NoAsk" = some (some (.ref c_NoAsk)))
    (g_NoNumber : PySem.W.nsIn K mainGlobals "NoNumber" = some (some (.ref c_NoNumber)))
    (b_SumError : PySem.W.subIn K (.ref c_SumError) (.type "BaseException") = some true)
    (t_SumError : PySem.W.typeIn K (.ref c_SumError) = some (.type "type"))
    (d_SumError : PySem.W.hasDictIn K c_SumError = true)
    (s_SumError_SumError : PySem.W.subIn K (.ref c_SumError) (.ref c_SumError) = some true)
    (b_NoStretch : PySem.W.subIn K (.ref c_NoStretch) (.type "BaseException") = some true)
    (t_NoStretch : PySem.W.typeIn K (.ref c_NoStretch) = some (.type "type"))
    (d_NoStretch : PySem.W.hasDictIn K c_NoStretch = true)
    (s_NoStretch_SumError : PySem.W.subIn K (.ref c_NoStretch) (.ref c_SumError) = some true)
    (k_NoStretch : PySem.W.keepIn K (.ref c_NoStretch) = true)
    (x_NoStretch : PySem.W.excIn K c_NoStretch [.type "ValueError", .type "Exception", .type "BaseException", .type "object"] "ValueError.__new__" = true)
    (sr_NoStretch : PySem.W.findIn K (.ref c_NoStretch) "__str__" = some (some (.builtin "BaseException.__str__")))
    (ga_NoStretch : PySem.W.findIn K (.ref c_NoStretch) "__getattribute__" = some (some (.builtin "BaseException.__getattribute__")))
    (gt_NoStretch : PySem.W.findIn K (.ref c_NoStretch) "__getattr__" = some none)
    (cl_NoStretch : PySem.W.findIn K (.ref c_NoStretch) "__class__" = some (some (.builtin "object.__class__")))
    (mr_NoStretch : PySem.W.mroIn K c_NoStretch (.type "object") = some true)
    (v_NoStretch : PySem.W.subIn K (.ref c_NoStretch) (.type "ValueError") = some true)
    (j_NoStretch_SumError : PySem.W.subIn K (.ref c_NoStretch) (.ref c_SumError) = some true)
    (j_NoStretch_NoStretch : PySem.W.subIn K (.ref c_NoStretch) (.ref c_NoStretch) = some true)
    (j_NoStretch_NoAsk : PySem.W.subIn K (.ref c_NoStretch) (.ref c_NoAsk) = some false)
    (j_NoStretch_NoNumber : PySem.W.subIn K (.ref c_NoStretch) (.ref c_NoNumber) = some false)
    (b_NoAsk : PySem.W.subIn K (.ref c_NoAsk) (.type "BaseException") = some true)
    (t_NoAsk : PySem.W.typeIn K (.ref c_NoAsk) = some (.type "type"))
    (d_NoAsk : PySem.W.hasDictIn K c_NoAsk = true)
    (s_NoAsk_SumError : PySem.W.subIn K (.ref c_NoAsk) (.ref c_SumError) = some true)
    (k_NoAsk : PySem.W.keepIn K (.ref c_NoAsk) = true)
    (x_NoAsk : PySem.W.excIn K c_NoAsk [.type "ValueError", .type "Exception", .type "BaseException", .type "object"] "ValueError.__new__" = true)
    (sr_NoAsk : PySem.W.findIn K (.ref c_NoAsk) "__str__" = some (some (.builtin "BaseException.__str__")))
    (ga_NoAsk : PySem.W.findIn K (.ref c_NoAsk) "__getattribute__" = some (some (.builtin "BaseException.__getattribute__")))
    (gt_NoAsk : PySem.W.findIn K (.ref c_NoAsk) "__getattr__" = some none)
    (cl_NoAsk : PySem.W.findIn K (.ref c_NoAsk) "__class__" = some (some (.builtin "object.__class__")))
    (mr_NoAsk : PySem.W.mroIn K c_NoAsk (.type "object") = some true)
    (v_NoAsk : PySem.W.subIn K (.ref c_NoAsk) (.type "ValueError") = some true)
    (j_NoAsk_SumError : PySem.W.subIn K (.ref c_NoAsk) (.ref c_SumError) = some true)
    (j_NoAsk_NoStretch : PySem.W.subIn K (.ref c_NoAsk) (.ref c_NoStretch) = some false)
    (j_NoAsk_NoAsk : PySem.W.subIn K (.ref c_NoAsk) (.ref c_NoAsk) = some true)
    (j_NoAsk_NoNumber : PySem.W.subIn K (.ref c_NoAsk) (.ref c_NoNumber) = some false)
    (b_NoNumber : PySem.W.subIn K (.ref c_NoNumber) (.type "BaseException") = some true)
    (t_NoNumber : PySem.W.typeIn K (.ref c_NoNumber) = some (.type "type"))
    (d_NoNumber : PySem.W.hasDictIn K c_NoNumber = true)
    (s_NoNumber_SumError : PySem.W.subIn K (.ref c_NoNumber) (.ref c_SumError) = some true)
    (k_NoNumber : PySem.W.keepIn K (.ref c_NoNumber) = true)
    (sr_NoNumber : PySem.W.findIn K (.ref c_NoNumber) "__str__" = some (some (.builtin "BaseException.__str__")))
    (ga_NoNumber : PySem.W.findIn K (.ref c_NoNumber) "__getattribute__" = some (some (.builtin "BaseException.__getattribute__")))
    (gt_NoNumber : PySem.W.findIn K (.ref c_NoNumber) "__getattr__" = some none)
    (cl_NoNumber : PySem.W.findIn K (.ref c_NoNumber) "__class__" = some (some (.builtin "object.__class__")))
    (mr_NoNumber : PySem.W.mroIn K c_NoNumber (.type "object") = some true)
    (np_NoNumber : PySem.W.findIn K (.ref c_NoNumber) "place" = some none)
    (v_NoNumber : PySem.W.subIn K (.ref c_NoNumber) (.type "ValueError") = some true)
    (j_NoNumber_SumError : PySem.W.subIn K (.ref c_NoNumber) (.ref c_SumError) = some true)
    (j_NoNumber_NoStretch : PySem.W.subIn K (.ref c_NoNumber) (.ref c_NoStretch) = some false)
    (j_NoNumber_NoAsk : PySem.W.subIn K (.ref c_NoNumber) (.ref c_NoAsk) = some false)
    (j_NoNumber_NoNumber : PySem.W.subIn K (.ref c_NoNumber) (.ref c_NoNumber) = some true)
    (sn : PySem.W.specialIn K (.builtin "object.__class__") "__get__" = some (some (.builtin "getset_descriptor.__get__")))
    (st : PySem.W.takesIn K (.builtin "object.__class__") = some true)
    (N_cls : K.lookup c_NoNumber = some (excClassObj nmN qN c_NoNumber NN bsN [.ref c_SumError, .type "ValueError", .type "Exception", .type "BaseException", .type "object"] true snN subN abN colN ddN k0N k1N k2N k3N k5N "ValueError.__new__"))
    (N_sa : PySem.W.findIn K (.ref c_NoNumber) "__setattr__" = some (some (.builtin "object.__setattr__")))
    (N_init : PySem.W.findIn K (.ref c_NoNumber) "__init__" = some (some (.ref fN)))
    (N_ty : PySem.W.typeIn K (.ref fN) = some (.type "function"))
    (N_fn : K.lookup fN = some ⟨ocN, odN, .func (PySem.W.ksFn "__init__" "NoNumber.__init__" (defArgs s_own) (defBody s_own) (defScope s_own) .none kVN dcN pmN anN (.ref cdaN) ctN ccN), slN⟩)
    (N_code : PySem.W.codeIn K (.ref cdaN) "NoNumber.__init__" = true)
    (N_up : PySem.W.ks_superIn K c_NoNumber c_NoNumber "__init__" = some (some (.builtin "ValueError.__init__")))
    (N_isV : PySem.W.mroIn K c_NoNumber (.type "ValueError") = some true)
    (N_self : PySem.W.mroIn K c_NoNumber (.ref c_NoNumber) = some true)
    (N_op : PySem.W.nsIn K cStatics "thirdparty.any" = some none)
    (N_cell : K.lookup ccN = some ⟨clN, cldN, .cell (some (.ref c_NoNumber)), cslN⟩)
    (N_rec : K.lookup cdaN = some ⟨cclN, cddN, .fields vsN, ccsN⟩)
    (N_vs : vsN[2]? = some (.str fileN tfN))
    (N_file : ((l.prog.main.file : Str) == fileN) = true)
    (N_top : (l.prog.main.scope.names.lookup ("super" : Str)).isSome = false)
    (N_no : PySem.W.findIn K (.ref c_NoNumber) "place" = some none)
    (s_SIGNS : PySem.W.nsIn K mainGlobals "SIGNS" = some (some (.str "0123456789abcdefghijklmnopqrstuvwxyz" t_SIGNS)))
    : ∃ fd : FuncData, (∀ (s : Shared) (v : Value), BindsTo s fd ⟨[v], []⟩ [("script", v)]) ∧ ∀ base : Heap, K.In base → base.Ns mainGlobals mg → FnOk l.prog w K mg base CX0 5 fa fd ps_law (sp_law K) := by
  have e := hfa.symm.trans (PySem.W.mg_of X G a13)
  cases e
  have B : Blt mg := ⟨PySem.W.mg_none_of X G z_ValueError, PySem.W.mg_none_of X G z_bool, PySem.W.mg_none_of X G z_enumerate, PySem.W.mg_none_of X G z_int, PySem.W.mg_none_of X G z_isinstance, PySem.W.mg_none_of X G z_len, PySem.W.mg_none_of X G z_max, PySem.W.mg_none_of X G z_min, PySem.W.mg_none_of X G z_range, PySem.W.mg_none_of X G z_str, PySem.W.mg_none_of X G z_sum, PySem.W.mg_none_of X G z_super, PySem.W.mg_none_of X G z_tuple⟩
  have C : Cst mg := ⟨⟨_, PySem.W.mg_of X G s_SIGNS, ⟨_, rfl⟩⟩⟩
  have KC : Kls K mg ⟨c_SumError, c_NoStretch, c_NoAsk, c_NoNumber⟩ := ⟨PySem.W.mg_of X G g_SumError, PySem.W.mg_of X G g_NoStretch, PySem.W.mg_of X G g_NoAsk, PySem.W.mg_of X G g_NoNumber, b_SumError, t_SumError, d_SumError, s_SumError_SumError, b_NoStretch, t_NoStretch, d_NoStretch, s_NoStretch_SumError, k_NoStretch, x_NoStretch, sr_NoStretch, ga_NoStretch, gt_NoStretch, cl_NoStretch, mr_NoStretch, v_NoStretch, j_NoStretch_SumError, j_NoStretch_NoStretch, j_NoStretch_NoAsk, j_NoStretch_NoNumber, b_NoAsk, t_NoAsk, d_NoAsk, s_NoAsk_SumError, k_NoAsk, x_NoAsk, sr_NoAsk, ga_NoAsk, gt_NoAsk, cl_NoAsk, mr_NoAsk, v_NoAsk, j_NoAsk_SumError, j_NoAsk_NoStretch, j_NoAsk_NoAsk, j_NoAsk_NoNumber, b_NoNumber, t_NoNumber, d_NoNumber, s_NoNumber_SumError, k_NoNumber, sr_NoNumber, ga_NoNumber, gt_NoNumber, cl_NoNumber, mr_NoNumber, np_NoNumber, v_NoNumber, j_NoNumber_SumError, j_NoNumber_NoStretch, j_NoNumber_NoAsk, j_NoNumber_NoNumber, sn, st⟩
  have F0 := fun_mk (st := s__law_deck) l0 c0 k0
  have D0 : DefAt K mg "_law_deck" s__law_deck ps__law_deck := ⟨_, _, F0, F0.binds (ps := ps__law_deck) (fun _ _ _ _ _ _ us hl => match us, hl with | [_], _ => rfl), PySem.W.mg_of X G a0⟩
  have F1 := fun_mk (st := s__law_mix) l1 c1 k1
  have D1 : DefAt K mg "_law_mix" s__law_mix ps__law_mix := ⟨_, _, F1, F1.binds (ps := ps__law_mix) (fun _ _ _ _ _ _ us hl => match us, hl with | [_, _], _ => rfl), PySem.W.mg_of X G a1⟩
  have F2 := fun_mk (st := s__law_next) l2 c2 k2
  have D2 : DefAt K mg "_law_next" s__law_next ps__law_next := ⟨_, _, F2, F2.binds (ps := ps__law_next) (fun _ _ _ _ _ _ us hl => match us, hl with | [_, _], _ => rfl), PySem.W.mg_of X G a2⟩
  have F3 := fun_mk (st := s__law_great) l3 c3 k3
  have D3 : DefAt K mg "_law_great" s__law_great ps__law_great := ⟨_, _, F3, F3.binds (ps := ps__law_great) (fun _ _ _ _ _ _ us hl => match us, hl with | [_, _], _ => rfl), PySem.W.mg_of X G a3⟩
  have F4 := fun_mk (st := s__law_number) l4 c4 k4
  have D4 : DefAt K mg "_law_number" s__law_number ps__law_number := ⟨_, _, F4, F4.binds (ps := ps__law_number) (fun _ _ _ _ _ _ us hl => match us, hl with | [_, _, _], _ => rfl), PySem.W.mg_of X G a4⟩
  have F5 := fun_mk (st := s__law_figures) l5 c5 k5
  have D5 : DefAt K mg "_law_figures" s__law_figures ps__law_figures := ⟨_, _, F5, F5.binds (ps := ps__law_figures) (fun _ _ _ _ _ _ us hl => match us, hl with | [_, _], _ => rfl), PySem.W.mg_of X G a5⟩
  have F6 := fun_mk (st := s__law_sign) l6 c6 k6
  have D6 : DefAt K mg "_law_sign" s__law_sign ps__law_sign := ⟨_, _, F6, F6.binds (ps := ps__law_sign) (fun _ _ _ _ _ _ us hl => match us, hl with | [_, _], _ => rfl), PySem.W.mg_of X G a6⟩
  have F7 := fun_mk (st := s__law_spoilt) l7 c7 k7
  have D7 : DefAt K mg "_law_spoilt" s__law_spoilt ps__law_spoilt := ⟨_, _, F7, F7.binds (ps := ps__law_spoilt) (fun _ _ _ _ _ _ us hl => match us, hl with | [_, _, _], _ => rfl), PySem.W.mg_of X G a7⟩
  have F8 := fun_mk (st := s__law_due) l8 c8 k8
  have D8 : DefAt K mg "_law_due" s__law_due ps__law_due := ⟨_, _, F8, F8.binds (ps := ps__law_due) (fun _ _ _ _ _ _ us hl => match us, hl with | [_, _], _ => rfl), PySem.W.mg_of X G a8⟩
  have F9 := fun_mk (st := s_read_number) l9 c9 k9
  have D9 : DefAt K mg "read_number" s_read_number ps_read_number := ⟨_, _, F9, F9.binds (ps := ps_read_number) (fun _ _ _ _ _ _ us hl => match us, hl with | [_, _], _ => rfl), PySem.W.mg_of X G a9⟩
  have F10 := fun_mk (st := s__law_kind) l10 c10 k10
  have D10 : DefAt K mg "_law_kind" s__law_kind ps__law_kind := ⟨_, _, F10, F10.binds (ps := ps__law_kind) (fun _ _ _ _ _ _ us hl => match us, hl with | [_], _ => rfl), PySem.W.mg_of X G a10⟩
  have F11 := fun_mk (st := s__law_is_whole) l11 c11 k11
  have D11 : DefAt K mg "_law_is_whole" s__law_is_whole ps__law_is_whole := ⟨_, _, F11, F11.binds (ps := ps__law_is_whole) (fun _ _ _ _ _ _ us hl => match us, hl with | [_, _], _ => rfl), PySem.W.mg_of X G a11⟩
  have F12 := fun_mk (st := s__law_right) l12 c12 k12
  have D12 : DefAt K mg "_law_right" s__law_right ps__law_right := ⟨_, _, F12, F12.binds (ps := ps__law_right) (fun _ _ _ _ _ _ us hl => match us, hl with | [_, _], _ => rfl), PySem.W.mg_of X G a12⟩
  have F13 := fun_mk (st := s_law) l13 c13 k13
  refine ⟨PySem.W.fnOf "law" "law" (defArgs s_law) (defBody s_law) (defScope s_law) .none kV13 dc13 pm13 an13 cd13 ct13, fun s v => .of_eq rfl, fun base _ _ => ?_⟩
  have e_own : CalN l.prog w K mg base 1 c_NoNumber "place" := by
    have U : SupC l.prog K c_NoNumber ccN cdaN := supC_of N_cls N_sa b_NoNumber t_NoNumber k_NoNumber N_up N_isV N_self N_op N_cell N_rec N_vs N_file N_top
    refine calN_of (ar := (defArgs s_own).args.headD ⟨"", none, ⟨0, 0, 0, 0⟩⟩) U (ownFn U N_fn N_code sc_own (by rfl) (by decide +kernel) (by decide +kernel) B.b_super N_no (hb := by rfl) (by decide) (by decide) (by decide) (by decide) (by decide) (fun env => ⟨_, by rfl⟩)) (Binds.all fun us hl => match us, hl with | [_, _], _ => rfl) N_init N_ty
  have e__law_deck := ok__law_deck (P := l.prog) (w := w) (base := base) D0 B C KC 
  have e__law_mix := ok__law_mix (P := l.prog) (w := w) (base := base) D1 B C KC 
  have e__law_next := ok__law_next (P := l.prog) (w := w) (base := base) D2 B C KC e__law_mix
  have e__law_great := ok__law_great (P := l.prog) (w := w) (base := base) D3 B C KC e__law_next
  have e__law_number := ok__law_number (P := l.prog) (w := w) (base := base) D4 B C KC e__law_next e__law_great
  have e__law_figures := ok__law_figures (P := l.prog) (w := w) (base := base) D5 B C KC 
  have e__law_sign := ok__law_sign (P := l.prog) (w := w) (base := base) D6 B C KC e__law_next
  have e__law_spoilt := ok__law_spoilt (P := l.prog) (w := w) (base := base) D7 B C KC e__law_next e__law_sign
  have e__law_due := ok__law_due (P := l.prog) (w := w) (base := base) D8 B C KC 
  have e_read_number := ok_read_number (P := l.prog) (w := w) (base := base) D9 B C KC  e_own
  have e__law_kind := ok__law_kind (P := l.prog) (w := w) (base := base) D10 B C KC 
  have e__law_is_whole := ok__law_is_whole (P := l.prog) (w := w) (base := base) D11 B C KC 
  have e__law_right := ok__law_right (P := l.prog) (w := w) (base := base) D12 B C KC e__law_due e_read_number e__law_kind e__law_is_whole
  exact ok_law F13 B C KC e__law_deck e__law_next e__law_number e__law_figures e__law_spoilt e__law_sign e__law_right e__law_kind e_own
theorem walk {l : PySem.W.OpenLaw} {q : Program} {loose : List Str} {XP : (Str → Option Value) → Heap → Prop} {YP : World → Heap → Prop} {d : DefRec} {K : Params → PySem.W.Frag} (hn : l.most = some 63) (hdf : d.params.defaults = [])
    (hY : ∀ (w : World) (h : Heap), YP w h → (K w.params).In h)
    (F : ∀ (w : World) (mg : Str → Option Value) (fa : Addr) (h : Heap), (K w.params).In h → h.Ns mainGlobals mg → mg d.name = some (.ref fa) →
      ∃ fd : FuncData, (∀ (s : Shared) (u : Value), BindsTo s fd ⟨[u], []⟩ [("script", u)]) ∧ ∀ base : Heap, (K w.params).In base → base.Ns mainGlobals mg → FnOk l.prog w (K w.params) mg base CX0 5 fa fd ps_law (sp_law (K w.params))) :
    PySem.W.WalkO q loose XP YP l.row.toRowW d [] (fun f vs => PySem.call f vs) :=
  L2.walk_of (n := 63) (k := 5) (x := "script") (CX := fun _ => CX0) (sp := fun w => sp_law (K w.params)) hn (by decide) hdf ⟨rfl, by decide, by decide⟩ hY F (fun _ _ a ns hl _ hS => ⟨a, ns, rfl, hS, hl, fun _ => rfl⟩) fun _ _ _ _ _ z => z
end Lw
open PySem PySem.W PyProof.Rows
set_option maxRecDepth 100000 in
set_option maxHeartbeats 0 in
theorem PySem.Challenge.cw_figuresums_k02_texts_of_no_numbers_holds : PySem.Challenge.rw_figuresums_k02_texts_of_no_numbers.Holds := by
  w_on; o_law; k_head; (case hw => w_witness2)
  k_fill
  refine Lw.walk (l := PySem.Challenge.rw_figuresums_k02_texts_of_no_numbers) rfl rfl (fun w h Y => PySem.W.kIn_of Y) ?F
  case F =>
    intro w mg fa h KX G hmg
    refine' Lw.all_mk KX G hmg ?a0 ?l0 ?c0 ?k0 ?a1 ?l1 ?c1 ?k1 ?a2 ?l2 ?c2 ?k2 ?a3 ?l3 ?c3 ?k3 ?a4 ?l4 ?c4 ?k4 ?a5 ?l5 ?c5 ?k5 ?a6 ?l6 ?c6 ?k6 ?a7 ?l7 ?c7 ?k7 ?a8 ?l8 ?c8 ?k8 ?a9 ?l9 ?c9 ?k9 ?a10 ?l10 ?c10 ?k10 ?a11 ?l11 ?c11 ?k11 ?a12 ?l12 ?c12 ?k12 ?a13 ?l13 ?c13 ?k13 ?z_ValueError ?z_bool ?z_enumerate ?z_int ?z_isinstance ?z_len ?z_max ?z_min ?z_range ?z_str ?z_sum ?z_super ?z_tuple ?g_SumError ?g_NoStretch ?g_NoAsk ?g_NoNumber ?b_SumError ?t_SumError ?d_SumError ?s_SumError_SumError ?b_NoStretch ?t_NoStretch ?d_NoStretch ?s_NoStretch_SumError ?k_NoStretch ?x_NoStretch ?sr_NoStretch ?ga_NoStretch ?gt_NoStretch ?cl_NoStretch ?mr_NoStretch ?v_NoStretch ?j_NoStretch_SumError ?j_NoStretch_NoStretch ?j_NoStretch_NoAsk ?j_NoStretch_NoNumber ?b_NoAsk ?t_NoAsk ?d_NoAsk ?s_NoAsk_SumError ?k_NoAsk ?x_NoAsk ?sr_NoAsk ?ga_NoAsk ?gt_NoAsk ?cl_NoAsk ?mr_NoAsk ?v_NoAsk ?j_NoAsk_SumError ?j_NoAsk_NoStretch ?j_NoAsk_NoAsk ?j_NoAsk_NoNumber ?b_NoNumber ?t_NoNumber ?d_NoNumber ?s_NoNumber_SumError ?k_NoNumber ?sr_NoNumber ?ga_NoNumber ?gt_NoNumber ?cl_NoNumber ?mr_NoNumber ?np_NoNumber ?v_NoNumber ?j_NoNumber_SumError ?j_NoNumber_NoStretch ?j_NoNumber_NoAsk ?j_NoNumber_NoNumber ?sn ?st ?N_cls ?N_sa ?N_init ?N_ty ?N_fn ?N_code ?N_up ?N_isV ?N_self ?N_op ?N_cell ?N_rec ?N_vs ?N_file ?N_top ?N_no ?s_SIGNS
    (case g_SumError => k_is)
    (case g_NoStretch => k_is)
    (case g_NoAsk => k_is)
    (case g_NoNumber => k_is)
    (case a0 => k_is)
    (case l0 => k_is)
    (case c0 => k_is)
    (case k0 => k_is)
    (case a1 => k_is)
    (case l1 => k_is)
    (case c1 => k_is)
    (case k1 => k_is)
    (case a2 => k_is)
    (case l2 => k_is)
    (case c2 => k_is)
    (case k2 => k_is)
    (case a3 => k_is)
    (case l3 => k_is)
    (case c3 => k_is)
    (case k3 => k_is)
    (case a4 => k_is)
    (case l4 => k_is)
    (case c4 => k_is)
    (case k4 => k_is)
    (case a5 => k_is)
    (case l5 => k_is)
    (case c5 => k_is)
    (case k5 => k_is)
    (case a6 => k_is)
    (case l6 => k_is)
    (case c6 => k_is)
    (case k6 => k_is)
    (case a7 => k_is)
    (case l7 => k_is)
    (case c7 => k_is)
    (case k7 => k_is)
    (case a8 => k_is)
    (case l8 => k_is)
    (case c8 => k_is)
    (case k8 => k_is)
    (case a9 => k_is)
    (case l9 => k_is)
    (case c9 => k_is)
    (case k9 => k_is)
    (case a10 => k_is)
    (case l10 => k_is)
    (case c10 => k_is)
    (case k10 => k_is)
    (case a11 => k_is)
    (case l11 => k_is)
    (case c11 => k_is)
    (case k11 => k_is)
    (case a12 => k_is)
    (case l12 => k_is)
    (case c12 => k_is)
    (case k12 => k_is)
    (case a13 => k_is)
    (case l13 => k_is)
    (case c13 => k_is)
    (case k13 => k_is)
    (case z_ValueError => k_is)
    (case z_bool => k_is)
    (case z_enumerate => k_is)
    (case z_int => k_is)
    (case z_isinstance => k_is)
    (case z_len => k_is)
    (case z_max => k_is)
    (case z_min => k_is)
    (case z_range => k_is)
    (case z_str => k_is)
    (case z_sum => k_is)
    (case z_super => k_is)
    (case z_tuple => k_is)
    (case b_SumError => k_is)
    (case t_SumError => k_is)
    (case d_SumError => k_is)
    (case s_SumError_SumError => k_is)
    (case b_NoStretch => k_is)
    (case t_NoStretch => k_is)
    (case d_NoStretch => k_is)
    (case s_NoStretch_SumError => k_is)
    (case k_NoStretch => k_is)
    (case x_NoStretch => k_exc)
    (case sr_NoStretch => k_is)
    (case ga_NoStretch => k_is)
    (case gt_NoStretch => k_is)
    (case cl_NoStretch => k_is)
    (case mr_NoStretch => k_is)
    (case v_NoStretch => k_is)
    (case j_NoStretch_SumError => k_is)
    (case j_NoStretch_NoStretch => k_is)
    (case j_NoStretch_NoAsk => k_is)
    (case j_NoStretch_NoNumber => k_is)
    (case b_NoAsk => k_is)
    (case t_NoAsk => k_is)
    (case d_NoAsk => k_is)
    (case s_NoAsk_SumError => k_is)
    (case k_NoAsk => k_is)
    (case x_NoAsk => k_exc)
    (case sr_NoAsk => k_is)
    (case ga_NoAsk => k_is)
    (case gt_NoAsk => k_is)
    (case cl_NoAsk => k_is)
    (case mr_NoAsk => k_is)
    (case v_NoAsk => k_is)
    (case j_NoAsk_SumError => k_is)
    (case j_NoAsk_NoStretch => k_is)
    (case j_NoAsk_NoAsk => k_is)
    (case j_NoAsk_NoNumber => k_is)
    (case b_NoNumber => k_is)
    (case t_NoNumber => k_is)
    (case d_NoNumber => k_is)
    (case s_NoNumber_SumError => k_is)
    (case k_NoNumber => k_is)
    (case sr_NoNumber => k_is)
    (case ga_NoNumber => k_is)
    (case gt_NoNumber => k_is)
    (case cl_NoNumber => k_is)
    (case mr_NoNumber => k_is)
    (case np_NoNumber => k_is)
    (case v_NoNumber => k_is)
    (case j_NoNumber_SumError => k_is)
    (case j_NoNumber_NoStretch => k_is)
    (case j_NoNumber_NoAsk => k_is)
    (case j_NoNumber_NoNumber => k_is)
    (case sn => k_is)
    (case st => k_is)
    (case N_cls => k_is)
    (case N_sa => k_is)
    (case N_init => k_is)
    (case N_ty => k_is)
    (case N_fn => k_is)
    (case N_code => k_is)
    (case N_up => first | ks_is | k_is)
    (case N_isV => k_is)
    (case N_self => k_is)
    (case N_op => k_is)
    (case N_cell => k_is)
    (case N_rec => k_is)
    (case N_vs => first | rfl | kernel_rfl)
    (case N_file => first | rfl | kernel_rfl | decide +kernel)
    (case N_top => first | rfl | kernel_rfl | decide +kernel)
    (case N_no => k_is)
    (case s_SIGNS => k_is)
#print axioms PySem.Challenge.cw_figuresums_k02_texts_of_no_numbers_holds
