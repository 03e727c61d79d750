import PyProof.Rows.All
import Wide.All
import OpenK.AllK
import Wide.FinOn
import HandS.ForMost
import HandS.ForExc
import HandS.Wide
import HandS.WideBits
import HandS.Style
import HandS.Flow
import HandS.IsInst
import HandS.Zip
import HandS.Walk
import KE.GoesMore
import KE.GoesZip
import PyProof.LongRange
import HandS.WideMore
import Wide.Txt
import HandS.Text
import PySem.Challenge.RW_figuresums_k22_carries
set_option Elab.async false
set_option linter.all false
set_option maxRecDepth 100000
namespace Z
open PySem PySem.Spec PyProof.Rows L2

/-! ### heaps -/
theorem sameAt {H H' : Hp} {b : Addr} {u : HO} (S : Same H H') (h : H b = some u) : H' b = some u := S b u h
/-- all but d is as it was -/
def Keep (d : Addr) (H H' : Hp) : Prop := ∀ b u, b ≠ d → H b = some u → H' b = some u
theorem keepAt {d : Addr} {H H' : Hp} {b : Addr} {u : HO} (S : Keep d H H') (ne : b ≠ d) (h : H b = some u) : H' b = some u := S b u ne h
theorem Keep.refl (d : Addr) (H : Hp) : Keep d H H := fun _ _ _ h => h
theorem Keep.trans {d : Addr} {H H1 H2 : Hp} (a : Keep d H H1) (b : Keep d H1 H2) : Keep d H H2 := fun c o n h => b c o n (a c o n h)
theorem Keep.of {d : Addr} {H H1 : Hp} (a : Same H H1) : Keep d H H1 := fun c o _ h => a c o h
theorem same_upd {H : Hp} {p : Addr} {o : HO} (h : H p = none) : Same H (upd H p o) := fun b u q => by rw [upd_ne (ne_of_none q h)]; exact q
theorem keep_upd {H : Hp} {p : Addr} {o : HO} : Keep p H (upd H p o) := fun b u n q => by rw [upd_ne n]; exact q
/-- a new object o, then Q of it -/
def New (H : Hp) (o : HO) (Q : VK) : Prop := ∀ p H', H p = none → H' p = some o → Same H H' → Q (.ref p) H'
theorem New.up {H : Hp} {o : HO} {Q : VK} (h : New H o Q) : ∀ p, H p = none → Q (.ref p) (upd H p o) := fun p n => h p _ n upd_same (same_upd n)
/-- the object at p becomes o, then Q -/
def Wr (H : Hp) (p : Addr) (o : HO) (Q : Hp → Prop) : Prop := ∀ H', H' p = some o → Keep p H H' → (∀ b, H' b = none → H b = none) → Q H'
theorem Wr.up {H : Hp} {p : Addr} {o u : HO} {Q : Hp → Prop} (e : H p = some u) (h : Wr H p o Q) : Q (upd H p o) := h _ upd_same keep_upd fun b q => by
  by_cases hb : b = p
  · subst hb; rw [upd_same] at q; cases q
  · rw [upd_ne hb] at q; exact q

section
variable {X : Cx} {e a b c : Expr} {pos : Pos}
theorem peM {t t' : TE} (h : PE X e t) (m : ∀ σ H Q, t' σ H Q → t σ H Q) : PE X e t' := ⟨fun pins s σ H Q I q => h.run pins s σ H Q I (m σ H Q q)⟩
theorem ptM {t t' : TT} (h : PT X e t) (m : ∀ σ H Q, t' σ H Q → t σ H Q) : PT X e t' := ⟨fun pins s σ H Q I q => h.run pins s σ H Q I (m σ H Q q)⟩
theorem opM {f : Value → Value → Sem Value} {r r' : R2} (h : OpR X f r) (m : ∀ x y H Q, r' x y H Q → r x y H Q) : OpR X f r' := fun pins s σ H x y v u Q I rx ry q => h pins s σ H x y v u Q I rx ry (m _ _ _ _ q)
theorem callM {f : Value} {r r' : List V → Hp → VK → Prop} (h : CallR X f r) (m : ∀ xs H Q, r' xs H Q → r xs H Q) : CallR X f r' := fun pins s σ H xs us Q I rx q => h pins s σ H xs us Q I rx (m _ _ _ q)
theorem mtM {id : String} {r r' : V → List V → Hp → VK → Prop} (h : MtR X id r) (m : ∀ x xs H Q, r' x xs H Q → r x xs H Q) : MtR X id r' := fun pins s σ H x xs v us Q I rx rxs q => h pins s σ H x xs v us Q I rx rxs (m _ _ _ _ q)
theorem ixM {r r' : R2} (h : IxR X r) (m : ∀ x y H Q, r' x y H Q → r x y H Q) : IxR X r' := fun a b pins s σ H x y v u Q I rx ry q hs => h a b pins s σ H x y v u Q I rx ry (m _ _ _ _ q) hs
theorem slM {r r' : V → Option Int → Option Int → Hp → VK → Prop} (h : SlR X r) (m : ∀ x lo hi H Q, r' x lo hi H Q → r x lo hi H Q) : SlR X r' := fun pins s σ H x v vl vu lo hi sl Q I rx hs pl pu q => h pins s σ H x v vl vu lo hi sl Q I rx hs pl pu (m _ _ _ _ _ q)
theorem setM {r r' : TSet} (h : PSet X r) (m : ∀ o i v H Q, r' o i v H Q → r o i v H Q) : PSet X r' := fun pins s σ H o i v ov iv u Q I ro ri rv q => h pins s σ H o i v ov iv u Q I ro ri rv (m _ _ _ _ _ q)

/-! ### names -/
def zV (i : Nat) : TE := fun σ H Q => match σ[i]? with | some (some v) => Q v H | _ => False
theorem zv (i : Nat) {x : Str} {pos : Pos} (hN : X.N[i]? = some x := by rfl) (hv : Vis X.env.scope x := by first | exact Or.inl rfl | exact Or.inr (Or.inl rfl) | exact Or.inr (Or.inr rfl)) (hd : (x == ("__debug__" : Str)) = false := by decide)
    (hcd : (x == ("__classdict__" : Str)) = false := by decide) : PE X (.Name x pos) (zV i) :=
  peM (pe_var hN hv hd hcd) fun σ H Q q => by
    unfold zV at q
    split at q
    · exact ⟨_, by assumption, q⟩
    · exact q.elim

/-! ### two ints -/
def zI (C : Int → Int → Prop) (g : Int → Int → V) : R2 := fun x y H Q => match x, y with | .int i, .int j => C i j ∧ Q (g i j) H | _, _ => False
def zI0 (g : Int → Int → V) : R2 := fun x y H Q => match x, y with | .int i, .int j => Q (g i j) H | _, _ => False
theorem zI_of {f : Value → Value → Sem Value} {C : Int → Int → Prop} {g : Int → Int → V} (h : OpR X f (rI C g)) : OpR X f (zI C g) := opM h fun x y H Q q => by
  unfold zI at q
  split at q
  · exact ⟨_, _, rfl, rfl, q⟩
  · exact q.elim
theorem zI0_of {f : Value → Value → Sem Value} {g : Int → Int → V} (h : OpR X f (rI0 g)) : OpR X f (zI0 g) := opM h fun x y H Q q => by
  unfold zI0 at q
  split at q
  · exact ⟨_, _, rfl, rfl, q⟩
  · exact q.elim
theorem zadd : OpR X (binaryOp .Add) (zI0 fun i j => .int (i + j)) := zI0_of op_add
theorem zsub : OpR X (binaryOp .Sub) (zI0 fun i j => .int (i - j)) := zI0_of op_sub
/-- a product: one side small, or both together below a million bits -/
def MulOk (i j : Int) : Prop := (-(2 ^ 64) < i ∧ i < 2 ^ 64) ∨ (-(2 ^ 64) < j ∧ j < 2 ^ 64) ∨ CMulW i j
theorem zmul : OpR X (binaryOp .Mult) (zI MulOk fun i j => .int (i * j)) := zI_of <| by
  intro pins s σ H x y v u Q I rx ry q
  obtain ⟨i, j, rfl, rfl, c, q⟩ := q
  rcases c with c | c | c
  · exact op_mul pins s σ H _ _ v u Q I rx ry ⟨i, j, rfl, rfl, .inl c, q⟩
  · exact op_mul pins s σ H _ _ v u Q I rx ry ⟨i, j, rfl, rfl, .inr c, q⟩
  · exact op_mulW pins s σ H _ _ v u Q I rx ry ⟨i, j, rfl, rfl, c, q⟩
def DivOk (_ j : Int) : Prop := 0 < j ∧ (j < 1073741824 ∨ j.natAbs < 2 ^ 9000)
theorem zfdiv : OpR X (binaryOp .FloorDiv) (zI DivOk fun i j => .int (i / j)) := zI_of <| by
  intro pins s σ H x y v u Q I rx ry q
  obtain ⟨i, j, rfl, rfl, ⟨c0, c⟩, q⟩ := q
  rcases c with c | c
  · exact op_fdiv pins s σ H _ _ v u Q I rx ry ⟨i, j, rfl, rfl, ⟨c0, c⟩, q⟩
  · exact op_fdivW pins s σ H _ _ v u Q I rx ry ⟨i, j, rfl, rfl, wide_div (b := 9000) c0 c (by decide) (Nat.le_refl _), q⟩
theorem zmod : OpR X (binaryOp .Mod) (zI (fun _ j => 0 < j) fun i j => .int (i % j)) := zI_of op_mod
/-- a written power -/
theorem zpow {i j r : Int} {k1 k2 : Nat} {p1 p2 : Pos} (h : i ^ j.toNat = r) (c : 0 ≤ j ∧ j ≤ 1000000 ∧ i.natAbs < 2 ^ 64) : PE X (.BinOp (.Constant (.int i) k1 p1) .Pow (.Constant (.int j) k2 p2) pos) (tC (.int r)) :=
  peM (pe_op op_pow pe_int pe_int) fun σ H Q q => ⟨_, _, rfl, rfl, c, by show Q (V.int (i ^ j.toNat)) H; rw [h]; exact q⟩
/-! ### texts -/
def zS2 (C : Str → Str → Prop) (g : Str → Str → V) : R2 := fun x y H Q => match x, y with | .str i, .str j => C i j ∧ Q (g i j) H | _, _ => False
theorem zaddS : OpR X (binaryOp .Add) (zS2 (fun i j => i.length + j.length ≤ sizeLine) fun i j => .str (i ++ j)) := opM op_add_str fun x y H Q q => by
  unfold zS2 at q
  split at q
  · exact ⟨_, _, rfl, rfl, q⟩
  · exact q.elim
/-! ### comparisons, as tests: two ways -/
/-- both ways, told by a fact -/
structure Two (P : Prop) (A B : Prop) : Prop where
  yes : P → A
  no : ¬ P → B
theorem Two.dec {P : Prop} [Decidable P] {A : Bool → Prop} (h : Two P (A true) (A false)) : A (decide P) := by
  by_cases p : P
  · rw [decide_eq_true p]; exact h.1 p
  · rw [decide_eq_false p]; exact h.2 p
def zCI (P : Int → Int → Prop) : R2 := fun x y H Q => match x, y with | .int i, .int j => Two (P i j) (Q (.bl true) H) (Q (.bl false) H) | _, _ => False
theorem zCI_of {f : Value → Value → Sem Value} {P : Int → Int → Prop} [∀ i j, Decidable (P i j)] (h : OpR X f (rI0 fun i j => .bl (decide (P i j)))) : OpR X f (zCI P) := opM h fun x y H Q q => by
  unfold zCI at q
  split at q
  · exact ⟨_, _, rfl, rfl, Two.dec (A := fun b => Q (.bl b) H) q⟩
  · exact q.elim
theorem zlt : OpR X (compareOp .Lt) (zCI fun i j => i < j) := zCI_of op_lt
theorem zle : OpR X (compareOp .LtE) (zCI fun i j => i ≤ j) := zCI_of op_le
theorem zgt : OpR X (compareOp .Gt) (zCI fun i j => j < i) := zCI_of op_gt
theorem zge : OpR X (compareOp .GtE) (zCI fun i j => j ≤ i) := zCI_of op_ge
/-- == of ints, texts, bools -/
def zEqR : R2 := fun x y H Q => match x, y with
  | .int i, .int j => Two (i = j) (Q (.bl true) H) (Q (.bl false) H)
  | .str i, .str j => Two (i = j) (Q (.bl true) H) (Q (.bl false) H)
  | .bl i, .bl j => Two (i = j) (Q (.bl true) H) (Q (.bl false) H)
  | _, _ => False
theorem Two.imp {P P' A B : Prop} (h : Two P A B) (e : P ↔ P') : Two P' A B := ⟨fun p => h.1 (e.mpr p), fun p => h.2 fun q => p (e.mp q)⟩
theorem zeq : OpR X (compareOp .Eq) zEqR := opM op_eq fun x y H Q q => by
  unfold zEqR at q
  split at q
  · exact ⟨rfl, Two.dec (A := fun b => Q (.bl b) H) (q.imp ⟨congrArg V.int, V.int.inj⟩)⟩
  · exact ⟨rfl, Two.dec (A := fun b => Q (.bl b) H) (q.imp ⟨congrArg V.str, V.str.inj⟩)⟩
  · exact ⟨rfl, Two.dec (A := fun b => Q (.bl b) H) (q.imp ⟨congrArg V.bl, V.bl.inj⟩)⟩
  · exact q.elim
def zNeR : R2 := fun x y H Q => match x, y with
  | .int i, .int j => Two (i = j) (Q (.bl false) H) (Q (.bl true) H)
  | .str i, .str j => Two (i = j) (Q (.bl false) H) (Q (.bl true) H)
  | .bl i, .bl j => Two (i = j) (Q (.bl false) H) (Q (.bl true) H)
  | _, _ => False
theorem zne : OpR X (compareOp .NotEq) zNeR := opM op_ne fun x y H Q q => by
  unfold zNeR at q
  split at q
  · exact ⟨rfl, Two.dec (A := fun b => Q (.bl (!b)) H) (q.imp ⟨congrArg V.int, V.int.inj⟩)⟩
  · exact ⟨rfl, Two.dec (A := fun b => Q (.bl (!b)) H) (q.imp ⟨congrArg V.str, V.str.inj⟩)⟩
  · exact ⟨rfl, Two.dec (A := fun b => Q (.bl (!b)) H) (q.imp ⟨congrArg V.bl, V.bl.inj⟩)⟩
  · exact q.elim
/-- is None -/
def zNonR (neg : Bool) : R2 := fun x y H Q => match y with
  | .non => (match x with | .non => Q (.bl (!neg)) H | _ => Q (.bl neg) H)
  | _ => False
theorem zisN : OpR X (compareOp .Is) (zNonR false) := opM op_isN fun x y H Q q => by
  unfold zNonR at q
  split at q
  · cases x <;> exact ⟨rfl, q⟩
  · exact q.elim
theorem znotN : OpR X (compareOp .IsNot) (zNonR true) := opM op_notN fun x y H Q q => by
  unfold zNonR at q
  split at q
  · cases x <;> exact ⟨rfl, q⟩
  · exact q.elim

/-! ### tests -/
/-- a value that is a bool, as a test; an open bool two ways -/
def zT (t : TE) : TT := fun σ H Q => t σ H fun x H' => match x with | .bl k => Q k H' | _ => False
theorem zpt {t : TE} (h : PE X e t) (he : ∀ whole, isTrue e X.env whole = (do let v ← whole; standAt e.pos; holding [v] (truthy v)) := by intro _; rfl) : PT X e (zT t) := by
  refine ⟨fun pins s σ H Q I hw => ?_⟩
  refine isTrue_plain (thn (h.run pins s σ H _ I hw) fun v s1 ⟨x, H1, I1, r1, q1⟩ => ?_) (he _)
  cases x with
  | bl k => cases r1; exact wpAny_truthy_bool ⟨H1, I1, q1⟩
  | _ => exact (show False from q1).elim
theorem zpc {op : CmpOp} {r : R2} {ta tb : TE} (ho : OpR X (compareOp op) r) (ha : PE X a ta) (hb : PE X b tb) (hm : behindInMarks op b = false := by first | exact nobehind _ (by decide) (by decide) | rfl) : PT X (.Compare a [op] [b] pos) (zT (tOp r ta tb)) := by
  have g : PT X (.Compare a [op] [b] pos) (tB (tOp r ta tb)) := pt_cmpR ho ha hb hm
  refine ⟨fun pins s σ H Q I hw => ?_⟩
  have up : PE X (.Compare a [op] [b] pos) (fun σ H Q => ∃ Q0 : VK, tOp r ta tb σ H Q0 ∧ ∀ x H, Q0 x H → Q x H) := ⟨fun pins s σ H Q I ⟨Q0, h0, m⟩ => thn ((pe_cmpR ho ha hb hm).run pins s σ H Q0 I h0) fun v s1 ⟨x, H1, I1, r1, q1⟩ => ⟨x, H1, I1, r1, m _ _ q1⟩⟩
  have g2 : PT X (.Compare a [op] [b] pos) (tB (fun σ H Q => ∃ Q0 : VK, tOp r ta tb σ H Q0 ∧ ∀ x H, Q0 x H → Q x H)) := by
    refine ⟨fun pins s σ H Q I hw => ?_⟩
    refine wpAny_isTrue_Compare1 (thn (ha.run pins s σ H _ I hw.choose_spec.1) fun v s1 ⟨x, H1, I1, r1, q1⟩ => thn (hb.run pins s1 σ H1 _ I1 q1) fun u s2 ⟨y, H2, I2, r2, q2⟩ => thn (ho pins s2 σ H2 x y v u _ I2 r1 r2 q2) fun d s3 ⟨z, H3, I3, r3, q3⟩ => ?_) hm
    obtain ⟨k, rfl, q⟩ := hw.choose_spec.2 _ _ q3
    cases r3
    exact wpAny_truthy_bool ⟨H3, I3, q⟩
  refine g2.run pins s σ H Q I ⟨_, hw, fun x H1 q => ?_⟩
  cases x with
  | bl k => exact ⟨k, rfl, q⟩
  | _ => exact (show False from q).elim
/-- an open bool, two ways -/
def tTwo (t : TT) : TT := fun σ H Q => t σ H fun b H1 => (b = true → Q true H1) ∧ (b = false → Q false H1)
def mB {α : Sort _} (b : Bool) (x y : α) : α := match b with | true => x | false => y
/-- and, or, not -/
def zAnd (t u : TT) : TT := fun σ H Q => t σ H fun c H1 => match c with | true => u σ H1 Q | false => Q false H1
def zOr (t u : TT) : TT := fun σ H Q => t σ H fun c H1 => match c with | true => Q true H1 | false => u σ H1 Q
theorem PT.up {t : TT} (h : PT X e t) : PT X e (fun σ H Q => ∃ Q0 : Bool → Hp → Prop, t σ H Q0 ∧ ∀ b H, Q0 b H → Q b H) := ⟨fun pins s σ H Q I ⟨Q0, h0, m⟩ => thn (h.run pins s σ H Q0 I h0) fun v s1 ⟨H1, I1, q1⟩ => ⟨H1, I1, m _ _ q1⟩⟩
theorem PE.up {t : TE} (h : PE X e t) : PE X e (fun σ H Q => ∃ Q0 : VK, t σ H Q0 ∧ ∀ b H, Q0 b H → Q b H) := ⟨fun pins s σ H Q I ⟨Q0, h0, m⟩ => thn (h.run pins s σ H Q0 I h0) fun v s1 ⟨x, H1, I1, r1, q1⟩ => ⟨x, H1, I1, r1, m _ _ q1⟩⟩
variable {rest : List Expr} {tA tB : TT} {ta tb tc : TE}
theorem zpw_and1 (ha : PT X a tA) : PW X (.BoolOp .And [a] pos) tA := pw_and1 ha
theorem zpw_or1 (ha : PT X a tA) : PW X (.BoolOp .Or [a] pos) tA := pw_or1 ha
theorem zpw_and (ha : PT X a tA) (hb : PW X (.BoolOp .And (b :: rest) pos) tB) : PW X (.BoolOp .And (a :: b :: rest) pos) (zAnd tA tB) := by
  refine ⟨fun whole pins s σ H Q I q => ?_⟩
  refine (pw_and (PT.up ha) hb).run whole pins s σ H Q I ⟨_, q, fun c H1 q1 => ?_⟩
  cases c with
  | true => rw [if_pos rfl]; exact q1
  | false => rw [if_neg Bool.false_ne_true]; exact q1
theorem zpw_or (ha : PT X a tA) (hb : PW X (.BoolOp .Or (b :: rest) pos) tB) : PW X (.BoolOp .Or (a :: b :: rest) pos) (zOr tA tB) := by
  refine ⟨fun whole pins s σ H Q I q => ?_⟩
  refine (pw_or (PT.up ha) hb).run whole pins s σ H Q I ⟨_, q, fun c H1 q1 => ?_⟩
  cases c with
  | true => rw [if_pos rfl]; exact q1
  | false => rw [if_neg Bool.false_ne_true]; exact q1
/-- and, or, not as values of bools -/
def zAndV (ta tb : TE) : TE := fun σ H Q => ta σ H fun x H1 => match x with | .bl c => (match c with | true => tb σ H1 Q | false => Q (.bl false) H1) | _ => False
def zOrV (ta tb : TE) : TE := fun σ H Q => ta σ H fun x H1 => match x with | .bl c => (match c with | true => Q (.bl true) H1 | false => tb σ H1 Q) | _ => False
def zNotV (ta : TE) : TE := fun σ H Q => ta σ H fun x H1 => match x with | .bl c => Q (.bl (!c)) H1 | _ => False
theorem zpe_and (ha : PE X a ta) (hb : PE X (.BoolOp .And (b :: rest) pos) tb) : PE X (.BoolOp .And (a :: b :: rest) pos) (zAndV ta tb) :=
  peM (pe_and (PE.up ha) hb) fun σ H Q q => ⟨_, q, fun x H1 q1 => by
    cases x with
    | bl c =>
      refine ⟨c, rfl, ?_⟩
      cases c with
      | true => rw [if_pos rfl]; exact q1
      | false => rw [if_neg Bool.false_ne_true]; exact q1
    | _ => exact (show False from q1).elim⟩
theorem zpe_or (ha : PE X a ta) (hb : PE X (.BoolOp .Or (b :: rest) pos) tb) : PE X (.BoolOp .Or (a :: b :: rest) pos) (zOrV ta tb) :=
  peM (pe_or (PE.up ha) hb) fun σ H Q q => ⟨_, q, fun x H1 q1 => by
    cases x with
    | bl c =>
      refine ⟨c, rfl, ?_⟩
      cases c with
      | true => rw [if_pos rfl]; exact q1
      | false => rw [if_neg Bool.false_ne_true]; exact q1
    | _ => exact (show False from q1).elim⟩
theorem zpe_not (ha : PE X a ta) : PE X (.UnaryOp .Not a pos) (zNotV ta) :=
  peM (pe_not (PE.up ha)) fun σ H Q q => ⟨_, q, fun x H1 q1 => by
    cases x with
    | bl c => exact ⟨c, rfl, q1⟩
    | _ => exact (show False from q1).elim⟩
def zIfE (t : TT) (ta tb : TE) : TE := fun σ H Q => t σ H fun c H1 => match c with | true => ta σ H1 Q | false => tb σ H1 Q
theorem zpe_if (hc : PT X c tA) (ha : PE X a ta) (hb : PE X b tb) : PE X (.IfExp c a b pos) (zIfE tA ta tb) :=
  peM (pe_ifExp (PT.up hc) ha hb) fun σ H Q q => ⟨_, q, fun x H1 q1 => by
    cases x with
    | true => rw [if_pos rfl]; exact q1
    | false => rw [if_neg Bool.false_ne_true]; exact q1⟩
/-- x or y by truth, where x is a list or a tuple -/
def zOrL (K : PySem.W.Frag) (ta tb : TE) : TE := fun σ H Q => ta σ H fun x H1 => match x with | .ref p => ∃ xs, (SqL K H1 p xs ∨ SqT K H1 p xs) ∧ Two (xs = []) (tb σ H1 Q) (Q x H1) | _ => False
theorem zpe_orL (ha : PE X a ta) (hb : PE X (.BoolOp .Or (b :: rest) pos) tb) : PE X (.BoolOp .Or (a :: b :: rest) pos) (zOrL X.K ta tb) :=
  peM (pe_orT (PE.up ha) hb) fun σ H Q q => ⟨_, q, fun x H1 q1 => by
    cases x with
    | ref p =>
      obtain ⟨xs, hx, t⟩ := q1
      refine ⟨!xs.isEmpty, hx.elim (fun h => .inl ⟨xs, h, rfl⟩) (fun h => .inr (.inl ⟨xs, h, rfl⟩)), ?_⟩
      cases xs with
      | nil => rw [if_neg (by decide)]; exact t.1 rfl
      | cons y r => rw [if_pos (by rfl)]; exact t.2 (fun z => by cases z)
    | _ => exact (show False from q1).elim⟩
/-! ### statements -/
variable {st : Stmt} {body p q : List Stmt} {t u : TS}
def zIfS (c : TT) (t u : TS) : TS := fun D σ H => c σ H fun b H1 => match b with | true => t D σ H1 | false => u D σ H1
theorem zps_if {a b : List Stmt} (hc : PT X c tA) (ha : PSs X a t) (hb : PSs X b u) : PS X (.If c a b pos) (zIfS tA t u) := by
  refine ⟨fun pins s σ H D I h => ?_⟩
  refine (ps_if (PT.up hc) ha hb).run pins s σ H D I ⟨_, h, fun c H1 q1 => ?_⟩
  cases c with
  | true => rw [if_pos rfl]; exact q1
  | false => rw [if_neg Bool.false_ne_true]; exact q1
/-- while: an invariant with a measure; the test is asked at it -/
def zWhile (c : TT) (tb : TS) : TS := fun D σ H => ∃ Pv : Nat → L2.St → Hp → Prop, (∃ m, Pv m σ H) ∧ ∀ m σ H, Pv m σ H →
  c σ H fun b H1 => match b with | true => tb { D with nx := fun σ' H' => ∃ m', m' < m ∧ Pv m' σ' H', ct := fun σ' H' => ∃ m', m' < m ∧ Pv m' σ' H', bk := D.nx } σ H1 | false => D.nx σ H1
theorem zps_while {tb : TS} (hp : PassesOwn (model X.prog X.w) X.A X.env X.xe) (hc : PT X c tA) (hb : PSs X body tb) : PS X (.While c body [] pos) (zWhile tA tb) := by
  refine ⟨fun pins s σ H D I h => ?_⟩
  obtain ⟨Pv, h0, hs⟩ := h
  refine (ps_while hp (PT.up hc) hb).run pins s σ H D I ⟨Pv, h0, fun m σ H w => ⟨_, hs m σ H w, fun b H1 q => ?_⟩⟩
  cases b with
  | true => rw [if_pos rfl]; exact ⟨_, fun σ' H' z => z, q⟩
  | false => rw [if_neg Bool.false_ne_true]; exact q

/-! ### displays, subscripts -/
variable {es : List Expr} {t : TA}
def zTup (t : TA) : TE := fun σ H Q => t σ H fun xs H1 => xs.length ≤ 1000 ∧ New H1 (.tup xs) Q
def zLst (t : TA) : TE := fun σ H Q => t σ H fun xs H1 => xs.length ≤ 1000 ∧ New H1 (.lst xs) Q
theorem PA.up (h : PA X es t) : PA X es (fun σ H Q => ∃ Q0 : List V → Hp → Prop, t σ H Q0 ∧ ∀ b H, Q0 b H → Q b H) := ⟨fun pos pins s σ H Q I ⟨Q0, h0, m⟩ => thn (h.run pos pins s σ H Q0 I h0) fun v s1 ⟨x, H1, I1, r1, q1⟩ => ⟨x, H1, I1, r1, m _ _ q1⟩⟩
theorem ztup {x1} (h : PA X es t) : PE X (.Tuple es x1 pos) (zTup t) := peM (pe_tup (PA.up h)) fun σ H Q q => ⟨_, q, fun xs H1 q => ⟨Nat.le_of_lt (small1000 q.1), q.2.up⟩⟩
theorem zlst (h : PA X es t) : PE X (.List es pos) (zLst t) := peM (pe_lst (PA.up h)) fun σ H Q q => ⟨_, q, fun xs H1 q => ⟨Nat.le_of_lt (small1000 q.1), q.2.up⟩⟩
/-- xs[i] -/
def zIxL (K : PySem.W.Frag) : R2 := fun x y H Q => match x, y with | .ref p, .int i => ∃ xs v, SqL K H p xs ∧ atI xs i = some v ∧ Q v H | _, _ => False
def zIxT (K : PySem.W.Frag) : R2 := fun x y H Q => match x, y with | .ref p, .int i => ∃ xs v, SqT K H p xs ∧ atI xs i = some v ∧ Q v H | _, _ => False
def zIxS : R2 := fun x y H Q => match x, y with | .str z, .int i => ∃ c, z.length ≤ sizeLine ∧ atI z.cps.toList i = some c ∧ Q (.str ⟨#[c]⟩) H | _, _ => False
theorem zixL : IxR X (zIxL X.K) := ixM ix_list fun x y H Q q => by
  unfold zIxL at q
  split at q
  · obtain ⟨xs, v, h1, h2, q⟩ := q
    exact ⟨_, xs, _, v, rfl, rfl, h1, h2, q⟩
  · exact q.elim
theorem zixT : IxR X (zIxT X.K) := ixM ix_tup fun x y H Q q => by
  unfold zIxT at q
  split at q
  · obtain ⟨xs, v, h1, h2, q⟩ := q
    exact ⟨_, xs, _, v, rfl, rfl, h1, h2, q⟩
  · exact q.elim
theorem zixS : IxR X zIxS := ixM ix_str fun x y H Q q => by
  unfold zIxS at q
  split at q
  · obtain ⟨c, h1, h2, q⟩ := q
    exact ⟨_, _, c, rfl, rfl, h1, h2, q⟩
  · exact q.elim
/-- xs[i] = v -/
def zSetL : V → V → V → Hp → (Hp → Prop) → Prop := fun o i v H Q => match o, i with | .ref p, .int k => ∃ xs j, H p = some (.lst xs) ∧ ixN xs.length k = some j ∧ Wr H p (.lst (xs.set j v)) Q | _, _ => False
theorem zsetL : PSet X zSetL := setM set_list fun o i v H Q q => by
  unfold zSetL at q
  split at q
  · obtain ⟨xs, j, h1, h2, q⟩ := q
    exact ⟨_, xs, _, j, rfl, rfl, h1, h2, q.up h1⟩
  · exact q.elim
/-- slices of lists, texts -/
def zPart (t : TE) : TO := fun σ H Q => t σ H fun x H1 => match x with | .int i => Q (some i) H1 | _ => False
theorem zpo (h : PE X e ta) : PO X (some e) (zPart ta) := ⟨fun pins s σ H Q I q => (po_some (PE.up h)).run pins s σ H Q I ⟨_, q, fun x H1 q => by
    cases x with
    | int i => exact ⟨i, rfl, q⟩
    | _ => exact (show False from q).elim⟩⟩
def zSlL (K : PySem.W.Frag) : V → Option Int → Option Int → Hp → VK → Prop := fun x lo hi H Q => match x with | .ref a => ∃ xs, SqL K H a xs ∧ New H (.lst (cutV xs lo hi)) Q | _ => False
theorem zslL : SlR X (zSlL X.K) := slM sl_list fun x lo hi H Q q => by
  unfold zSlL at q
  split at q
  · obtain ⟨xs, h1, q⟩ := q
    exact ⟨_, xs, rfl, h1, q.up⟩
  · exact q.elim
/-- xs[::-1] -/
def zRevL (K : PySem.W.Frag) (te : TE) : TE := fun σ H Q => te σ H fun x H1 => match x with | .ref a => ∃ xs, SqL K H1 a xs ∧ New H1 (.lst xs.reverse) Q | _ => False
theorem zrevL {k : Nat} {p1 p2 p3 pos : Pos} (he : PE X e ta) : PE X (.Subscript e (.Slice none none (some (.UnaryOp .USub (.Constant (.int 1) k p1) p2)) p3) pos) (zRevL X.K ta) :=
  peM (pe_revL (PE.up he)) fun σ H Q q => ⟨_, q, fun x H1 q => by
    cases x with
    | ref a => obtain ⟨xs, h1, q⟩ := q; exact ⟨_, xs, rfl, h1, q.up⟩
    | _ => exact (show False from q).elim⟩
/-- xs + ys of lists -/
def zCat : R2 := fun x y H Q => match x, y with | .ref l, .ref b => ∃ xs zs, H l = some (.lst xs) ∧ H b = some (.lst zs) ∧ xs.length + zs.length ≤ sizeLine ∧ New H (.lst (xs ++ zs)) Q | _, _ => False
theorem zcat : OpR X (binaryOp .Add) zCat := opM op_cat fun x y H Q q => by
  unfold zCat at q
  split at q
  · obtain ⟨xs, zs, h1, h2, h3, q⟩ := q
    exact ⟨_, _, xs, zs, rfl, rfl, h1, h2, h3, q.up⟩
  · exact q.elim
/-- xs * k -/
def zRep : R2 := fun x y H Q => match x, y with | .ref l, .int k => ∃ xs, H l = some (.lst xs) ∧ 0 ≤ k ∧ k < 2 ^ 63 ∧ xs.length * k.toNat ≤ sizeLine ∧ New H (.lst (List.replicate k.toNat xs).flatten) Q | _, _ => False
theorem zrep : OpR X (binaryOp .Mult) zRep := opM op_rep fun x y H Q q => by
  unfold zRep at q
  split at q
  · obtain ⟨xs, h1, h2, h3, h4, q⟩ := q
    exact ⟨_, _, xs, rfl, rfl, h1, by omega, h3, h4, q.up⟩
  · exact q.elim
/-! ### calls of built-ins -/
def z1I (r : Int → Hp → VK → Prop) : List V → Hp → VK → Prop := fun xs H Q => match xs with | [.int i] => r i H Q | _ => False
def z2I (r : Int → Int → Hp → VK → Prop) : List V → Hp → VK → Prop := fun xs H Q => match xs with | [.int i, .int j] => r i j H Q | _ => False
theorem zabs : CallR X (.builtin "abs") (z1I fun i H Q => ∀ k : Int, (0 ≤ i → k = i) → (i < 0 → k = -i) → Q (.int k) H) := callM call_abs fun xs H Q q => by
  unfold z1I at q
  split at q
  · rename_i i
    refine ⟨i, rfl, q _ (fun h => ?_) (fun h => ?_)⟩
    · rw [if_neg (by omega)]
    · rw [if_pos h]
  · exact q.elim
theorem zmax2 (hc : X.calm = true) : CallR X (.builtin "max") (z2I fun i j H Q => Q (.int (max i j)) H) := callM (call_max2 hc) fun xs H Q q => by
  unfold z2I at q
  split at q
  · rename_i i j
    refine ⟨i, j, rfl, ?_⟩
    have e : (if j > i then j else i) = max i j := by split <;> omega
    rw [e]; exact q
  · exact q.elim
theorem zmin2 (hc : X.calm = true) : CallR X (.builtin "min") (z2I fun i j H Q => Q (.int (min i j)) H) := callM (call_min2 hc) fun xs H Q q => by
  unfold z2I at q
  split at q
  · rename_i i j
    refine ⟨i, j, rfl, ?_⟩
    have e : (if j < i then j else i) = min i j := by split <;> omega
    rw [e]; exact q
  · exact q.elim
theorem zint : CallR X (.type "int") (fun xs H Q => match xs with | [.int i] => Q (.int i) H | [.bl k] => Q (.int (match k with | true => 1 | false => 0)) H | _ => False) := callM call_int1 fun xs H Q q => by
  split at q
  · exact .inl ⟨_, rfl, q⟩
  · rename_i k
    refine .inr ⟨k, rfl, ?_⟩
    cases k <;> exact q
  · exact q.elim
theorem zlen : CallR X (.builtin "len") (fun xs H Q => match xs with
    | [.ref p] => ∃ ys, (SqL X.K H p ys ∨ SqT X.K H p ys) ∧ Q (.int ys.length) H
    | [.str z] => z.length ≤ sizeLine ∧ Q (.int z.length) H
    | _ => False) := callM call_len fun xs H Q q => by
  split at q
  · obtain ⟨ys, h, q⟩ := q
    exact ⟨_, ys.length, rfl, h.elim (fun h => .inl ⟨ys, h, rfl⟩) (fun h => .inr ⟨ys, h, rfl⟩), q⟩
  · exact ⟨_, _, rfl, ⟨q.1, rfl⟩, q.2⟩
  · exact q.elim
theorem zsum (hc : X.calm = true) : CallR X (.builtin "sum") (fun vs H Q => match vs with | [.ref a] => ∃ ns : List Int, SqL X.K H a (ns.map V.int) ∧ Q (.int ns.sum) H | _ => False) := callM (cr_sum hc) fun xs H Q q => by
  split at q
  · obtain ⟨ns, h, q⟩ := q
    exact ⟨_, ns, rfl, h, q⟩
  · exact q.elim
theorem ztuple : CallR X (.type "tuple") (fun vs H Q => match vs with | [.ref a] => ∃ ys, SqL X.K H a ys ∧ New H (.tup ys) Q | _ => False) := callM call_tuple_of fun xs H Q q => by
  split at q
  · obtain ⟨ys, h, q⟩ := q
    exact ⟨_, ys, rfl, .inl ⟨h, q.up⟩⟩
  · exact q.elim
theorem zlist : CallR X (.type "list") (fun vs H Q => match vs with | [.ref a] => ∃ ys, (SqL X.K H a ys ∨ SqT X.K H a ys) ∧ New H (.lst ys) Q | _ => False) := callM call_list_of fun xs H Q q => by
  split at q
  · obtain ⟨ys, h, q⟩ := q
    exact ⟨_, ys, rfl, h, q.up⟩
  · exact q.elim
theorem zdivmod : CallR X (.builtin "divmod") (z2I fun i j H Q => (0 < j ∧ j < 1073741824) ∧ New H (.tup [.int (i / j), .int (i % j)]) Q) := callM call_divmod fun xs H Q q => by
  unfold z2I at q
  split at q
  · exact ⟨_, _, rfl, q.1, q.2.up⟩
  · exact q.elim
/-- isinstance(x, T), T a built-in class -/
def tyOfV (H : Hp) : V → Option String
  | .non => some "NoneType" | .bl _ => some "bool" | .int _ => some "int" | .str _ => some "str"
  | .ref p => (match H p with | some (.lst _) => some "list" | some (.tup _) => some "tuple" | _ => none)
  | _ => none
theorem tyX_of {K : PySem.W.Frag} {H : Hp} {x : V} {n : String} (h : tyOfV H x = some n) : TyX K H x (.type n) := by
  cases x with
  | non => cases h; exact .base .non
  | bl b => cases h; exact .base (.bl b)
  | int i => cases h; exact .base (.int i)
  | str z => cases h; exact .base (.str z)
  | ref p =>
    have h' : (match H p with | some (.lst _) => some "list" | some (.tup _) => some "tuple" | _ => none) = some n := h
    split at h'
    · cases h'; exact .base (.lst (by assumption))
    · cases h'; exact .base (.tup (by assumption))
    · cases h'
  | _ => cases h
theorem zisi : CallR X (.builtin "isinstance") (fun vs H Q => match vs with | [x, .ty T] => ∃ n b, tyOfV H x = some n ∧ kitB n T = some b ∧ Q (.bl b) H | _ => False) := callM call_isi fun xs H Q q => by
  split at q
  · obtain ⟨n, b, h1, h2, q⟩ := q
    exact ⟨_, _, _, _, b, rfl, .ty _, tyX_of h1, kit_ty h2, q⟩
  · exact q.elim
/-- xs.append(y) -/
theorem zappend : MtR X "list.append" (fun x vs H Q => match x, vs with | .ref l, [y] => ∃ xs, H l = some (.lst xs) ∧ xs.length < sizeLine ∧ Wr H l (.lst (xs ++ [y])) (Q .non) | _, _ => False) := mtM mt_append fun x vs H Q q => by
  split at q
  · obtain ⟨xs, h1, h2, q⟩ := q
    exact ⟨_, xs, _, rfl, rfl, h1, h2, q.up h1⟩
  · exact q.elim
end
end Z

set_option Elab.async false
set_option linter.all false
set_option maxRecDepth 100000
/-! pairs that an iterator makes, one behind the other: a turn out of a walk over tuples -/
namespace Z
open PySem PySem.Spec PyProof.Rows L2
/-- an iterator of pairs: G what is known ahead of a turn of its two items, Y what is told of them, Z where it ends -/
def ItP (G Y : Nat → Hp → V → V → Prop) (Z : Nat → Hp → Prop) : It where
  go := fun i H => ∃ x y, G i H x y
  yld := fun i H v H' => ∃ T x y, v = .ref T ∧ H T = none ∧ H' = upd H T (.tup [x, y]) ∧ Y i H x y
  stop := Z
/-- a walk over pairs at the state of a turn -/
structure PairWalk (X : Cx) (it : Addr) (cells : List Addr) (tn : Nat → Heap → Prop) (s : Shared) (i : Nat) (ends : Bool) (rel : Value → Value → Prop) : Prop where
  some : ∃ (fp wr : List Addr) (n : Nat) (Pt : Nat → Array Value → Prop) (St : Nat → Heap → Prop) (Mid : Nat → Addr → Heap → Prop),
    WalksT X.prog X.w X.A it fp wr n Pt St Mid ∧ (∀ b ∈ wr, b ∈ cells) ∧ St i s.heap ∧ (if ends then n = i else i < n) ∧ (∀ vals, Pt i vals → ∃ u v, vals = #[u, v] ∧ rel u v) ∧ ∀ h, St (i + 1) h → tn (i + 1) h
theorem turn_pairs {P : Program} {w : World} {K : PySem.W.Frag} {elts : List Expr} {kk : Nat} {tpos : Pos} {G Y : Nat → Hp → V → V → Prop} {Z : Nat → Hp → Prop} {it : Addr} {cells : List Addr} {tn : Nat → Heap → Prop}
    (inC : it ∈ cells) (alive : ∀ i h, tn i h → ∀ b ∈ cells, ∃ o, h.get? b = some o ∧ ∀ v, o.data ≠ .cell v)
    (stays : ∀ i h h', tn i h → (∀ b ∈ cells, ∀ o, h.get? b = some o → h'.get? b = some o) → tn i h')
    (again : ∀ (A : Around) (i : Nat) (s : Shared) (Q : Value → Shared → Prop) (E : Value → Shared → Prop), tn i s.heap → Q (.ref it) s → wpAny (model P w) A (pyIter (.ref it)) Q E s)
    (walk : ∀ (X : Cx), X.prog = P → X.w = w → X.K = K → X.calm = true → ∀ (i : Nat) (pins : List (Addr × Obj)) (s : Shared) (σ : L2.St) (H : Hp), Inv X pins σ H s → tn i s.heap → ∀ x y, G i H x y → Y i H x y ∧ PairWalk X it cells tn s i false fun u v => RelV x u ∧ RelV y v)
    (halt : ∀ (X : Cx), X.prog = P → X.w = w → X.K = K → X.calm = true → ∀ (i : Nat) (pins : List (Addr × Obj)) (s : Shared) (σ : L2.St) (H : Hp), Inv X pins σ H s → tn i s.heap → Z i H → PairWalk X it cells tn s i true fun _ _ => True) :
    Turn P w K (.Tuple elts kk tpos) (ItP G Y Z) cells it tn where
  mem := inC
  obj := alive
  keep := stays
  self := again
  done := fun X e1 e2 e3 calm i pins s σ H E I free st z => by
    obtain ⟨fp, wr, n, Pt, St, Mid, W, sub, here, eq, _⟩ := (halt X e1 e2 e3 calm i pins s σ H I st z).some
    have eq' : n = i := eq
    cases e1; cases e2; cases eq'
    exact W.done s _ E here fun h2 tk old => ⟨rfl, Inv.turnedL I (fun b o nb g => old b o (fun m => nb (sub b m)) g) free⟩
  item := fun X e1 e2 e3 calm i pins s σ H E I free st ⟨x, y, g⟩ => by
    obtain ⟨told, pw⟩ := walk X e1 e2 e3 calm i pins s σ H I st x y g
    obtain ⟨fp, wr, n, Pt, St, Mid, W, sub, here, lt, vals2, next⟩ := pw.some
    have lt' : i < n := lt
    cases e1; cases e2
    refine W.item i s _ E lt' here fun T vals h1 t1 pt big isT mid old1 => ⟨_, rfl, ?_⟩
    obtain ⟨u, v, rfl, ru, rv⟩ := vals2 vals pt
    refine W.go elts kk tpos i T ⟨h1, s.gens, s.drawn, t1, s.os⟩ _ E mid fun h2 st2 old2 => ?_
    have isT2 : h2.IsTuple T #[u, v] := isT.at fun o q => old2 T o (W.apart i T h1 mid) q
    have pair : ObjOk X.prog X.w (upd H T (.tup [x, y])) h2 T (.tup [x, y]) := ⟨(by decide : 2 ≤ sizeLine), [u, v], .cons ru (.cons rv .nil), isT2⟩
    have far : ∀ b ∈ cells, b ≠ T := fun b m => by
      obtain ⟨o, q, _⟩ := alive i _ st b m
      exact Nat.ne_of_lt (Nat.lt_of_lt_of_le (Heap.lt_size q) big)
    have held : ∀ b o, b ∉ cells → s.heap.get? b = some o → h2.get? b = some o := fun b o nb q => old2 b o (fun m => nb (sub b m)) (old1 b o (fun m => nb (sub b m)) q)
    have after : Inv X pins σ (upd H T (.tup [x, y])) { s with heap := h2, toks := t1 } := Inv.turnedNew I held free big pair
    exact ⟨.ref T, _, after, rfl, ⟨T, x, y, rfl, I.hok.fresh big, rfl, told⟩, next h2 st2, fun b m => by rw [upd_ne (far b m)]; exact (free b m).1⟩
/-! ### enumerate, out of whatever its items are drawn from -/
section
variable {P : Program} {w : World} {K : PySem.W.Frag} {elts : List Expr} {kk : Nat} {tpos : Pos} {e it : Addr}
/-- the enumerate at e of the iterator at it, whose own state is Src -/
def Numbered (e it : Addr) (Src : Nat → Heap → Prop) (i : Nat) (h : Heap) : Prop := (∃ old, IsEnum h e it ((i : Nat) : Int) old) ∧ Src i h
theorem turn_numbered {G Y : Nat → Hp → V → V → Prop} {Z : Nat → Hp → Prop} {Src : Nat → Heap → Prop} (apart : e ≠ it) (cell : ∀ i h, Src i h → ∃ o vs, h.get? it = some o ∧ o.data = .fields vs)
    (still : ∀ i h h', Src i h → (∀ o, h.get? it = some o → h'.get? it = some o) → Src i h')
    (draws : ∀ (X : Cx), X.prog = P → X.w = w → X.K = K → X.calm = true → ∀ (i : Nat) (pins : List (Addr × Obj)) (s : Shared) (σ : L2.St) (H : Hp), Inv X pins σ H s → (∃ old, IsEnum s.heap e it ((i : Nat) : Int) old) → Src i s.heap →
      (∀ x y, G i H x y → Y i H x y ∧ ∃ (fp : List Addr) (n : Nat) (D : Nat → Value → Prop) (St : Nat → Heap → Prop), Draws X.prog X.w X.A.in1 it fp n D St ∧ e ∉ fp ∧ it ∈ fp ∧ St i s.heap ∧ i < n ∧ (∀ v, D i v → RelV y v) ∧ x = .int (i : Nat) ∧ ∀ h, St (i + 1) h → Src (i + 1) h) ∧
      (Z i H → ∃ (fp : List Addr) (D : Nat → Value → Prop) (St : Nat → Heap → Prop), Draws X.prog X.w X.A.in1 it fp i D St ∧ e ∉ fp ∧ it ∈ fp ∧ St i s.heap ∧ ∀ h, St (i + 1) h → Src (i + 1) h)) :
    Turn P w K (.Tuple elts kk tpos) (ItP G Y Z) [e, it] e (Numbered e it Src) := by
  refine turn_pairs (.head _) ?_ ?_ ?_ ?_ ?_
  · rintro i h ⟨⟨old, at1⟩, st⟩ c m
    obtain ⟨o, vs, g, dv⟩ := cell i h st
    simp at m
    rcases m with rfl | rfl
    · exact ⟨_, at1, nofun⟩
    · exact ⟨o, g, fun v => by simp [dv]⟩
  · rintro i h h2 ⟨⟨old, at1⟩, st⟩ same
    exact ⟨⟨old, same _ (by simp) _ at1⟩, still i h h2 st (same _ (by simp))⟩
  · rintro A i s Q E ⟨⟨_, at1⟩, _⟩ q
    exact wpAny_pyIter_enum at1 q
  · rintro X e1 e2 e3 calm i pins s σ H I ⟨at1, st⟩ x y g
    obtain ⟨told, fp, n, D, St, dr, out, inn, here, lt, rel, rfl, next⟩ := (draws X e1 e2 e3 calm i pins s σ H I at1 st).1 x y g
    refine ⟨told, ⟨_, _, _, _, _, _, WalksT.enumerateD dr e apart out inn, fun _ m => m, ⟨at1, here⟩, lt, ?_, fun h st2 => ⟨st2.1, next h st2.2⟩⟩⟩
    rintro vals ⟨t, v, dv, rfl⟩
    exact ⟨_, v, rfl, ⟨t, rfl⟩, rel v dv⟩
  · rintro X e1 e2 e3 calm i pins s σ H I ⟨at1, st⟩ z
    obtain ⟨fp, D, St, dr, out, inn, here, next⟩ := (draws X e1 e2 e3 calm i pins s σ H I at1 st).2 z
    refine ⟨_, _, _, _, _, _, WalksT.enumerateD dr e apart out inn, fun _ m => m, ⟨at1, here⟩, rfl, ?_, fun h st2 => ⟨st2.1, next h st2.2⟩⟩
    rintro vals ⟨t, v, _, rfl⟩
    exact ⟨_, v, rfl, trivial⟩
/-- the two cells of a new enumerate are ours -/
theorem numbered_new {X : Cx} {pins : List (Addr × Obj)} {σ : L2.St} {H : Hp} {s : Shared} (I : Inv X pins σ H s) : ∀ c ∈ [s.heap.objs.size + 1, s.heap.objs.size], FpOk X pins H c := fun c m => by
  have big : s.heap.objs.size ≤ c := by
    simp at m
    rcases m with rfl | rfl <;> first | exact Nat.le_refl _ | exact Nat.le_add_right _ _
  exact Inv.fpOk I big (HOk.fresh I.hok big)
end
end Z

set_option Elab.async false
set_option linter.all false
set_option maxRecDepth 100000
namespace Z
open PySem PySem.Spec PyProof.Rows L2

/-! ### enumerate(text) -/
def IteS (z : Str) : It :=
  ItP (fun i _ x y => ∃ c, z.cps[i]? = some c ∧ x = .int (i : Nat) ∧ y = .str ⟨#[c]⟩) (fun i _ x y => ∃ c, z.cps[i]? = some c ∧ x = .int (i : Nat) ∧ y = .str ⟨#[c]⟩) (fun i _ => i = z.cps.size)
theorem draws_str {P : Program} {w : World} {A : Around} (hh : A.handled = none) (it : Addr) (x : Str) (t : Tok) : Draws P w A it [it] x.cps.size (SignAt x) (fun i h => h.IsStrIter it (strIterType x) x t i) := by
  cases ha : x.cps.all (· < 128)
  · have e : strIterType x = "str_iterator" := by simp [strIterType, ha]
    rw [e]; exact Draws.strWide hh it x t
  · have e : strIterType x = "str_ascii_iterator" := by simp [strIterType, ha]
    rw [e]; exact Draws.strAscii hh it x t
theorem turn_enumS {P : Program} {w : World} {K : PySem.W.Frag} {elts : List Expr} {kk : Nat} {tpos : Pos} (x : Str) (t : Tok) {e it : Addr} (ne : e ≠ it) :
    Turn P w K (.Tuple elts kk tpos) (IteS x) [e, it] e (Numbered e it fun i h => h.IsStrIter it (strIterType x) x t i) := by
  refine turn_numbered ne (fun i h ⟨o, g, _, dv⟩ => ⟨o, _, g, dv⟩) (fun i h h2 ⟨o, g, r⟩ same => ⟨o, same o g, r⟩) ?_
  intro X _ _ _ calm i pins s σ H I _ st
  have dr := draws_str (P := X.prog) (w := X.w) (A := X.A.in1) (I.ok.hd calm) it x t
  have out : e ∉ [it] := fun m => ne (List.mem_singleton.mp m)
  refine ⟨?_, ?_⟩
  · rintro a b ⟨c, g, rfl, rfl⟩
    have lt := (Array.getElem?_eq_some_iff.mp g).1
    refine ⟨⟨c, g, rfl, rfl⟩, _, _, _, _, dr, out, .head _, st, lt, ?_, rfl, fun _ z => z⟩
    rintro v ⟨c2, u, g2, rfl⟩
    cases g.symm.trans g2
    exact ⟨u, rfl⟩
  · rintro rfl
    exact ⟨_, _, _, dr, out, .head _, st, fun _ z => z⟩
def iEnumS (ta : TA) : TI := fun σ H R => ta σ H fun vs H1 => match vs with | [.str z] => R (IteS z) H1 | _ => False
theorem zpi_enumS {X : Cx} {e : Expr} {ta : TA} {p pos tpos : Pos} {elts : List Expr} {kk : Nat} (hg : Gl X "enumerate") (hm : X.mg "enumerate" = none) (ha : PA X [e] ta) (hs : starEach [e] X.env = [(false, eval e X.env)] := by rfl) :
    PI X (.Tuple elts kk tpos) (.Call (.Name "enumerate" p) [e] [] pos) (iEnumS ta) := by
  refine ⟨fun pins s σ H R I h => ?_⟩
  refine Call_ (ld_blt I hg hm boot_enumerate (PyProof.Rows.callWith_type1 (thn (ha.run pos pins s σ H _ I h) fun us s1 ⟨vs, H1, I1, r1, q1⟩ => ?_) hs rfl))
  dsimp only at q1
  split at q1
  · rename_i z
    cases r1 with
    | cons r rr =>
      cases rr
      obtain ⟨t, rfl⟩ := r
      refine call_enumerate_str fun h' he hit hsz hk => wpAny_pyIter_enum he ?_
      exact ⟨_, _, _, _, H1, rfl, Inv.kept (t' := s1.toks) I1 hk, turn_enumS z t (Nat.succ_ne_self _), ⟨⟨.none, he⟩, hit⟩, numbered_new I1, q1⟩
  · exact q1.elim
theorem walk_enumS {z : Str} : Walk (IteS z) z.cps.size (fun _ => True) (fun i H v H' => ∃ T c, v = .ref T ∧ H T = none ∧ H' = upd H T (.tup [.int (i : Nat), .str ⟨#[c]⟩]) ∧ z.cps[i]? = some c) := by
  refine ⟨fun i _ lt _ => ⟨_, _, z.cps[i], by simp [lt], rfl, rfl⟩, fun _ _ => rfl, ?_⟩
  rintro i H v H' _ _ ⟨T, x, y, e, f, g, c, gc, rfl, rfl⟩
  exact ⟨T, c, e, f, g, gc⟩

/-! ### defs of the text -/
structure Cal (P : Program) (w : World) (K : PySem.W.Frag) (mg : Str → Option Value) (base : Heap) (k : Nat) (x : Str) (ps : List Str) (sp : Sp) : Prop where
  ex : ∃ (f : Addr) (fd : FuncData), FnOk P w K mg base CX0 k f fd ps sp ∧ Binds K fd ps [] ∧ PySem.W.keepIn K (.ref f) = true ∧ mg x = some (.ref f)
structure DefAt (K : PySem.W.Frag) (mg : Str → Option Value) (x : Str) (st : Stmt) (ps : List Str) : Prop where
  ex : ∃ (f : Addr) (fd : FuncData), Fun K x x st f fd ∧ Binds K fd ps [] ∧ mg x = some (.ref f)
section
variable {P : Program} {w : World} {K : PySem.W.Frag} {mg : Str → Option Value} {base : Heap}
theorem Cal.mono {j k : Nat} {x : Str} {ps : List Str} {sp : Sp} (c : Cal P w K mg base j x ps sp) (h : j ≤ k) : Cal P w K mg base k x ps sp := by
  obtain ⟨f, fd, F, r⟩ := c
  exact ⟨f, fd, F.mono h, r⟩
theorem mkCal {x : Str} {st : Stmt} {N ps : List Str} {k : Nat} {sp : Sp} (D : DefAt K mg x st ps) (S : FnScope N ps (defScope st)) (len : ∀ vs H Q E, sp vs H Q E → vs.length = ps.length)
    (hbody : ∀ (f : Addr) (cdv : Value) (A : Around) (outer : List Env) (s : Shared) (H : Hp) (vs : List V) (Q : VK) (E : XK), Room k (A.deeper (envOfC x (defScope st) s.heap.objs.size f cdv)) → sp vs H Q E →
      ∃ t, PSs (cxOf CX0 P w K mg base N x (defScope st) f cdv A outer s H E).nox (defBody st) t ∧ t { nx := fun _ H' => Q .non H', rt := Q } (start N vs) H) : Cal P w K mg base (k + 1) x ps sp := by
  obtain ⟨f, fd, F, b, m⟩ := D
  exact ⟨f, fd, F.ok S len (hbody f), b, F.kp, m⟩
variable {X : Cx}
theorem zcall {k : Nat} {x : Str} {ps : List Str} {sp : Sp} {e : Expr} {es : List Expr} {t : TA} {pos p : Pos} (C : Cal X.prog X.w X.K X.mg X.base k x ps sp) (hr : Room k X.A) (hg : Gl X x) (ha : PA X (e :: es) t)
    (hdb : (x == ("__debug__" : Str)) = false := by decide) (he : starEach (e :: es) X.env = (false, eval e X.env) :: starEach es X.env := by rfl) (hp : (backTo pos (starEach es X.env)).any (·.1) = false := by rfl) :
    PE X (.Call (.Name x p) (e :: es) [] pos) (tCall sp [] E0 t) := by
  obtain ⟨f, fd, F, b, hk, m⟩ := C
  exact pe_call F hr hg m hk b .nil pass0 ha hdb he hp
theorem zcall0 {k : Nat} {x : Str} {ps : List Str} {sp : Sp} {pos p : Pos} (C : Cal X.prog X.w X.K X.mg X.base k x ps sp) (hr : Room k X.A) (hg : Gl X x) (hdb : (x == ("__debug__" : Str)) = false := by decide) :
    PE X (.Call (.Name x p) [] [] pos) (tCall sp [] E0 tNil) := by
  obtain ⟨f, fd, F, b, hk, m⟩ := C
  exact pe_call0 F hr hg m hk b .nil pass0 hdb
end
/-! ### isinstance(e, T) -/
section
variable {X : Cx} {e : Expr} {te : TE} {p p2 pos : Pos}
def zIsK (ki kb ks kn kl kt : Bool) (te : TE) : TE := fun σ H Q => te σ H fun x H1 => match x with
  | .int _ => Q (.bl ki) H1 | .bl _ => Q (.bl kb) H1 | .str _ => Q (.bl ks) H1 | .non => Q (.bl kn) H1
  | .ref p => ∃ xs, (H1 p = some (.lst xs) ∧ Q (.bl kl) H1) ∨ (H1 p = some (.tup xs) ∧ Q (.bl kt) H1)
  | _ => False
def KisT (T : String) (ki kb ks kn kl kt : Bool) : Prop := kitB "int" T = some ki ∧ kitB "bool" T = some kb ∧ kitB "str" T = some ks ∧ kitB "NoneType" T = some kn ∧ kitB "list" T = some kl ∧ kitB "tuple" T = some kt
theorem k_int : KisT "int" true true false false false false := ⟨by decide +kernel, by decide +kernel, by decide +kernel, by decide +kernel, by decide +kernel, by decide +kernel⟩
theorem k_bool : KisT "bool" false true false false false false := ⟨by decide +kernel, by decide +kernel, by decide +kernel, by decide +kernel, by decide +kernel, by decide +kernel⟩
theorem k_str : KisT "str" false false true false false false := ⟨by decide +kernel, by decide +kernel, by decide +kernel, by decide +kernel, by decide +kernel, by decide +kernel⟩
theorem k_list : KisT "list" false false false false true false := ⟨by decide +kernel, by decide +kernel, by decide +kernel, by decide +kernel, by decide +kernel, by decide +kernel⟩
theorem k_tuple : KisT "tuple" false false false false false true := ⟨by decide +kernel, by decide +kernel, by decide +kernel, by decide +kernel, by decide +kernel, by decide +kernel⟩
theorem zpis {T : String} {x : Str} {ki kb ks kn kl kt : Bool} (k : KisT T ki kb ks kn kl kt) (hg : Gl X "isinstance") (hm : X.mg "isinstance" = none) (hg2 : Gl X x) (hm2 : X.mg x = none) (hv : bootBuiltins x = some (.type T)) (he : PE X e te)
    (hn : x ≠ "__name__" := by decide) (hdb : (x == ("__debug__" : Str)) = false := by decide)
    (h1 : starEach [e, .Name x p2] X.env = (false, eval e X.env) :: starEach [.Name x p2] X.env := by rfl) (h2 : starEach [.Name x p2] X.env = (false, eval (.Name x p2) X.env) :: starEach [] X.env := by rfl)
    (h3 : (backTo pos (starEach [.Name x p2] X.env)).any (·.1) = false := by rfl) :
    PE X (.Call (.Name "isinstance" p) [e, .Name x p2] [] pos) (zIsK ki kb ks kn kl kt te) := by
  obtain ⟨k1, k2, k3, k4, k5, k6⟩ := k
  refine peM (pe_callB call_isi hg hm (by decide +kernel) (pa_cons (PE.up he) (pa_cons (pe_bltn hg2 hm2 hv (v := .ty T) rfl hn hdb) pa_nil h2) h1) (by decide) (by decide) h1 h3) fun σ H Q q => ?_
  refine ⟨_, q, fun x H1 q1 => ?_⟩
  cases x with
  | int i => exact ⟨_, _, _, _, _, rfl, .ty _, .base (.int i), kit_ty k1, q1⟩
  | bl i => exact ⟨_, _, _, _, _, rfl, .ty _, .base (.bl i), kit_ty k2, q1⟩
  | str i => exact ⟨_, _, _, _, _, rfl, .ty _, .base (.str i), kit_ty k3, q1⟩
  | non => exact ⟨_, _, _, _, _, rfl, .ty _, .base .non, kit_ty k4, q1⟩
  | ref a =>
    obtain ⟨xs, ⟨h, q⟩ | ⟨h, q⟩⟩ := q1
    · exact ⟨_, _, _, _, _, rfl, .ty _, .base (.lst h), kit_ty k5, q⟩
    · exact ⟨_, _, _, _, _, rfl, .ty _, .base (.tup h), kit_ty k6, q⟩
  | _ => exact (show False from q1).elim
end
/-! ### text methods -/
section
variable {X : Cx}
theorem zfind : MtR X "str.find" (fun x xs H Q => match x, xs with | .str a, [.str b] => Q (.int (Txt.find a b)) H | _, _ => False) := mtM mt_find fun x xs H Q q => by
  split at q
  · exact ⟨_, _, rfl, rfl, q⟩
  · exact q.elim
theorem hu64 {A : Around} {k : Nat} (hr : Room k A) : A.units + 64 < cLine := by have := hr.un; omega
end
end Z

namespace Z
open PySem PySem.Spec PyProof.Rows L2
section
variable {X : Cx} {st : Stmt} {rest : List Stmt} {t u : TS}
/-- two statements, what holds between them told -/
def zCut (t u : TS) : TS := fun D σ H => ∃ Mid : L2.St → Hp → Prop, t { D with nx := Mid } σ H ∧ ∀ σ' H', Mid σ' H' → u D σ' H'
theorem pss_zcut (h1 : PS X st t) (h2 : PSs X rest u) : PSs X (st :: rest) (zCut t u) := by
  refine ⟨fun pins s σ H D I h => ?_⟩
  obtain ⟨Mid, h, m⟩ := h
  refine wpAny_execs_cons (thn (h1.run pins s σ H { D with nx := Mid } I h) fun f s1 q => ?_)
  cases f with
  | next =>
    obtain ⟨σ', H', I', q⟩ := q
    exact h2.run pins s1 σ' H' D I' (m _ _ q)
  | ret v => exact q
  | brk => exact q
  | cont => exact q
end
theorem Keep.seq {K : PySem.W.Frag} {d a : Addr} {H H' : Hp} {xs : List V} (S : Keep d H H') (ne : a ≠ d) (h : SqL K H a xs) : SqL K H' a xs := by
  rcases h with (h | ⟨o, h⟩) | h
  · exact .inl (.inl (S _ _ ne h))
  · exact .inl (.inr ⟨o, S _ _ ne h⟩)
  · exact .inr h
end Z

set_option Elab.async false
set_option linter.all false
set_option maxRecDepth 100000
namespace Z
open PySem PySem.Spec PyProof.Rows L2
def repS (z : Str) (n : Nat) : Str := ⟨(List.replicate n z.cps).foldl (· ++ ·) #[]⟩
theorem repS_one (z : Str) : repS z 1 = z := by
  cases z with
  | mk c => show (⟨#[] ++ c⟩ : Str) = ⟨c⟩; simp
theorem repS_nil {z : Str} (h : z.length = 0) : ∀ n, repS z n = z := by
  have e : z.cps = #[] := Array.eq_empty_of_size_eq_zero h
  have g : ∀ n, (List.replicate n z.cps).foldl (· ++ ·) #[] = (#[] : Array Nat) := by
    intro n
    induction n with
    | zero => rfl
    | succ n ih => rw [List.replicate_succ, List.foldl_cons, e] at *; simpa using ih
  intro n
  unfold repS
  rw [g n]
  cases z with
  | mk c => have e' : c = #[] := e
            rw [e']
theorem foldl_len : ∀ (l : List (Array Nat)) (acc : Array Nat), (l.foldl (· ++ ·) acc).size = acc.size + (l.map Array.size).sum
  | [], acc => by simp
  | a :: r, acc => by rw [List.foldl_cons, foldl_len r, Array.size_append, List.map_cons, List.sum_cons]; omega
theorem repS_len (z : Str) (n : Nat) : (repS z n).length = n * z.length := by
  unfold repS
  show ((List.replicate n z.cps).foldl (· ++ ·) #[]).size = _
  rw [foldl_len, List.map_replicate]
  have : (List.replicate n z.cps.size).sum = n * z.cps.size := by
    induction n with
    | zero => simp
    | succ n ih => rw [List.replicate_succ, List.sum_cons, ih, Nat.succ_mul]; omega
  rw [this]; show 0 + _ = _; rw [Nat.zero_add]; rfl
section
variable {X : Cx}
theorem zmulS : OpR X (binaryOp .Mult) (fun x y H Q => match x, y with | .str z, .int k => (0 ≤ k ∧ k ≤ 1000 ∧ z.length ≤ 10000) ∧ Q (.str (repS z k.toNat)) H | _, _ => False) := by
  intro pins s σ H x y v u Q I rx ry h
  split at h
  · rename_i z k
    obtain ⟨⟨h0, h1, h2⟩, q⟩ := h
    obtain ⟨t, rfl⟩ := rx
    obtain ⟨t', rfl⟩ := ry
    have e63 : sizeLine = 16777216 := sizeLine_eq
    have hm : z.length * k.toNat ≤ 10000 * 1000 := Nat.mul_le_mul h2 (by omega)
    refine PySem.P.mul_str ?_ (fun a b => ?_) (fun a b => ?_) ?_
    · rw [decide_eq_false (by omega), decide_eq_false (by omega)]; rfl
    · have hk : (2 ^ 63 - 1 : Int) / k ≥ (2 ^ 63 - 1 : Int) / 1000 := by
        refine Int.le_ediv_of_mul_le (by omega) ?_
        have : (2 ^ 63 - 1 : Int) / 1000 * 1000 ≤ 2 ^ 63 - 1 := by decide
        have h3 : (2 ^ 63 - 1 : Int) / 1000 * k ≤ (2 ^ 63 - 1 : Int) / 1000 * 1000 := Int.mul_le_mul_of_nonneg_left h1 (by decide)
        omega
      have : (2 ^ 63 - 1 : Int) / 1000 ≥ 10000 := by decide
      omega
    · unfold Builtin.Str.tooLong
      simp only [decide_eq_false_iff_not]
      omega
    · by_cases c : k < 1
      · rw [if_pos c]
        have e : k = 0 := by omega
        subst e
        exact ⟨by decide, .str (repS z 0), H, I.tok _, ⟨_, rfl⟩, q⟩
      · rw [if_neg c]
        by_cases c1 : (k == 1 || z.length == 0) = true
        · rw [if_pos c1]
          have e : repS z k.toNat = z := by
            rcases (Bool.or_eq_true _ _).mp c1 with e | e
            · have e' : k = 1 := by simpa using e
              subst e'; exact repS_one z
            · exact repS_nil (by simpa using e) _
          rw [e] at q
          exact ⟨.str z, H, I, ⟨_, rfl⟩, q⟩
        · rw [if_neg c1]
          refine ⟨?_, .str (repS z k.toNat), H, I.tok _, ⟨_, rfl⟩, q⟩
          have := repS_len z k.toNat
          show (repS z k.toNat).length ≤ sizeLine
          rw [this, Nat.mul_comm]; omega
  · exact h.elim
end
end Z

set_option Elab.async false
set_option linter.all false
set_option maxRecDepth 100000
namespace Z
open PySem PySem.Spec PyProof.Rows L2

/-! ### sum(tuple of ints) -/
theorem preSum_getD (ns : List Int) : ∀ k, preSum (fun i => ns.getD i 0) k = (ns.take k).sum
  | 0 => by simp [preSum]
  | k + 1 => by
    rw [preSum, preSum_getD ns k, List.take_add_one]
    cases h : ns[k]? with
    | none => simp [List.getD, h]
    | some v => simp [List.getD, h, List.sum_append]
section
variable {X : Cx}
theorem zsumT (hc : X.calm = true) : CallR X (.builtin "sum") (fun vs H Q => match vs with | [.ref a] => ∃ ns : List Int, SqT X.K H a (ns.map V.int) ∧ Q (.int ns.sum) H | _ => False) := by
  intro pins s σ H vs us Q I r h
  split at h
  · rename_i a
    obtain ⟨ns, hs, q⟩ := h
    obtain ⟨its, rv, ht, hz⟩ := I.tuple hs
    have hl : its.length = ns.length := by rw [← rv.length, List.length_map]
    have eu : us = [.ref a] := by
      cases r with
      | cons r rr => cases rr; cases r; rfl
    subst eu
    have hT : s.heap.IsTuple a its.toArray := ht
    refine call_sum_walkG (wpAny_pyIter_tuple hT ?_)
    have ne : a ≠ s.heap.objs.size := by
      obtain ⟨o, ho, _⟩ := ht
      exact Nat.ne_of_lt (Heap.lt_size ho)
    have hT2 : (s.heap.push { cls := .type "tuple_iterator", data := .fields #[.ref a, .int 0 0] }).IsTuple a its.toArray := by
      obtain ⟨o, ho, hr⟩ := hT
      exact ⟨o, Heap.get?_push_of_some _ ho, hr⟩
    refine ⟨_, _, _, _, _, _, fun i => ns.getD i 0, rfl, Walks.tuple (A := X.A.in1) (I.ok.hd hc) s.heap.objs.size a ne its.toArray, ⟨⟨_, Heap.get?_push_size _ rfl, rfl, rfl⟩, hT2⟩, fun b hb => ?_, fun i v hv => ?_, fun h' tk t' hk => ?_⟩
    · rw [Heap.size_push]
      rcases List.mem_cons.mp hb with e | e
      · rw [e]; exact Nat.lt_succ_self _
      · rw [List.mem_singleton.mp e]
        obtain ⟨o, ho, _⟩ := ht
        exact Nat.lt_succ_of_lt (Heap.lt_size ho)
    · have hi : i < (ns.map V.int).length := by
        rw [rv.length]
        have := (Array.getElem?_eq_some_iff.mp hv).1
        simpa using this
      obtain ⟨u, hu, ru⟩ := rv.get (List.getElem?_eq_getElem hi)
      rw [List.getElem_map] at ru
      obtain ⟨t, e⟩ := ru
      have hv' : its[i]? = some v := by simpa using hv
      rw [hu] at hv'
      cases hv'
      rw [List.length_map] at hi
      exact ⟨t, by rw [e]; simp [List.getD, List.getElem?_eq_getElem hi]⟩
    · have e : preSum (fun i => ns.getD i 0) its.toArray.size = ns.sum := by
        rw [preSum_getD, List.size_toArray, hl, List.take_length]
      rw [e]
      refine ⟨.int ns.sum, H, I.kept fun b o e => ?_, ⟨_, rfl⟩, q⟩
      refine hk b o (fun hb => ?_) (Heap.get?_push_of_some _ e)
      rw [List.mem_singleton.mp hb] at e
      exact absurd (Heap.lt_size e) (Nat.lt_irrefl _)
  · exact h.elim

/-! ### == of two lists, two tuples of ints -/
theorem eqvAll_ints : ∀ ns ms : List Int, PyData.eqvAll (ns.map PyData.int) (ms.map PyData.int) = decide (ns = ms)
  | [], [] => by decide
  | [], _ :: _ => rfl
  | _ :: _, [] => rfl
  | n :: ns, m :: ms => by
    show (PyData.eqv (.int n) (.int m) && PyData.eqvAll (ns.map PyData.int) (ms.map PyData.int)) = _
    rw [eqvAll_ints ns ms]
    show ((n == m) && decide (ns = ms)) = decide (n :: ns = m :: ms)
    by_cases h : n = m
    · subst h; simp
    · simp [h]
theorem canLay_ints : ∀ ns : List Int, PyData.canLayAll0 (ns.map PyData.int) = true
  | [] => rfl
  | n :: ns => by
    show (PyData.canLay0 (.int n) && PyData.canLayAll0 (ns.map PyData.int)) = true
    rw [canLay_ints ns]; rfl
theorem depth_ints : ∀ ns : List Int, PyData.depthAll (ns.map PyData.int) = 0
  | [] => rfl
  | n :: ns => by
    show max (PyData.depth (.int n)) (PyData.depthAll (ns.map PyData.int)) = 0
    rw [depth_ints ns]; rfl
theorem shaped_lst (ns : List Int) : SeqAt.shaped (.list (ns.map PyData.int)) = true := by
  unfold SeqAt.shaped
  have e1 : PyData.canLay0 (.list (ns.map PyData.int)) = true := canLay_ints ns
  have e2 : PyData.depth (.list (ns.map PyData.int)) = 1 := by show PyData.depthAll _ + 1 = 1; rw [depth_ints]
  rw [e1, e2]; rfl
theorem shaped_tup (ns : List Int) : SeqAt.shaped (.tuple (ns.map PyData.int)) = true := by
  unfold SeqAt.shaped
  have e1 : PyData.canLay0 (.tuple (ns.map PyData.int)) = true := canLay_ints ns
  have e2 : PyData.depth (.tuple (ns.map PyData.int)) = 1 := by show PyData.depthAll _ + 1 = 1; rw [depth_ints]
  rw [e1, e2]; rfl
theorem dpAll_ints {K : PySem.W.Frag} {H : Hp} : ∀ ns : List Int, DpAll K H (ns.map V.int) (ns.map PyData.int)
  | [] => .nil
  | n :: ns => .cons (.int n) (dpAll_ints ns)
def zEqIs (K : PySem.W.Frag) (a b : Bool) : R2 := fun x y H Q => match x, y with
  | .ref p, .ref r => ∃ ns ms : List Int, ((SqL K H p (ns.map V.int) ∧ SqL K H r (ms.map V.int)) ∨ (SqT K H p (ns.map V.int) ∧ SqT K H r (ms.map V.int))) ∧ Two (ns = ms) (Q (.bl a) H) (Q (.bl b) H)
  | _, _ => False
theorem zeqIs (hu : X.A.units + 64 < cLine) : OpR X (compareOp .Eq) (zEqIs X.K true false) := opM (op_eqD hu) fun x y H Q q => by
  unfold zEqIs at q
  split at q
  · obtain ⟨ns, ms, h, t⟩ := q
    rcases h with ⟨h1, h2⟩ | ⟨h1, h2⟩
    · refine ⟨_, _, .lst h1 (dpAll_ints ns), .lst h2 (dpAll_ints ms), shaped_lst ns, shaped_lst ms, ?_⟩
      show Q (.bl (PyData.eqvAll _ _)) H
      rw [eqvAll_ints]
      exact Two.dec (A := fun b => Q (.bl b) H) t
    · refine ⟨_, _, .tup h1 (dpAll_ints ns), .tup h2 (dpAll_ints ms), shaped_tup ns, shaped_tup ms, ?_⟩
      show Q (.bl (PyData.eqvAll _ _)) H
      rw [eqvAll_ints]
      exact Two.dec (A := fun b => Q (.bl b) H) t
  · exact q.elim
theorem zneIs (hu : X.A.units + 64 < cLine) : OpR X (compareOp .NotEq) (zEqIs X.K false true) := opM (op_neD hu) fun x y H Q q => by
  unfold zEqIs at q
  split at q
  · obtain ⟨ns, ms, h, t⟩ := q
    rcases h with ⟨h1, h2⟩ | ⟨h1, h2⟩
    · refine ⟨_, _, .lst h1 (dpAll_ints ns), .lst h2 (dpAll_ints ms), shaped_lst ns, shaped_lst ms, ?_⟩
      show Q (.bl (!PyData.eqvAll _ _)) H
      rw [eqvAll_ints]
      exact Two.dec (A := fun b => Q (.bl (!b)) H) t
    · refine ⟨_, _, .tup h1 (dpAll_ints ns), .tup h2 (dpAll_ints ms), shaped_tup ns, shaped_tup ms, ?_⟩
      show Q (.bl (!PyData.eqvAll _ _)) H
      rw [eqvAll_ints]
      exact Two.dec (A := fun b => Q (.bl (!b)) H) t
  · exact q.elim
end

/-! ### enumerate(tuple) -/
def IteT (K : PySem.W.Frag) (a : Addr) : It :=
  ItP (fun i H x y => ∃ xs : List V, SqT K H a xs ∧ xs[i]? = some y ∧ x = .int (i : Nat)) (fun i H x y => x = .int (i : Nat) ∧ ∀ xs : List V, SqT K H a xs → xs[i]? = some y) (fun i H => ∃ xs : List V, SqT K H a xs ∧ xs.length = i)
theorem turn_enumT {P : Program} {w : World} {K : PySem.W.Frag} {elts : List Expr} {kk : Nat} {tpos : Pos} (a : Addr) {e it : Addr} (ne : e ≠ it) (na : a ≠ it) :
    Turn P w K (.Tuple elts kk tpos) (IteT K a) [e, it] e (Numbered e it fun i h => h.IsTupleIter it a i) := by
  refine turn_numbered ne (fun i h ⟨o, g, _, dv⟩ => ⟨o, _, g, dv⟩) (fun i h h2 ⟨o, g, r⟩ same => ⟨o, same o g, r⟩) ?_
  rintro X rfl rfl rfl calm i pins s σ H I ⟨old, at1⟩ st
  have out : ∀ {vs : Array Value}, s.heap.IsTuple a vs → e ∉ [it, a] := by
    rintro vs ⟨o, g, tp, _⟩ m
    simp [ne] at m
    subst m
    cases at1.symm.trans g
    exact absurd (show Value.type "enumerate" = Value.type "tuple" from tp) (by decide)
  have dr := fun (us : List Value) => Draws.tuple (prog := X.prog) (w := X.w) (A := X.A.in1) (I.ok.hd calm) it a na us.toArray
  refine ⟨?_, ?_⟩
  · rintro x y ⟨xs, sq, ey, rfl⟩
    obtain ⟨us, vus, ht, _⟩ := I.tuple sq
    obtain ⟨u, gu, ru⟩ := vus.get ey
    have lt := (List.getElem?_eq_some_iff.mp gu).1
    refine ⟨⟨rfl, fun ys sq2 => I.tuple_inj sq2 sq ▸ ey⟩, _, _, _, _, dr us, out ht, .head _, ⟨st, ht⟩, ?_, ?_, rfl, fun _ q => q.1⟩
    · simpa using lt
    · intro v gv
      have : v = u := by simpa [gu] using gv.symm
      exact this ▸ ru
  · rintro ⟨xs, sq, rfl⟩
    obtain ⟨us, vus, ht, _⟩ := I.tuple sq
    have el : us.toArray.size = xs.length := by rw [List.size_toArray, vus.length]
    refine ⟨_, _, _, el ▸ dr us, out ht, .head _, ⟨st, ht⟩, fun _ q => q.1⟩
set_option maxHeartbeats 1000000 in
theorem meets_enumerate_newT (a : Addr) (items : Array Value) :
    Meets (Builtin.«enumerate.__new__» ⟨[.type "enumerate", .ref a], []⟩) (fun _ R s => s.heap.IsTuple a items ∧
      R (.ok (.ret (.ref (s.heap.push { cls := .type "tuple_iterator", data := .fields #[.ref a, .int 0 0] }).objs.size)))
        { s with heap := (s.heap.push { cls := .type "tuple_iterator", data := .fields #[.ref a, .int 0 0] }).push { cls := .type "enumerate", data := .fields #[.none, .bool false, .ref s.heap.objs.size, rawInt 0, .none, .none] } }) :=
  .of_wp fun prog w A R s hh => by
    obtain ⟨hp, g, d, tk, os⟩ := s
    obtain ⟨ht, h⟩ := hh
    obtain ⟨o, ho, hc, n, hd⟩ := id ht
    have hsub := sub_enumerate
    have hT : Heap.IsTuple (Shared.heap ⟨hp, g, d, tk, os⟩) a items := ht
    wp_walk using wpAny_loadPart' ho
    refine wpAny_stack_any fun st => wpAny_pure ?_
    split
    · rename_i c _ _ _ _ _
      cases (c == Value.type "enumerate")
      · wp_walk using wpAny_loadPart' ho, wpAny_pyIter_tuple hT
        exact ⟨_, rfl, h⟩
      · wp_walk using wpAny_loadPart' ho, wpAny_pyIter_tuple hT
        exact ⟨_, rfl, h⟩
    · wp_walk using wpAny_loadPart' ho, wpAny_pyIter_tuple hT
      exact ⟨_, rfl, h⟩
theorem call_enumT {prog : Program} {w : World} {A : Around} {E : Value → Shared → Prop} {s : Shared} {a : Addr} {items : Array Value} {Q : Value → Shared → Prop} (hT : s.heap.IsTuple a items)
    (h : ∀ h', IsEnum h' (s.heap.objs.size + 1) s.heap.objs.size 0 .none → h'.IsTupleIter s.heap.objs.size a 0 → (∀ b o, s.heap.get? b = some o → h'.get? b = some o) → Q (.ref (s.heap.objs.size + 1)) { s with heap := h' }) :
    wpAny (model prog w) A (call (.type "enumerate") [.ref a]) Q E s := by
  refine callType_new F.called_enumerate (by decide) (F.typeCall_enumerate_1 _) (F.newCall_enumerate_1 _) (fun obj => F.args_object_init_2 obj _) F.entry_enumerate_new (meets_enumerate_newT a items) ⟨hT, ?_⟩
  have hz : (s.heap.push { cls := .type "tuple_iterator", data := .fields #[.ref a, .int 0 0] }).objs.size = s.heap.objs.size + 1 := Heap.size_push ..
  have he : IsEnum ((s.heap.push { cls := .type "tuple_iterator", data := .fields #[.ref a, .int 0 0] }).push { cls := .type "enumerate", data := .fields #[.none, .bool false, .ref s.heap.objs.size, rawInt 0, .none, .none] }) (s.heap.objs.size + 1) s.heap.objs.size 0 .none := by
    rw [← hz]; exact Heap.get?_push_size _ rfl
  show _ ∧ _
  rw [hz]
  exact ⟨⟨_, he, rfl⟩, h _ he ⟨_, Heap.get?_push_of_some _ (Heap.get?_push_size _ rfl), rfl, rfl⟩ fun b o x => Heap.get?_push_of_some _ (Heap.get?_push_of_some _ x)⟩
def iEnumT (K : PySem.W.Frag) (ta : TA) : TI := fun σ H R => ta σ H fun vs H1 => match vs with | [.ref a] => ∃ xs, SqT K H1 a xs ∧ R (IteT K a) H1 | _ => False
theorem zpi_enumT {X : Cx} {e : Expr} {ta : TA} {p pos tpos : Pos} {elts : List Expr} {kk : Nat} (hg : Gl X "enumerate") (hm : X.mg "enumerate" = none) (ha : PA X [e] ta) (hs : starEach [e] X.env = [(false, eval e X.env)] := by rfl) :
    PI X (.Tuple elts kk tpos) (.Call (.Name "enumerate" p) [e] [] pos) (iEnumT X.K ta) := by
  refine ⟨fun pins s σ H R I h => ?_⟩
  refine Call_ (ld_blt I hg hm boot_enumerate (PyProof.Rows.callWith_type1 (thn (ha.run pos pins s σ H _ I h) fun us s1 ⟨vs, H1, I1, r1, q1⟩ => ?_) hs rfl))
  dsimp only at q1
  split at q1
  · rename_i a
    obtain ⟨xs, hq, q1⟩ := q1
    cases r1 with
    | cons r rr =>
      cases rr
      cases r
      obtain ⟨its, rv, ht, hz⟩ := I1.tuple hq
      have hT : s1.heap.IsTuple a its.toArray := ht
      have far : a ≠ s1.heap.objs.size := by
        obtain ⟨_, g, _⟩ := ht
        exact Nat.ne_of_lt (Heap.lt_size g)
      refine call_enumT hT fun h' he hit hk => wpAny_pyIter_enum he ?_
      exact ⟨_, _, _, _, H1, rfl, Inv.kept (t' := s1.toks) I1 hk, turn_enumT a (Nat.succ_ne_self _) far, ⟨⟨.none, he⟩, hit⟩, numbered_new I1, q1⟩
  · exact q1.elim
theorem walk_enumT {K : PySem.W.Frag} {a : Addr} {xs : List V} : Walk (IteT K a) xs.length (fun H => SqT K H a xs) (YPair (fun i => some (.int (i : Nat))) (fun i => xs[i]?)) := by
  refine ⟨fun i _ lt q => ⟨_, xs[i], xs, q, by simp [lt], rfl⟩, fun _ q => ⟨xs, q, rfl⟩, ?_⟩
  rintro i H v H' _ q ⟨T, x, y, e, f, g, rfl, told⟩
  exact ⟨T, _, y, e, f, g, rfl, told xs q⟩
end Z

set_option Elab.async false
set_option linter.all false
set_option maxRecDepth 100000
namespace Z
open PySem PySem.Spec PyProof.Rows L2

/-! ### range of ints of any size -/
theorem turn_long {P : Program} {w : World} {K : PySem.W.Frag} {tg : Expr} (it : Addr) (lo : Int) (n : Nat) : Turn P w K tg (Itr lo n) [it] it (fun i h => IsLongIter h it (lo + (i : Nat) * 1) ((n : Int) - (i : Nat)) 1) where
  mem := .head _
  keep := fun _ _ _ st same => same _ (.head _) _ st
  self := fun _ _ _ _ _ st => wpAny_pyIter_longiter st
  obj := fun i h st b m => by
    cases List.mem_singleton.mp m
    exact ⟨_, st, nofun⟩
  done := by
    rintro X rfl rfl rfl calm i pins s σ H E I free st (ge : n ≤ i)
    refine wpAny_pyNext_long_end (I.ok.hd calm) st (by omega) fun h1 old => ⟨rfl, ?_⟩
    exact Inv.turnedL (t' := s.toks) I (fun b o nb g => old b o (fun e => nb (e ▸ .head _)) g) free
  item := by
    rintro X rfl rfl rfl calm i pins s σ H E I free st lt
    refine (Walks.longrange (I.ok.hd calm) it lo 1 n).item i s _ _ lt st fun v h1 t1 ⟨t, ev⟩ st1 old => ⟨_, rfl, ?_⟩
    subst ev
    have on : Inv X pins σ H { s with heap := h1, toks := t1 } := Inv.turnedL I old free
    exact go_of (s := { s with heap := h1, toks := t1 }) (n := "longrange_iterator") st1 rfl rfl (by decide) ⟨.int (lo + i), H, on, ⟨t, by simp⟩, ⟨rfl, rfl⟩, st1, fun b m => (free b m).1⟩
/-- a range that was just made, iterated: short or long -/
theorem range_itW {X : Cx} {tg : Expr} {pins : List (Addr × Obj)} {σ : L2.St} {H : Hp} {s : Shared} {R : It → Hp → Prop} {E : Value → Shared → Prop} {lo hi : Int} {t u v : Tok} {tk : Nat} (I : Inv X pins σ H s)
    (q : R (Itr lo (hi - lo).toNat) H) : wpAny (model X.prog X.w) X.A (pyIter (.ref s.heap.objs.size)) (PIE X pins σ tg R) E { s with heap := s.heap.push { cls := .type "range", data := .fields #[.int lo t, .int hi u, .int 1 v] }, toks := tk } := by
  have made : Inv X pins σ H { s with heap := s.heap.push { cls := .type "range", data := .fields #[.int lo t, .int hi u, .int 1 v] }, toks := tk } := Inv.kept I fun b o => Heap.get?_push_of_some _
  have many : Builtin.Range.rangeSize lo hi 1 = (((hi - lo).toNat : Nat) : Int) := by
    rw [rangeSize_one]
    split <;> omega
  have from0 : lo + ((0 : Nat) : Int) * 1 = lo := by simp
  have left0 : (((hi - lo).toNat : Nat) : Int) - ((0 : Nat) : Int) = Builtin.Range.rangeSize lo hi 1 := by simp [many]
  have own := fun b (m : b ∈ [(s.heap.push { cls := .type "range", data := .fields #[.int lo t, .int hi u, .int 1 v] }).objs.size]) => (List.mem_singleton.mp m).symm ▸ Inv.fpOk made (Nat.le_refl _) (HOk.fresh made.hok (Nat.le_refl _))
  cases y : Builtin.Range.small lo hi 1 with
  | true => exact wpAny_pyIter_range (IsRange.new ..) y ⟨_, _, _, _, H, rfl, Inv.kept (t' := tk) made fun b o => Heap.get?_push_of_some _, turn_range _ lo _, from0.symm ▸ left0.symm ▸ Heap.get?_push_size _ rfl, own, q⟩
  | false => exact wpAny_pyIter_longrange (IsRange.new ..) y ⟨_, _, _, _, H, rfl, Inv.kept (t' := tk) made fun b o => Heap.get?_push_of_some _, turn_long _ lo _, from0.symm ▸ left0.symm ▸ Heap.get?_push_size _ rfl, own, q⟩
section
variable {X : Cx} {tg : Expr}
def iRngW (ta : TA) : TI := fun σ H R => ta σ H fun vs H1 => match vs with | [.int i, .int j] => R (Itr i (j - i).toNat) H1 | _ => False
theorem zpi_range2 {a b : Expr} {ta : TA} {p pos : Pos} (hg : Gl X "range") (hm : X.mg "range" = none) (ha : PA X [a, b] ta) (hs : starEach [a, b] X.env = [(false, eval a X.env), (false, eval b X.env)] := by rfl) (hs2 : starEach [b] X.env = [(false, eval b X.env)] := by rfl) :
    PI X tg (.Call (.Name "range" p) [a, b] [] pos) (iRngW ta) := by
  refine ⟨fun pins s σ H R I h => ?_⟩
  refine Call_ (ld_blt I hg hm boot_range (PyProof.Rows.callWith_type1 (thn (ha.run pos pins s σ H _ I h) fun us s1 ⟨vs, H1, I1, r1, q1⟩ => ?_) (by rw [hs, hs2]) (by rw [hs2]; rfl)))
  dsimp only at q1
  split at q1
  · cases r1 with
    | cons r rr =>
      cases rr with
      | cons r' rr =>
        cases rr
        obtain ⟨t, rfl⟩ := r
        obtain ⟨t', rfl⟩ := r'
        exact call_range_2 (range_itW I1 q1)
  · exact q1.elim
/-! ### xs[i] op= e -/
theorem zget : PGet X (zIxL X.K) := by
  intro pins s σ H x y v u Q I rx ry h
  unfold zIxL at h
  split at h
  case h_2 => exact h.elim
  rename_i p i
  obtain ⟨xs, z, known, item, q⟩ := h
  cases rx
  obtain ⟨t, rfl⟩ := ry
  obtain ⟨us, same, at1, short⟩ := I.list known
  obtain ⟨j, place, found, lt, low, high⟩ := atI_get item
  obtain ⟨g, here, rel⟩ := Vals.get same found
  have size : us.toArray.size = xs.length := by rw [List.size_toArray, same.length]
  have limit := line63
  have told : EP X pins σ Q g s := ⟨z, H, I, rel, q⟩
  rcases Int.lt_or_le i 0 with neg | nonneg
  · have there : (i + (us.toArray.size : Int)).toNat = j := by
      have := (seqIndex_neg neg low).symm.trans place
      rw [size]
      exact Option.some.inj this
    refine wpAny_getItem_list_neg at1.isList neg ?_ ?_ (there ▸ (by simpa using here)) told <;> omega
  · have there : i.toNat = j := Option.some.inj ((seqIndex_of nonneg high).symm.trans place)
    refine wpAny_getItem_list at1.isList nonneg ?_ (there ▸ (by simpa using here)) told
    omega
def zipI (C : Int → Int → Prop) (g : Int → Int → Int) : TIp := fun x y H Q => match x, y with | .int i, .int j => C i j ∧ Q (.int (g i j)) H | _, _ => False
def zipI0 (g : Int → Int → Int) : TIp := fun x y H Q => match x, y with | .int i, .int j => Q (.int (g i j)) H | _, _ => False
theorem zip_add : PIp X .Add (zipI0 fun i j => i + j) := fun pins s σ H x y v u Q I rx ry h => by
  unfold zipI0 at h
  split at h
  · exact ip_add pins s σ H _ _ v u Q I rx ry ⟨_, _, rfl, rfl, h⟩
  · exact h.elim
theorem zip_sub : PIp X .Sub (zipI0 fun i j => i - j) := fun pins s σ H x y v u Q I rx ry h => by
  unfold zipI0 at h
  split at h
  · exact ip_sub pins s σ H _ _ v u Q I rx ry ⟨_, _, rfl, rfl, h⟩
  · exact h.elim
theorem mulOk_of {i j : Int} (c : MulOk i j) : IntMulOk i j := by
  rcases c with c | c | c
  · exact CMul.ok (.inl c)
  · exact CMul.ok (.inr c)
  · exact c.ok
theorem zip_mul : PIp X .Mult (zipI MulOk fun i j => i * j) := fun pins s σ H x y v u Q I rx ry h => by
  unfold zipI at h
  split at h
  · obtain ⟨c, q⟩ := h
    obtain ⟨t, rfl⟩ := rx
    obtain ⟨t', rfl⟩ := ry
    exact imul_int ⟨.int _, H, I.tok _, ⟨_, rfl⟩, q⟩ (mulOk_of c)
  · exact h.elim
theorem zip_fdiv : PIp X .FloorDiv (zipI DivOk fun i j => i / j) := fun pins s σ H x y v u Q I rx ry h => by
  unfold zipI at h
  split at h
  · obtain ⟨⟨c0, c⟩, q⟩ := h
    rcases c with c | c
    · exact iop_fdiv pins s σ H _ _ v u Q I rx ry ⟨_, _, rfl, rfl, ⟨c0, c⟩, q⟩
    · exact iop_fdivW pins s σ H _ _ v u Q I rx ry ⟨_, _, rfl, rfl, wide_div (b := 9000) c0 c (by decide) (Nat.le_refl _), q⟩
  · exact h.elim
/-! ### divmod, the dividend below 2 ** 4000 -/
theorem zdivmodW : CallR X (.builtin "divmod") (z2I fun i j H Q => (0 < j ∧ i.natAbs < 2 ^ 4000) ∧ New H (.tup [.int (i / j), .int (i % j)]) Q) := callM call_divmodW fun xs H Q q => by
  unfold z2I at q
  split at q
  · obtain ⟨⟨h0, h⟩, q⟩ := q
    exact ⟨_, _, rfl, divp_ok h0 (Nat.le_trans (PyProof.Rows.intBits_le h) (Nat.le_add_left _ _)), q.up⟩
  · exact q.elim
end
end Z

set_option Elab.async false
set_option linter.all false
set_option maxRecDepth 100000
namespace M
open PySem L2 Z
/-! figures of a number, the last place first -/
def digsF (b : Nat) : Nat → Nat → List Nat
  | 0, n => [n]
  | f + 1, n => if n < b then [n] else n % b :: digsF b f (n / b)
def digs (b n : Nat) : List Nat := digsF b n n
theorem digsF_eq {b : Nat} (hb : 2 ≤ b) : ∀ f g n, n ≤ f → n ≤ g → digsF b f n = digsF b g n := by
  intro f
  induction f with
  | zero =>
    intro g n h1 h2
    have e : n = 0 := by omega
    subst e
    cases g with
    | zero => rfl
    | succ g => show [0] = if 0 < b then [0] else _; rw [if_pos (by omega)]
  | succ f ih =>
    intro g n h1 h2
    cases g with
    | zero =>
      have e : n = 0 := by omega
      subst e
      show (if 0 < b then [0] else _) = [0]
      rw [if_pos (by omega)]
    | succ g =>
      show (if n < b then [n] else n % b :: digsF b f (n / b)) = (if n < b then [n] else n % b :: digsF b g (n / b))
      by_cases h : n < b
      · rw [if_pos h, if_pos h]
      · rw [if_neg h, if_neg h]
        have q : n / b < n := Nat.div_lt_self (by omega) (by omega)
        rw [ih g (n / b) (by omega) (by omega)]
theorem digs_small {b n : Nat} (h : n < b) : digs b n = [n] := by
  unfold digs
  cases n with
  | zero => rfl
  | succ n => show (if n + 1 < b then [n + 1] else _) = [n + 1]; rw [if_pos h]
theorem digs_big {b n : Nat} (hb : 2 ≤ b) (h : b ≤ n) : digs b n = n % b :: digs b (n / b) := by
  unfold digs
  obtain ⟨m, rfl⟩ : ∃ m, n = m + 1 := ⟨n - 1, by omega⟩
  show (if m + 1 < b then [m + 1] else (m + 1) % b :: digsF b m ((m + 1) / b)) = _
  rw [if_neg (by omega)]
  have q : (m + 1) / b < m + 1 := Nat.div_lt_self (by omega) (by omega)
  rw [digsF_eq hb m ((m + 1) / b) ((m + 1) / b) (by omega) (Nat.le_refl _)]
/-- by strong induction along the figures -/
theorem digs_ind {b : Nat} (hb : 2 ≤ b) {P : Nat → Prop} (h0 : ∀ n, n < b → P n) (h1 : ∀ n, b ≤ n → P (n / b) → P n) : ∀ n, P n := by
  intro n
  induction n using Nat.strongRecOn with
  | _ n ih =>
    by_cases h : n < b
    · exact h0 n h
    · exact h1 n (by omega) (ih (n / b) (Nat.div_lt_self (by omega) (by omega)))
theorem digs_lt {b : Nat} (hb : 2 ≤ b) : ∀ n, ∀ d ∈ digs b n, d < b := by
  refine digs_ind hb (fun n h d hd => ?_) (fun n h ih d hd => ?_)
  · rw [digs_small h] at hd; rw [List.mem_singleton.mp hd]; exact h
  · rw [digs_big hb h] at hd
    rcases List.mem_cons.mp hd with e | e
    · rw [e]; exact Nat.mod_lt _ (by omega)
    · exact ih d e
theorem digs_ne (b n : Nat) : digs b n ≠ [] := by
  unfold digs
  cases n with
  | zero => intro h; cases h
  | succ n =>
    show (if n + 1 < b then [n + 1] else (n + 1) % b :: digsF b n ((n + 1) / b)) ≠ []
    by_cases h : n + 1 < b
    · rw [if_pos h]; intro z; cases z
    · rw [if_neg h]; intro z; cases z
theorem digs_len {b : Nat} (hb : 2 ≤ b) : ∀ n k, n < 2 ^ (k + 1) → (digs b n).length ≤ k + 1 := by
  refine digs_ind hb (P := fun n => ∀ k, n < 2 ^ (k + 1) → (digs b n).length ≤ k + 1) (fun n h k hk => ?_) (fun n h ih k hk => ?_)
  · rw [digs_small h]; show 1 ≤ k + 1; omega
  · rw [digs_big hb h, List.length_cons]
    cases k with
    | zero => have : n < 2 := by simpa using hk
              omega
    | succ k =>
      have q : n / b ≤ n / 2 := Nat.div_le_div_left hb (by omega)
      have e : (2 : Nat) ^ (k + 1 + 1) = 2 * 2 ^ (k + 1) := by rw [Nat.pow_succ]; omega
      have := ih k (by omega)
      omega
set_option exponentiation.threshold 5000 in
/-- below 2 ** 4000, not to be looked into -/
def Big (n : Nat) : Prop := n < 2 ^ 4000
set_option exponentiation.threshold 5000 in
theorem digs_big_len {b : Nat} (hb : 2 ≤ b) {n : Nat} (h : Big n) : (digs b n).length ≤ 4000 := digs_len hb n 3999 h
theorem pow_big : 10 ^ 1000 ≤ 2 ^ 4000 := by decide +kernel
theorem Big.of {n : Nat} (h : n ≤ 10 ^ 60) : Big n := Nat.lt_of_lt_of_le (Nat.lt_of_le_of_lt h (Nat.pow_lt_pow_right (by omega) (by omega : 60 < 1000))) pow_big
/-- what figures come to, the last place first -/
def val (b : Nat) : List Nat → Nat
  | [] => 0
  | d :: r => d + b * val b r
theorem val_digs {b : Nat} (hb : 2 ≤ b) : ∀ n, val b (digs b n) = n := by
  refine digs_ind hb (fun n h => ?_) (fun n h ih => ?_)
  · rw [digs_small h]; show n + b * 0 = n; omega
  · rw [digs_big hb h]
    show n % b + b * val b (digs b (n / b)) = n
    rw [ih]; exact Nat.mod_add_div n b
/-- a list of numbers as values -/
def vN (xs : List Nat) : List V := xs.map fun d : Nat => V.int (d : Int)
theorem vN_append (xs ys : List Nat) : vN (xs ++ ys) = vN xs ++ vN ys := List.map_append
theorem vN_rev (xs : List Nat) : (vN xs).reverse = vN xs.reverse := by unfold vN; rw [List.map_reverse]
theorem vN_len (xs : List Nat) : (vN xs).length = xs.length := List.length_map _
theorem vN_get {xs : List Nat} {i : Nat} {v : V} (h : (vN xs)[i]? = some v) : ∃ d, xs[i]? = some d ∧ v = .int (d : Int) := by
  unfold vN at h
  rw [List.getElem?_map] at h
  cases q : xs[i]? with
  | none => rw [q] at h; cases h
  | some d => rw [q] at h; cases h; exact ⟨d, rfl, rfl⟩
/-! signs -/
def sgs : Str := "0123456789abcdefghijklmnopqrstuvwxyz"
def sg16 : Str := "0123456789abcdef"
def chr (d : Nat) : Nat := sgs.cps.toList.getD d 0
theorem sg_at : ∀ d : Nat, d < 36 → atI sgs.cps.toList (d : Int) = some (chr d) := by decide +kernel
theorem sg16_at : ∀ d : Nat, d < 16 → atI sg16.cps.toList (d : Int) = some (chr d) := by decide +kernel
theorem sg_find : ∀ d : Nat, d < 36 → Txt.find sgs ⟨#[chr d]⟩ = (d : Int) := by decide +kernel
theorem chr_nought : ∀ d, d < 36 → (chr d = 48 ↔ d = 0) := by decide +kernel
/-- the text of figures, the greatest place first -/
def tx (ds : List Nat) : Str := ⟨(ds.map chr).toArray⟩
theorem tx_len (ds : List Nat) : (tx ds).length = ds.length := by unfold tx Str.length; simp
theorem tx_cons (d : Nat) (ds : List Nat) : (⟨#[chr d]⟩ : Str) ++ tx ds = tx (d :: ds) := by
  show Str.append _ _ = _
  unfold Str.append tx
  simp
theorem fold_signs : ∀ (ds : List Nat) (acc : Array Nat), ((ds.map fun d => (⟨#[chr d]⟩ : Str)).foldl (fun acc p => acc ++ ("" : Str).cps ++ p.cps) acc) = acc ++ (ds.map chr).toArray
  | [], acc => by simp
  | d :: r, acc => by
    rw [List.map_cons, List.foldl_cons, fold_signs r]
    have e : ("" : Str).cps = #[] := by decide +kernel
    rw [e]
    simp
theorem join_signs (ds : List Nat) : Txt.join "" (ds.map fun d => (⟨#[chr d]⟩ : Str)) = tx ds := by
  cases ds with
  | nil => rfl
  | cons d r =>
    show Builtin.Str.glued "" _ = _
    unfold Builtin.Str.glued tx
    rw [List.map_cons, List.drop_one, List.tail_cons, List.headD_cons, fold_signs]
    simp
/-- what figures come to, the greatest place first -/
def valB (b : Nat) (ds : List Nat) : Nat := ds.foldl (fun a d => a * b + d) 0
theorem valB_snoc (b : Nat) (ds : List Nat) (d : Nat) : valB b (ds ++ [d]) = valB b ds * b + d := by unfold valB; rw [List.foldl_append]; rfl
theorem valB_rev (b : Nat) : ∀ ds : List Nat, valB b ds.reverse = val b ds
  | [] => rfl
  | d :: r => by
    rw [List.reverse_cons, valB_snoc, valB_rev b r]
    show val b r * b + d = d + b * val b r
    rw [Nat.mul_comm, Nat.add_comm]
theorem valB_take {b : Nat} {ds : List Nat} {i d : Nat} (h : ds[i]? = some d) : valB b (ds.take (i + 1)) = valB b (ds.take i) * b + d := by
  rw [List.take_add_one, h]; exact valB_snoc b _ d
theorem digs_last {b : Nat} (hb : 2 ≤ b) : ∀ n, ∃ (r : List Nat) (t : Nat), digs b n = r ++ [t] ∧ (t = 0 → r = [] ∧ n = 0) := by
  refine digs_ind hb (fun n h => ?_) (fun n h ih => ?_)
  · exact ⟨[], n, digs_small h, fun z => ⟨rfl, z⟩⟩
  · obtain ⟨r, t, e, k⟩ := ih
    refine ⟨n % b :: r, t, by rw [digs_big hb h, e]; rfl, fun z => ?_⟩
    have := (k z).2
    have h2 : 0 < n / b := Nat.div_pos h (by omega)
    omega
theorem digs_top {b : Nat} (hb : 2 ≤ b) (n : Nat) : ∃ (t : Nat) (r : List Nat), (digs b n).reverse = t :: r ∧ t < b ∧ (t = 0 → r = []) := by
  obtain ⟨r, t, e, k⟩ := digs_last hb n
  refine ⟨t, r.reverse, by rw [e, List.reverse_append]; rfl, digs_lt hb n t (by rw [e]; simp), fun z => by rw [(k z).1]; rfl⟩
theorem tx_at {ds : List Nat} {i c : Nat} (h : (tx ds).cps[i]? = some c) : ∃ d, ds[i]? = some d ∧ c = chr d := by
  unfold tx at h
  rw [List.getElem?_toArray, List.getElem?_map] at h
  cases q : ds[i]? with
  | none => rw [q] at h; cases h
  | some d => rw [q] at h; exact ⟨d, rfl, (Option.some.inj h).symm⟩
theorem tx_size (ds : List Nat) : (tx ds).cps.size = ds.length := tx_len ds
theorem tx_head (d : Nat) (r : List Nat) : atI (tx (d :: r)).cps.toList 0 = some (chr d) := by
  unfold tx
  show (ixN _ 0).bind _ = _
  unfold ixN
  rw [if_pos (by omega), if_pos (by simp)]
  simp
/-- the law's own figures: none of 0 -/
def d0 (b n : Nat) : List Nat := if n = 0 then [] else digs b n
theorem d0_zero (b : Nat) : d0 b 0 = [] := rfl
theorem d0_pos {b n : Nat} (hb : 2 ≤ b) (h : 0 < n) : d0 b n = n % b :: d0 b (n / b) := by
  unfold d0
  rw [if_neg (by omega)]
  by_cases c : n < b
  · rw [digs_small c, Nat.div_eq_of_lt c, if_pos rfl, Nat.mod_eq_of_lt c]
  · rw [digs_big hb (by omega), if_neg]
    have := Nat.div_pos (show b ≤ n by omega) (by omega)
    omega
theorem d0_or {b n : Nat} (hb : 2 ≤ b) : (d0 b n = [] → digs b n = [0]) ∧ (d0 b n ≠ [] → d0 b n = digs b n) := by
  unfold d0
  by_cases c : n = 0
  · rw [if_pos c]
    refine ⟨fun _ => ?_, fun h => absurd rfl h⟩
    rw [c]; exact digs_small (by omega)
  · rw [if_neg c]
    exact ⟨fun h => absurd h (digs_ne b n), fun _ => rfl⟩
theorem d0_len {b : Nat} (hb : 2 ≤ b) {n : Nat} (h : Big n) : (d0 b n).length ≤ 4000 := by
  unfold d0
  by_cases c : n = 0
  · rw [if_pos c]; exact Nat.zero_le _
  · rw [if_neg c]; exact digs_big_len hb h
theorem vN_ints (xs : List Nat) : vN xs = (xs.map fun d : Nat => (d : Int)).map V.int := by unfold vN; rw [List.map_map]; rfl
theorem sum_ints : ∀ xs : List Nat, (xs.map fun d : Nat => (d : Int)).sum = ((xs.sum : Nat) : Int)
  | [] => rfl
  | x :: r => by rw [List.map_cons, List.sum_cons, List.sum_cons, sum_ints r, Int.natCast_add]
theorem sum_rev : ∀ xs : List Nat, xs.reverse.sum = xs.sum
  | [] => rfl
  | x :: r => by rw [List.reverse_cons, List.sum_append, sum_rev r, List.sum_cons, List.sum_cons]; show r.sum + (x + 0) = _; omega
def dsum (b n : Nat) : Nat := (digs b n).sum
theorem dsum_small {b n : Nat} (h : n < b) : dsum b n = n := by unfold dsum; rw [digs_small h]; show n + 0 = n; omega
theorem dsum_big {b n : Nat} (hb : 2 ≤ b) (h : b ≤ n) : dsum b n = n % b + dsum b (n / b) := by unfold dsum; rw [digs_big hb h, List.sum_cons]
theorem dsum_step {b : Nat} (hb : 2 ≤ b) (n : Nat) : dsum b n = n % b + dsum b (n / b) := by
  by_cases h : n < b
  · rw [dsum_small h, Nat.mod_eq_of_lt h, Nat.div_eq_of_lt h, dsum_small (show 0 < b by omega), Nat.add_zero]
  · exact dsum_big hb (by omega)
theorem dsum_le {b : Nat} (hb : 2 ≤ b) : ∀ n, dsum b n ≤ n := by
  refine digs_ind hb (fun n h => ?_) (fun n h ih => ?_)
  · rw [dsum_small h]; exact Nat.le_refl _
  · rw [dsum_big hb h]
    have e := Nat.mod_add_div n b
    have : n / b ≤ b * (n / b) := Nat.le_mul_of_pos_left _ (by omega)
    omega
theorem dsum_lt {b n : Nat} (hb : 2 ≤ b) (h : b ≤ n) : dsum b n < n := by
  rw [dsum_big hb h]
  have e := Nat.mod_add_div n b
  have q := dsum_le hb (n / b)
  have p : 0 < n / b := Nat.div_pos h (by omega)
  have : 2 * (n / b) ≤ b * (n / b) := Nat.mul_le_mul_right _ hb
  omega
def rootF (b : Nat) : Nat → Nat → Nat
  | 0, n => n
  | f + 1, n => if n < b then n else rootF b f (dsum b n)
theorem rootF_eq {b : Nat} (hb : 2 ≤ b) : ∀ f g n, n ≤ f → n ≤ g → rootF b f n = rootF b g n := by
  intro f
  induction f with
  | zero =>
    intro g n h1 h2
    cases g with
    | zero => rfl
    | succ g => show n = if n < b then n else _; rw [if_pos (by omega)]
  | succ f ih =>
    intro g n h1 h2
    cases g with
    | zero => show (if n < b then n else _) = n; rw [if_pos (by omega)]
    | succ g =>
      show (if n < b then n else rootF b f (dsum b n)) = if n < b then n else rootF b g (dsum b n)
      by_cases h : n < b
      · rw [if_pos h, if_pos h]
      · rw [if_neg h, if_neg h]
        have := dsum_lt hb (show b ≤ n by omega)
        exact ih g _ (by omega) (by omega)
def root (b n : Nat) : Nat := rootF b n n
theorem root_small {b n : Nat} (h : n < b) : root b n = n := by
  unfold root
  cases n with
  | zero => rfl
  | succ n => show (if n + 1 < b then n + 1 else _) = _; rw [if_pos h]
theorem root_big {b n : Nat} (hb : 2 ≤ b) (h : b ≤ n) : root b n = root b (dsum b n) := by
  unfold root
  obtain ⟨m, rfl⟩ : ∃ m, n = m + 1 := ⟨n - 1, by omega⟩
  show (if m + 1 < b then m + 1 else rootF b m (dsum b (m + 1))) = _
  rw [if_neg (by omega)]
  have := dsum_lt hb h
  exact rootF_eq hb _ _ _ (by omega) (Nat.le_refl _)
theorem Big.le {n m : Nat} (h : Big n) (k : m ≤ n) : Big m := Nat.lt_of_le_of_lt k h
end M

set_option Elab.async false
set_option linter.all false
set_option maxRecDepth 100000
namespace M
open PySem L2 Z
/-! sums over the numbers below a bound -/
def sumTo (g : Nat → Nat) : Nat → Nat
  | 0 => 0
  | n + 1 => sumTo g n + g n
theorem sumTo_congr {g h : Nat → Nat} : ∀ {N : Nat}, (∀ n, n < N → g n = h n) → sumTo g N = sumTo h N
  | 0, _ => rfl
  | N + 1, e => by
    show sumTo g N + g N = sumTo h N + h N
    rw [sumTo_congr (fun n hn => e n (by omega)), e N (by omega)]
theorem sumTo_add (g h : Nat → Nat) : ∀ N, sumTo (fun n => g n + h n) N = sumTo g N + sumTo h N
  | 0 => rfl
  | N + 1 => by
    show sumTo (fun n => g n + h n) N + (g N + h N) = (sumTo g N + g N) + (sumTo h N + h N)
    rw [sumTo_add g h N]; omega
theorem sumTo_zero : ∀ N, sumTo (fun _ => 0) N = 0
  | 0 => rfl
  | N + 1 => by show sumTo (fun _ => 0) N + 0 = 0; rw [sumTo_zero N]
theorem sumTo_mul (c : Nat) (g : Nat → Nat) : ∀ N, sumTo (fun n => c * g n) N = c * sumTo g N
  | 0 => by show 0 = c * 0; omega
  | N + 1 => by show sumTo (fun n => c * g n) N + c * g N = c * (sumTo g N + g N); rw [sumTo_mul c g N, Nat.mul_add]
theorem sumTo_swap (g : Nat → Nat → Nat) (N : Nat) : ∀ k, sumTo (fun j => sumTo (g j) N) k = sumTo (fun n => sumTo (fun j => g j n) k) N
  | 0 => (sumTo_zero N).symm
  | k + 1 => by
    show sumTo (fun j => sumTo (g j) N) k + sumTo (g k) N = sumTo (fun n => sumTo (fun j => g j n) k + g k n) N
    rw [sumTo_swap g N k, sumTo_add]
theorem sumTo_mono {g : Nat → Nat} {N : Nat} : ∀ {K : Nat}, N ≤ K → sumTo g N ≤ sumTo g K
  | 0, h => by have : N = 0 := by omega
               subst this; exact Nat.le_refl _
  | K + 1, h => by
    by_cases e : N = K + 1
    · subst e; exact Nat.le_refl _
    · exact Nat.le_trans (sumTo_mono (by omega)) (Nat.le_add_right _ _)
theorem sum_range (g : Nat → Nat) : ∀ b, ((List.range b).map g).sum = sumTo g b
  | 0 => rfl
  | b + 1 => by
    rw [List.range_succ, List.map_append, List.sum_append, sum_range g b]
    show _ + (g b + 0) = _
    rw [Nat.add_zero]; rfl
theorem sumTo_pick (d : Nat) (g : Nat → Nat) : ∀ b, d < b → sumTo (fun f => if d = f then g f else 0) b = g d
  | 0, h => by omega
  | b + 1, h => by
    show sumTo (fun f => if d = f then g f else 0) b + (if d = b then g b else 0) = g d
    by_cases e : d = b
    · subst e
      rw [if_pos rfl, sumTo_congr (h := fun _ => 0) (fun n hn => if_neg (by omega)), sumTo_zero]; omega
    · rw [if_neg e, sumTo_pick d g b (by omega), Nat.add_zero]
/-! a figure at a place -/
def ind (b w f n : Nat) : Nat := if n / w % b = f then 1 else 0
/-- how often below N, closed -/
def cl (b w f N : Nat) : Nat := N / (w * b) * w + min (N % (w * b) - f * w) w
theorem cl_step {b w f : Nat} (hb : 0 < b) (hw : 0 < w) (hf : f < b) (N : Nat) : cl b w f (N + 1) = cl b w f N + ind b w f N := by
  unfold cl ind
  have hM : 0 < w * b := Nat.mul_pos hw hb
  have e := Nat.mod_add_div N (w * b)
  have hr := Nat.mod_lt N hM
  generalize hq : N / (w * b) = q at *
  generalize hrr : N % (w * b) = r at *
  -- the figure at the place is r / w
  have hdiv : N / w % b = r / w := by
    have h1 : N = r + w * (b * q) := by rw [← e, Nat.mul_assoc]
    rw [h1, Nat.add_mul_div_left _ _ hw, Nat.add_mul_mod_self_left]
    exact Nat.mod_eq_of_lt (Nat.div_lt_of_lt_mul hr)
  have hfw : (f + 1) * w ≤ b * w := Nat.mul_le_mul_right _ hf
  have hbw : b * w = w * b := Nat.mul_comm _ _
  have hf1 : (f + 1) * w = f * w + w := Nat.succ_mul _ _
  have hif : (r / w = f) ↔ (f * w ≤ r ∧ r < f * w + w) := by
    rw [← hf1]
    constructor
    · intro h
      rw [← h]
      exact ⟨Nat.div_mul_le_self r w, by rw [Nat.mul_comm]; exact Nat.lt_mul_div_succ r hw⟩
    · rintro ⟨h1, h2⟩
      exact Nat.le_antisymm (Nat.le_of_lt_succ (Nat.div_lt_of_lt_mul (by rw [Nat.mul_comm]; exact h2))) ((Nat.le_div_iff_mul_le hw).mpr h1)
  rw [hdiv]
  by_cases hlast : r + 1 = w * b
  · have hN : N + 1 = w * b * (q + 1) := by rw [Nat.mul_add, Nat.mul_one]; omega
    have h1 : (N + 1) / (w * b) = q + 1 := by rw [hN]; exact Nat.mul_div_cancel_left _ hM
    have h2 : (N + 1) % (w * b) = 0 := by rw [hN]; exact Nat.mul_mod_right _ _
    rw [h1, h2, Nat.succ_mul]
    by_cases c : r / w = f
    · have := hif.mp c
      rw [if_pos c]; omega
    · rw [if_neg c]
      have : ¬ (f * w ≤ r ∧ r < f * w + w) := fun z => c (hif.mpr z)
      omega
  · have hN : N + 1 = (r + 1) + w * b * q := by omega
    have h1 : (N + 1) / (w * b) = q := by
      rw [hN, Nat.add_mul_div_left _ _ hM, Nat.div_eq_of_lt (by omega)]; omega
    have h2 : (N + 1) % (w * b) = r + 1 := by
      rw [hN, Nat.add_mul_mod_self_left]; exact Nat.mod_eq_of_lt (by omega)
    rw [h1, h2]
    by_cases c : r / w = f
    · have := hif.mp c
      rw [if_pos c]; omega
    · rw [if_neg c]
      have : ¬ (f * w ≤ r ∧ r < f * w + w) := fun z => c (hif.mpr z)
      omega
theorem cl_zero {b w f : Nat} : cl b w f 0 = 0 := by
  unfold cl
  rw [Nat.zero_div, Nat.zero_mod]; omega
theorem cl_sum {b w f : Nat} (hb : 0 < b) (hw : 0 < w) (hf : f < b) : ∀ N, sumTo (ind b w f) N = cl b w f N
  | 0 => cl_zero.symm
  | N + 1 => by show sumTo (ind b w f) N + ind b w f N = _; rw [cl_sum hb hw hf N, cl_step hb hw hf]
/-- the figure at place k as it is written: none ahead of the greatest -/
def place (b k f n : Nat) : Nat := if k = 0 ∨ b ^ k ≤ n then ind b (b ^ k) f n else 0
theorem place_sum {b k f N : Nat} (hb : 2 ≤ b) (hf : f < b) (hN : b ^ k ≤ N) : sumTo (place b k f) N + (if 0 < k ∧ f = 0 then b ^ k else 0) = cl b (b ^ k) f N := by
  have hw : 0 < b ^ k := Nat.pow_pos (by omega)
  rw [← cl_sum (by omega) hw hf N]
  by_cases hk : k = 0
  · subst hk
    rw [if_neg (by omega), Nat.add_zero]
    exact sumTo_congr fun n _ => by unfold place; rw [if_pos (Or.inl rfl)]
  · have h1 : sumTo (ind b (b ^ k) f) N = sumTo (place b k f) N + sumTo (fun n => if n < b ^ k then (if f = 0 then 1 else 0) else 0) N := by
      rw [← sumTo_add]
      refine sumTo_congr fun n _ => ?_
      unfold place
      by_cases c : b ^ k ≤ n
      · rw [if_pos (Or.inr c), if_neg (by omega)]; omega
      · rw [if_neg (by omega), if_pos (by omega)]
        unfold ind
        rw [Nat.div_eq_of_lt (by omega), Nat.zero_mod]
        by_cases z : f = 0
        · rw [if_pos z.symm, if_pos z]
        · rw [if_neg (Ne.symm z), if_neg z]
    have h2 : ∀ (W c K : Nat), K ≤ W → sumTo (fun n => if n < W then c else 0) K = K * c := by
      intro W c K
      induction K with
      | zero => intro _; show 0 = 0 * c; omega
      | succ K ih =>
        intro hK
        show sumTo (fun n => if n < W then c else 0) K + (if K < W then c else 0) = (K + 1) * c
        rw [ih (by omega), if_pos (by omega), Nat.succ_mul]
    have h3 : ∀ (W c K : Nat), W ≤ K → sumTo (fun n => if n < W then c else 0) K = W * c := by
      intro W c K
      induction K with
      | zero => intro h; have : W = 0 := by omega
                subst this; exact h2 0 c 0 (Nat.le_refl _)
      | succ K ih =>
        intro hK
        by_cases e : W = K + 1
        · rw [← e]; exact h2 _ _ _ (Nat.le_refl _)
        · show sumTo (fun n => if n < W then c else 0) K + (if K < W then c else 0) = W * c
          rw [ih (by omega), if_neg (by omega), Nat.add_zero]
    rw [h1, h3 _ _ N hN]
    by_cases z : f = 0
    · rw [if_pos ⟨by omega, z⟩, if_pos z, Nat.mul_one]
    · rw [if_neg (fun q => z q.2), if_neg z, Nat.mul_zero]
theorem place_zero (b f n : Nat) : place b 0 f n = if n % b = f then 1 else 0 := by
  unfold place ind
  rw [if_pos (Or.inl rfl), Nat.pow_zero, Nat.div_one]
theorem place_succ {b k f n : Nat} (hb : 2 ≤ b) (h : b ≤ n) : place b (k + 1) f n = place b k f (n / b) := by
  unfold place ind
  have e : n / b ^ (k + 1) = n / b / b ^ k := by rw [Nat.pow_succ, Nat.mul_comm, Nat.div_div_eq_div_mul]
  rw [e]
  by_cases c : k = 0
  · subst c
    have e1 : b ^ (0 + 1) = b := by rw [Nat.pow_succ, Nat.pow_zero, Nat.one_mul]
    rw [e1, if_pos (Or.inr h), if_pos (Or.inl rfl)]
  · have i : b ^ (k + 1) ≤ n ↔ b ^ k ≤ n / b := by rw [Nat.pow_succ]; exact (Nat.le_div_iff_mul_le (by omega)).symm
    by_cases q : b ^ k ≤ n / b
    · rw [if_pos (Or.inr (i.mpr q)), if_pos (Or.inr q)]
    · rw [if_neg (by intro z; rcases z with z | z; · omega
                     · exact q (i.mp z)), if_neg (by intro z; rcases z with z | z; · exact c z
                                                     · exact q z)]
theorem sumTo_front (g : Nat → Nat) : ∀ k, sumTo g (k + 1) = g 0 + sumTo (fun j => g (j + 1)) k
  | 0 => by show 0 + g 0 = g 0 + 0; omega
  | k + 1 => by
    show sumTo g (k + 1) + g (k + 1) = g 0 + (sumTo (fun j => g (j + 1)) k + g (k + 1))
    rw [sumTo_front g k]; omega
/-- how often a figure is written in a number, place by place -/
theorem place_count {b : Nat} (hb : 2 ≤ b) (f : Nat) : ∀ n k, n < b ^ k → 0 < k → sumTo (fun j => place b j f n) k = (digs b n).count f := by
  refine digs_ind hb (P := fun n => ∀ k, n < b ^ k → 0 < k → sumTo (fun j => place b j f n) k = (digs b n).count f) (fun n h k hk h0 => ?_) (fun n h ih k hk h0 => ?_)
  · obtain ⟨j, rfl⟩ : ∃ j, k = j + 1 := ⟨k - 1, by omega⟩
    rw [sumTo_front, place_zero, sumTo_congr (h := fun _ => 0), sumTo_zero, digs_small h, Nat.mod_eq_of_lt h]
    · show (if n = f then 1 else 0) + 0 = List.count f [n]
      rw [List.count_cons, List.count_nil]
      simp
    · intro i _
      unfold place
      rw [if_neg]
      rintro (z | z)
      · omega
      · have : b ≤ b ^ (i + 1) := by rw [Nat.pow_succ]; exact Nat.le_mul_of_pos_left _ (Nat.pow_pos (by omega))
        omega
  · obtain ⟨j, rfl⟩ : ∃ j, k = j + 1 := ⟨k - 1, by omega⟩
    have hj : 0 < j := by
      by_cases z : j = 0
      · subst z
        rw [Nat.pow_succ, Nat.pow_zero, Nat.one_mul] at hk
        omega
      · omega
    rw [sumTo_front, place_zero, sumTo_congr (h := fun i => place b i f (n / b)) (fun i _ => place_succ hb h), ih j ((Nat.div_lt_iff_lt_mul (by omega)).mpr (by rw [Nat.pow_succ] at hk; exact hk)) hj, digs_big hb h, List.count_cons]
    by_cases c : n % b = f
    · rw [if_pos c]; simp [c]; omega
    · rw [if_neg c]; simp [c]
/-- how often a figure stands in all numbers below N -/
def cnt (b f N : Nat) : Nat := sumTo (fun n => (digs b n).count f) N
theorem cnt_places {b f N k : Nat} (hb : 2 ≤ b) (hN : N ≤ b ^ k) (hk : 0 < k) : sumTo (fun j => sumTo (place b j f) N) k = cnt b f N := by
  rw [sumTo_swap]
  exact sumTo_congr fun n hn => place_count hb f n k (by omega) hk
/-- the sums of all numbers below N together -/
def tot (b N : Nat) : Nat := sumTo (dsum b) N
theorem count_total {b : Nat} : ∀ ds : List Nat, (∀ d ∈ ds, d < b) → sumTo (fun f => f * ds.count f) b = ds.sum
  | [], _ => by
    rw [sumTo_congr (h := fun _ => 0) (fun n _ => by simp), sumTo_zero]; rfl
  | d :: r, h => by
    have ih := count_total r fun x hx => h x (List.mem_cons_of_mem _ hx)
    rw [sumTo_congr (h := fun f => f * r.count f + if d = f then f else 0) (fun f _ => by
      rw [List.count_cons, Nat.mul_add]
      by_cases c : d = f
      · simp [c]
      · simp [c]), sumTo_add, ih, sumTo_pick d (fun f => f) b (h d List.mem_cons_self), List.sum_cons]
    omega
theorem cnt_total {b : Nat} (hb : 2 ≤ b) (N : Nat) : sumTo (fun f => f * cnt b f N) b = tot b N := by
  unfold cnt tot
  rw [sumTo_congr (h := fun f => sumTo (fun n => f * (digs b n).count f) N) (fun f _ => (sumTo_mul f _ N).symm), sumTo_swap]
  exact sumTo_congr fun n _ => count_total _ (digs_lt hb n)
theorem tot_succ (b N : Nat) : tot b (N + 1) = tot b N + dsum b N := rfl
/-! all numbers of so many figures -/
theorem sum_id_c (c : Nat) : ∀ b, 2 * sumTo (fun r => r + c) b + b = b * b + 2 * (b * c)
  | 0 => by show 2 * 0 + 0 = 0 * 0 + 2 * (0 * c); omega
  | b + 1 => by
    show 2 * (sumTo (fun r => r + c) b + (b + c)) + (b + 1) = (b + 1) * (b + 1) + 2 * ((b + 1) * c)
    have ih := sum_id_c c b
    have e1 : (b + 1) * (b + 1) = b * b + 2 * b + 1 := by rw [Nat.add_mul, Nat.mul_add]; omega
    have e2 : (b + 1) * c = b * c + c := Nat.succ_mul b c
    omega
theorem sumTo_shift (g : Nat → Nat) (a : Nat) : ∀ k, sumTo g (a + k) = sumTo g a + sumTo (fun r => g (a + r)) k
  | 0 => rfl
  | k + 1 => by
    show sumTo g (a + k) + g (a + k) = sumTo g a + (sumTo (fun r => g (a + r)) k + g (a + k))
    rw [sumTo_shift g a k]; omega
theorem tot_block {b : Nat} (hb : 2 ≤ b) (q : Nat) : 2 * tot b (b * (q + 1)) + b = 2 * tot b (b * q) + b * b + 2 * (b * dsum b q) := by
  unfold tot
  rw [Nat.mul_succ, sumTo_shift]
  rw [sumTo_congr (g := fun r => dsum b (b * q + r)) (h := fun r => r + dsum b q) (fun r hr => by
    rw [dsum_step hb, Nat.mul_add_mod, Nat.mod_eq_of_lt hr, Nat.mul_add_div (by omega), Nat.div_eq_of_lt hr, Nat.add_zero])]
  have := sum_id_c (dsum b q) b
  omega
theorem tot_mul {b : Nat} (hb : 2 ≤ b) : ∀ N, 2 * tot b (b * N) + N * b = 2 * (b * tot b N) + N * (b * b)
  | 0 => by rw [Nat.mul_zero]; show 2 * 0 + 0 * b = 2 * (b * 0) + 0 * (b * b); omega
  | N + 1 => by
    have h1 := tot_block hb N
    have h2 := tot_mul hb N
    rw [tot_succ]
    have e1 : b * (tot b N + dsum b N) = b * tot b N + b * dsum b N := Nat.mul_add _ _ _
    have e2 : (N + 1) * b = N * b + b := Nat.succ_mul _ _
    have e3 : (N + 1) * (b * b) = N * (b * b) + b * b := Nat.succ_mul _ _
    omega
theorem tot_pow {b : Nat} (hb : 2 ≤ b) : ∀ m, 2 * tot b (b ^ m) = b ^ m * m * (b - 1)
  | 0 => by
    rw [Nat.pow_zero]
    show 2 * (0 + dsum b 0) = _
    rw [dsum_small (by omega)]; omega
  | m + 1 => by
    have h := tot_mul hb (b ^ m)
    have ih := tot_pow hb m
    have e : b ^ (m + 1) = b * b ^ m := by rw [Nat.pow_succ, Nat.mul_comm]
    rw [e]
    obtain ⟨c, rfl⟩ : ∃ c, b = c + 1 := ⟨b - 1, by omega⟩
    rw [Nat.add_sub_cancel] at *
    generalize (c + 1) ^ m = p at *
    generalize tot (c + 1) ((c + 1) * p) = x at *
    generalize tot (c + 1) p = y at *
    have e1 : p * ((c + 1) * (c + 1)) = p * (c + 1) + p * (c + 1) * c := by rw [← Nat.mul_assoc, Nat.mul_succ, Nat.add_comm]
    have e2 : 2 * ((c + 1) * y) = (c + 1) * (p * m * c) := by rw [Nat.mul_left_comm, ih]
    have e3 : (c + 1) * p * (m + 1) * c = (c + 1) * (p * m * c) + p * (c + 1) * c := by
      rw [Nat.mul_succ, Nat.add_mul, Nat.mul_assoc (c + 1) p m, Nat.mul_assoc (c + 1) (p * m) c, Nat.mul_comm (c + 1) p]
    omega
end M

set_option Elab.async false
set_option linter.all false
set_option maxRecDepth 100000
namespace M
open PySem L2 Z
/-! rows of a whole number for each figure -/
def vI (b : Nat) (g : Nat → Int) : List V := (List.range b).map fun f => V.int (g f)
theorem vI_len (b : Nat) (g : Nat → Int) : (vI b g).length = b := by unfold vI; rw [List.length_map, List.length_range]
theorem vI_get {b f : Nat} {g : Nat → Int} (h : f < b) : (vI b g)[f]? = some (.int (g f)) := by unfold vI; rw [List.getElem?_map, List.getElem?_range h]; rfl
theorem vI_congr {b : Nat} {g g' : Nat → Int} (h : ∀ f, f < b → g f = g' f) : vI b g = vI b g' := by
  unfold vI
  exact List.map_congr_left fun f hf => by rw [h f (List.mem_range.mp hf)]
theorem vI_set {b f : Nat} {g : Nat → Int} {x : Int} (h : f < b) : (vI b g).set f (.int x) = vI b fun j => if j = f then x else g j := by
  refine List.ext_getElem? fun i => ?_
  rw [List.getElem?_set]
  by_cases e : f = i
  · subst e
    rw [if_pos rfl, vI_len, if_pos h, vI_get h, if_pos rfl]
  · rw [if_neg e]
    by_cases hi : i < b
    · rw [vI_get hi, vI_get hi, if_neg (Ne.symm e)]
    · rw [List.getElem?_eq_none (by rw [vI_len]; omega), List.getElem?_eq_none (by rw [vI_len]; omega)]
theorem vI_ints (b : Nat) (g : Nat → Int) : vI b g = ((List.range b).map g).map V.int := by rw [List.map_map]; rfl
theorem vI_zero (b : Nat) : (List.replicate b [V.int 0]).flatten = vI b fun _ => 0 := by
  unfold vI
  rw [List.map_const', List.length_range]
  induction b with
  | zero => rfl
  | succ m ih => rw [List.replicate_succ, List.flatten_cons, ih, List.replicate_succ]; rfl
/-- a row in the making: p ahead of i, v there, q behind -/
def rowM (b : Nat) (p q : Nat → Int) (i : Nat) (v : Int) : List V := vI b fun j => if j = i then v else if j < i then p j else q j
def stM (b : Nat) (p q : Nat → Int) (g : Nat) : List V := vI b fun j => if j < g then p j else q j
theorem rowM_len (b : Nat) (p q : Nat → Int) (i : Nat) (v : Int) : (rowM b p q i v).length = b := vI_len _ _
theorem rowM_get {b i : Nat} {p q : Nat → Int} {v : Int} (h : i < b) : (rowM b p q i v)[i]? = some (.int v) := by unfold rowM; rw [vI_get h, if_pos rfl]
theorem rowM_set {b i : Nat} {p q : Nat → Int} {v : Int} (x : Int) (h : i < b) : (rowM b p q i v).set i (.int x) = rowM b p q i x := by
  unfold rowM
  rw [vI_set h]
  refine vI_congr fun f _ => ?_
  by_cases e : f = i
  · rw [if_pos e, if_pos e]
  · rw [if_neg e, if_neg e, if_neg e]
theorem rowM_lo (b : Nat) (p q : Nat → Int) (i : Nat) : stM b p q i = rowM b p q i (q i) := vI_congr fun f _ => by
  by_cases e : f = i
  · subst e; rw [if_pos rfl, if_neg (by omega)]
  · rw [if_neg e]
theorem rowM_hi (b : Nat) (p q : Nat → Int) (i : Nat) : rowM b p q i (p i) = stM b p q (i + 1) := vI_congr fun f _ => by
  by_cases e : f = i
  · subst e; rw [if_pos rfl, if_pos (by omega)]
  · rw [if_neg e]
    by_cases c : f < i
    · rw [if_pos c, if_pos (by omega)]
    · rw [if_neg c, if_neg (by omega)]
theorem stM_zero (b : Nat) (p q : Nat → Int) : stM b p q 0 = vI b q := vI_congr fun f _ => if_neg (by omega)
theorem stM_full (b : Nat) (p q : Nat → Int) : stM b p q b = vI b p := vI_congr fun f h => if_pos h
theorem ixN_nat {n j : Nat} (h : j < n) : ixN n (j : Int) = some j := by
  unfold ixN
  rw [if_pos (by omega), if_pos (by omega)]
  congr 1
theorem ixN_pos {n j : Nat} (h : j < n) : ixN n (0 + (j : Int)) = some j := by rw [Int.zero_add]; exact ixN_nat h
/-- how often a figure stands up to N, place by place -/
theorem cl_to {b w f N : Nat} (hb : 2 ≤ b) (hw : 0 < w) (hf : f < b) : cl b w f (N + 1) = N / (w * b) * w + (if f < N / w % b then w else 0) + (if f = N / w % b then N % w + 1 else 0) := by
  rw [cl_step (by omega) hw hf]
  unfold cl ind
  have hM : 0 < w * b := Nat.mul_pos hw (by omega)
  have e := Nat.mod_add_div N (w * b)
  have hr := Nat.mod_lt N hM
  generalize hq : N / (w * b) = q at *
  generalize hrr : N % (w * b) = r at *
  have h1 : N = r + w * (b * q) := by rw [← e, Nat.mul_assoc]
  have hdiv : N / w % b = r / w := by
    rw [h1, Nat.add_mul_div_left _ _ hw, Nat.add_mul_mod_self_left]
    exact Nat.mod_eq_of_lt (Nat.div_lt_of_lt_mul hr)
  have hmod : N % w = r % w := by rw [h1, Nat.add_mul_mod_self_left]
  rw [hdiv, hmod]
  have er := Nat.mod_add_div r w
  have ht := Nat.mod_lt r hw
  generalize r % w = t at *
  generalize r / w = h at *
  rcases Nat.lt_trichotomy f h with c | c | c
  · have : (f + 1) * w ≤ h * w := Nat.mul_le_mul_right _ c
    rw [Nat.succ_mul] at this
    have e2 : w * h = h * w := Nat.mul_comm _ _
    rw [if_neg (by omega), if_pos c, if_neg (by omega)]
    omega
  · subst c
    have e2 : w * f = f * w := Nat.mul_comm _ _
    rw [if_pos rfl, if_neg (by omega), if_pos rfl]
    omega
  · have : (h + 1) * w ≤ f * w := Nat.mul_le_mul_right _ c
    rw [Nat.succ_mul] at this
    have e2 : w * h = h * w := Nat.mul_comm _ _
    rw [if_neg (by omega), if_neg (by omega), if_neg (by omega)]
    omega
/-- the counts of 1 to N behind k places -/
def toF (b N k f : Nat) : Int := ((sumTo (fun j => sumTo (place b j f) (N + 1)) k : Nat) : Int) - (if k = 0 ∨ f ≠ 0 then 0 else 1)
theorem toF_zero (b N f : Nat) : toF b N 0 f = 0 := by
  unfold toF
  rw [if_pos (Or.inl rfl)]; rfl
theorem toF_step {b N k f : Nat} (hb : 2 ≤ b) (hf : f < b) (h : b ^ k ≤ N) :
    toF b N k f + (((N / (b ^ k * b) : Nat) : Int) - (if f = 0 then 1 else 0)) * ((b ^ k : Nat) : Int) + (if f < N / b ^ k % b then ((b ^ k : Nat) : Int) else 0) + (if f = N / b ^ k % b then ((N % b ^ k : Nat) : Int) + 1 else 0) = toF b N (k + 1) f := by
  have hw : 0 < b ^ k := Nat.pow_pos (by omega)
  have h1 := place_sum (k := k) (N := N + 1) hb hf (by omega)
  have h2 := cl_to (N := N) hb hw hf
  unfold toF
  have e : sumTo (fun j => sumTo (place b j f) (N + 1)) (k + 1) = sumTo (fun j => sumTo (place b j f) (N + 1)) k + sumTo (place b k f) (N + 1) := rfl
  rw [e]
  generalize sumTo (fun j => sumTo (place b j f) (N + 1)) k = A at *
  generalize sumTo (place b k f) (N + 1) = B at *
  generalize cl b (b ^ k) f (N + 1) = C at *
  have em : ((N / (b ^ k * b) : Nat) : Int) * ((b ^ k : Nat) : Int) = ((N / (b ^ k * b) * b ^ k : Nat) : Int) := (Int.natCast_mul _ _).symm
  generalize N / (b ^ k * b) * b ^ k = D at *
  rw [Int.sub_mul, em]
  have ek : k = 0 → b ^ k = 1 := fun z => by rw [z, Nat.pow_zero]
  generalize b ^ k = w at *
  generalize N / w % b = y at *
  generalize N % w = x at *
  have h3 : (C : Int) = (D : Int) + (if f < y then (w : Int) else 0) + (if f = y then (x : Int) + 1 else 0) := by
    by_cases c1 : f < y
    · by_cases c2 : f = y
      · omega
      · rw [if_pos c1, if_neg c2] at h2 ⊢; omega
    · by_cases c2 : f = y
      · rw [if_neg c1, if_pos c2] at h2 ⊢; omega
      · rw [if_neg c1, if_neg c2] at h2 ⊢; omega
  clear h2
  generalize (if f < y then (w : Int) else 0) = P at *
  generalize (if f = y then (x : Int) + 1 else 0) = R at *
  by_cases z : f = 0
  · subst z
    rw [if_pos rfl, Int.one_mul]
    by_cases k0 : k = 0
    · have := ek k0
      rw [if_neg (by omega)] at h1
      rw [if_pos (by omega), if_neg (by omega)]
      omega
    · rw [if_pos (by omega)] at h1
      rw [if_neg (by omega), if_neg (by omega)]
      omega
  · rw [if_neg z, Int.zero_mul]
    rw [if_neg (by omega)] at h1
    rw [if_pos (by omega), if_pos (by omega)]
    omega
theorem toF_end {b N k f : Nat} (hb : 2 ≤ b) (hf : f < b) (h : N < b ^ k) : toF b N k f = ((cnt b f (N + 1) : Nat) : Int) - (if f = 0 then 1 else 0) := by
  unfold toF
  by_cases k0 : k = 0
  · subst k0
    have : N = 0 := by rw [Nat.pow_zero] at h; omega
    subst this
    rw [if_pos (Or.inl rfl)]
    show ((0 : Nat) : Int) - 0 = ((0 + (digs b 0).count f : Nat) : Int) - _
    rw [digs_small (by omega), List.count_cons, List.count_nil]
    by_cases z : f = 0
    · subst z; rw [if_pos rfl]; rfl
    · rw [if_neg z]
      have : ((0 : Nat) == f) = false := by simp; omega
      rw [this]; rfl
  · rw [cnt_places hb (by omega) (by omega)]
    by_cases z : f = 0
    · rw [if_neg (by omega), if_pos z]
    · rw [if_pos (by omega), if_neg z]
theorem cnt_zero (b f : Nat) : cnt b f 0 = 0 := rfl
theorem cnt_succ (b f N : Nat) : cnt b f (N + 1) = cnt b f N + (digs b N).count f := rfl
theorem count_dig {b : Nat} (hb : 2 ≤ b) {m f : Nat} (h : b ≤ m) : (digs b m).count f = (if f = m % b then 1 else 0) + (digs b (m / b)).count f := by
  rw [digs_big hb h, List.count_cons]
  by_cases c : f = m % b
  · rw [if_pos c, c]; simp; omega
  · rw [if_neg c]
    have : (m % b == f) = false := by simp; omega
    rw [this]; simp
theorem count_one {b m f : Nat} (h : m < b) : (digs b m).count f = if f = m then 1 else 0 := by
  rw [digs_small h, List.count_cons, List.count_nil]
  by_cases c : f = m
  · rw [if_pos c, c]; simp
  · rw [if_neg c]
    have : (m == f) = false := by simp; omega
    rw [this]; simp
end M
namespace M
theorem big_div {n b : Nat} (h : Big n) (hb : b ≤ 16) : n * b < 2 ^ 9000 := by
  have h1 : n * b ≤ n * 2 ^ 4 := Nat.mul_le_mul_left _ hb
  have h2 : n * 2 ^ 4 < 2 ^ 4000 * 2 ^ 4 := Nat.mul_lt_mul_of_pos_right h (by decide)
  have h3 : (2 : Nat) ^ 4000 * 2 ^ 4 = 2 ^ 4004 := (Nat.pow_add 2 4000 4).symm
  have h4 : (2 : Nat) ^ 4004 ≤ 2 ^ 9000 := Nat.pow_le_pow_right (by decide) (by decide)
  exact Nat.lt_of_le_of_lt h1 (Nat.lt_of_lt_of_le h2 (h3 ▸ h4))
theorem big_div1 {n : Nat} (h : Big n) : n < 2 ^ 9000 := Nat.lt_of_lt_of_le h (Nat.pow_le_pow_right (by decide) (by decide))
end M

set_option Elab.async false
set_option linter.all false
set_option maxRecDepth 100000
namespace M
open PySem L2 Z
/-! figures of what figures come to -/
theorem digs_val {b : Nat} (hb : 2 ≤ b) : ∀ l : List Nat, (∀ d ∈ l, d < b) → (∃ r t, l = r ++ [t] ∧ (t = 0 → r = [])) → digs b (val b l) = l
  | [], _, h => by
    obtain ⟨r, t, e, _⟩ := h
    cases r <;> cases e
  | [d], h, _ => by
    have : val b [d] = d := by show d + b * 0 = d; omega
    rw [this, digs_small (h d List.mem_cons_self)]
  | d :: x :: r, h, g => by
    obtain ⟨R, t, e, k⟩ := g
    cases R with
    | nil => cases e
    | cons y R =>
      injection e with e1 e2
      have ht : t ≠ 0 := fun z => by have := k z; cases this
      have ih := digs_val hb (x :: r) (fun d hd => h d (List.mem_cons_of_mem _ hd)) ⟨R, t, e2, fun z => absurd z ht⟩
      have hp : 0 < val b (x :: r) := by
        rcases Nat.eq_zero_or_pos (val b (x :: r)) with z | z
        · rw [z, digs_small (by omega), e2] at ih
          cases R with
          | nil => exact absurd (List.cons.inj ih).1.symm ht
          | cons q R => exact absurd (congrArg List.length ih) (by simp)
        · exact z
      have hd := h d List.mem_cons_self
      have e3 : val b (d :: x :: r) = d + b * val b (x :: r) := rfl
      have hge : b ≤ val b (d :: x :: r) := by
        rw [e3]
        have : b * 1 ≤ b * val b (x :: r) := Nat.mul_le_mul_left _ hp
        omega
      rw [digs_big hb hge, e3, Nat.add_mul_mod_self_left, Nat.mod_eq_of_lt hd, Nat.add_mul_div_left _ _ (by omega), Nat.div_eq_of_lt hd, Nat.zero_add, ih]
theorem val_lt {b : Nat} (hb : 2 ≤ b) : ∀ l : List Nat, (∀ d ∈ l, d < b) → val b l < b ^ l.length
  | [], _ => by show 0 < 1; omega
  | d :: r, h => by
    have ih := val_lt hb r fun x hx => h x (List.mem_cons_of_mem _ hx)
    have hd := h d List.mem_cons_self
    show d + b * val b r < b ^ (r.length + 1)
    rw [Nat.pow_succ, Nat.mul_comm (b ^ r.length) b]
    have : b * (val b r + 1) ≤ b * b ^ r.length := Nat.mul_le_mul_left _ ih
    rw [Nat.mul_add] at this
    omega
theorem val_big {b : Nat} (hb : 2 ≤ b) (hb2 : b ≤ 16) {l : List Nat} (h : ∀ d ∈ l, d < b) (hl : l.length ≤ 60) : Big (val b l) := by
  have h1 := val_lt hb l h
  have h2 : b ^ l.length ≤ 16 ^ l.length := Nat.pow_le_pow_left hb2 _
  have h3 : 16 ^ l.length ≤ 16 ^ 60 := Nat.pow_le_pow_right (by omega) hl
  have h4 : (16 : Nat) ^ 60 = 2 ^ 240 := by decide +kernel
  have h5 : (2 : Nat) ^ 240 ≤ 2 ^ 4000 := Nat.pow_le_pow_right (by decide) (by decide)
  exact Nat.lt_of_lt_of_le h1 (Nat.le_trans h2 (Nat.le_trans h3 (h4 ▸ h5)))
/-! sums and the base less one -/
theorem dsum_mod {b : Nat} (hb : 2 ≤ b) : ∀ n, ∃ k, n = dsum b n + (b - 1) * k := by
  refine digs_ind hb (fun n h => ⟨0, by rw [dsum_small h]; omega⟩) (fun n h ih => ?_)
  obtain ⟨k, e⟩ := ih
  refine ⟨k + n / b, ?_⟩
  rw [dsum_big hb h, Nat.mul_add]
  have e2 := Nat.mod_add_div n b
  obtain ⟨c, rfl⟩ : ∃ c, b = c + 1 := ⟨b - 1, by omega⟩
  rw [Nat.add_sub_cancel] at *
  have e3 : (c + 1) * (n / (c + 1)) = c * (n / (c + 1)) + n / (c + 1) := Nat.succ_mul _ _
  omega
theorem root_ind {b : Nat} (hb : 2 ≤ b) {P : Nat → Prop} (h0 : ∀ n, n < b → P n) (h1 : ∀ n, b ≤ n → P (dsum b n) → P n) : ∀ n, P n := by
  intro n
  induction n using Nat.strongRecOn with
  | ind n ih =>
    by_cases c : n < b
    · exact h0 n c
    · exact h1 n (by omega) (ih _ (dsum_lt hb (by omega)))
theorem root_mod {b : Nat} (hb : 2 ≤ b) : ∀ n, ∃ k, n = root b n + (b - 1) * k := by
  refine root_ind hb (fun n h => ⟨0, by rw [root_small h]; omega⟩) (fun n h ih => ?_)
  obtain ⟨k, e⟩ := ih
  obtain ⟨j, e2⟩ := dsum_mod hb n
  refine ⟨k + j, ?_⟩
  rw [root_big hb h, Nat.mul_add]
  omega
theorem root_lt {b : Nat} (hb : 2 ≤ b) : ∀ n, root b n < b :=
  root_ind hb (fun n h => by rw [root_small h]; exact h) fun n h ih => by rw [root_big hb h]; exact ih
theorem dsum_pos {b : Nat} (hb : 2 ≤ b) : ∀ n, 0 < n → 0 < dsum b n := by
  refine digs_ind hb (fun n h z => by rw [dsum_small h]; exact z) (fun n h ih _ => ?_)
  rw [dsum_big hb h]
  have := ih (Nat.div_pos h (by omega))
  omega
theorem root_pos {b : Nat} (hb : 2 ≤ b) : ∀ n, 0 < n → 0 < root b n :=
  root_ind hb (fun n h z => by rw [root_small h]; exact z) fun n h ih _ => by rw [root_big hb h]; exact ih (dsum_pos hb n (by omega))
theorem emod_zero {b n s k : Nat} (hb : 2 ≤ b) (e : n = s + (b - 1) * k) : ((n : Int) - (s : Int)) % ((b : Int) - 1) = 0 := by
  have e1 : (b : Int) - 1 = ((b - 1 : Nat) : Int) := by omega
  have e2 : (n : Int) - (s : Int) = ((b - 1 : Nat) : Int) * (k : Int) := by rw [← Int.natCast_mul]; omega
  rw [e1, e2]
  exact Int.mul_emod_right _ _
theorem dsum_add1 {b : Nat} (hb : 2 ≤ b) : ∀ n, dsum b (n + 1) ≤ dsum b n + 1 := by
  refine digs_ind hb (fun n h => ?_) (fun n h ih => ?_)
  · rw [dsum_small h]
    exact dsum_le hb _
  · rw [dsum_big hb h, dsum_step hb (n + 1)]
    have hr := Nat.mod_lt n (show 0 < b by omega)
    have e := Nat.mod_add_div n b
    by_cases c : n % b + 1 < b
    · have e1 : n + 1 = (n % b + 1) + b * (n / b) := by omega
      have h1 : (n + 1) % b = n % b + 1 := by rw [e1, Nat.add_mul_mod_self_left, Nat.mod_eq_of_lt c]
      have h2 : (n + 1) / b = n / b := by rw [e1, Nat.add_mul_div_left _ _ (by omega), Nat.div_eq_of_lt c]; omega
      rw [h1, h2]; omega
    · have e1 : n + 1 = 0 + b * (n / b + 1) := by rw [Nat.mul_add, Nat.mul_one]; omega
      have h1 : (n + 1) % b = 0 := by rw [e1, Nat.add_mul_mod_self_left]; rfl
      have h2 : (n + 1) / b = n / b + 1 := by rw [e1, Nat.add_mul_div_left _ _ (by omega), Nat.zero_div]; omega
      rw [h1, h2]; omega
theorem dsum_sub {b : Nat} (hb : 2 ≤ b) : ∀ n m, dsum b (n + m) ≤ dsum b n + dsum b m := by
  intro n
  induction n using Nat.strongRecOn with
  | ind n ih =>
    intro m
    by_cases z : n = 0
    · subst z; rw [Nat.zero_add]; omega
    · have hlt : n / b < n := Nat.div_lt_self (by omega) (by omega)
      have ih1 := ih (n / b) hlt (m / b)
      have hn := Nat.mod_lt n (show 0 < b by omega)
      have hm := Nat.mod_lt m (show 0 < b by omega)
      have en := Nat.mod_add_div n b
      have em := Nat.mod_add_div m b
      rw [dsum_step hb (n + m), dsum_step hb n, dsum_step hb m]
      by_cases c : n % b + m % b < b
      · have e1 : n + m = (n % b + m % b) + b * (n / b + m / b) := by rw [Nat.mul_add]; omega
        have h1 : (n + m) % b = n % b + m % b := by rw [e1, Nat.add_mul_mod_self_left, Nat.mod_eq_of_lt c]
        have h2 : (n + m) / b = n / b + m / b := by rw [e1, Nat.add_mul_div_left _ _ (by omega), Nat.div_eq_of_lt c]; omega
        rw [h1, h2]; omega
      · have c' : n % b + m % b - b < b := by omega
        have e1 : n + m = (n % b + m % b - b) + b * (n / b + m / b + 1) := by rw [Nat.mul_add, Nat.mul_add, Nat.mul_one]; omega
        have h1 : (n + m) % b = n % b + m % b - b := by rw [e1, Nat.add_mul_mod_self_left, Nat.mod_eq_of_lt c']
        have h2 : (n + m) / b = n / b + m / b + 1 := by rw [e1, Nat.add_mul_div_left _ _ (by omega), Nat.div_eq_of_lt c']; omega
        have h3 := dsum_add1 hb (n / b + m / b)
        rw [h1, h2]; omega
/-! a figure behind, noughts behind -/
theorem snoc_div {b n f : Nat} (hf : f < b) : (n * b + f) % b = f ∧ (n * b + f) / b = n := by
  rw [Nat.mul_comm, Nat.add_comm]
  exact ⟨by rw [Nat.add_mul_mod_self_left, Nat.mod_eq_of_lt hf], by rw [Nat.add_mul_div_left _ _ (by omega), Nat.div_eq_of_lt hf, Nat.zero_add]⟩
theorem dsum_snoc {b n f : Nat} (hb : 2 ≤ b) (hf : f < b) : dsum b (n * b + f) = dsum b n + f := by
  obtain ⟨h1, h2⟩ := snoc_div (n := n) hf
  rw [dsum_step hb, h1, h2]; omega
theorem digs_snoc {b n f : Nat} (hb : 2 ≤ b) (hf : f < b) (hn : 0 < n) : digs b (n * b + f) = f :: digs b n := by
  obtain ⟨h1, h2⟩ := snoc_div (n := n) hf
  have : 1 * b ≤ n * b := Nat.mul_le_mul_right _ hn
  rw [digs_big hb (by omega), h1, h2]
theorem dsum_pow {b : Nat} (hb : 2 ≤ b) (n : Nat) : ∀ t, dsum b (n * b ^ t) = dsum b n
  | 0 => by rw [Nat.pow_zero, Nat.mul_one]
  | t + 1 => by
    have := dsum_snoc (n := n * b ^ t) hb (show 0 < b by omega)
    rw [Nat.pow_succ, ← Nat.mul_assoc]
    rw [Nat.add_zero] at this
    rw [this, Nat.add_zero, dsum_pow hb n t]
theorem digs_pow {b n : Nat} (hb : 2 ≤ b) (hn : 0 < n) : ∀ t, digs b (n * b ^ t) = List.replicate t 0 ++ digs b n
  | 0 => by rw [Nat.pow_zero, Nat.mul_one]; rfl
  | t + 1 => by
    have := digs_snoc (n := n * b ^ t) (f := 0) hb (by omega) (Nat.mul_pos hn (Nat.pow_pos (by omega)))
    rw [Nat.pow_succ, ← Nat.mul_assoc]
    rw [Nat.add_zero] at this
    rw [this, digs_pow hb hn t, List.replicate_succ]; rfl
/-! texts -/
theorem tx_append (xs ys : List Nat) : tx xs ++ tx ys = tx (xs ++ ys) := by
  show Str.append _ _ = _
  unfold Str.append tx
  simp
theorem tx_nil {ds : List Nat} (h : tx ds = "") : ds = [] := by
  have h1 := congrArg Str.length h
  rw [tx_len] at h1
  exact List.eq_nil_of_length_eq_zero (by rw [h1]; decide +kernel)
theorem tx_cutL (ds : List Nat) (k : Nat) : cutS (tx ds) none (some (k : Int)) = tx (ds.take k) := by
  unfold cutS
  rw [HT.sIx_nat, tx_len]
  show (⟨(((tx ds).cps.toList.drop 0).take (min k ds.length - 0)).toArray⟩ : Str) = _
  unfold tx
  rw [List.drop_zero, Nat.sub_zero, ← List.map_take]
  have : ds.take (min k ds.length) = ds.take k := by
    by_cases c : k ≤ ds.length
    · rw [Nat.min_eq_left c]
    · rw [Nat.min_eq_right (by omega), List.take_of_length_le (Nat.le_refl _), List.take_of_length_le (by omega)]
  simp [this]
theorem tx_cutR (ds : List Nat) (k : Nat) : cutS (tx ds) (some (k : Int)) none = tx (ds.drop k) := by
  unfold cutS
  rw [HT.sIx_nat, tx_len]
  show (⟨(((tx ds).cps.toList.drop (min k ds.length)).take (ds.length - min k ds.length)).toArray⟩ : Str) = _
  unfold tx
  have h : (ds.map chr).length = ds.length := List.length_map _
  congr 2
  by_cases c : k ≤ ds.length
  · rw [Nat.min_eq_left c, List.take_of_length_le (by simp), List.map_drop]
  · rw [Nat.min_eq_right (by omega), List.drop_eq_nil_of_le (by simp), List.drop_eq_nil_of_le (show ds.length ≤ k by omega)]; simp
theorem lstrip_tx (ds : List Nat) (h : ∀ d ∈ ds, d < 36) : Txt.lstripChars (tx ds) "0" = tx (ds.dropWhile (· == 0)) := by
  unfold Txt.lstripChars
  rw [PySem.W.stripBy_eq]
  have e0 : ∀ l : List Nat, (∀ d ∈ l, d < 36) → (l.map chr).drop (((l.map chr).takeWhile ("0" : Str).cps.contains).length) = (l.dropWhile (· == 0)).map chr := by
    intro l
    induction l with
    | nil => intro _; rfl
    | cons d r ih =>
      intro hl
      have hd := chr_nought d (hl d List.mem_cons_self)
      have ec : ("0" : Str).cps.contains (chr d) = (d == 0) := by
        have : ("0" : Str).cps = #[48] := by decide +kernel
        rw [this]
        by_cases z : d = 0
        · rw [hd.mpr z, z]; decide +kernel
        · have : chr d ≠ 48 := fun q => z (hd.mp q)
          simp [this, z]
      rw [List.map_cons, List.takeWhile_cons, ec, List.dropWhile_cons]
      by_cases z : d = 0
      · subst z
        show ((chr 0 :: r.map chr).drop ((chr 0 :: (r.map chr).takeWhile _).length)) = _
        rw [List.length_cons, List.drop_succ_cons]
        exact ih fun x hx => hl x (List.mem_cons_of_mem _ hx)
      · have : (d == 0) = false := by simp [z]
        rw [this]; rfl
  show Builtin.Str.strSub (tx ds) ((tx ds).cps.toList.takeWhile _).length (tx ds).length = _
  unfold Builtin.Str.strSub
  have e1 := e0 ds h
  rw [tx_len]
  show (⟨(ds.map chr).toArray.extract _ _⟩ : Str) = ⟨((ds.dropWhile (· == 0)).map chr).toArray⟩
  rw [← e1]
  have e2 : (tx ds).cps.toList = ds.map chr := by unfold tx; simp
  rw [e2]
  congr 1
  rw [List.extract_toArray]
  congr 1
  unfold List.extract
  rw [List.take_of_length_le]
  rw [List.length_drop, List.length_map]; omega
theorem rep_nought (t : Nat) : repS "0" t = tx (List.replicate t 0) := by
  unfold repS tx
  have e : ("0" : Str).cps = #[48] := by decide +kernel
  have e48 : chr 0 = 48 := by decide +kernel
  rw [e, List.map_replicate, e48]
  have : ∀ (n : Nat) (acc : Array Nat), (List.replicate n #[48]).foldl (· ++ ·) acc = acc ++ (List.replicate n 48).toArray := by
    intro n
    induction n with
    | zero => intro acc; simp
    | succ n ih =>
      intro acc
      rw [List.replicate_succ, List.foldl_cons, ih, List.replicate_succ]
      generalize List.replicate n 48 = l
      apply Array.ext'
      simp
  rw [this]; simp
theorem sum_dropW : ∀ l : List Nat, (l.dropWhile (· == 0)).sum = l.sum
  | [] => rfl
  | d :: r => by
    rw [List.dropWhile_cons]
    by_cases z : d = 0
    · subst z
      show (r.dropWhile (· == 0)).sum = _
      rw [sum_dropW r, List.sum_cons, Nat.zero_add]
    · have : (d == 0) = false := by simp [z]
      rw [this]; rfl
theorem dropW_top : ∀ l : List Nat, l.dropWhile (· == 0) = [] ∨ ∃ t r, l.dropWhile (· == 0) = t :: r ∧ t ≠ 0
  | [] => .inl rfl
  | d :: r => by
    rw [List.dropWhile_cons]
    by_cases z : d = 0
    · subst z; exact dropW_top r
    · have : (d == 0) = false := by simp [z]
      rw [this]; exact .inr ⟨d, r, rfl, z⟩
theorem dropW_mem {l : List Nat} {d : Nat} (h : d ∈ l.dropWhile (· == 0)) : d ∈ l := (List.dropWhile_sublist _).subset h
theorem dropW_len (l : List Nat) : (l.dropWhile (· == 0)).length ≤ l.length := (List.dropWhile_sublist _).length_le
/-- a row of figures, none ahead a nought, is the figures of what it comes to -/
theorem digs_row {b : Nat} (hb : 2 ≤ b) {ds : List Nat} {t : Nat} {r : List Nat} (h : ∀ d ∈ ds, d < b) (e : ds = t :: r) (k : t = 0 → r = []) : (digs b (val b ds.reverse)).reverse = ds := by
  rw [digs_val hb ds.reverse (fun d hd => h d (List.mem_reverse.mp hd)) ⟨r.reverse, t, by rw [e, List.reverse_cons], fun z => by rw [k z]; rfl⟩, List.reverse_reverse]
end M

set_option Elab.async false
set_option linter.all false
namespace M
/-! carries of adding, by the sums -/
def carr (b x y c : Nat) : Nat := (dsum b x + dsum b y + c - dsum b (x + y + c)) / (b - 1)
/-- what goes on to the next place -/
def over (b x y c : Nat) : Nat := if b ≤ x % b + y % b + c then 1 else 0
theorem over_le (b x y c : Nat) : over b x y c ≤ 1 := by unfold over; split <;> omega
theorem add_step {b x y c : Nat} (hb : 2 ≤ b) (hc : c ≤ 1) : (x + y + c) / b = x / b + y / b + over b x y c ∧ (x + y + c) % b + b * over b x y c = x % b + y % b + c := by
  have hx := Nat.div_add_mod x b
  have hy := Nat.div_add_mod y b
  have lx := Nat.mod_lt x (by omega : 0 < b)
  have ly := Nat.mod_lt y (by omega : 0 < b)
  have e : x + y + c = b * (x / b + y / b) + (x % b + y % b + c) := by rw [Nat.mul_add]; omega
  have e1 : (x + y + c) / b = x / b + y / b + (x % b + y % b + c) / b := by
    rw [e, Nat.mul_add_div (by omega)]
  have e2 : (x + y + c) % b = (x % b + y % b + c) % b := by rw [e, Nat.mul_add_mod]
  unfold over
  by_cases h : b ≤ x % b + y % b + c
  · rw [if_pos h]
    have d : (x % b + y % b + c) / b = 1 := by
      rw [Nat.div_eq_iff (by omega)]; omega
    have m : (x % b + y % b + c) % b = x % b + y % b + c - b := by
      rw [Nat.mod_eq_sub_mod h, Nat.mod_eq_of_lt (by omega)]
    rw [e1, e2, d, m]
    exact ⟨rfl, by omega⟩
  · rw [if_neg h]
    have d : (x % b + y % b + c) / b = 0 := Nat.div_eq_of_lt (by omega)
    rw [e1, e2, d, Nat.mod_eq_of_lt (by omega)]
    exact ⟨rfl, by omega⟩
theorem dsum_zero {b : Nat} (hb : 2 ≤ b) : dsum b 0 = 0 := dsum_small (by omega)
theorem carr_ex {b : Nat} (hb : 2 ≤ b) : ∀ N x y c, x + y ≤ N → c ≤ 1 → ∃ r, dsum b x + dsum b y + c = dsum b (x + y + c) + r * (b - 1) := by
  intro N
  induction N with
  | zero =>
    intro x y c h hc
    have e1 : x = 0 := by omega
    have e2 : y = 0 := by omega
    subst e1 e2
    refine ⟨0, ?_⟩
    rw [dsum_zero hb, Nat.zero_mul]
    show 0 + 0 + c = dsum b (0 + 0 + c) + 0
    rw [dsum_small (by omega)]; omega
  | succ N ih =>
    intro x y c h hc
    by_cases z : x + y = 0
    · exact ih x y c (by omega) hc
    · obtain ⟨s1, s2⟩ := add_step (x := x) (y := y) hb hc
      have lx : x / b ≤ x := Nat.div_le_self _ _
      have ly : y / b ≤ y := Nat.div_le_self _ _
      have lt : x / b + y / b < x + y := by
        rcases Nat.eq_zero_or_pos x with q | q
        · have := Nat.div_lt_self (n := y) (k := b) (by omega) (by omega); omega
        · have := Nat.div_lt_self (n := x) (k := b) q (by omega); omega
      obtain ⟨r, hr⟩ := ih (x / b) (y / b) (over b x y c) (by omega) (over_le b x y c)
      refine ⟨r + over b x y c, ?_⟩
      rw [dsum_step hb x, dsum_step hb y, dsum_step hb (x + y + c), s1, Nat.add_mul]
      have : b * over b x y c = over b x y c * (b - 1) + over b x y c := by
        obtain ⟨b', rfl⟩ : ∃ b', b = b' + 1 := ⟨b - 1, by omega⟩
        rw [Nat.add_sub_cancel, Nat.mul_comm, Nat.mul_add, Nat.mul_one]
      omega
theorem carr_eq {b x y c : Nat} (hb : 2 ≤ b) (hc : c ≤ 1) : dsum b x + dsum b y + c = dsum b (x + y + c) + carr b x y c * (b - 1) := by
  obtain ⟨r, hr⟩ := carr_ex hb _ x y c (Nat.le_refl _) hc
  have : carr b x y c = r := by
    unfold carr
    rw [hr, Nat.add_sub_cancel_left, Nat.mul_div_cancel _ (by omega)]
  rw [this]; exact hr
theorem carr_of {b x y c r : Nat} (hb : 2 ≤ b) (h : dsum b x + dsum b y + c = dsum b (x + y + c) + r * (b - 1)) : carr b x y c = r := by
  unfold carr
  rw [h, Nat.add_sub_cancel_left, Nat.mul_div_cancel _ (by omega)]
theorem carr_step {b x y c : Nat} (hb : 2 ≤ b) (hc : c ≤ 1) : carr b x y c = over b x y c + carr b (x / b) (y / b) (over b x y c) := by
  refine carr_of hb ?_
  have hr := carr_eq (x := x / b) (y := y / b) hb (over_le b x y c)
  obtain ⟨s1, s2⟩ := add_step (x := x) (y := y) hb hc
  rw [dsum_step hb x, dsum_step hb y, dsum_step hb (x + y + c), s1, Nat.add_mul]
  have : b * over b x y c = over b x y c * (b - 1) + over b x y c := by
    obtain ⟨b', rfl⟩ : ∃ b', b = b' + 1 := ⟨b - 1, by omega⟩
    rw [Nat.add_sub_cancel, Nat.mul_comm, Nat.mul_add, Nat.mul_one]
  omega
theorem carr_zero {b : Nat} (hb : 2 ≤ b) : carr b 0 0 0 = 0 := carr_of hb (by rw [Nat.zero_mul, dsum_zero hb])
theorem carr_comm (b x y c : Nat) : carr b x y c = carr b y x c := by unfold carr; rw [Nat.add_comm x y, Nat.add_comm (dsum b x)]
end M

set_option Elab.async false
set_option linter.all false
set_option maxRecDepth 100000
set_option maxHeartbeats 4000000
namespace Lw
open PySem L2 Z
local macro_rules | `(tactic| walk_at "ne") => `(tactic| first | assumption | (refine Ne.symm ?_; assumption) | (refine ne_of_none (by assumption) (by assumption)) | (refine Ne.symm ?_; refine ne_of_none (by assumption) (by assumption)))
local macro_rules | `(tactic| walk_at "hp") => `(tactic| first | assumption | (refine sameAt (by assumption) ?_; walk_at "hp") | (refine keepAt (by assumption) (by walk_at "ne") ?_; walk_at "hp"))
local macro_rules | `(tactic| walk_at "sc") => `(tactic| (try dsimp only); first | omega | assumption | (refine And.intro ?_ (Or.inl ?_) <;> omega) | with_reducible rfl | (exact Nat.le_of_ble_eq_true rfl) | (refine Or.inl (And.intro ?_ ?_) <;> omega) | (refine Or.inr (Or.inl (And.intro ?_ ?_)) <;> omega) | (refine And.intro ?_ (Or.inl ?_) <;> omega) | decide | (exact ⟨_, rfl⟩))
local macro_rules | `(tactic| walk_at "w") => `(tactic| conv => whnf)
local macro_rules | `(tactic| walk_at "go") => `(tactic| ((conv => whnf); repeat ((first | refine And.intro (by walk_at "sc") ?_ | refine ⟨_, _, .inl (.inl (by walk_at "hp")), by rfl, ?_⟩ | refine ⟨.inl ⟨rfl, _, .inl (.inl (by walk_at "hp"))⟩, ?_⟩); (conv => whnf))))
local macro_rules | `(tactic| walk_at "t2") => `(tactic| (refine ⟨_, _, rfl, .inl (.inl (by walk_at "hp")), rfl, ?_⟩; (conv => whnf); refine ⟨_, _, rfl, ?_⟩; (conv => whnf); refine ⟨_, _, rfl, ?_⟩; (conv => whnf); refine ⟨rfl, ?_⟩; walk_at "go"))
local macro_rules | `(tactic| walk_at "t3") => `(tactic| (refine ⟨_, _, rfl, .inl (.inl (by walk_at "hp")), rfl, ?_⟩; (conv => whnf); refine ⟨_, _, rfl, ?_⟩; (conv => whnf); refine ⟨_, _, rfl, ?_⟩; (conv => whnf); refine ⟨_, _, rfl, ?_⟩; (conv => whnf); refine ⟨rfl, ?_⟩; walk_at "go"))
def top (i : Nat) : Stmt := PySem.Challenge.pw_figuresums_k22_carries.main.body.getD i (.Pass ⟨0, 0, 0, 0⟩)
structure Blt (mg : Str → Option Value) : Prop where
  b_bool : mg "bool" = none
  b_divmod : mg "divmod" = none
  b_int : mg "int" = none
  b_isinstance : mg "isinstance" = none
  b_len : mg "len" = none
  b_max : mg "max" = none
  b_min : mg "min" = none
  b_range : mg "range" = none
  b_sum : mg "sum" = none
  b_tuple : mg "tuple" = none
structure Cst (mg : Str → Option Value) : Prop where
  c_x : True
section
variable {P : Program} {w : World} {K : PySem.W.Frag} {mg : Str → Option Value} {base : Heap}
/-- the deck at d: the cells, how many are begun, what is left, how many were mixed (at most n), the sum -/
def Deck (H : Hp) (d c : Addr) (n : Nat) : Prop := ∃ (ns : List Int) (i rest mixed total : Int), H d = some (.lst [.ref c, .int i, .int rest, .int mixed, .int total]) ∧ H c = some (.lst (ns.map V.int)) ∧ c ≠ d ∧
  ns.length ≤ 63 ∧ 0 ≤ i ∧ i ≤ ns.length ∧ 0 ≤ rest ∧ 0 ≤ mixed ∧ mixed ≤ n
theorem Deck.same {H H' : Hp} {d c : Addr} {n : Nat} (h : Deck H d c n) (S : Same H H') : Deck H' d c n := by
  obtain ⟨ns, i, rest, mixed, total, hd, hc, r⟩ := h
  exact ⟨ns, i, rest, mixed, total, S _ _ hd, S _ _ hc, r⟩
theorem Deck.wr {H H' : Hp} {d c p : Addr} {n : Nat} (h : Deck H d c n) (S : Keep p H H') (n1 : d ≠ p) (n2 : c ≠ p) : Deck H' d c n := by
  obtain ⟨ns, i, rest, mixed, total, hd, hc, r⟩ := h
  exact ⟨ns, i, rest, mixed, total, S _ _ n1 hd, S _ _ n2 hc, r⟩
theorem Deck.ne {H : Hp} {d c p : Addr} {n : Nat} (h : Deck H d c n) (np : H p = none) : d ≠ p := by
  obtain ⟨ns, i, rest, mixed, total, hd, _⟩ := h
  exact ne_of_none hd np
theorem Deck.nec {H : Hp} {d c p : Addr} {n : Nat} (h : Deck H d c n) (np : H p = none) : c ≠ p := by
  obtain ⟨ns, i, rest, mixed, total, hd, hc, _⟩ := h
  exact ne_of_none hc np
theorem Deck.lst {H : Hp} {d c : Addr} {n : Nat} (h : Deck H d c n) : ∃ ys, H d = some (.lst ys) := by
  obtain ⟨ns, i, rest, mixed, total, hd, _⟩ := h
  exact ⟨_, hd⟩
theorem Deck.more {H : Hp} {d c : Addr} {n m : Nat} (h : Deck H d c n) (l : n ≤ m) : Deck H d c m := by
  obtain ⟨ns, i, rest, mixed, total, hd, hc, a, b, e, f, g, u, v⟩ := h
  exact ⟨ns, i, rest, mixed, total, hd, hc, a, b, e, f, g, u, by omega⟩
theorem at_ints {ns : List Int} {k : Int} (h0 : 0 ≤ k) (h : k < (ns.length : Int)) : ∃ v : Int, atI (ns.map V.int) k = some (.int v) ∧ ns[k.toNat]? = some v := by
  have hk : k.toNat < ns.length := by omega
  have ek : k = ((k.toNat : Nat) : Int) := by omega
  have q : atI (ns.map V.int) ((k.toNat : Nat) : Int) = some (.int ns[k.toNat]) := atI_nat (by rw [List.getElem?_map, List.getElem?_eq_getElem hk] <;> rfl)
  rw [← ek] at q
  exact ⟨_, q, List.getElem?_eq_getElem hk⟩
/-- triples of two numbers and a base -/
def Tris (H : Hp) (xs : List V) : Prop := ∀ x ∈ xs, ∃ (r : Addr) (n m b : Nat), x = .ref r ∧ H r = some (.tup [.int (n : Int), .int (m : Int), .int (b : Int)]) ∧ n ≤ 10 ^ 30 ∧ m ≤ 10 ^ 30 ∧ 2 ≤ b ∧ b ≤ 16
theorem Tris.same {H H' : Hp} {xs : List V} (h : Tris H xs) (S : Same H H') : Tris H' xs := fun x hx => by
  obtain ⟨r, n, m, b, e, hr, q⟩ := h x hx
  exact ⟨r, n, m, b, e, S _ _ hr, q⟩
theorem Tris.keep {H H' : Hp} {xs ys : List V} {d : Addr} (h : Tris H xs) (hd : H d = some (.lst ys)) (S : Keep d H H') : Tris H' xs := fun x hx => by
  obtain ⟨r, n, m, b, e, hr, q⟩ := h x hx
  exact ⟨r, n, m, b, e, S _ _ (ne_of hr hd (fun z => by cases z)) hr, q⟩
theorem carr_int (b n m : Nat) : (M.carr b n m 0 : Nat) = ((M.carr b n m 0 : Nat) : Int).toNat := by omega

/-! _law_deck -/
abbrev s__law_deck : Stmt := top 7
abbrev ps__law_deck : List Str := ["script"]
theorem sc__law_deck : FnScope ["script"] ["script"] (defScope s__law_deck) := ⟨rfl, rfl, rfl, by decide +kernel, rfl, by decide +kernel, by decide +kernel⟩
def sp__law_deck (K : PySem.W.Frag) : Sp := fun vs H Q _ => ∃ (a : Addr) (ns : List Int), vs = [.ref a] ∧ SqL K H a (ns.map V.int) ∧ ns.length ≤ 63 ∧ ∀ d c H', H d = none → Same H H' → Deck H' d c 0 → Q (.ref d) H'
theorem ok__law_deck (D : DefAt K mg "_law_deck" s__law_deck ps__law_deck) (B : Blt mg) (C : Cst mg) : Cal P w K mg base 1 "_law_deck" ps__law_deck (sp__law_deck K) := by
  have sc := sc__law_deck
  refine mkCal D sc (fun vs H Q E h => ?_) (fun f cdv A outer s H vs Q E hr h => ?_)
  · obtain ⟨a, ns, rfl, hS, hn, q⟩ := h
    rfl
  obtain ⟨a, ns, rfl, hS, hn, q⟩ := h
  refine ⟨_, (pss_one (ps_ret (zlst (pa_cons (pe_slice zslL (zv 0) po_none (zpo pe_int)) (pa_cons pe_int (pa_cons pe_int (pa_cons pe_int (pa_cons (pe_callB (zsum rfl) (by rfl) B.b_sum (by decide +kernel) (pa_cons (pe_slice zslL (zv 0) po_none (zpo pe_int)) pa_nil)) pa_nil)))))))), ?_⟩
  walk_at "go"
  refine ⟨_, hS, fun c H1 nc hc S1 => ?_⟩
  walk_at "go"
  refine ⟨_, S1.seq hS, fun c2 H2 nc2 hc2 S2 => ?_⟩
  walk_at "go"
  have ec : cutV (ns.map V.int) none (some 63) = (ns.take 63).map V.int := by
    have e2 : (ns.map V.int).length = ns.length := List.length_map _
    have e1 : HT.sIx (ns.map V.int).length (ns.map V.int).length (some 63) = ns.length := by
      rw [e2]
      exact (HT.sIx_nat ns.length ns.length 63).trans (by omega)
    unfold cutV
    rw [e1, List.take_of_length_le hn]
    show (ns.map V.int).take (ns.length - 0) = _
    rw [List.take_of_length_le (by omega)]
  rw [ec] at hc hc2
  refine ⟨ns.take 63, .inl (.inl hc2), ?_⟩
  walk_at "go"
  refine fun d H3 nd hd S3 => ?_
  walk_at "go"
  refine q d c H3 ((S1.trans S2).free nd) ((S1.trans S2).trans S3) ⟨ns.take 63, 0, 0, 0, _, hd, S3 _ _ (S2 _ _ hc), ne_of_none (S2 _ _ hc) nd, ?_, by omega, by omega, by omega, by omega, by omega⟩
  rw [List.length_take]; omega
/-! _law_mix -/
abbrev s__law_mix : Stmt := top 6
abbrev ps__law_mix : List Str := ["cell", "k"]
theorem sc__law_mix : FnScope ["cell", "k", "number"] ["cell", "k"] (defScope s__law_mix) := ⟨rfl, rfl, rfl, by decide +kernel, rfl, by decide +kernel, by decide +kernel⟩
def sp__law_mix (K : PySem.W.Frag) : Sp := fun vs H Q _ => ∃ cell k : Int, vs = [.int cell, .int k] ∧ 0 ≤ k ∧ k ≤ 1000000000000 ∧ ∀ r : Int, 0 ≤ r → Q (.int r) H
theorem ok__law_mix (D : DefAt K mg "_law_mix" s__law_mix ps__law_mix) (B : Blt mg) (C : Cst mg) : Cal P w K mg base 1 "_law_mix" ps__law_mix (sp__law_mix K) := by
  have sc := sc__law_mix
  refine mkCal D sc (fun vs H Q E h => ?_) (fun f cdv A outer s H vs Q E hr h => ?_)
  · obtain ⟨cell, k, rfl, hk0, hk, q⟩ := h
    rfl
  obtain ⟨cell, k, rfl, hk0, hk, q⟩ := h
  refine ⟨_, (pss_cons (ps_set (i := 2) sc.nd rfl (Or.inl rfl) (pe_op zadd (pe_op zmod (zv 0) pe_int) (pe_op zmul (pe_op zmul pe_int (zv 1)) (zv 1))))
    (pss_cons (ps_set (i := 2) sc.nd rfl (Or.inl rfl) (pe_op zmod (pe_op zadd (zv 2) (pe_op zmul pe_int (zv 1))) pe_int))
    (pss_cons (ps_set (i := 2) sc.nd rfl (Or.inl rfl) (pe_op zmod (pe_op zmul (zv 2) (zv 2)) pe_int))
    (pss_one (ps_ret (pe_op zfdiv (pe_op zmod (pe_op zmul (zv 2) (pe_op zadd (zv 2) pe_int)) pe_int) pe_int)))))), ?_⟩
  walk_at "go"
  exact q _ (by omega)
/-! _law_next -/
abbrev s__law_next : Stmt := top 8
abbrev ps__law_next : List Str := ["deck", "many"]
theorem sc__law_next : FnScope ["deck", "many", "cell", "found"] ["deck", "many"] (defScope s__law_next) := ⟨rfl, rfl, rfl, by decide +kernel, rfl, by decide +kernel, by decide +kernel⟩
def sp__law_next (K : PySem.W.Frag) : Sp := fun vs H Q _ => ∃ (d c : Addr) (many : Int) (n : Nat), vs = [.ref d, .int many] ∧ Deck H d c n ∧ n < 1000000000 ∧ 0 < many ∧ many < 1073741824 ∧ ∀ r H', 0 ≤ r → r < many → Deck H' d c (n + 1) → Keep d H H' → Q (.int r) H'
theorem ok__law_next (D : DefAt K mg "_law_next" s__law_next ps__law_next) (B : Blt mg) (C : Cst mg) (c__law_mix : Cal P w K mg base 1 "_law_mix" ps__law_mix (sp__law_mix K)) : Cal P w K mg base 2 "_law_next" ps__law_next (sp__law_next K) := by
  have sc := sc__law_next
  refine mkCal D sc (fun vs H Q E h => ?_) (fun f cdv A outer s H vs Q E hr h => ?_)
  · obtain ⟨d, c, many, n, rfl, hD, hn, hm0, hm, q⟩ := h
    rfl
  obtain ⟨d, c, many, n, rfl, hD, hn, hm0, hm, q⟩ := h
  refine ⟨_, (pss_zcut (zps_if (PW.pt (zpw_and (zpc zeq (pe_ix zixL (zv 0) pe_int (fun _ _ => rfl)) pe_int) (zpw_and1 (zpc zlt (pe_ix zixL (zv 0) pe_int (fun _ _ => rfl)) (pe_callB zlen (by rfl) B.b_len (by decide +kernel) (pa_cons (pe_ix zixL (zv 0) pe_int (fun _ _ => rfl)) pa_nil)))))) (pss_cons (ps_set (i := 2) sc.nd rfl (Or.inl rfl) (pe_ix zixL (pe_ix zixL (zv 0) pe_int (fun _ _ => rfl)) (pe_ix zixL (zv 0) pe_int (fun _ _ => rfl)) (fun _ _ => rfl)))
    (pss_cons (ps_asg (pe_op zadd (pe_ix zixL (zv 0) pe_int (fun _ _ => rfl)) pe_int) (pg_sub (zv 0) pe_int zsetL))
    (pss_cons (zps_if (zpc zlt (zv 2) (zpow (r := 1000000000000000000) (by decide +kernel) (by decide))) (pss_one (ps_ret (pe_op zmod (zcall c__law_mix (hr.mono (by decide)) (by rfl) (pa_cons (zv 2) (pa_cons (pe_ix zixL (zv 0) pe_int (fun _ _ => rfl)) pa_nil))) (zv 1)))) pss_nil)
    (pss_one (ps_asg (zv 2) (pg_sub (zv 0) pe_int zsetL)))))) pss_nil)
    (pss_cons (zps_if (zpc zgt (pe_ix zixL (zv 0) pe_int (fun _ _ => rfl)) pe_int) (pss_cons (ps_set (i := 3) sc.nd rfl (Or.inl rfl) (pe_op zmod (pe_ix zixL (zv 0) pe_int (fun _ _ => rfl)) (zv 1)))
    (pss_cons (ps_asg (pe_op zfdiv (pe_ix zixL (zv 0) pe_int (fun _ _ => rfl)) (zv 1)) (pg_sub (zv 0) pe_int zsetL))
    (pss_one (ps_ret (zv 3))))) pss_nil)
    (pss_cons (ps_asg (pe_op zadd (pe_ix zixL (zv 0) pe_int (fun _ _ => rfl)) pe_int) (pg_sub (zv 0) pe_int zsetL))
    (pss_one (ps_ret (pe_op zmod (zcall c__law_mix (hr.mono (by decide)) (by rfl) (pa_cons (pe_ix zixL (zv 0) pe_int (fun _ _ => rfl)) (pa_cons (pe_op zadd (pe_ix zixL (zv 0) pe_int (fun _ _ => rfl)) pe_int) pa_nil))) (zv 1))))))), ?_⟩
  obtain ⟨ns, i, rest, mixed, total, hd, hc, ncd, hl, hi0, hi, hr0, hx0, hx⟩ := hD
  walk_at "w"
  refine ⟨fun σ' H' => ∃ v2 v3, σ' = [some (.ref d), some (.int many), v2, v3] ∧ Keep d H H' ∧ ∃ i rest : Int, H' d = some (.lst [.ref c, .int i, .int rest, .int mixed, .int total]) ∧ 0 ≤ i ∧ i ≤ ns.length ∧ 0 ≤ rest, ?_, ?_⟩
  · walk_at "go"
    refine ⟨fun c1 => ?_, fun c1 => ?_⟩
    · walk_at "go"
      refine ⟨_, .inl (.inl (.inl hc)), ?_⟩
      walk_at "go"
      refine ⟨fun c2 => ?_, fun c2 => ?_⟩
      · rw [List.length_map] at c2
        walk_at "go"
        obtain ⟨cell, hcell, _⟩ := at_ints hi0 c2
        refine ⟨_, _, .inl (.inl hc), hcell, ?_⟩
        walk_at "go"
        refine ⟨_, _, hd, rfl, fun H1 hd1 K1 F1 => ?_⟩
        walk_at "go"
        refine ⟨fun c3 => ?_, fun c3 => ?_⟩
        · walk_at "go"
          refine ⟨_, _, rfl, by omega, by omega, fun r hr => ?_⟩
          walk_at "go"
          refine q _ H1 (Int.emod_nonneg _ (by omega)) (Int.emod_lt_of_pos _ hm0) ⟨ns, i + 1, rest, mixed, total, hd1, K1 _ _ ncd hc, ncd, hl, by omega, by omega, hr0, hx0, by omega⟩ K1
        · walk_at "go"
          refine ⟨_, _, hd1, rfl, fun H2 hd2 K2 F2 => ?_⟩
          refine ⟨_, _, rfl, K1.trans K2, i + 1, cell, hd2, by omega, by omega, by omega⟩
      · walk_at "go"
        exact ⟨_, _, rfl, Keep.refl _ _, i, rest, hd, hi0, hi, hr0⟩
    · walk_at "go"
      exact ⟨_, _, rfl, Keep.refl _ _, i, rest, hd, hi0, hi, hr0⟩
  · rintro σ1 H1 ⟨v2, v3, rfl, K1, i, rest, hd1, hi0, hi, hr0⟩
    have hc1 := K1 _ _ ncd hc
    walk_at "go"
    refine ⟨fun c1 => ?_, fun c1 => ?_⟩
    · walk_at "go"
      refine ⟨_, _, hd1, rfl, fun H2 hd2 K2 F2 => ?_⟩
      walk_at "go"
      refine q _ H2 (Int.emod_nonneg _ (by omega)) (Int.emod_lt_of_pos _ hm0) ⟨ns, i, rest / many, mixed, total, hd2, K2 _ _ ncd hc1, ncd, hl, hi0, hi, Int.ediv_nonneg (by omega) (by omega), hx0, by omega⟩ (K1.trans K2)
    · walk_at "go"
      refine ⟨_, _, hd1, rfl, fun H2 hd2 K2 F2 => ?_⟩
      walk_at "go"
      refine ⟨_, _, rfl, by omega, by omega, fun r hr => ?_⟩
      walk_at "go"
      refine q _ H2 (Int.emod_nonneg _ (by omega)) (Int.emod_lt_of_pos _ hm0) ⟨ns, i, rest, mixed + 1, total, hd2, K2 _ _ ncd hc1, ncd, hl, hi0, hi, hr0, by omega, by omega⟩ (K1.trans K2)
/-! _law_great -/
abbrev s__law_great : Stmt := top 9
abbrev ps__law_great : List Str := ["deck", "most"]
theorem sc__law_great : FnScope ["deck", "most", "found", "k"] ["deck", "most"] (defScope s__law_great) := ⟨rfl, rfl, rfl, by decide +kernel, rfl, by decide +kernel, by decide +kernel⟩
def sp__law_great (K : PySem.W.Frag) : Sp := fun vs H Q _ => ∃ (d c : Addr) (most : Int) (n : Nat), vs = [.ref d, .int most] ∧ Deck H d c n ∧ n < 900000000 ∧ 0 < most ∧ ∀ r H', 0 ≤ r → r < most → Deck H' d c (n + 6) → Keep d H H' → Q (.int r) H'
theorem ok__law_great (D : DefAt K mg "_law_great" s__law_great ps__law_great) (B : Blt mg) (C : Cst mg) (c__law_next : Cal P w K mg base 2 "_law_next" ps__law_next (sp__law_next K)) : Cal P w K mg base 3 "_law_great" ps__law_great (sp__law_great K) := by
  have sc := sc__law_great
  refine mkCal D sc (fun vs H Q E h => ?_) (fun f cdv A outer s H vs Q E hr h => ?_)
  · obtain ⟨d, c, most, n, rfl, hD, hn, hm, q⟩ := h
    rfl
  obtain ⟨d, c, most, n, rfl, hD, hn, hm, q⟩ := h
  refine ⟨_, (pss_cons (ps_set (i := 2) sc.nd rfl (Or.inl rfl) pe_int)
    (pss_cons (ps_for PassesOwn.never rfl (pi_range1 (by rfl) B.b_range (pa_cons pe_int pa_nil)) (pg_name (i := 3) sc.nd rfl (Or.inl rfl)) (pss_one (ps_set (i := 2) sc.nd rfl (Or.inl rfl) (pe_op zadd (pe_op zmul (zv 2) (zpow (r := 1000000) (by decide +kernel) (by decide))) (zcall c__law_next (hr.mono (by decide)) (by rfl) (pa_cons (zv 0) (pa_cons (zpow (r := 1000000) (by decide +kernel) (by decide)) pa_nil)))))))
    (pss_one (ps_ret (pe_op zmod (zv 2) (zv 1)))))), ?_⟩
  walk_at "go"
  refine ⟨_, rfl, by omega, by omega, for_range (fun i σ H' => ∃ (found : Int) (v3 : Option V), σ = [some (.ref d), some (.int most), some (.int found), v3] ∧ Deck H' d c (n + i) ∧ Keep d H H') ?_ ?_ ?_⟩
  · exact ⟨0, _, rfl, hD, Keep.refl _ _⟩
  · rintro i σ1 H1 hi ⟨found, v3, rfl, hD1, K1⟩
    have hi' : i < 6 := hi
    walk_at "go"
    refine ⟨_, _, _, _, rfl, hD1, by omega, by omega, by omega, fun r H2 hr0 hr hD2 K2 => ?_⟩
    walk_at "w"
    exact ⟨_, _, rfl, hD2, K1.trans K2⟩
  · rintro σ1 H1 ⟨found, v3, rfl, hD1, K1⟩
    walk_at "go"
    exact q _ H1 (Int.emod_nonneg _ (by omega)) (Int.emod_lt_of_pos _ hm) hD1 K1
/-! _law_number -/
abbrev s__law_number : Stmt := top 10
abbrev ps__law_number : List Str := ["deck", "base", "most"]
theorem sc__law_number : FnScope ["deck", "base", "most", "power", "rep", "figure", "k", "some"] ["deck", "base", "most"] (defScope s__law_number) := ⟨rfl, rfl, rfl, by decide +kernel, rfl, by decide +kernel, by decide +kernel⟩
def sp__law_number (K : PySem.W.Frag) : Sp := fun vs H Q _ => ∃ (d c : Addr) (base most : Int) (n : Nat), vs = [.ref d, .int base, .int most] ∧ Deck H d c n ∧ n < 800000000 ∧ 2 ≤ base ∧ base ≤ 16 ∧ 1 ≤ most ∧ most ≤ 10 ^ 40 ∧
  ∀ r H', 0 ≤ r → r ≤ most → Deck H' d c (n + 18) → Keep d H H' → Q (.int r) H'
theorem ok__law_number (D : DefAt K mg "_law_number" s__law_number ps__law_number) (B : Blt mg) (C : Cst mg) (c__law_next : Cal P w K mg base 2 "_law_next" ps__law_next (sp__law_next K)) (c__law_great : Cal P w K mg base 3 "_law_great" ps__law_great (sp__law_great K)) : Cal P w K mg base 4 "_law_number" ps__law_number (sp__law_number K) := by
  have sc := sc__law_number
  refine mkCal D sc (fun vs H Q E h => ?_) (fun f cdv A outer s H vs Q E hr h => ?_)
  · obtain ⟨d, c, base, most, n, rfl, hD, hn, hb, hb2, hm, hm2, q⟩ := h
    rfl
  obtain ⟨d, c, base, most, n, rfl, hD, hn, hb, hb2, hm, hm2, q⟩ := h
  refine ⟨_, (pss_cons (ps_set (i := 3) sc.nd rfl (Or.inl rfl) pe_int)
    (pss_cons (ps_set (i := 4) sc.nd rfl (Or.inl rfl) pe_int)
    (pss_cons (ps_set (i := 5) sc.nd rfl (Or.inl rfl) (zcall c__law_next (hr.mono (by decide)) (by rfl) (pa_cons (zv 0) (pa_cons (zv 1) pa_nil))))
    (pss_cons (ps_for PassesOwn.never rfl (pi_range1 (by rfl) B.b_range (pa_cons (zcall c__law_next (hr.mono (by decide)) (by rfl) (pa_cons (zv 0) (pa_cons pe_int pa_nil))) pa_nil)) (pg_name (i := 6) sc.nd rfl (Or.inl rfl)) (pss_one (zps_if (zpc zle (pe_op zmul (zv 3) (zv 1)) (zv 2)) (pss_cons (ps_set (i := 3) sc.nd rfl (Or.inl rfl) (pe_op zmul (zv 3) (zv 1)))
    (pss_one (ps_set (i := 4) sc.nd rfl (Or.inl rfl) (pe_op zadd (pe_op zmul (zv 4) (zv 1)) (zv 5))))) pss_nil)))
    (pss_cons (ps_set (i := 7) sc.nd rfl (Or.inl rfl) (zlst (pa_cons (zcall c__law_next (hr.mono (by decide)) (by rfl) (pa_cons (zv 0) (pa_cons pe_int pa_nil))) (pa_cons (zcall c__law_great (hr.mono (by decide)) (by rfl) (pa_cons (zv 0) (pa_cons (pe_op zadd (zv 2) pe_int) pa_nil))) (pa_cons (pe_op zsub (pe_op zadd (zv 3) (zcall c__law_next (hr.mono (by decide)) (by rfl) (pa_cons (zv 0) (pa_cons pe_int pa_nil)))) pe_int) (pa_cons (zv 4) pa_nil))))))
    (pss_cons (ps_set (i := 7) sc.nd rfl (Or.inl rfl) (pe_op zcat (zv 7) (zlst (pa_cons (pe_op zsub (zv 2) (zcall c__law_next (hr.mono (by decide)) (by rfl) (pa_cons (zv 0) (pa_cons pe_int pa_nil)))) (pa_cons (pe_op zfdiv (zcall c__law_great (hr.mono (by decide)) (by rfl) (pa_cons (zv 0) (pa_cons (pe_op zadd (zv 2) pe_int) pa_nil))) (zv 3)) pa_nil)))))
    (pss_one (ps_ret (pe_callB (zmin2 rfl) (by rfl) B.b_min (by decide +kernel) (pa_cons (zv 2) (pa_cons (pe_callB (zmax2 rfl) (by rfl) B.b_max (by decide +kernel) (pa_cons pe_int (pa_cons (pe_ix zixL (zv 7) (zcall c__law_next (hr.mono (by decide)) (by rfl) (pa_cons (zv 0) (pa_cons pe_int pa_nil))) (fun _ _ => rfl)) pa_nil))) pa_nil))))))))))), ?_⟩
  have hm9 : (10 : Int) ^ 40 = 10000000000000000000000000000000000000000 := by decide +kernel
  rw [hm9] at hm2
  walk_at "go"
  refine ⟨_, _, _, _, rfl, hD, by omega, by omega, by omega, fun figure H1 hf0 hf hD1 K1 => ?_⟩
  walk_at "w"
  refine ⟨_, _, _, _, rfl, hD1, by omega, by omega, by omega, fun times H2 ht0 ht hD2 K2 => ?_⟩
  walk_at "w"
  refine ⟨_, rfl, by omega, by omega, for_range (fun i σ H' => ∃ (power rep : Int) (v6 : Option V), σ = [some (.ref d), some (.int base), some (.int most), some (.int power), some (.int rep), some (.int figure), v6, none] ∧ H' = H2 ∧ 1 ≤ power ∧ power ≤ most) ?_ ?_ ?_⟩
  · exact ⟨1, 0, _, rfl, rfl, by omega, by omega⟩
  · rintro i σ1 H1 hi ⟨power, rep, v6, rfl, rfl, hp1, hp2⟩
    walk_at "go"
    refine ⟨fun cc => ?_, fun cc => ?_⟩
    · walk_at "go"
      refine ⟨_, _, _, rfl, rfl, ?_, cc⟩
      have : 1 * 1 ≤ power * base := Int.mul_le_mul hp1 (by omega) (by omega) (by omega)
      omega
    · walk_at "w"
      exact ⟨_, _, _, rfl, rfl, hp1, hp2⟩
  · rintro σ1 H3 ⟨power, rep, v6, rfl, rfl, hp1, hp2⟩
    have K12 := K1.trans K2
    walk_at "go"
    refine ⟨_, _, _, _, rfl, hD2, by omega, by omega, by omega, fun a0 H4 _ _ hD4 K4 => ?_⟩
    walk_at "w"
    refine ⟨_, _, _, _, rfl, hD4, by omega, by omega, fun a1 H5 _ _ hD5 K5 => ?_⟩
    walk_at "w"
    refine ⟨_, _, _, _, rfl, hD5, by omega, by omega, by omega, fun a2 H6 _ _ hD6 K6 => ?_⟩
    walk_at "go"
    refine fun p H7 np hp S7 => ?_
    have hD7 := hD6.same S7
    have npd : p ≠ d := Ne.symm (hD6.ne np)
    walk_at "go"
    refine ⟨_, _, _, _, rfl, hD7, by omega, by omega, by omega, fun a4 H8 _ _ hD8 K8 => ?_⟩
    walk_at "go"
    refine ⟨_, _, _, _, rfl, hD8, by omega, by omega, fun a5 H9 _ _ hD9 K9 => ?_⟩
    walk_at "w"
    refine ⟨⟨by omega, .inr (Nat.lt_of_lt_of_le (show power.natAbs < 10 ^ 41 by omega) (by decide +kernel))⟩, ?_⟩
    walk_at "go"
    refine fun p2 H10 np2 hp2' S10 => ?_
    have hp9 := S10 _ _ (K9 _ _ npd (K8 _ _ npd hp))
    walk_at "w"
    refine ⟨_, _, hp9, hp2', by show 6 ≤ sizeLine; decide, fun p3 H11 np3 hp3 S11 => ?_⟩
    have hD11 := (hD9.same S10).same S11
    walk_at "w"
    refine ⟨_, _, _, _, rfl, hD11, by omega, by omega, by omega, fun r H12 hr0 hr hD12 K12' => ?_⟩
    have np3d : p3 ≠ d := Ne.symm ((hD9.same S10).ne np3)
    obtain ⟨v, hv, _⟩ := at_ints (ns := [a0, a1, power + a2 - 2, rep, most - a4, a5 / power]) (k := r) hr0 hr
    walk_at "w"
    refine ⟨_, _, .inl (.inl (K12' _ _ np3d hp3)), hv, ?_⟩
    walk_at "w"
    refine q _ H12 (by omega) (by omega) hD12 ?_
    exact K12.trans (K4.trans (K5.trans (K6.trans ((Keep.of S7).trans (K8.trans (K9.trans ((Keep.of S10).trans ((Keep.of S11).trans K12'))))))))
/-! _law_carries -/
abbrev s__law_carries : Stmt := top 13
abbrev ps__law_carries : List Str := ["one", "other", "base"]
theorem sc__law_carries : FnScope ["one", "other", "base", "found", "carried"] ["one", "other", "base"] (defScope s__law_carries) := ⟨rfl, rfl, rfl, by decide +kernel, rfl, by decide +kernel, by decide +kernel⟩
def sp__law_carries (K : PySem.W.Frag) : Sp := fun vs H Q _ => ∃ n m b : Nat, vs = [.int (n : Int), .int (m : Int), .int (b : Int)] ∧ 2 ≤ b ∧ b ≤ 36 ∧ Q (.int (M.carr b n m 0 : Nat)) H
theorem ok__law_carries (D : DefAt K mg "_law_carries" s__law_carries ps__law_carries) (B : Blt mg) (C : Cst mg) : Cal P w K mg base 1 "_law_carries" ps__law_carries (sp__law_carries K) := by
  have sc := sc__law_carries
  refine mkCal D sc (fun vs H Q E h => ?_) (fun f cdv A outer s H vs Q E hr h => ?_)
  · obtain ⟨n, m, b, rfl, hb, hb2, q⟩ := h
    rfl
  obtain ⟨n, m, b, rfl, hb, hb2, q⟩ := h
  refine ⟨_, (pss_cons (ps_set (i := 3) sc.nd rfl (Or.inl rfl) pe_int)
    (pss_cons (ps_set (i := 4) sc.nd rfl (Or.inl rfl) pe_int)
    (pss_cons (zps_while PassesOwn.never (PW.pt (zpw_or (zpc zgt (zv 0) pe_int) (zpw_or (zpc zgt (zv 1) pe_int) (zpw_or1 (zpc zgt (zv 4) pe_int))))) (pss_cons (ps_set (i := 4) sc.nd rfl (Or.inl rfl) (pe_callTy zint (by rfl) B.b_int (by decide +kernel) (pa_cons (pe_cmpR zge (pe_op zadd (pe_op zadd (pe_op zmod (zv 0) (zv 2)) (pe_op zmod (zv 1) (zv 2))) (zv 4)) (zv 2) (nomark _)) pa_nil)))
    (pss_cons (ps_set (i := 3) sc.nd rfl (Or.inl rfl) (pe_op zadd (zv 3) (zv 4)))
    (pss_cons (ps_set (i := 0) sc.nd rfl (Or.inl rfl) (pe_op zfdiv (zv 0) (zv 2)))
    (pss_one (ps_set (i := 1) sc.nd rfl (Or.inl rfl) (pe_op zfdiv (zv 1) (zv 2))))))))
    (pss_one (ps_ret (zv 3)))))), ?_⟩
  walk_at "w"
  refine ⟨fun k σ H' => ∃ x y f c : Nat, σ = [some (.int (x : Int)), some (.int (y : Int)), some (.int (b : Int)), some (.int (f : Int)), some (.int (c : Int))] ∧ k = x + y + c ∧ H' = H ∧ c ≤ 1 ∧ f + M.carr b x y c = M.carr b n m 0, ⟨_, n, m, 0, 0, rfl, rfl, rfl, by omega, by omega⟩, ?_⟩
  rintro k σ1 H1 ⟨x, y, f0, c, rfl, rfl, rfl, hc, e⟩
  have more : ∀ (_ : 0 < x + y + c), (∃ m', m' < x + y + c ∧ ∃ x' y' f' c' : Nat, [some (V.int ((x : Int) / (b : Int))), some (.int ((y : Int) / (b : Int))), some (.int (b : Int)), some (.int ((f0 : Int) + (M.over b x y c : Nat))), some (.int (M.over b x y c : Nat))] = [some (V.int (x' : Int)), some (.int (y' : Int)), some (.int (b : Int)), some (.int (f' : Int)), some (.int (c' : Int))] ∧ m' = x' + y' + c' ∧ H1 = H1 ∧ c' ≤ 1 ∧ f' + M.carr b x' y' c' = M.carr b n m 0) := fun h => by
    have s := M.carr_step (x := x) (y := y) hb hc
    obtain ⟨s1, s2⟩ := M.add_step (x := x) (y := y) hb hc
    have lt : (x + y + c) / b < x + y + c := Nat.div_lt_self h (by omega)
    refine ⟨x / b + y / b + M.over b x y c, by omega, x / b, y / b, f0 + M.over b x y c, M.over b x y c, ?_, rfl, rfl, M.over_le _ _ _ _, by omega⟩
    rw [Int.natCast_add]; rfl
  walk_at "w"
  refine ⟨fun c1 => ?_, fun c1 => ?_⟩
  · have hp : 0 < x + y + c := by omega
    walk_at "go"
    refine ⟨fun d => ?_, fun d => ?_⟩
    · have d' : b ≤ x % b + y % b + c := by omega
      have eo : M.over b x y c = 1 := if_pos d'
      have m := more hp
      rw [eo] at m
      walk_at "go"
      exact m
    · have d' : ¬ b ≤ x % b + y % b + c := by omega
      have eo : M.over b x y c = 0 := if_neg d'
      have m := more hp
      rw [eo] at m
      walk_at "go"
      exact m
  · walk_at "w"
    refine ⟨fun c2 => ?_, fun c2 => ?_⟩
    · have hp : 0 < x + y + c := by omega
      walk_at "go"
      refine ⟨fun d => ?_, fun d => ?_⟩
      · have d' : b ≤ x % b + y % b + c := by omega
        have eo : M.over b x y c = 1 := if_pos d'
        have m := more hp
        rw [eo] at m
        walk_at "go"
        exact m
      · have d' : ¬ b ≤ x % b + y % b + c := by omega
        have eo : M.over b x y c = 0 := if_neg d'
        have m := more hp
        rw [eo] at m
        walk_at "go"
        exact m
    · walk_at "w"
      refine ⟨fun c3 => ?_, fun c3 => ?_⟩
      · have hp : 0 < x + y + c := by omega
        walk_at "go"
        refine ⟨fun d => ?_, fun d => ?_⟩
        · have d' : b ≤ x % b + y % b + c := by omega
          have eo : M.over b x y c = 1 := if_pos d'
          have m := more hp
          rw [eo] at m
          walk_at "go"
          exact m
        · have d' : ¬ b ≤ x % b + y % b + c := by omega
          have eo : M.over b x y c = 0 := if_neg d'
          have m := more hp
          rw [eo] at m
          walk_at "go"
          exact m
      · have e1 : x = 0 := by omega
        have e2 : y = 0 := by omega
        have e3 : c = 0 := by omega
        subst e1 e2 e3
        rw [M.carr_zero hb, Nat.add_zero] at e
        subst e
        walk_at "w"
        exact q
/-! figures_of -/
abbrev s_figures_of : Stmt := top 1
abbrev ps_figures_of : List Str := ["number", "base"]
theorem sc_figures_of : FnScope ["number", "base", "figures", "figure"] ["number", "base"] (defScope s_figures_of) := ⟨rfl, rfl, rfl, by decide +kernel, rfl, by decide +kernel, by decide +kernel⟩
def sp_figures_of (K : PySem.W.Frag) : Sp := fun vs H Q _ => ∃ n b : Nat, vs = [.int (n : Int), .int (b : Int)] ∧ 2 ≤ b ∧ b ≤ 36 ∧ M.Big n ∧ ∀ p H', H p = none → Same H H' → H' p = some (.tup (M.vN (M.digs b n).reverse)) → Q (.ref p) H'
theorem ok_figures_of (D : DefAt K mg "figures_of" s_figures_of ps_figures_of) (B : Blt mg) (C : Cst mg) : Cal P w K mg base 1 "figures_of" ps_figures_of (sp_figures_of K) := by
  have sc := sc_figures_of
  refine mkCal D sc (fun vs H Q E h => ?_) (fun f cdv A outer s H vs Q E hr h => ?_)
  · obtain ⟨n, b, rfl, hb, hb2, hn, q⟩ := h
    rfl
  obtain ⟨n, b, rfl, hb, hb2, hn, q⟩ := h
  refine ⟨_, (pss_cons (ps_set (i := 2) sc.nd rfl (Or.inl rfl) (zlst pa_nil))
    (pss_cons (zps_while PassesOwn.never (zpc zge (zv 0) (zv 1)) (pss_cons (ps_asg (pe_callB zdivmod (by rfl) B.b_divmod (by decide +kernel) (pa_cons (zv 0) (pa_cons (zv 1) pa_nil))) (pg_tup (n := 2) rfl (pgs_cons (pg_name (i := 0) sc.nd rfl (Or.inl rfl) (Or.inr rfl)) (pgs_cons (pg_name (i := 3) sc.nd rfl (Or.inl rfl) (Or.inr rfl)) pgs_nil))))
    (pss_one (ps_expr (pe_bm PySem.F.plainAttrs_list PySem.F.slot_list_append PySem.F.type_list_append zappend (zv 2) (pa_cons (zv 3) pa_nil))))))
    (pss_cons (ps_expr (pe_bm PySem.F.plainAttrs_list PySem.F.slot_list_append PySem.F.type_list_append zappend (zv 2) (pa_cons (zv 0) pa_nil)))
    (pss_one (ps_ret (pe_callTy ztuple (by rfl) B.b_tuple (by decide +kernel) (pa_cons (zrevL (zv 2)) pa_nil))))))), ?_⟩
  have hlen := M.digs_big_len hb hn
  walk_at "go"
  refine fun p H1 np hp S1 => ?_
  walk_at "w"
  refine ⟨fun m σ H' => ∃ (fs : List Nat) (v3 : Option V), σ = [some (.int (m : Int)), some (.int (b : Int)), some (.ref p), v3] ∧ H' p = some (.lst (M.vN fs)) ∧ Same H H' ∧ fs ++ M.digs b m = M.digs b n, ⟨n, [], _, rfl, hp, S1, rfl⟩, ?_⟩
  rintro k σ1 H2 ⟨fs, v3, rfl, hp2, S2, e⟩
  have hfl : fs.length < 16777216 := by
    have := congrArg List.length e
    rw [List.length_append] at this
    have : (M.digs b k).length ≠ 0 := fun z => M.digs_ne b k (List.eq_nil_of_length_eq_zero z)
    omega
  walk_at "go"
  refine ⟨fun c => ?_, fun c => ?_⟩
  · walk_at "go"
    refine fun t H3 nt ht S3 => ?_
    walk_at "go"
    walk_at "t2"
    refine ⟨_, S3 _ _ hp2, by rw [M.vN_len]; exact hfl, fun H4 hp4 K4 F4 => ?_⟩
    have c' : b ≤ k := by omega
    refine ⟨k / b, Nat.div_lt_self (by omega) (by omega), fs ++ [k % b], _, rfl, ?_, fun a o h => K4 _ _ ?_ (S3 _ _ (S2 _ _ h)), ?_⟩
    · rw [M.vN_append]; exact hp4
    · exact ne_of_none h np
    · rw [M.digs_big hb c'] at e
      rw [← e, List.append_assoc]; rfl
  · have c' : k < b := by omega
    rw [M.digs_small c'] at e
    walk_at "go"
    refine ⟨_, hp2, by rw [M.vN_len]; exact hfl, fun H4 hp4 K4 F4 => ?_⟩
    walk_at "go"
    refine ⟨_, .inl (.inl hp4), fun p5 H5 np5 hp5 S5 => ?_⟩
    walk_at "go"
    refine ⟨_, .inl (.inl hp5), fun p6 H6 np6 hp6 S6 => ?_⟩
    have S4 : Same H H4 := fun a o h => K4 _ _ (ne_of_none h np) (S2 _ _ h)
    refine q p6 H6 ((S4.trans S5).free np6) ((S4.trans S5).trans S6) ?_
    rw [← e, ← M.vN_rev, M.vN_append]; exact hp6
/-! sum_of -/
abbrev s_sum_of : Stmt := top 2
abbrev ps_sum_of : List Str := ["number", "base"]
theorem sc_sum_of : FnScope ["number", "base"] ["number", "base"] (defScope s_sum_of) := ⟨rfl, rfl, rfl, by decide +kernel, rfl, by decide +kernel, by decide +kernel⟩
def sp_sum_of (K : PySem.W.Frag) : Sp := fun vs H Q _ => ∃ n b : Nat, vs = [.int (n : Int), .int (b : Int)] ∧ 2 ≤ b ∧ b ≤ 36 ∧ M.Big n ∧ ∀ H', Same H H' → Q (.int (M.dsum b n : Nat)) H'
theorem ok_sum_of (D : DefAt K mg "sum_of" s_sum_of ps_sum_of) (B : Blt mg) (C : Cst mg) (c_figures_of : Cal P w K mg base 1 "figures_of" ps_figures_of (sp_figures_of K)) : Cal P w K mg base 2 "sum_of" ps_sum_of (sp_sum_of K) := by
  have sc := sc_sum_of
  refine mkCal D sc (fun vs H Q E h => ?_) (fun f cdv A outer s H vs Q E hr h => ?_)
  · obtain ⟨n, b, rfl, hb, hb2, hn, q⟩ := h
    rfl
  obtain ⟨n, b, rfl, hb, hb2, hn, q⟩ := h
  refine ⟨_, (pss_one (ps_ret (pe_callB (zsumT rfl) (by rfl) B.b_sum (by decide +kernel) (pa_cons (zcall c_figures_of (hr.mono (by decide)) (by rfl) (pa_cons (zv 0) (pa_cons (zv 1) pa_nil))) pa_nil)))), ?_⟩
  walk_at "w"
  refine ⟨n, b, rfl, hb, hb2, hn, fun p H1 np S1 hp => ?_⟩
  rw [M.vN_ints] at hp
  walk_at "w"
  refine ⟨_, .inl (.inl hp), ?_⟩
  rw [M.sum_ints, M.sum_rev]
  exact q H1 S1
/-! carries_of -/
abbrev s_carries_of : Stmt := top 4
abbrev ps_carries_of : List Str := ["one", "other", "base"]
theorem sc_carries_of : FnScope ["one", "other", "base", "more"] ["one", "other", "base"] (defScope s_carries_of) := ⟨rfl, rfl, rfl, by decide +kernel, rfl, by decide +kernel, by decide +kernel⟩
def sp_carries_of (K : PySem.W.Frag) : Sp := fun vs H Q _ => ∃ n m b : Nat, vs = [.int (n : Int), .int (m : Int), .int (b : Int)] ∧ 2 ≤ b ∧ b ≤ 36 ∧ M.Big (n + m) ∧ ∀ H', Same H H' → Q (.int (M.carr b n m 0 : Nat)) H'
theorem ok_carries_of (D : DefAt K mg "carries_of" s_carries_of ps_carries_of) (B : Blt mg) (C : Cst mg) (c_sum_of : Cal P w K mg base 2 "sum_of" ps_sum_of (sp_sum_of K)) : Cal P w K mg base 3 "carries_of" ps_carries_of (sp_carries_of K) := by
  have sc := sc_carries_of
  refine mkCal D sc (fun vs H Q E h => ?_) (fun f cdv A outer s H vs Q E hr h => ?_)
  · obtain ⟨n, m, b, rfl, hb, hb2, hn, q⟩ := h
    rfl
  obtain ⟨n, m, b, rfl, hb, hb2, hn, q⟩ := h
  refine ⟨_, (pss_cons (ps_set (i := 3) sc.nd rfl (Or.inl rfl) (pe_op zsub (pe_op zadd (zcall c_sum_of (hr.mono (by decide)) (by rfl) (pa_cons (zv 0) (pa_cons (zv 2) pa_nil))) (zcall c_sum_of (hr.mono (by decide)) (by rfl) (pa_cons (zv 1) (pa_cons (zv 2) pa_nil)))) (zcall c_sum_of (hr.mono (by decide)) (by rfl) (pa_cons (pe_op zadd (zv 0) (zv 1)) (pa_cons (zv 2) pa_nil)))))
    (pss_one (ps_ret (pe_op zfdiv (zv 3) (pe_op zsub (zv 2) pe_int))))), ?_⟩
  walk_at "w"
  refine ⟨n, b, rfl, hb, hb2, hn.le (by omega), fun H1 S1 => ?_⟩
  walk_at "w"
  refine ⟨m, b, rfl, hb, hb2, hn.le (by omega), fun H2 S2 => ?_⟩
  walk_at "w"
  refine ⟨n + m, b, by rw [Int.natCast_add]; rfl, hb, hb2, hn, fun H3 S3 => ?_⟩
  have e := M.carr_eq (x := n) (y := m) (c := 0) hb (by omega)
  have e2 : ((M.dsum b n : Nat) : Int) + ((M.dsum b m : Nat) : Int) - ((M.dsum b (n + m) : Nat) : Int) = ((M.carr b n m 0 : Nat) : Int) * ((b : Int) - 1) := by
    have h1 : ((b : Int) - 1) = ((b - 1 : Nat) : Int) := by omega
    rw [h1, ← Int.natCast_mul]
    have h2 : n + m + 0 = n + m := rfl
    rw [h2] at e
    omega
  walk_at "w"
  refine ⟨⟨by omega, by omega⟩, ?_⟩
  rw [e2]
  show Q (V.int (((M.carr b n m 0 : Nat) : Int) * ((b : Int) - 1) / ((b : Int) - 1))) H3
  rw [Int.mul_ediv_cancel _ (by omega)]
  exact q H3 (S1.trans (S2.trans S3))
/-! _law_is_whole -/
abbrev s__law_is_whole : Stmt := top 12
abbrev ps__law_is_whole : List Str := ["found", "due"]
theorem sc__law_is_whole : FnScope ["found", "due"] ["found", "due"] (defScope s__law_is_whole) := ⟨rfl, rfl, rfl, by decide +kernel, rfl, by decide +kernel, by decide +kernel⟩
def sp__law_is_whole (K : PySem.W.Frag) : Sp := fun vs H Q _ => ∃ a : Int, vs = [.int a, .int a] ∧ Q (.bl true) H
theorem ok__law_is_whole (D : DefAt K mg "_law_is_whole" s__law_is_whole ps__law_is_whole) (B : Blt mg) (C : Cst mg) : Cal P w K mg base 1 "_law_is_whole" ps__law_is_whole (sp__law_is_whole K) := by
  have sc := sc__law_is_whole
  refine mkCal D sc (fun vs H Q E h => ?_) (fun f cdv A outer s H vs Q E hr h => ?_)
  · obtain ⟨a, rfl, q⟩ := h
    rfl
  obtain ⟨a, rfl, q⟩ := h
  refine ⟨_, (pss_one (ps_ret (zpe_and (zpis k_int (by rfl) B.b_isinstance (by rfl) B.b_int (by decide +kernel) (zv 0)) (zpe_and (zpe_not (zpis k_bool (by rfl) B.b_isinstance (by rfl) B.b_bool (by decide +kernel) (zv 0))) (pe_one (pe_cmpR zeq (zv 0) (zv 1) (nomark _))))))), ?_⟩
  walk_at "w"
  exact ⟨fun _ => q, fun z => absurd rfl z⟩
/-! law -/
abbrev s_law : Stmt := top 14
abbrev ps_law : List Str := ["script"]
theorem sc_law : FnScope ["script", "deck", "some", "turn", "base", "one", "power", "other", "due"] ["script"] (defScope s_law) := ⟨rfl, rfl, rfl, by decide +kernel, rfl, by decide +kernel, by decide +kernel⟩
def sp_law (K : PySem.W.Frag) : Sp := fun vs H Q _ => ∃ (a : Addr) (ns : List Int), vs = [.ref a] ∧ SqL K H a (ns.map V.int) ∧ ns.length ≤ 63 ∧ ∀ H', Q (.bl true) H'
theorem ok_law {e : Addr} {ed : FuncData} (F : Fun K "law" "law" s_law e ed) (B : Blt mg) (C : Cst mg) (c__law_deck : Cal P w K mg base 1 "_law_deck" ps__law_deck (sp__law_deck K)) (c__law_next : Cal P w K mg base 2 "_law_next" ps__law_next (sp__law_next K)) (c__law_number : Cal P w K mg base 4 "_law_number" ps__law_number (sp__law_number K)) (c__law_carries : Cal P w K mg base 1 "_law_carries" ps__law_carries (sp__law_carries K)) (c_carries_of : Cal P w K mg base 3 "carries_of" ps_carries_of (sp_carries_of K)) (c__law_is_whole : Cal P w K mg base 1 "_law_is_whole" ps__law_is_whole (sp__law_is_whole K)) : FnOk P w K mg base CX0 5 e ed ps_law (sp_law K) := by
  have sc := sc_law
  refine F.ok sc (fun vs H Q E h => ?_) (fun cdv A outer s H vs Q E hr h => ?_)
  · obtain ⟨a, ns, rfl, hS, hn, q⟩ := h
    rfl
  obtain ⟨a, ns, rfl, hS, hn, q⟩ := h
  refine ⟨_, (pss_cons (ps_set (i := 1) sc.nd rfl (Or.inl rfl) (zcall c__law_deck (hr.mono (by decide)) (by rfl) (pa_cons (zv 0) pa_nil)))
    (pss_cons (ps_set (i := 2) sc.nd rfl (Or.inl rfl) (zlst pa_nil))
    (pss_cons (ps_for PassesOwn.never rfl (pi_range1 (by rfl) B.b_range (pa_cons pe_int pa_nil)) (pg_name (i := 3) sc.nd rfl (Or.inl rfl)) (pss_cons (ps_set (i := 4) sc.nd rfl (Or.inl rfl) (pe_op zadd pe_int (zcall c__law_next (hr.mono (by decide)) (by rfl) (pa_cons (zv 1) (pa_cons pe_int pa_nil)))))
    (pss_cons (ps_set (i := 5) sc.nd rfl (Or.inl rfl) (zcall c__law_number (hr.mono (by decide)) (by rfl) (pa_cons (zv 1) (pa_cons (zv 4) (pa_cons (zpow (r := 1000000000000000000000000000000) (by decide +kernel) (by decide)) pa_nil)))))
    (pss_cons (ps_set (i := 6) sc.nd rfl (Or.inl rfl) (zv 4))
    (pss_cons (zps_while PassesOwn.never (zpc zlt (zv 6) (zv 5)) (pss_one (ps_set (i := 6) sc.nd rfl (Or.inl rfl) (pe_op zmul (zv 6) (zv 4)))))
    (pss_cons (ps_set (i := 7) sc.nd rfl (Or.inl rfl) (pe_ix zixL (zlst (pa_cons (zcall c__law_number (hr.mono (by decide)) (by rfl) (pa_cons (zv 1) (pa_cons (zv 4) (pa_cons (zpow (r := 1000000000000000000000000000000) (by decide +kernel) (by decide)) pa_nil)))) (pa_cons (pe_callB (zmax2 rfl) (by rfl) B.b_max (by decide +kernel) (pa_cons pe_int (pa_cons (pe_callB (zmin2 rfl) (by rfl) B.b_min (by decide +kernel) (pa_cons (pe_op zsub (zv 6) (zv 5)) (pa_cons (zpow (r := 1000000000000000000000000000000) (by decide +kernel) (by decide)) pa_nil))) pa_nil))) (pa_cons (zv 5) pa_nil)))) (zcall c__law_next (hr.mono (by decide)) (by rfl) (pa_cons (zv 1) (pa_cons pe_int pa_nil))) (fun _ _ => rfl)))
    (pss_one (ps_expr (pe_bm PySem.F.plainAttrs_list PySem.F.slot_list_append PySem.F.type_list_append zappend (zv 2) (pa_cons (ztup (pa_cons (zv 5) (pa_cons (zv 7) (pa_cons (zv 4) pa_nil)))) pa_nil))))))))))
    (pss_cons (ps_for PassesOwn.never rfl (pi_list (pe_op zcat (zv 2) (pe_slice zslL (zv 2) po_none (zpo pe_int)))) (pg_tup (n := 3) rfl (pgs_cons (pg_name (i := 5) sc.nd rfl (Or.inl rfl) (Or.inr rfl)) (pgs_cons (pg_name (i := 7) sc.nd rfl (Or.inl rfl) (Or.inr rfl)) (pgs_cons (pg_name (i := 4) sc.nd rfl (Or.inl rfl) (Or.inr rfl)) pgs_nil)))) (pss_cons (ps_set (i := 8) sc.nd rfl (Or.inl rfl) (zcall c__law_carries (hr.mono (by decide)) (by rfl) (pa_cons (zv 5) (pa_cons (zv 7) (pa_cons (zv 4) pa_nil)))))
    (pss_one (zps_if (PW.pt (zpw_or (pt_not (zpt (zcall c__law_is_whole (hr.mono (by decide)) (by rfl) (pa_cons (zcall c_carries_of (hr.mono (by decide)) (by rfl) (pa_cons (zv 5) (pa_cons (zv 7) (pa_cons (zv 4) pa_nil)))) (pa_cons (zv 8) pa_nil))))) (zpw_or1 (zpc zne (zcall c_carries_of (hr.mono (by decide)) (by rfl) (pa_cons (zv 7) (pa_cons (zv 5) (pa_cons (zv 4) pa_nil)))) (zv 8))))) (pss_one (ps_ret pe_bl)) pss_nil))))
    (pss_one (ps_ret (zpe_and (pe_cmpR zeq (zcall c_carries_of (hr.mono (by decide)) (by rfl) (pa_cons pe_int (pa_cons pe_int (pa_cons pe_int pa_nil)))) pe_int (nomark _)) (zpe_and (pe_cmpR zeq (zcall c_carries_of (hr.mono (by decide)) (by rfl) (pa_cons pe_int (pa_cons pe_int (pa_cons pe_int pa_nil)))) pe_int (nomark _)) (pe_one (pe_cmpR zeq (zcall c_carries_of (hr.mono (by decide)) (by rfl) (pa_cons pe_int (pa_cons pe_int (pa_cons pe_int pa_nil)))) pe_int (nomark _))))))))))), ?_⟩
  have e30 : (10 : Int) ^ 30 = 1000000000000000000000000000000 := by decide +kernel
  have n30 : (10 : Nat) ^ 30 = 1000000000000000000000000000000 := by decide +kernel
  walk_at "go"
  refine ⟨a, ns, rfl, hS, hn, fun d c H1 nd S1 hD1 => ?_⟩
  walk_at "go"
  refine fun p H2 np hp S2 => ?_
  have hD2 := hD1.same S2
  have npd : p ≠ d := Ne.symm (hD1.ne np)
  have ncp : c ≠ p := hD1.nec np
  walk_at "w"
  refine ⟨_, rfl, by omega, by omega, for_range (fun i σ H' => ∃ (xs : List V) (v3 v4 v5 v6 v7 v8 : Option V), σ = [some (.ref a), some (.ref d), some (.ref p), v3, v4, v5, v6, v7, v8] ∧ Deck H' d c (200 * i) ∧ H' p = some (.lst xs) ∧ xs.length = i ∧ Tris H' xs) ?_ ?_ ?_⟩
  · exact ⟨[], none, none, none, none, none, none, rfl, hD2, hp, rfl, fun x hx => nomatch hx⟩
  · rintro i σ1 H3 hi ⟨xs, v3, v4, v5, v6, v7, v8, rfl, hD3, hp3, hl3, hx3⟩
    have hi' : i < 10 := hi
    walk_at "go"
    refine ⟨_, _, _, _, rfl, hD3, by omega, by omega, by omega, fun r H4 hr0 hr hD4 K4 => ?_⟩
    have hp4 := K4 _ _ npd hp3
    have hx4 : Tris H4 xs := by
      obtain ⟨ys, hd⟩ := hD3.lst
      exact hx3.keep hd K4
    walk_at "w"
    refine ⟨_, _, _, _, _, rfl, hD4, by omega, by omega, by omega, by omega, by omega, fun one H5 ho0 ho hD5 K5 => ?_⟩
    have hp5 := K5 _ _ npd hp4
    have hx5 : Tris H5 xs := by
      obtain ⟨ys, hd⟩ := hD4.lst
      exact hx4.keep hd K5
    walk_at "w"
    refine ⟨fun m σ H' => ∃ pw : Int, σ = [some (.ref a), some (.ref d), some (.ref p), some (.int (0 + (i : Int))), some (.int (2 + r)), some (.int one), some (.int pw), v7, v8] ∧ m = (one - pw).toNat ∧ 1 ≤ pw ∧ H' = H5, ⟨_, 2 + r, rfl, rfl, by omega, rfl⟩, ?_⟩
    rintro m σ2 G ⟨pw, rfl, rfl, hpw, rfl⟩
    walk_at "w"
    refine ⟨fun cw => ?_, fun cw => ?_⟩
    · walk_at "go"
      have : pw * 2 ≤ pw * (2 + r) := Int.mul_le_mul_of_nonneg_left (by omega) (by omega)
      refine ⟨_, ?_, pw * (2 + r), rfl, rfl, by omega, rfl⟩
      omega
    · walk_at "go"
      refine ⟨_, _, _, _, _, rfl, hD5, by omega, by omega, by omega, by omega, by omega, fun o1 H6 ho10 ho1 hD6 K6 => ?_⟩
      walk_at "go"
      refine fun l H7 nl hl S7 => ?_
      have hD7 := hD6.same S7
      have nld : l ≠ d := Ne.symm (hD6.ne nl)
      walk_at "w"
      refine ⟨_, _, _, _, rfl, hD7, by omega, by omega, by omega, fun r2 H8 hr20 hr2 hD8 K8 => ?_⟩
      have hl8 := K8 _ _ nld hl
      have hp6 := K6 _ _ npd hp5
      have hp8 := K8 _ _ npd (S7 _ _ hp6)
      have hx8 : Tris H8 xs := by
        obtain ⟨ys, hd⟩ := hD5.lst
        obtain ⟨ys7, hd7⟩ := hD7.lst
        exact ((hx5.keep hd K6).same S7).keep hd7 K8
      obtain ⟨v, hv, hv2⟩ := at_ints (ns := [o1, max 0 (min (pw - one) (10 ^ 30)), one]) (k := r2) hr20 hr2
      rw [e30] at hv hv2
      have hvv : 0 ≤ v ∧ v ≤ 1000000000000000000000000000000 := by
        rcases (by omega : r2 = 0 ∨ r2 = 1 ∨ r2 = 2) with e | e | e
        · subst e; cases hv2; omega
        · subst e; cases hv2; omega
        · subst e; cases hv2; omega
      walk_at "w"
      refine ⟨_, _, .inl (.inl hl8), hv, ?_⟩
      walk_at "go"
      refine fun t H9 nt ht S9 => ?_
      have hD9 := hD8.same S9
      walk_at "w"
      refine ⟨_, S9 _ _ hp8, by rw [hl3]; exact Nat.lt_of_lt_of_le hi' (by decide), fun H10 hp10 K10 F10 => ?_⟩
      walk_at "w"
      have hdp : d ≠ p := Ne.symm npd
      refine ⟨xs ++ [.ref t], _, _, _, _, _, _, rfl, (hD9.wr K10 hdp ncp).more (by omega), hp10, by rw [List.length_append, hl3]; rfl, fun x hx => ?_⟩
      have ntp : t ≠ p := Ne.symm (ne_of_none hp8 nt)
      rcases List.mem_append.mp hx with e | e
      · obtain ⟨r', n', m', b', e1, h', q'⟩ := hx8 x e
        exact ⟨r', n', m', b', e1, K10 _ _ (ne_of h' hp8 (fun z => by cases z)) (S9 _ _ h'), q'⟩
      · refine ⟨t, one.toNat, v.toNat, (2 + r).toNat, List.mem_singleton.mp e, ?_, by omega, by omega, by omega, by omega⟩
        have e1 : ((one.toNat : Nat) : Int) = one := by omega
        have e2 : (((2 + r).toNat : Nat) : Int) = 2 + r := by omega
        have e3 : ((v.toNat : Nat) : Int) = v := by omega
        rw [e1, e2, e3]
        exact K10 _ _ ntp ht
  · rintro σ1 H3 ⟨xs, v3, v4, v5, v6, v7, v8, rfl, hD3, hp3, hl3, hx3⟩
    walk_at "w"
    refine ⟨_, .inl (.inl hp3), fun p1 H4 np1 hp1 S4 => ?_⟩
    walk_at "w"
    refine ⟨_, _, S4 _ _ hp3, hp1, ?_, fun p2 H5 np2 hp2 S5 => ?_⟩
    · have h1 : (cutV xs none (some 4)).length ≤ xs.length := by
        unfold cutV
        rw [List.length_take, List.length_drop]
        omega
      have h2 : xs.length = 10 := hl3
      show _ ≤ 16777216
      omega
    generalize hys : xs ++ cutV xs none (some 4) = ys at *
    have hx5 : Tris H5 ys := fun x hx => (hx3.same (S4.trans S5)) x (by
      rw [← hys] at hx
      rcases List.mem_append.mp hx with e | e
      · exact e
      · exact List.mem_of_mem_drop (List.mem_of_mem_take e))
    walk_at "w"
    refine ⟨_, rfl, ⟨_, .inl (.inl hp2)⟩, for_list (xs := ys) (fun i σ H' => ∃ (v3 v4 v5 v6 v7 v8 : Option V), σ = [some (.ref a), some (.ref d), some (.ref p), v3, v4, v5, v6, v7, v8] ∧ Same H5 H') ?_ (fun i σ H' hi h => ?_) (fun i x σ H' hx h => ?_) (fun σ H' h => ?_)⟩
    · exact ⟨_, _, _, _, _, _, rfl, Same.refl _⟩
    · obtain ⟨_, _, _, _, _, _, _, S⟩ := h
      exact .inl (.inl (S _ _ hp2))
    · obtain ⟨w3, w4, w5, w6, w7, w8, rfl, S6⟩ := h
      obtain ⟨t, n, m, b, rfl, ht, hn, hm, hb, hb2⟩ := hx5 x (List.mem_of_getElem? hx)
      have hbig : M.Big (n + m) := M.Big.of (Nat.le_trans (by omega : n + m ≤ 10 ^ 30 + 10 ^ 30) (by decide +kernel))
      have ht6 := S6 _ _ ht
      walk_at "w"
      walk_at "t3"
      refine ⟨n, m, b, rfl, hb, by omega, ?_⟩
      walk_at "w"
      refine ⟨n, m, b, rfl, hb, by omega, hbig, fun H7 S7 => ?_⟩
      walk_at "w"
      refine ⟨_, rfl, ?_⟩
      walk_at "w"
      refine ⟨m, n, b, rfl, hb, by omega, by rw [Nat.add_comm]; exact hbig, fun H8 S8 => ?_⟩
      rw [M.carr_comm b m n]
      walk_at "w"
      refine ⟨fun _ => ?_, fun z => absurd rfl z⟩
      walk_at "w"
      exact ⟨_, _, _, _, _, _, rfl, S6.trans (S7.trans S8)⟩
    · obtain ⟨w3, w4, w5, w6, w7, w8, rfl, S6⟩ := h
      walk_at "w"
      refine ⟨999, 1, 10, rfl, by omega, by omega, M.Big.of (by decide +kernel), fun H7 S7 => ?_⟩
      walk_at "w"
      refine ⟨fun _ => ?_, fun z => absurd (by decide +kernel) z⟩
      walk_at "w"
      refine ⟨0, 0, 2, rfl, by omega, by omega, M.Big.of (by decide +kernel), fun H7 S7 => ?_⟩
      walk_at "w"
      refine ⟨fun _ => ?_, fun z => absurd (by decide +kernel) z⟩
      walk_at "w"
      refine ⟨5, 5, 10, rfl, by omega, by omega, M.Big.of (by decide +kernel), fun H7 S7 => ?_⟩
      walk_at "w"
      refine ⟨fun _ => ?_, fun z => absurd (by decide +kernel) z⟩
      walk_at "w"
      exact q _
end
theorem all_mk {l : PySem.W.OpenLaw} {w : World} {K : PySem.W.Frag} {h : Heap} {mg : Str → Option Value} {fa f0 f1 f2 f3 f4 f5 f6 f7 f8 f9 f10 : Addr} (X : K.In h) (G : h.Ns mainGlobals mg) (hfa : mg "law" = some (.ref fa))
    {od0 an0 : Option Addr} {sl0 : Array (Option Value)} {oc0 kV0 dc0 pm0 cd0 ct0 : Value}
    {od1 an1 : Option Addr} {sl1 : Array (Option Value)} {oc1 kV1 dc1 pm1 cd1 ct1 : Value}
    {od2 an2 : Option Addr} {sl2 : Array (Option Value)} {oc2 kV2 dc2 pm2 cd2 ct2 : Value}
    {od3 an3 : Option Addr} {sl3 : Array (Option Value)} {oc3 kV3 dc3 pm3 cd3 ct3 : Value}
    {od4 an4 : Option Addr} {sl4 : Array (Option Value)} {oc4 kV4 dc4 pm4 cd4 ct4 : Value}
    {od5 an5 : Option Addr} {sl5 : Array (Option Value)} {oc5 kV5 dc5 pm5 cd5 ct5 : Value}
    {od6 an6 : Option Addr} {sl6 : Array (Option Value)} {oc6 kV6 dc6 pm6 cd6 ct6 : Value}
    {od7 an7 : Option Addr} {sl7 : Array (Option Value)} {oc7 kV7 dc7 pm7 cd7 ct7 : Value}
    {od8 an8 : Option Addr} {sl8 : Array (Option Value)} {oc8 kV8 dc8 pm8 cd8 ct8 : Value}
    {od9 an9 : Option Addr} {sl9 : Array (Option Value)} {oc9 kV9 dc9 pm9 cd9 ct9 : Value}
    {od10 an10 : Option Addr} {sl10 : Array (Option Value)} {oc10 kV10 dc10 pm10 cd10 ct10 : Value}
    (a0 : PySem.W.nsIn K mainGlobals "_law_deck" = some (some (.ref f0))) (l0 : K.lookup f0 = some ⟨oc0, od0, .func (PySem.W.fnOf "_law_deck" "_law_deck" (defArgs s__law_deck) (defBody s__law_deck) (defScope s__law_deck) .none kV0 dc0 pm0 an0 cd0 ct0), sl0⟩) (c0 : PySem.W.codeIn K cd0 "_law_deck" = true) (k0 : PySem.W.keepIn K (.ref f0) = true)
    (a1 : PySem.W.nsIn K mainGlobals "_law_mix" = some (some (.ref f1))) (l1 : K.lookup f1 = some ⟨oc1, od1, .func (PySem.W.fnOf "_law_mix" "_law_mix" (defArgs s__law_mix) (defBody s__law_mix) (defScope s__law_mix) .none kV1 dc1 pm1 an1 cd1 ct1), sl1⟩) (c1 : PySem.W.codeIn K cd1 "_law_mix" = true) (k1 : PySem.W.keepIn K (.ref f1) = true)
    (a2 : PySem.W.nsIn K mainGlobals "_law_next" = some (some (.ref f2))) (l2 : K.lookup f2 = some ⟨oc2, od2, .func (PySem.W.fnOf "_law_next" "_law_next" (defArgs s__law_next) (defBody s__law_next) (defScope s__law_next) .none kV2 dc2 pm2 an2 cd2 ct2), sl2⟩) (c2 : PySem.W.codeIn K cd2 "_law_next" = true) (k2 : PySem.W.keepIn K (.ref f2) = true)
    (a3 : PySem.W.nsIn K mainGlobals "_law_great" = some (some (.ref f3))) (l3 : K.lookup f3 = some ⟨oc3, od3, .func (PySem.W.fnOf "_law_great" "_law_great" (defArgs s__law_great) (defBody s__law_great) (defScope s__law_great) .none kV3 dc3 pm3 an3 cd3 ct3), sl3⟩) (c3 : PySem.W.codeIn K cd3 "_law_great" = true) (k3 : PySem.W.keepIn K (.ref f3) = true)
    (a4 : PySem.W.nsIn K mainGlobals "_law_number" = some (some (.ref f4))) (l4 : K.lookup f4 = some ⟨oc4, od4, .func (PySem.W.fnOf "_law_number" "_law_number" (defArgs s__law_number) (defBody s__law_number) (defScope s__law_number) .none kV4 dc4 pm4 an4 cd4 ct4), sl4⟩) (c4 : PySem.W.codeIn K cd4 "_law_number" = true) (k4 : PySem.W.keepIn K (.ref f4) = true)
    (a5 : PySem.W.nsIn K mainGlobals "_law_carries" = some (some (.ref f5))) (l5 : K.lookup f5 = some ⟨oc5, od5, .func (PySem.W.fnOf "_law_carries" "_law_carries" (defArgs s__law_carries) (defBody s__law_carries) (defScope s__law_carries) .none kV5 dc5 pm5 an5 cd5 ct5), sl5⟩) (c5 : PySem.W.codeIn K cd5 "_law_carries" = true) (k5 : PySem.W.keepIn K (.ref f5) = true)
    (a6 : PySem.W.nsIn K mainGlobals "figures_of" = some (some (.ref f6))) (l6 : K.lookup f6 = some ⟨oc6, od6, .func (PySem.W.fnOf "figures_of" "figures_of" (defArgs s_figures_of) (defBody s_figures_of) (defScope s_figures_of) .none kV6 dc6 pm6 an6 cd6 ct6), sl6⟩) (c6 : PySem.W.codeIn K cd6 "figures_of" = true) (k6 : PySem.W.keepIn K (.ref f6) = true)
    (a7 : PySem.W.nsIn K mainGlobals "sum_of" = some (some (.ref f7))) (l7 : K.lookup f7 = some ⟨oc7, od7, .func (PySem.W.fnOf "sum_of" "sum_of" (defArgs s_sum_of) (defBody s_sum_of) (defScope s_sum_of) .none kV7 dc7 pm7 an7 cd7 ct7), sl7⟩) (c7 : PySem.W.codeIn K cd7 "sum_of" = true) (k7 : PySem.W.keepIn K (.ref f7) = true)
    (a8 : PySem.W.nsIn K mainGlobals "carries_of" = some (some (.ref f8))) (l8 : K.lookup f8 = some ⟨oc8, od8, .func (PySem.W.fnOf "carries_of" "carries_of" (defArgs s_carries_of) (defBody s_carries_of) (defScope s_carries_of) .none kV8 dc8 pm8 an8 cd8 ct8), sl8⟩) (c8 : PySem.W.codeIn K cd8 "carries_of" = true) (k8 : PySem.W.keepIn K (.ref f8) = true)
    (a9 : PySem.W.nsIn K mainGlobals "_law_is_whole" = some (some (.ref f9))) (l9 : K.lookup f9 = some ⟨oc9, od9, .func (PySem.W.fnOf "_law_is_whole" "_law_is_whole" (defArgs s__law_is_whole) (defBody s__law_is_whole) (defScope s__law_is_whole) .none kV9 dc9 pm9 an9 cd9 ct9), sl9⟩) (c9 : PySem.W.codeIn K cd9 "_law_is_whole" = true) (k9 : PySem.W.keepIn K (.ref f9) = true)
    (a10 : PySem.W.nsIn K mainGlobals "law" = some (some (.ref f10))) (l10 : K.lookup f10 = some ⟨oc10, od10, .func (PySem.W.fnOf "law" "law" (defArgs s_law) (defBody s_law) (defScope s_law) .none kV10 dc10 pm10 an10 cd10 ct10), sl10⟩) (c10 : PySem.W.codeIn K cd10 "law" = true) (k10 : PySem.W.keepIn K (.ref f10) = true)
    (z_bool : PySem.W.nsIn K mainGlobals "bool" = some none)
    (z_divmod : PySem.W.nsIn K mainGlobals "divmod" = some none)
    (z_int : PySem.W.nsIn K mainGlobals "int" = some none)
    (z_isinstance : PySem.W.nsIn K mainGlobals "isinstance" = some none)
    (z_len : PySem.W.nsIn K mainGlobals "len" = some none)
    (z_max : PySem.W.nsIn K mainGlobals "max" = some none)
    (z_min : PySem.W.nsIn K mainGlobals "min" = some none)
    (z_range : PySem.W.nsIn K mainGlobals "range" = some none)
    (z_sum : PySem.W.nsIn K mainGlobals "sum" = some none)
    (z_tuple : PySem.W.nsIn K mainGlobals "tuple" = some none)
    : ∃ fd : FuncData, (∀ (s : Shared) (v : Value), BindsTo s fd ⟨[v], []⟩ [("script", v)]) ∧ ∀ base : Heap, K.In base → base.Ns mainGlobals mg → FnOk l.prog w K mg base CX0 5 fa fd ps_law (sp_law K) := by
  have e := hfa.symm.trans (PySem.W.mg_of X G a10)
  cases e
  have B : Blt mg := ⟨PySem.W.mg_none_of X G z_bool, PySem.W.mg_none_of X G z_divmod, PySem.W.mg_none_of X G z_int, PySem.W.mg_none_of X G z_isinstance, PySem.W.mg_none_of X G z_len, PySem.W.mg_none_of X G z_max, PySem.W.mg_none_of X G z_min, PySem.W.mg_none_of X G z_range, PySem.W.mg_none_of X G z_sum, PySem.W.mg_none_of X G z_tuple⟩
  have C : Cst mg := ⟨trivial⟩
  have F0 := fun_mk (st := s__law_deck) l0 c0 k0
  have D0 : DefAt K mg "_law_deck" s__law_deck ps__law_deck := ⟨_, _, F0, F0.binds (ps := ps__law_deck) (fun _ _ _ _ _ _ us hl => match us, hl with | [_], _ => rfl), PySem.W.mg_of X G a0⟩
  have F1 := fun_mk (st := s__law_mix) l1 c1 k1
  have D1 : DefAt K mg "_law_mix" s__law_mix ps__law_mix := ⟨_, _, F1, F1.binds (ps := ps__law_mix) (fun _ _ _ _ _ _ us hl => match us, hl with | [_, _], _ => rfl), PySem.W.mg_of X G a1⟩
  have F2 := fun_mk (st := s__law_next) l2 c2 k2
  have D2 : DefAt K mg "_law_next" s__law_next ps__law_next := ⟨_, _, F2, F2.binds (ps := ps__law_next) (fun _ _ _ _ _ _ us hl => match us, hl with | [_, _], _ => rfl), PySem.W.mg_of X G a2⟩
  have F3 := fun_mk (st := s__law_great) l3 c3 k3
  have D3 : DefAt K mg "_law_great" s__law_great ps__law_great := ⟨_, _, F3, F3.binds (ps := ps__law_great) (fun _ _ _ _ _ _ us hl => match us, hl with | [_, _], _ => rfl), PySem.W.mg_of X G a3⟩
  have F4 := fun_mk (st := s__law_number) l4 c4 k4
  have D4 : DefAt K mg "_law_number" s__law_number ps__law_number := ⟨_, _, F4, F4.binds (ps := ps__law_number) (fun _ _ _ _ _ _ us hl => match us, hl with | [_, _, _], _ => rfl), PySem.W.mg_of X G a4⟩
  have F5 := fun_mk (st := s__law_carries) l5 c5 k5
  have D5 : DefAt K mg "_law_carries" s__law_carries ps__law_carries := ⟨_, _, F5, F5.binds (ps := ps__law_carries) (fun _ _ _ _ _ _ us hl => match us, hl with | [_, _, _], _ => rfl), PySem.W.mg_of X G a5⟩
  have F6 := fun_mk (st := s_figures_of) l6 c6 k6
  have D6 : DefAt K mg "figures_of" s_figures_of ps_figures_of := ⟨_, _, F6, F6.binds (ps := ps_figures_of) (fun _ _ _ _ _ _ us hl => match us, hl with | [_, _], _ => rfl), PySem.W.mg_of X G a6⟩
  have F7 := fun_mk (st := s_sum_of) l7 c7 k7
  have D7 : DefAt K mg "sum_of" s_sum_of ps_sum_of := ⟨_, _, F7, F7.binds (ps := ps_sum_of) (fun _ _ _ _ _ _ us hl => match us, hl with | [_, _], _ => rfl), PySem.W.mg_of X G a7⟩
  have F8 := fun_mk (st := s_carries_of) l8 c8 k8
  have D8 : DefAt K mg "carries_of" s_carries_of ps_carries_of := ⟨_, _, F8, F8.binds (ps := ps_carries_of) (fun _ _ _ _ _ _ us hl => match us, hl with | [_, _, _], _ => rfl), PySem.W.mg_of X G a8⟩
  have F9 := fun_mk (st := s__law_is_whole) l9 c9 k9
  have D9 : DefAt K mg "_law_is_whole" s__law_is_whole ps__law_is_whole := ⟨_, _, F9, F9.binds (ps := ps__law_is_whole) (fun _ _ _ _ _ _ us hl => match us, hl with | [_, _], _ => rfl), PySem.W.mg_of X G a9⟩
  have F10 := fun_mk (st := s_law) l10 c10 k10
  refine ⟨PySem.W.fnOf "law" "law" (defArgs s_law) (defBody s_law) (defScope s_law) .none kV10 dc10 pm10 an10 cd10 ct10, fun s v => .of_eq rfl, fun base _ _ => ?_⟩
  have e__law_deck := ok__law_deck (P := l.prog) (w := w) (base := base) D0 B C 
  have e__law_mix := ok__law_mix (P := l.prog) (w := w) (base := base) D1 B C 
  have e__law_next := ok__law_next (P := l.prog) (w := w) (base := base) D2 B C e__law_mix
  have e__law_great := ok__law_great (P := l.prog) (w := w) (base := base) D3 B C e__law_next
  have e__law_number := ok__law_number (P := l.prog) (w := w) (base := base) D4 B C e__law_next e__law_great
  have e__law_carries := ok__law_carries (P := l.prog) (w := w) (base := base) D5 B C 
  have e_figures_of := ok_figures_of (P := l.prog) (w := w) (base := base) D6 B C 
  have e_sum_of := ok_sum_of (P := l.prog) (w := w) (base := base) D7 B C e_figures_of
  have e_carries_of := ok_carries_of (P := l.prog) (w := w) (base := base) D8 B C e_sum_of
  have e__law_is_whole := ok__law_is_whole (P := l.prog) (w := w) (base := base) D9 B C 
  exact ok_law F10 B C e__law_deck e__law_next e__law_number e__law_carries e_carries_of e__law_is_whole
theorem walk {l : PySem.W.OpenLaw} {q : Program} {loose : List Str} {XP : (Str → Option Value) → Heap → Prop} {YP : World → Heap → Prop} {d : DefRec} {K : Params → PySem.W.Frag} (hn : l.most = some 63) (hdf : d.params.defaults = [])
    (hY : ∀ (w : World) (h : Heap), YP w h → (K w.params).In h)
    (F : ∀ (w : World) (mg : Str → Option Value) (fa : Addr) (h : Heap), (K w.params).In h → h.Ns mainGlobals mg → mg d.name = some (.ref fa) →
      ∃ fd : FuncData, (∀ (s : Shared) (u : Value), BindsTo s fd ⟨[u], []⟩ [("script", u)]) ∧ ∀ base : Heap, (K w.params).In base → base.Ns mainGlobals mg → FnOk l.prog w (K w.params) mg base CX0 5 fa fd ps_law (sp_law (K w.params))) :
    PySem.W.WalkO q loose XP YP l.row.toRowW d [] (fun f vs => PySem.call f vs) :=
  L2.walk_of (n := 63) (k := 5) (x := "script") (CX := fun _ => CX0) (sp := fun w => sp_law (K w.params)) hn (by decide) hdf ⟨rfl, by decide, by decide⟩ hY F (fun _ _ a ns hl _ hS => ⟨a, ns, rfl, hS, hl, fun _ => rfl⟩) fun _ _ _ _ _ z => z
end Lw
open PySem PySem.W PyProof.Rows
set_option maxRecDepth 100000 in
set_option maxHeartbeats 0 in
theorem PySem.Challenge.cw_figuresums_k22_carries_holds : PySem.Challenge.rw_figuresums_k22_carries.Holds := by
  w_on; o_law; k_head; (case hw => w_witness2)
  k_fill
  refine Lw.walk (l := PySem.Challenge.rw_figuresums_k22_carries) rfl rfl (fun w h Y => PySem.W.kIn_of Y) ?F
  case F =>
    intro w mg fa h KX G hmg
    refine' Lw.all_mk KX G hmg ?a0 ?l0 ?c0 ?k0 ?a1 ?l1 ?c1 ?k1 ?a2 ?l2 ?c2 ?k2 ?a3 ?l3 ?c3 ?k3 ?a4 ?l4 ?c4 ?k4 ?a5 ?l5 ?c5 ?k5 ?a6 ?l6 ?c6 ?k6 ?a7 ?l7 ?c7 ?k7 ?a8 ?l8 ?c8 ?k8 ?a9 ?l9 ?c9 ?k9 ?a10 ?l10 ?c10 ?k10 ?z_bool ?z_divmod ?z_int ?z_isinstance ?z_len ?z_max ?z_min ?z_range ?z_sum ?z_tuple
    (case a0 => k_is)
    (case l0 => k_is)
    (case c0 => k_is)
    (case k0 => k_is)
    (case a1 => k_is)
    (case l1 => k_is)
    (case c1 => k_is)
    (case k1 => k_is)
    (case a2 => k_is)
    (case l2 => k_is)
    (case c2 => k_is)
    (case k2 => k_is)
    (case a3 => k_is)
    (case l3 => k_is)
    (case c3 => k_is)
    (case k3 => k_is)
    (case a4 => k_is)
    (case l4 => k_is)
    (case c4 => k_is)
    (case k4 => k_is)
    (case a5 => k_is)
    (case l5 => k_is)
    (case c5 => k_is)
    (case k5 => k_is)
    (case a6 => k_is)
    (case l6 => k_is)
    (case c6 => k_is)
    (case k6 => k_is)
    (case a7 => k_is)
    (case l7 => k_is)
    (case c7 => k_is)
    (case k7 => k_is)
    (case a8 => k_is)
    (case l8 => k_is)
    (case c8 => k_is)
    (case k8 => k_is)
    (case a9 => k_is)
    (case l9 => k_is)
    (case c9 => k_is)
    (case k9 => k_is)
    (case a10 => k_is)
    (case l10 => k_is)
    (case c10 => k_is)
    (case k10 => k_is)
    (case z_bool => k_is)
    (case z_divmod => k_is)
    (case z_int => k_is)
    (case z_isinstance => k_is)
    (case z_len => k_is)
    (case z_max => k_is)
    (case z_min => k_is)
    (case z_range => k_is)
    (case z_sum => k_is)
    (case z_tuple => k_is)
#print axioms PySem.Challenge.cw_figuresums_k22_carries_holds
