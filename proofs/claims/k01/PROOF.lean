import PyProof.Rows.All
import Wide.All
import OpenK.AllK
import Wide.FinOn
import PyProof.EqAt
import PyProof.EqKinds
import PyProof.TupleCall
import HandS.ForMost
import HandS.IsInst
import HandS.Wide
import HandS.TupLe
import HandS.Style
import HandS.TupAny
import HandS.Walk
import PySem.Challenge.RW_tombkeeper_k01_words_values_entries
set_option Elab.async false
set_option linter.all false
set_option maxRecDepth 100000
set_option maxHeartbeats 4000000
namespace Tk
open PySem PySem.Spec PyProof.Rows L2

/-! ### a def that callers may use: its place, its promise -/
structure Cal (P : Program) (w : World) (K : PySem.W.Frag) (mg : Str → Option Value) (base : Heap) (CX : CXT) (k : Nat) (x : Str) (ps : List Str) (sp : Sp) : Prop where
  ex : ∃ (f : Addr) (fd : FuncData), mg x = some (.ref f) ∧ PySem.W.keepIn K (.ref f) = true ∧ Binds K fd ps [] ∧ FnOk P w K mg base CX k f fd ps sp
theorem Cal.mono {P : Program} {w : World} {K : PySem.W.Frag} {mg : Str → Option Value} {base : Heap} {CX : CXT} {j k : Nat} {x : Str} {ps : List Str} {sp : Sp} (C : Cal P w K mg base CX j x ps sp) (h : j ≤ k) : Cal P w K mg base CX k x ps sp := by
  obtain ⟨f, fd, hm, hk, hb, F⟩ := C.ex
  exact ⟨f, fd, hm, hk, hb, F.mono h⟩
theorem Cal.of {P : Program} {w : World} {K : PySem.W.Frag} {mg : Str → Option Value} {base : Heap} {CX : CXT} {k : Nat} {x : Str} {ps : List Str} {sp : Sp} {f : Addr} {fd : FuncData} (hm : mg x = some (.ref f)) (hk : PySem.W.keepIn K (.ref f) = true) (hb : Binds K fd ps []) (F : FnOk P w K mg base CX k f fd ps sp) : Cal P w K mg base CX k x ps sp :=
  ⟨f, fd, hm, hk, hb, F⟩
section
variable {X : Cx} {k : Nat} {ps : List Str} {sp : Sp} {CX : CXT} {x : Str} {p pos : Pos} {e : Expr} {es : List Expr} {t : TA} {E : XK}
theorem pe_cal (C : Cal X.prog X.w X.K X.mg X.base CX k x ps sp) (hr : Room k X.A) (hx : Passes CX X E) (ha : PA X (e :: es) t) (hg : Gl X x := by rfl)
    (hdb : (x == ("__debug__" : Str)) = false := by decide) (he : starEach (e :: es) X.env = (false, eval e X.env) :: starEach es X.env := by rfl) (hpl : (backTo pos (starEach es X.env)).any (·.1) = false := by rfl) :
    PE X (.Call (.Name x p) (e :: es) [] pos) (tCall sp [] E t) := by
  obtain ⟨f, fd, hm, hk, hb, F⟩ := C.ex
  exact pe_call F hr hg hm hk hb .nil hx ha hdb he hpl
theorem pe_cal0 (C : Cal X.prog X.w X.K X.mg X.base CX k x ps sp) (hr : Room k X.A) (hx : Passes CX X E) (hg : Gl X x := by rfl)
    (hdb : (x == ("__debug__" : Str)) = false := by decide) :
    PE X (.Call (.Name x p) [] [] pos) (tCall sp [] E tNil) := by
  obtain ⟨f, fd, hm, hk, hb, F⟩ := C.ex
  exact pe_call0 F hr hg hm hk hb .nil hx hdb
end

def AllocL (xs : List V) (H : Hp) (Q : VK) : Prop := xs.length ≤ sizeLine ∧ ∀ p, H p = none → Q (.ref p) (upd H p (.lst xs))
def AllocT (xs : List V) (H : Hp) (Q : VK) : Prop := xs.length ≤ sizeLine ∧ ∀ p, H p = none → Q (.ref p) (upd H p (.tup xs))
/-! ### readings, a construct at a time -/
section
variable {σ : L2.St} {H : Hp} {Q : VK} {D : Ends} {v : V} {i : Nat} {ta tb tc te : TE} {t u : TS} {r : R2} {K : PySem.W.Frag}
theorem r_var (h : σ[i]? = some (some v)) (q : Q v H) : tVar i σ H Q := ⟨v, h, q⟩
theorem r_c (q : Q v H) : tC v σ H Q := q
theorem r_op (h : ta σ H fun x H1 => tb σ H1 fun y H2 => r x y H2 Q) : tOp r ta tb σ H Q := h
theorem r_seq (h : t { D with nx := u D } σ H) : tSeq t u D σ H := h
theorem r_ret (h : te σ H D.rt) : tRet te D σ H := h
theorem r_retN (h : D.rt .non H) : tRetN D σ H := h
theorem r_set (h : te σ H fun x H1 => D.nx (σ.set i (some x)) H1) : tAsg te (gName i) D σ H := h
theorem r_drop (h : te σ H fun _ H1 => D.nx σ H1) : tDrop te D σ H := h
theorem r_next (h : D.nx σ H) : tNext D σ H := h
theorem r_ifS {c : TT} (h : c σ H fun b H1 => if b = true then t D σ H1 else u D σ H1) : tIfS c t u D σ H := h
theorem r_cons {tr : TA} {R : List V → Hp → Prop} (h : ta σ H fun x H1 => tr σ H1 fun xs H2 => R (x :: xs) H2) : tCons ta tr σ H R := h
theorem r_nil {R : List V → Hp → Prop} (h : R [] H) : tNil σ H R := h
theorem r_call {sp : Sp} {E : XK} {a : TA} (h : a σ H fun vs H1 => sp (vs ++ []) H1 Q E) : tCall sp [] E a σ H Q := h
theorem r_cb {f : List V → Hp → VK → Prop} {a : TA} (h : a σ H fun vs H1 => f vs H1 Q) : tCB f a σ H Q := h
theorem r_test {R : Bool → Hp → Prop} (h : te σ H fun x H1 => ∃ k, x = .bl k ∧ R k H1) : tTest te σ H R := h
theorem r_B {R : Bool → Hp → Prop} (h : te σ H fun x H1 => ∃ k, x = .bl k ∧ R k H1) : tB te σ H R := h
theorem r_not {c : TT} {R : Bool → Hp → Prop} (h : c σ H fun b H1 => R (!b) H1) : tNot c σ H R := h
theorem r_and {a b : TT} {R : Bool → Hp → Prop} (h : a σ H fun c H1 => if c = true then b σ H1 R else R false H1) : tAnd a b σ H R := h
theorem r_or {a b : TT} {R : Bool → Hp → Prop} (h : a σ H fun c H1 => if c = true then R true H1 else b σ H1 R) : tOr a b σ H R := h
theorem r_andV (h : ta σ H fun x H1 => ∃ c, x = .bl c ∧ if c = true then tb σ H1 Q else Q (.bl false) H1) : tAndV ta tb σ H Q := h
theorem r_orV (h : ta σ H fun x H1 => ∃ c, x = .bl c ∧ if c = true then Q (.bl true) H1 else tb σ H1 Q) : tOrV ta tb σ H Q := h
theorem r_notV (h : ta σ H fun x H1 => ∃ c, x = .bl c ∧ Q (.bl (!c)) H1) : tNotV ta σ H Q := h
theorem r_if {c : TT} (h : c σ H fun b H1 => if b = true then ta σ H1 Q else tb σ H1 Q) : tIf c ta tb σ H Q := h
theorem r_chain {r' : R2} (h : ta σ H fun x H1 => tb σ H1 fun y H2 => r x y H2 fun z H3 => ∃ k, z = .bl k ∧
    (if k = true then tc σ H3 fun w' H4 => r' y w' H4 Q else Q (.bl false) H3)) : tChain r r' ta tb tc σ H Q := h
/-- a made list, a made tuple: the heap behind is a letter -/
theorem r_lst {a : TA} (h : a σ H fun xs H1 => AllocL xs H1 Q) : tLst a σ H Q := h
theorem r_tup {a : TA} (h : a σ H fun xs H1 => AllocT xs H1 Q) : tTup a σ H Q := h
/-- the bool that a test hands on -/
theorem r_k {b : Bool} {R : Bool → Prop} (h : R b) : ∃ k, V.bl b = V.bl k ∧ R k := ⟨b, rfl, h⟩
theorem r_k2 {b : Bool} {R : Bool → Hp → Prop} (h : R b H) : ∃ k, V.bl b = V.bl k ∧ R k H := ⟨b, rfl, h⟩
theorem r_I0 {g : Int → Int → V} {a b : Int} (h : Q (g a b) H) : rI0 g (.int a) (.int b) H Q := ⟨a, b, rfl, rfl, h⟩
theorem r_I {C : Int → Int → Prop} {g : Int → Int → V} {a b : Int} (c : C a b) (h : Q (g a b) H) : rI C g (.int a) (.int b) H Q := ⟨a, b, rfl, rfl, c, h⟩
end
theorem Same.new {H : Hp} {p : Addr} {o : HO} (h : H p = none) : Same H (upd H p o) := fun a u e => by
  rw [upd_ne (ne_of_none e h)]
  exact e
/-- an object that H does not know may change -/
theorem Same.mut {H H' : Hp} {p : Addr} {o : HO} (e : Same H H') (h : H p = none) : Same H (upd H' p o) := fun a u ha => by
  rw [upd_ne (ne_of_none ha h)]
  exact e a u ha

/-! ### data -/
/- what is read of a value: none, bools, ints, texts, tuples, lists, the empty dict (lists and dicts: as they stand now) -/
mutual
inductive Dd (K : PySem.W.Frag) (H : Hp) : V → PyData → Prop
  | non : Dd K H .non .none
  | bl (b : Bool) : Dd K H (.bl b) (.bool b)
  | int (i : Int) : Dd K H (.int i) (.int i)
  | str (x : Str) : Dd K H (.str x) (.str x)
  | lst {a : Addr} {xs : List V} {ds : List PyData} : H a = some (.lst xs) → DdAll K H xs ds → Dd K H (.ref a) (.list ds)
  | tup {a : Addr} {xs : List V} {ds : List PyData} : H a = some (.tup xs) → DdAll K H xs ds → Dd K H (.ref a) (.tuple ds)
  | dct {a : Addr} : H a = some (.dK []) → Dd K H (.ref a) (.dict [])
inductive DdAll (K : PySem.W.Frag) (H : Hp) : List V → List PyData → Prop
  | nil : DdAll K H [] []
  | cons {v : V} {vs : List V} {d : PyData} {ds : List PyData} : Dd K H v d → DdAll K H vs ds → DdAll K H (v :: vs) (d :: ds)
end
mutual
theorem Dd.same {K : PySem.W.Frag} {H H' : Hp} (s : Same H H') : ∀ (d : PyData) (v : V), Dd K H v d → Dd K H' v d
  | .none, _, h => by cases h; exact .non
  | .bool b, _, h => by cases h; exact .bl b
  | .int i, _, h => by cases h; exact .int i
  | .str x, _, h => by cases h; exact .str x
  | .list ds, _, h => by
    cases h with
    | lst e a => exact .lst (s _ _ e) (DdAll.same s ds _ a)
  | .tuple ds, _, h => by
    cases h with
    | tup e a => exact .tup (s _ _ e) (DdAll.same s ds _ a)
  | .dict _, _, h => by
    cases h with
    | dct e => exact .dct (s _ _ e)
theorem DdAll.same {K : PySem.W.Frag} {H H' : Hp} (s : Same H H') : ∀ (ds : List PyData) (vs : List V), DdAll K H vs ds → DdAll K H' vs ds
  | [], _, h => by cases h; exact .nil
  | d :: ds, _, h => by
    cases h with
    | cons h1 h2 => exact .cons (Dd.same s d _ h1) (DdAll.same s ds _ h2)
end
theorem Dd.same' {K : PySem.W.Frag} {H H' : Hp} {v : V} {d : PyData} (h : Dd K H v d) (s : Same H H') : Dd K H' v d := Dd.same s d v h
theorem DdAll.length {K : PySem.W.Frag} {H : Hp} : ∀ {vs : List V} {ds : List PyData}, DdAll K H vs ds → vs.length = ds.length
  | _, _, .nil => rfl
  | _, _, .cons _ t => by rw [List.length_cons, List.length_cons, DdAll.length t]
/-- the name of its type -/
def tyN : PyData → String
  | .none => "NoneType"
  | .bool _ => "bool"
  | .int _ => "int"
  | .str _ => "str"
  | .list _ => "list"
  | .tuple _ => "tuple"
  | .dict _ => "dict"
theorem Dd.ty {K : PySem.W.Frag} {H : Hp} {v : V} {d : PyData} (h : Dd K H v d) : TyX K H v (.type (tyN d)) := by
  cases h with
  | non => exact .base .non
  | bl b => exact .base (.bl b)
  | int i => exact .base (.int i)
  | str x => exact .base (.str x)
  | lst e a => exact .base (.lst e)
  | tup e a => exact .base (.tup e)
  | dct e => exact .base (.dK e)
/-- isinstance(x, T) of data -/
def isN (a T : String) : Bool := (kitB a T).getD false
def isOf (d : PyData) (T : String) : Bool := isN (tyN d) T
def TyNames : List String := ["str", "tuple", "int", "bool", "list", "dict"]
theorem kitB_all : ∀ a ∈ ["NoneType", "bool", "int", "str", "list", "tuple", "dict"], ∀ T ∈ TyNames, kitB a T = some (isN a T) := by decide +kernel
theorem isOf_kit {K : PySem.W.Frag} (d : PyData) {T : String} (hT : T ∈ TyNames) : PySem.W.kitOne K (.type (tyN d)) (.type T) = some (isOf d T) :=
  kit_ty (kitB_all (tyN d) (by cases d <;> simp [tyN]) T hT)
theorem isN_str : isN "NoneType" "str" = false ∧ isN "bool" "str" = false ∧ isN "int" "str" = false ∧ isN "str" "str" = true ∧ isN "list" "str" = false ∧ isN "tuple" "str" = false ∧ isN "dict" "str" = false := by decide +kernel
theorem isN_tuple : isN "NoneType" "tuple" = false ∧ isN "bool" "tuple" = false ∧ isN "int" "tuple" = false ∧ isN "str" "tuple" = false ∧ isN "list" "tuple" = false ∧ isN "tuple" "tuple" = true ∧ isN "dict" "tuple" = false := by decide +kernel
theorem isN_int : isN "NoneType" "int" = false ∧ isN "bool" "int" = true ∧ isN "int" "int" = true ∧ isN "str" "int" = false ∧ isN "list" "int" = false ∧ isN "tuple" "int" = false ∧ isN "dict" "int" = false := by decide +kernel
theorem isN_bool : isN "NoneType" "bool" = false ∧ isN "bool" "bool" = true ∧ isN "int" "bool" = false ∧ isN "str" "bool" = false ∧ isN "list" "bool" = false ∧ isN "tuple" "bool" = false ∧ isN "dict" "bool" = false := by decide +kernel
theorem r_isi {K : PySem.W.Frag} {H : Hp} {v : V} {d : PyData} {T : String} {Q : VK} (h : Dd K H v d) (hT : T ∈ TyNames) (q : Q (.bl (isOf d T)) H) : rIsi K [v, .ty T] H Q :=
  ⟨v, .ty T, _, _, _, rfl, .ty T, h.ty, isOf_kit d hT, q⟩
/-! ### repr of bools -/
section
variable {X : Cx}
def reprB (b : Bool) : Str := if b then "True" else "False"
theorem call_repr_bl : CallR X (.builtin "repr") (fun xs H Q => ∃ b, xs = [.bl b] ∧ Q (.str (reprB b)) H) := by
  intro pins s σ H xs us Q I r h
  obtain ⟨b, rfl, q⟩ := h
  obtain ⟨u, rfl, ru⟩ := vals1 r
  obtain rfl : u = Value.bool b := ru
  exact PySem.P.repr_of_bool ⟨.str (reprB b), H, I.tok _, ⟨_, rfl⟩, q⟩
end
theorem reprB_inj {a b : Bool} : decide (V.str (reprB a) = V.str (reprB b)) = (a == b) := by
  cases a <;> cases b <;> decide +kernel
end Tk

set_option Elab.async false
set_option linter.all false
set_option maxRecDepth 100000
set_option maxHeartbeats 4000000
namespace Tk
open PySem PySem.Spec PyProof.Rows L2
/-! ### one rule a sign; its reading says which -/
def rMulS : R2 := fun x y H Q => ∃ z n, x = .str z ∧ y = .int n ∧ MulOk z n ∧ Q (.str (Txt.mul z n)) H
def GAdd (K : PySem.W.Frag) : R2 := fun x y H Q => rI0 (fun i j => .int (i + j)) x y H Q ∨ ((∃ i j, x = .str i ∧ y = .str j ∧ i.length + j.length ≤ sizeLine ∧ Q (.str (i ++ j)) H) ∨ (rCat x y H Q ∨ rCatA K x y H Q))
def GMul : R2 := fun x y H Q => rI CMulW (fun i j => .int (i * j)) x y H Q ∨ (rMulS x y H Q ∨ rRep x y H Q)
/-- any list == [] -/
def rEqNil (K : PySem.W.Frag) : R2 := fun x y H Q => ∃ p q xs, x = .ref p ∧ y = .ref q ∧ SqL K H p xs ∧ SqL K H q [] ∧ Q (.bl xs.isEmpty) H
def GEq (K : PySem.W.Frag) : R2 := fun x y H Q => rEq x y H Q ∨ (rEqD K x y H Q ∨ rEqNil K x y H Q)
def GNe (K : PySem.W.Frag) : R2 := fun x y H Q => rNe x y H Q ∨ rNeD K x y H Q
def sLt : R2 := fun x y H Q => ∃ i j, x = .str i ∧ y = .str j ∧ Q (.bl (decide (i.cps.toList < j.cps.toList))) H
def sLe : R2 := fun x y H Q => ∃ i j, x = .str i ∧ y = .str j ∧ Q (.bl (!decide (j.cps.toList < i.cps.toList))) H
def sGt : R2 := fun x y H Q => ∃ i j, x = .str i ∧ y = .str j ∧ Q (.bl (decide (j.cps.toList < i.cps.toList))) H
def sGe : R2 := fun x y H Q => ∃ i j, x = .str i ∧ y = .str j ∧ Q (.bl (!decide (i.cps.toList < j.cps.toList))) H
def GLt : R2 := fun x y H Q => rI0 (fun i j => .bl (decide (i < j))) x y H Q ∨ sLt x y H Q
def GLe : R2 := fun x y H Q => rI0 (fun i j => .bl (decide (i ≤ j))) x y H Q ∨ sLe x y H Q
def GGt : R2 := fun x y H Q => rI0 (fun i j => .bl (decide (j < i))) x y H Q ∨ sGt x y H Q
def GGe : R2 := fun x y H Q => rI0 (fun i j => .bl (decide (j ≤ i))) x y H Q ∨ sGe x y H Q
def rLen (K : PySem.W.Frag) : List V → Hp → VK → Prop := fun xs H Q => ∃ x n, xs = [x] ∧ LenV K x H n ∧ Q (.int n) H
def rRepr : List V → Hp → VK → Prop := fun xs H Q => ∃ b, xs = [.bl b] ∧ Q (.str (reprB b)) H
def rMax2 : List V → Hp → VK → Prop := fun xs H Q => ∃ i j, xs = [.int i, .int j] ∧ Q (.int (if j > i then j else i)) H
def rMin2 : List V → Hp → VK → Prop := fun xs H Q => ∃ i j, xs = [.int i, .int j] ∧ Q (.int (if j < i then j else i)) H
def rListOf (K : PySem.W.Frag) : List V → Hp → VK → Prop := fun xs H Q => ∃ p ys, xs = [.ref p] ∧ (SqL K H p ys ∨ SqT K H p ys) ∧ ∀ l, H l = none → Q (.ref l) (upd H l (.lst ys))
def rIsN : R2 := fun x y H Q => y = .non ∧ Q (.bl (decide (x = .non))) H
section
variable {X : Cx}
theorem c_len : CallR X (.builtin "len") (rLen X.K) := call_len
theorem c_repr : CallR X (.builtin "repr") rRepr := call_repr_bl
theorem c_max2 (hc : X.calm = true) : CallR X (.builtin "max") rMax2 := call_max2 hc
theorem c_min2 (hc : X.calm = true) : CallR X (.builtin "min") rMin2 := call_min2 hc
theorem c_listOf : CallR X (.type "list") (rListOf X.K) := call_list_of
theorem o_isN : OpR X (compareOp .Is) rIsN := op_isN
theorem op_mul_strI : OpR X (binaryOp .Mult) rMulS := by
  intro pins s σ H x y v u Q I rx ry h
  obtain ⟨z, n, rfl, rfl, hok, q⟩ := h
  obtain ⟨t, rfl⟩ := rx
  obtain ⟨t', rfl⟩ := ry
  exact SB.mul hok fun t2 k => ⟨.str _, H, I.tok _, ⟨_, rfl⟩, q⟩
theorem op_eqNil (hu : X.A.units < cLine) : OpR X (compareOp .Eq) (rEqNil X.K) := by
  intro pins s σ H x y v u Q I rx ry h
  obtain ⟨p, q, xs, rfl, rfl, hp, hq, k⟩ := h
  obtain rfl : v = Value.ref p := rx
  obtain rfl : u = Value.ref q := ry
  obtain ⟨its, r1, l1, _⟩ := I.list hp
  obtain ⟨jts, r2, l2, _⟩ := I.list hq
  cases r2
  cases r1 with
  | nil => exact SeqAt.eq_listAt (e := fun _ => true) l1.isList l2.isList rfl hu (fun j h1 => absurd h1 (Nat.not_lt_zero j)) ⟨.bl true, H, I, rfl, k⟩
  | cons r t => exact SeqAt.eq_list_lengthsAt l1.isList l2.isList (by simp) hu ⟨.bl false, H, I, rfl, k⟩
theorem o_add : OpR X (binaryOp .Add) (GAdd X.K) := OpR.or op_add (OpR.or op_add_str (OpR.or op_cat op_catA))
theorem o_mul : OpR X (binaryOp .Mult) GMul := OpR.or op_mulW (OpR.or op_mul_strI op_rep)
theorem o_fdiv : OpR X (binaryOp .FloorDiv) (rI CDivW fun i j => .int (i / j)) := op_fdivW
theorem o_eq (hu : X.A.units + 64 < cLine) : OpR X (compareOp .Eq) (GEq X.K) := OpR.or op_eq (OpR.or (op_eqD hu) (op_eqNil (Nat.lt_of_le_of_lt (Nat.le_add_right _ _) hu)))
theorem o_ne (hu : X.A.units + 64 < cLine) : OpR X (compareOp .NotEq) (GNe X.K) := OpR.or op_ne (op_neD hu)
theorem o_lt : OpR X (compareOp .Lt) GLt := OpR.or op_lt op_lt_str
theorem o_le : OpR X (compareOp .LtE) GLe := OpR.or op_le op_le_str
theorem o_gt : OpR X (compareOp .Gt) GGt := OpR.or op_gt op_gt_str
theorem o_ge : OpR X (compareOp .GtE) GGe := OpR.or op_ge op_ge_str
theorem o_slice : SlR X (fun x lo hi H Q => rSlL X.K x lo hi H Q ∨ (rSlS x lo hi H Q ∨ rSlA X.K x lo hi H Q)) := SlR.or sl_list (SlR.or sl_str sl_tupA)
end
section
variable {H : Hp} {Q : VK} {K : PySem.W.Frag} {a b : Int} {x y : Str}
theorem g_addI (q : Q (.int (a + b)) H) : GAdd K (.int a) (.int b) H Q := .inl ⟨a, b, rfl, rfl, q⟩
theorem g_addS (hl : x.length + y.length ≤ sizeLine) (q : Q (.str (x ++ y)) H) : GAdd K (.str x) (.str y) H Q := .inr (.inl ⟨x, y, rfl, rfl, hl, q⟩)
theorem g_mulI (hc : CMulW a b) (q : Q (.int (a * b)) H) : GMul (.int a) (.int b) H Q := .inl ⟨a, b, rfl, rfl, hc, q⟩
theorem g_mulS (hc : MulOk x a) (q : Q (.str (Txt.mul x a)) H) : GMul (.str x) (.int a) H Q := .inr (.inl ⟨x, a, rfl, rfl, hc, q⟩)
theorem g_mulB (ha : a.natAbs < 2 ^ 70) (hb : b.natAbs < 2 ^ 70) (q : Q (.int (a * b)) H) : GMul (.int a) (.int b) H Q := g_mulI (wide_mul ha hb (by decide) (by decide) (by decide)) q
theorem r_mod (hb : 0 < b) (q : Q (.int (a % b)) H) : rI (fun _ j => 0 < j) (fun i j => .int (i % j)) (.int a) (.int b) H Q := r_I (C := fun _ j => 0 < j) hb q
theorem r_div (hb : 0 < b) (h2 : b < 2 ^ 60) (q : Q (.int (a / b)) H) : rI CDivW (fun i j => .int (i / j)) (.int a) (.int b) H Q :=
  r_I (C := CDivW) (⟨hb, Nat.lt_of_lt_of_le (PySem.Flt.log2_lt_of (k := 60) (by decide) (by omega)) (by decide)⟩ : CDivW a b) q
theorem g_ltI (q : Q (.bl (decide (a < b))) H) : GLt (.int a) (.int b) H Q := .inl ⟨a, b, rfl, rfl, q⟩
theorem g_leI (q : Q (.bl (decide (a ≤ b))) H) : GLe (.int a) (.int b) H Q := .inl ⟨a, b, rfl, rfl, q⟩
theorem g_gtI (q : Q (.bl (decide (b < a))) H) : GGt (.int a) (.int b) H Q := .inl ⟨a, b, rfl, rfl, q⟩
theorem g_geI (q : Q (.bl (decide (b ≤ a))) H) : GGe (.int a) (.int b) H Q := .inl ⟨a, b, rfl, rfl, q⟩
theorem g_leS (q : Q (.bl (!decide (y.cps.toList < x.cps.toList))) H) : GLe (.str x) (.str y) H Q := .inr ⟨x, y, rfl, rfl, q⟩
theorem g_ltS (q : Q (.bl (decide (x.cps.toList < y.cps.toList))) H) : GLt (.str x) (.str y) H Q := .inr ⟨x, y, rfl, rfl, q⟩
theorem g_eqI (q : Q (.bl (decide (a = b))) H) : GEq K (.int a) (.int b) H Q := .inl ⟨rfl, by rw [dec_int, Bool.beq_eq_decide_eq]; exact q⟩
theorem g_neI (q : Q (.bl (!decide (a = b))) H) : GNe K (.int a) (.int b) H Q := .inl ⟨rfl, by rw [dec_int, Bool.beq_eq_decide_eq]; exact q⟩
theorem g_eqS (q : Q (.bl (decide (x = y))) H) : GEq K (.str x) (.str y) H Q := .inl ⟨rfl, by rw [dec_str, Bool.beq_eq_decide_eq]; exact q⟩
theorem g_neS (q : Q (.bl (!decide (x = y))) H) : GNe K (.str x) (.str y) H Q := .inl ⟨rfl, by rw [dec_str, Bool.beq_eq_decide_eq]; exact q⟩
end
section
variable {H : Hp} {Q : VK} {K : PySem.W.Frag} {p : Addr} {xs : List V} {i k : Int} {v : V} {j : Nat} {σ : L2.St} {D : Ends} {te to ti : TE}
theorem r_ixL (h : H p = some (.lst xs)) (e : atI xs i = some v) (q : Q v H) : rIx K (.ref p) (.int i) H Q := .inl ⟨p, xs, i, v, rfl, rfl, .of h, e, q⟩
theorem r_ixQ (h : SqL K H p xs) (e : atI xs i = some v) (q : Q v H) : rIx K (.ref p) (.int i) H Q := .inl ⟨p, xs, i, v, rfl, rfl, h, e, q⟩
theorem r_ixT (h : H p = some (.tup xs)) (e : atI xs i = some v) (q : Q v H) : rIx K (.ref p) (.int i) H Q := .inr (.inl ⟨p, xs, i, v, rfl, rfl, .of h, e, q⟩)
theorem r_lenS {x : Str} (h : x.length ≤ 100000) (q : Q (.int x.length) H) : rLen K [.str x] H Q := ⟨_, _, rfl, ⟨Nat.le_trans h (by decide), rfl⟩, q⟩
theorem r_lenT (h : H p = some (.tup xs)) (q : Q (.int (xs.length : Nat)) H) : rLen K [.ref p] H Q := ⟨_, _, rfl, .inr ⟨xs, SqT.of h, rfl⟩, q⟩
theorem r_lenQ (h : SqL K H p xs) (q : Q (.int (xs.length : Nat)) H) : rLen K [.ref p] H Q := ⟨_, _, rfl, .inl ⟨xs, h, rfl⟩, q⟩
theorem r_eqNil {q : Addr} (h : H p = some (.lst xs)) (h' : H q = some (.lst [])) (k : Q (.bl xs.isEmpty) H) : GEq K (.ref p) (.ref q) H Q := .inr (.inr ⟨p, q, xs, rfl, rfl, SqL.of h, SqL.of h', k⟩)
theorem r_repr {b : Bool} (q : Q (.str (reprB b)) H) : rRepr [.bl b] H Q := ⟨b, rfl, q⟩
theorem r_max2 {k : Int} (q : Q (.int (if k > i then k else i)) H) : rMax2 [.int i, .int k] H Q := ⟨i, k, rfl, q⟩
theorem r_min2 {k : Int} (q : Q (.int (if k < i then k else i)) H) : rMin2 [.int i, .int k] H Q := ⟨i, k, rfl, q⟩
theorem r_listOfT (h : H p = some (.tup xs)) (q : ∀ l, H l = none → Q (.ref l) (upd H l (.lst xs))) : rListOf K [.ref p] H Q := ⟨p, xs, rfl, .inr (SqT.of h), q⟩
theorem r_isN (q : Q (.bl (decide (v = .non))) H) : rIsN v .non H Q := ⟨rfl, q⟩
theorem r_asg {g : TG} (h : te σ H fun x H1 => g x σ H1 D.nx) : tAsg te g D σ H := h
theorem r_gName {n : Nat} {R : L2.St → Hp → Prop} (q : R (σ.set n (some v)) H) : gName n v σ H R := q
theorem r_gTup {n : Nat} {t : TGs} {R : L2.St → Hp → Prop} (h : H p = some (.tup xs)) (hl : xs.length = n) (q : t xs σ H R) : gTup K n t (.ref p) σ H R := ⟨p, xs, rfl, SqT.of h, hl, q⟩
theorem r_gCons {t : TG} {u : TGs} {ws : List V} {R : L2.St → Hp → Prop} (q : t v σ H fun σ' H' => u ws σ' H' R) : gCons t u (v :: ws) σ H R := ⟨v, ws, rfl, q⟩
theorem r_gNil {R : L2.St → Hp → Prop} (q : R σ H) : gNil [] σ H R := ⟨rfl, q⟩
theorem r_sub {t : TSet} {R : L2.St → Hp → Prop} (h : to σ H fun o H1 => ti σ H1 fun i H2 => t o i v H2 fun H3 => R σ H3) : gSub to ti t v σ H R := h
theorem r_setL {R : Hp → Prop} (h : H p = some (.lst xs)) (e : ixN xs.length k = some j) (q : R (upd H p (.lst (xs.set j v)))) : rSetL (.ref p) (.int k) v H R := ⟨p, xs, k, j, rfl, rfl, h, e, q⟩
theorem r_dec {c A B : Prop} {_i : Decidable c} (h1 : c → A) (h2 : ¬ c → B) : if decide c = true then A else B := by
  by_cases h : c
  · rw [decide_eq_true h]; exact iteT (h1 h)
  · rw [decide_eq_false h]; exact iteF (h2 h)
theorem r_decN {c A B : Prop} {_i : Decidable c} (h1 : ¬ c → A) (h2 : c → B) : if (!decide c) = true then A else B := by
  by_cases h : c
  · rw [decide_eq_true h]; exact iteF (h2 h)
  · rw [decide_eq_false h]; exact iteT (h1 h)
theorem r_bool {b : Bool} {A B : Prop} (h1 : b = true → A) (h2 : b = false → B) : if b = true then A else B := by
  cases b with
  | true => exact iteT (h1 rfl)
  | false => exact iteF (h2 rfl)
end
theorem sz_of {n : Nat} (h : n ≤ 100000) : n ≤ sizeLine := Nat.le_trans h (by decide)
theorem sz_lt {n : Nat} (h : n < 100000) : n < sizeLine := Nat.lt_of_lt_of_le h (by decide)
end Tk

set_option Elab.async false
set_option linter.all false
set_option maxRecDepth 100000
set_option maxHeartbeats 4000000
namespace Tk
open PySem PySem.Spec PyProof.Rows L2
theorem wipe1 (σ : L2.St) (s : Nat) : wipe σ [s] = σ.set s none := rfl
theorem wipe_set (σ : L2.St) (s : Nat) (v : Option V) : wipe ((wipe σ [s]).set s v) [s] = wipe σ [s] := by
  show ((σ.set s none).set s v).set s none = σ.set s none
  rw [List.set_set, List.set_set]
theorem wipe_slot (σ : L2.St) (s : Nat) (v : Option V) : (wipe σ [s]).set s v = σ.set s v := by
  show (σ.set s none).set s v = σ.set s v
  rw [List.set_set]
theorem take_succ_filter {α β : Type} {l : List α} {i : Nat} {x : α} (h : l[i]? = some x) (g : α → Bool) (f : α → β) :
    ((l.take (i + 1)).filter g).map f = ((l.take i).filter g).map f ++ (if g x = true then [f x] else []) := by
  rw [List.take_add_one, h, List.filter_append, List.map_append]
  cases hg : g x <;> simp [hg]
/-- what a comprehension asks, once it is known what it walks -/
def LcG (J : It) (g : TG) (tt : TT) (te : TE) (vs : List Nat) (σ : L2.St) (H1 : Hp) (Q : VK) : Prop := ∀ D, H1 D = none → ∃ W : Nat → Nat → Hp → Prop, (∃ m, W 0 m (upd H1 D (.lst []))) ∧ ∀ i m H, W i m H →
  (J.stop i H ∧ Q (.ref D) H) ∨ (J.go i H ∧ ∃ Nx : Hp → Prop, (∀ H', Nx H' → ∃ m', m' < m ∧ W (i + 1) m' H') ∧ ∀ x H', J.yld i H x H' → g x (wipe σ vs) H' fun σ2 H2 => wipe σ2 vs = wipe σ vs ∧ tt σ2 H2 fun b H3 =>
    if b = true then te σ2 H3 fun y H4 => ∃ acc, H4 D = some (.lst acc) ∧ acc.length < sizeLine ∧ Nx (upd H4 D (.lst (acc ++ [y]))) else Nx H3)
/-- what a for asks -/
def ForG (J : It) (g : TG) (tb : TS) (D : Ends) (σ : L2.St) (H1 : Hp) : Prop := ∃ W : Nat → Nat → L2.St → Hp → Prop, (∃ m, W 0 m σ H1) ∧ ∀ i m σ H, W i m σ H →
  (J.stop i H ∧ D.nx σ H) ∨ (J.go i H ∧ ∃ N : L2.St → Hp → Prop, (∀ σ' H', N σ' H' → ∃ m', m' < m ∧ W (i + 1) m' σ' H') ∧ ∀ x H', J.yld i H x H' → g x σ H' fun σ2 H2 => tb { D with nx := N, ct := N, bk := D.nx } σ2 H2)
section
variable {wi : TI} {g : TG} {tt : TT} {te tl : TE} {ta : TA} {tb : TS} {vs : List Nat} {σ : L2.St} {H : Hp} {Q : VK} {D : Ends} {K : PySem.W.Frag} {R : It → Hp → Prop}
theorem r_lc (h : wi σ H fun J H1 => LcG J g tt te vs σ H1 Q) : tLc wi g tt te vs σ H Q := h
theorem r_for (h : wi σ H fun J H1 => ForG J g tb D σ H1) : tFor wi g tb D σ H := h
theorem r_rng1 (h : ta σ H fun vs H1 => ∃ j : Int, vs = [.int j] ∧ -(2 ^ 62) ≤ j ∧ j < 2 ^ 62 ∧ R (Itr 0 j.toNat) H1) : iRng1 ta σ H R := h
theorem r_j {j lo hi : Int} {P : Int → Prop} (h0 : lo ≤ j) (h1 : j < hi) (q : P j) : ∃ j', [V.int j] = [V.int j'] ∧ lo ≤ j' ∧ j' < hi ∧ P j' := ⟨j, rfl, h0, h1, q⟩
theorem r_iList (h : tl σ H fun x H1 => ∃ a, x = .ref a ∧ (∃ xs, SqL K H1 a xs) ∧ R (Itl K a) H1) : iList K tl σ H R := h
theorem r_iStr (h : te σ H fun v H1 => ∃ x, v = .str x ∧ R (Its x) H1) : iStr te σ H R := h
theorem r_strx {x : Str} {P : Str → Prop} (q : P x) : ∃ y, V.str x = V.str y ∧ P y := ⟨x, rfl, q⟩
theorem r_iTup (h : tl σ H fun x H1 => ∃ a, x = .ref a ∧ (∃ xs, SqT K H1 a xs) ∧ R (Itt K a) H1) : iTup K tl σ H R := h
end
/-- a comprehension that only makes new things: tests and elements told item by item -/
theorem lc_pure {J : It} {G : Hp → Prop} {items : List V} {s : Nat} {tt : TT} {te : TE} {σ : L2.St} {H1 : Hp} {Qd : VK} (w : Walk J items.length G (YAt items)) (hG : ∀ H', Same H1 H' → G H') (hn : items.length ≤ 100000) (gb : V → Bool) (f : V → V)
    (ht : ∀ x ∈ items, ∀ (H2 : Hp) (R : Bool → Hp → Prop), Same H1 H2 → (∀ H3, Same H2 H3 → R (gb x) H3) → tt (σ.set s (some x)) H2 R)
    (he : ∀ x ∈ items, gb x = true → ∀ (H2 : Hp) (R : VK), Same H1 H2 → (∀ H3, Same H2 H3 → R (f x) H3) → te (σ.set s (some x)) H2 R)
    (hd : ∀ (D : Addr) (H' : Hp), H1 D = none → Same H1 H' → H' D = some (.lst ((items.filter gb).map f)) → Qd (.ref D) H') :
    LcG J (gName s) tt te [s] σ H1 Qd := by
  intro D hD
  refine lc_it (Qd := fun H' => Qd (.ref D) H') w (fun i H' => Same H1 H' ∧ H' D = some (.lst (((items.take i).filter gb).map f))) ⟨Same.new hD, by rw [upd_same]; rfl⟩ (fun i H' _ p => hG H' p.1) ?_ (fun H' p => hd D H' hD p.1 (by rw [p.2, List.take_length]))
  rintro i x H2 H2' hi ⟨p1, p2⟩ ⟨rfl, hx⟩
  have hm : x ∈ items := List.mem_of_getElem? hx
  have hl : (((items.take i).filter gb).map f).length ≤ items.length := by
    rw [List.length_map]
    refine Nat.le_trans (List.length_filter_le _ _) ?_
    rw [List.length_take]
    omega
  show wipe ((wipe σ [s]).set s (some x)) [s] = wipe σ [s] ∧ tt ((wipe σ [s]).set s (some x)) H2' _
  refine ⟨wipe_set σ s _, ?_⟩
  rw [wipe_slot]
  refine ht x hm H2' _ p1 fun H3 s3 => ?_
  cases hg : gb x with
  | true =>
    refine iteT ?_
    refine he x hm hg H3 _ (p1.trans s3) fun H4 s4 => ?_
    have e4 := s4 _ _ (s3 _ _ p2)
    refine ⟨_, e4, sz_lt (by have : i < items.length := hi; rw [List.length_map]; have := List.length_filter_le gb (items.take i); rw [List.length_take] at this; omega), ?_⟩
    refine ⟨Same.mut (p1.trans (s3.trans s4)) hD, ?_⟩
    rw [upd_same, take_succ_filter hx, hg, if_pos rfl]
  | false =>
    refine iteF ?_
    refine ⟨p1.trans s3, ?_⟩
    rw [s3 _ _ p2, take_succ_filter hx, hg, if_neg Bool.false_ne_true, List.append_nil]
theorem filt_true {α : Type} (l : List α) : l.filter (fun _ => true) = l := List.filter_eq_self.mpr fun _ _ => rfl
/-- a text's signs as values -/
abbrev signV (c : Nat) : V := .str ⟨#[c]⟩
def codeV : V → Nat
  | .str y => y.cps.getD 0 0
  | _ => 0
theorem codeV_sign (c : Nat) : codeV (signV c) = c := rfl
def signs (z : Str) : List V := z.cps.toList.map signV
theorem walk_signs {z : Str} : Walk (Its z) (signs z).length (fun _ => True) (YAt (signs z)) := by
  have e : (signs z).length = z.cps.size := by unfold signs; rw [List.length_map, Array.length_toList]
  rw [e]
  refine Walk.mono walk_str (fun _ h => h) fun i H x H' hi _ y => ?_
  obtain ⟨h1, c, h2, h3⟩ := y
  refine ⟨h1, ?_⟩
  unfold signs
  rw [List.getElem?_map, Array.getElem?_toList, h2, h3]
  rfl
theorem r_lcStr {s : Nat} {z : Str} {tt : TT} {te : TE} {σ : L2.St} {H : Hp} {Q : VK} (hn : z.length ≤ 100000) (gb : Nat → Bool) (f : V → V)
    (ht : ∀ c ∈ z.cps.toList, ∀ (H2 : Hp) (R : Bool → Hp → Prop), Same H H2 → (∀ H3, Same H2 H3 → R (gb c) H3) → tt (σ.set s (some (signV c))) H2 R)
    (he : ∀ c ∈ z.cps.toList, gb c = true → ∀ (H2 : Hp) (R : VK), Same H H2 → (∀ H3, Same H2 H3 → R (f (signV c)) H3) → te (σ.set s (some (signV c))) H2 R)
    (hd : ∀ (D : Addr) (H' : Hp), H D = none → Same H H' → H' D = some (.lst ((z.cps.toList.filter gb).map fun c => f (signV c))) → Q (.ref D) H') : LcG (Its z) (gName s) tt te [s] σ H Q := by
  have hl : (signs z).length ≤ 100000 := by unfold signs; rw [List.length_map, Array.length_toList]; exact hn
  have inj : ∀ c, gb c = (fun v => match v with | .str y => gb (y.cps.getD 0 0) | _ => false) (signV c) := fun c => rfl
  refine lc_pure (Qd := Q) walk_signs (fun _ _ => trivial) hl (fun v => match v with | .str y => gb (y.cps.getD 0 0) | _ => false) f ?_ ?_ ?_
  · intro x hx H2 R s2 k
    obtain ⟨c, hc, rfl⟩ := List.mem_map.mp hx
    exact ht c hc H2 R s2 k
  · intro x hx hg H2 R s2 k
    obtain ⟨c, hc, rfl⟩ := List.mem_map.mp hx
    exact he c hc hg H2 R s2 k
  · intro D H' h0 s2 e
    refine hd D H' h0 s2 ?_
    rw [e]
    unfold signs
    rw [List.filter_map, List.map_map]
    rfl
/-! ### signs between two -/
theorem sign_le {a c : Nat} : (!decide (([c] : List Nat) < [a])) = decide (a ≤ c) := by
  have h : ([c] : List Nat) < [a] ↔ c < a := by
    constructor
    · intro h
      cases h with
      | cons h => cases h
      | rel h => exact h
    · exact fun h => .rel h
  by_cases q : a ≤ c
  · rw [decide_eq_true q, decide_eq_false (fun z => by have := h.mp z; omega)]; rfl
  · rw [decide_eq_false q, decide_eq_true (h.mpr (by omega))]; rfl
theorem sign_ge {a c : Nat} : (!decide (([a] : List Nat) < [c])) = decide (c ≤ a) := sign_le (a := c) (c := a)
/-- lo <= sign <= hi -/
theorem r_between {s a b c : Nat} {lo hi : Str} {σ : L2.St} {H : Hp} {Q : VK} (hv : σ[s]? = some (some (signV c))) (h1 : lo.cps.toList = [a]) (h2 : hi.cps.toList = [b]) (q : Q (.bl (decide (a ≤ c) && decide (c ≤ b))) H) :
    tChain GLe GLe (tC (.str lo)) (tVar s) (tC (.str hi)) σ H Q := by
  refine ⟨_, hv, g_leS ?_⟩
  refine ⟨_, rfl, ?_⟩
  rw [h1]
  show if (!decide (([c] : List Nat) < [a])) = true then _ else _
  rw [sign_le]
  by_cases k1 : a ≤ c
  · rw [decide_eq_true k1] at q ⊢
    refine iteT (g_leS ?_)
    rw [h2]
    show Q (.bl (!decide (([b] : List Nat) < [c]))) H
    rw [sign_ge]
    exact q
  · rw [decide_eq_false k1] at q ⊢
    exact iteF q
theorem cps_a : (Str.ofString "a").cps.toList = [97] := by decide +kernel
theorem cps_z : (Str.ofString "z").cps.toList = [122] := by decide +kernel
theorem cps_sp : (Str.ofString " ").cps.toList = [32] := by decide +kernel
theorem cps_til : (Str.ofString "~").cps.toList = [126] := by decide +kernel
end Tk

set_option Elab.async false
set_option linter.all false
set_option maxRecDepth 100000
set_option maxHeartbeats 4000000
namespace Tk
open PySem PySem.Spec PyProof.Rows L2
/-! ### words, values, numbers, stamps, entries, as data -/
mutual
def okD : PyData → Prop
  | .str x => x.length ≤ 100000
  | .list xs => xs.length ≤ 100000 ∧ okAll xs
  | .tuple xs => xs.length ≤ 100000 ∧ okAll xs
  | _ => True
def okAll : List PyData → Prop
  | [] => True
  | x :: xs => okD x ∧ okAll xs
end
def lowB (c : Nat) : Bool := decide (97 ≤ c) && decide (c ≤ 122)
def shownB (c : Nat) : Bool := decide (32 ≤ c) && decide (c ≤ 126)
def wordS (x : Str) : Bool := (decide ((1 : Int) ≤ (x.length : Int)) && decide ((x.length : Int) ≤ 8)) && x.cps.toList.all lowB
def valueS (x : Str) : Bool := (!decide ((40 : Int) < (x.length : Int))) && x.cps.toList.all shownB
def wordD : PyData → Bool
  | .str x => wordS x
  | _ => false
def valueD : PyData → Bool
  | .str x => valueS x
  | _ => false
def numD : PyData → Bool
  | .int i => decide (1 ≤ i) && decide (i ≤ 1000000000000000)
  | _ => false
def stampD : PyData → Bool
  | .tuple [a, b] => numD a && wordD b
  | _ => false
def noneD : PyData → Bool
  | .none => true
  | _ => false
def entryD : PyData → Bool
  | .tuple [k, s, v] => wordD k && (stampD s && (noneD v || valueD v))
  | _ => false
/-- a def that tells something of data -/
def spD (K : PySem.W.Frag) (f : PyData → Bool) : Sp := fun vs H Q _ => ∃ (v : V) (d : PyData), vs = [v] ∧ Dd K H v d ∧ okD d ∧ ∀ H', Same H H' → Q (.bl (f d)) H'
theorem spD_len {K : PySem.W.Frag} {f : PyData → Bool} {vs : List V} {H : Hp} {Q : VK} {E : XK} (h : spD K f vs H Q E) : vs.length = 1 := by
  obtain ⟨v, d, rfl, _⟩ := h
  rfl
section
variable {K : PySem.W.Frag} {H : Hp} {Q : VK} {x : Str} {a : Addr} {xs : List V} {A B : Prop} {b : Bool} {v : V}
theorem r_all {bs : List Bool} (h : H a = some (.lst (bs.map V.bl))) (q : Q (.bl (bs.all id)) H) : rAll K [.ref a] H Q := ⟨a, bs, rfl, SqL.of h, q⟩
theorem r_boolN (h1 : b = false → A) (h2 : b = true → B) : if (!b) = true then A else B := by
  cases b with
  | true => exact iteF (h2 rfl)
  | false => exact iteT (h1 rfl)
/-- data stand for isinstance -/
theorem r_isiS {d : PyData} (h : Dd K H v d) (q : Q (.bl (isOf d "str")) H) : rIsi K [v, .ty "str"] H Q := r_isi h (by decide) q
theorem r_isiT {d : PyData} (h : Dd K H v d) (q : Q (.bl (isOf d "tuple")) H) : rIsi K [v, .ty "tuple"] H Q := r_isi h (by decide) q
theorem r_isiI {d : PyData} (h : Dd K H v d) (q : Q (.bl (isOf d "int")) H) : rIsi K [v, .ty "int"] H Q := r_isi h (by decide) q
theorem r_isiB {d : PyData} (h : Dd K H v d) (q : Q (.bl (isOf d "bool")) H) : rIsi K [v, .ty "bool"] H Q := r_isi h (by decide) q
end
/-- a call of a def that tells something of data -/
theorem r_spD {K : PySem.W.Frag} {f : PyData → Bool} {v : V} {d : PyData} {H : Hp} {Q : VK} {E : XK} (h : Dd K H v d) (o : okD d) (q : ∀ H', Same H H' → Q (.bl (f d)) H') : spD K f ([v] ++ []) H Q E := ⟨v, d, rfl, h, o, q⟩
theorem isStr (x : Str) : isOf (.str x) "str" = true := isN_str.2.2.2.1
theorem isTup (x : List PyData) : isOf (.tuple x) "tuple" = true := isN_tuple.2.2.2.2.2.1
theorem isNotStr {d : PyData} (h : ∀ x, d ≠ .str x) : isOf d "str" = false := by
  cases d with
  | str x => exact absurd rfl (h x)
  | none => exact isN_str.1
  | bool _ => exact isN_str.2.1
  | int _ => exact isN_str.2.2.1
  | list _ => exact isN_str.2.2.2.2.1
  | tuple _ => exact isN_str.2.2.2.2.2.1
  | dict _ => exact isN_str.2.2.2.2.2.2
theorem isNotTup {d : PyData} (h : ∀ x, d ≠ .tuple x) : isOf d "tuple" = false := by
  cases d with
  | tuple x => exact absurd rfl (h x)
  | none => exact isN_tuple.1
  | bool _ => exact isN_tuple.2.1
  | int _ => exact isN_tuple.2.2.1
  | str _ => exact isN_tuple.2.2.2.1
  | list _ => exact isN_tuple.2.2.2.2.1
  | dict _ => exact isN_tuple.2.2.2.2.2.2
theorem isInt_or (d : PyData) : (isOf d "int" = true ∧ isOf d "bool" = false ∧ ∃ i, d = .int i) ∨ (isOf d "int" = true ∧ isOf d "bool" = true ∧ ∃ b, d = .bool b) ∨ (isOf d "int" = false ∧ numD d = false) := by
  cases d with
  | int i => exact .inl ⟨isN_int.2.2.1, isN_bool.2.2.1, i, rfl⟩
  | bool b => exact .inr (.inl ⟨isN_int.2.1, isN_bool.2.1, b, rfl⟩)
  | none => exact .inr (.inr ⟨isN_int.1, rfl⟩)
  | str _ => exact .inr (.inr ⟨isN_int.2.2.2.1, rfl⟩)
  | list _ => exact .inr (.inr ⟨isN_int.2.2.2.2.1, rfl⟩)
  | tuple _ => exact .inr (.inr ⟨isN_int.2.2.2.2.2.1, rfl⟩)
  | dict _ => exact .inr (.inr ⟨isN_int.2.2.2.2.2.2, rfl⟩)
theorem all_signs (l : List Nat) (g : Nat → Bool) : (l.map g).all id = l.all g := by rw [List.all_map]; rfl
theorem str_or (d : PyData) : (∃ x, d = .str x) ∨ (∀ x, d ≠ .str x) := by
  cases d with
  | str x => exact .inl ⟨x, rfl⟩
  | _ => exact .inr fun x h => nomatch h
/-- a tuple of data, or none -/
theorem tup_or {K : PySem.W.Frag} {H : Hp} {v : V} {d : PyData} (h : Dd K H v d) : (∃ a xs ds, v = .ref a ∧ d = .tuple ds ∧ H a = some (.tup xs) ∧ DdAll K H xs ds ∧ isOf d "tuple" = true) ∨ (isOf d "tuple" = false ∧ ∀ ds, d ≠ .tuple ds) := by
  cases h with
  | tup e a => exact .inl ⟨_, _, _, rfl, rfl, e, a, isTup _⟩
  | _ => exact .inr ⟨isNotTup (fun x h => nomatch h), (fun x h => nomatch h)⟩
theorem stampD_no {d : PyData} (h : ∀ ds, d ≠ .tuple ds) : stampD d = false := by
  cases d with
  | tuple x => exact absurd rfl (h x)
  | _ => rfl
theorem entryD_no {d : PyData} (h : ∀ ds, d ≠ .tuple ds) : entryD d = false := by
  cases d with
  | tuple x => exact absurd rfl (h x)
  | _ => rfl
theorem stampD_len {ds : List PyData} (h : ¬ ds.length = 2) : stampD (.tuple ds) = false := by
  unfold stampD
  split
  · rename_i e
    cases e
    exact absurd rfl h
  · rfl
theorem entryD_len {ds : List PyData} (h : ¬ ds.length = 3) : entryD (.tuple ds) = false := by
  unfold entryD
  split
  · rename_i e
    cases e
    exact absurd rfl h
  · rfl
theorem all_two {K : PySem.W.Frag} {H : Hp} {xs : List V} {ds : List PyData} (h : DdAll K H xs ds) (e : xs.length = 2) : ∃ v0 v1 d0 d1, xs = [v0, v1] ∧ ds = [d0, d1] ∧ Dd K H v0 d0 ∧ Dd K H v1 d1 := by
  cases h with
  | nil => cases e
  | cons h0 t =>
    cases t with
    | nil => cases e
    | cons h1 t =>
      cases t with
      | nil => exact ⟨_, _, _, _, rfl, rfl, h0, h1⟩
      | cons _ _ => cases e
theorem all_three {K : PySem.W.Frag} {H : Hp} {xs : List V} {ds : List PyData} (h : DdAll K H xs ds) (e : xs.length = 3) : ∃ v0 v1 v2 d0 d1 d2, xs = [v0, v1, v2] ∧ ds = [d0, d1, d2] ∧ Dd K H v0 d0 ∧ Dd K H v1 d1 ∧ Dd K H v2 d2 := by
  cases h with
  | nil => cases e
  | cons h0 t =>
    cases t with
    | nil => cases e
    | cons h1 t =>
      cases t with
      | nil => cases e
      | cons h2 t =>
        cases t with
        | nil => exact ⟨_, _, _, _, _, _, rfl, rfl, h0, h1, h2⟩
        | cons _ _ => cases e
theorem noneD_iff {K : PySem.W.Frag} {H : Hp} {v : V} {d : PyData} (h : Dd K H v d) : decide (v = .non) = noneD d := by
  cases h <;> simp [noneD]
theorem wordD_no {d : PyData} (h : ∀ x, d ≠ .str x) : wordD d = false := by
  cases d with
  | str x => exact absurd rfl (h x)
  | _ => rfl
theorem valueD_no {d : PyData} (h : ∀ x, d ≠ .str x) : valueD d = false := by
  cases d with
  | str x => exact absurd rfl (h x)
  | _ => rfl
end Tk

set_option Elab.async false
set_option linter.all false
set_option maxRecDepth 100000
set_option maxHeartbeats 4000000
namespace Tk
open PySem PySem.Spec PyProof.Rows L2
/-! ### the law's draws: a pool of two numbers -/
def PoolAt (H : Hp) (p : Addr) : Prop := ∃ a b : Int, H p = some (.lst [.int a, .int b]) ∧ 0 ≤ a ∧ 0 ≤ b ∧ b < 2147483647
theorem pool_mk {H : Hp} {p : Addr} {a b : Int} (h0 : 0 ≤ a) (h1 : 0 ≤ b) (h2 : b < 2147483647) : PoolAt (upd H p (.lst [.int a, .int b])) p := ⟨a, b, upd_same, h0, h1, h2⟩
/-- something was drawn of the pool at p (and new things made) -/
structure Drawn (p : Addr) (H H' : Hp) : Prop where
  kept : ∀ b o, H b = some o → b ≠ p → H' b = some o
  pool : PoolAt H' p
theorem Drawn.trans {p : Addr} {H H1 H2 : Hp} (a : Drawn p H H1) (b : Drawn p H1 H2) : Drawn p H H2 := ⟨fun c o h n => b.kept c o (a.kept c o h n) n, b.pool⟩
theorem Drawn.same {p : Addr} {H H1 H2 : Hp} (a : Drawn p H H1) (b : Same H1 H2) : Drawn p H H2 := ⟨fun c o h n => b c o (a.kept c o h n), by obtain ⟨x, y, h, r⟩ := a.pool; exact ⟨x, y, b _ _ h, r⟩⟩
theorem Drawn.refl {p : Addr} {H : Hp} (h : PoolAt H p) : Drawn p H H := ⟨fun _ _ h _ => h, h⟩
theorem Drawn.of {p : Addr} {H H' : Hp} (h : PoolAt H p) (s : Same H H') : Drawn p H H' := (Drawn.refl h).same s
theorem PoolAt.same {p : Addr} {H H' : Hp} (h : PoolAt H p) (s : Same H H') : PoolAt H' p := (Drawn.of h s).pool
/-- what stood ahead of the pool stands -/
theorem Drawn.back {p : Addr} {H0 H H' : Hp} (d : Drawn p H H') (s : Same H0 H) (n : H0 p = none) : Same H0 H' := fun b o h => d.kept b o (s b o h) (ne_of_none h n)
theorem PoolAt.ne {p a : Addr} {H : Hp} {xs : List V} (h : PoolAt H p) (e : H a = some (.tup xs)) : a ≠ p := by
  obtain ⟨x, y, h, _⟩ := h
  exact ne_of e h (by intro z; cases z)
theorem Drawn.tup {p a : Addr} {H H' : Hp} {xs : List V} (d : Drawn p H H') (h : PoolAt H p) (e : H a = some (.tup xs)) : H' a = some (.tup xs) := d.kept _ _ e (h.ne e)
/-! ### take -/
def spTake : Sp := fun vs H Q _ => ∃ (p : Addr) (m : Int), vs = [.ref p, .int m] ∧ PoolAt H p ∧ 0 < m ∧ m < 2 ^ 60 ∧ ∀ r H', 0 ≤ r → r < m → Drawn p H H' → Q (.int r) H'
theorem r_take {p : Addr} {m : Int} {H : Hp} {Q : VK} {E : XK} (h : PoolAt H p) (h0 : 0 < m) (h1 : m < 2 ^ 60) (q : ∀ r H', 0 ≤ r → r < m → Drawn p H H' → Q (.int r) H') : spTake ([.ref p, .int m] ++ []) H Q E := ⟨p, m, rfl, h, h0, h1, q⟩
def spPool (K : PySem.W.Frag) : Sp := fun vs H Q _ => ∃ (s : Addr) (ns : List Int) (k : Int), vs = [.ref s, .int k] ∧ SqL K H s (ns.map V.int) ∧ ns.length ≤ 63 ∧ 0 ≤ k ∧ k < 64 ∧ ∀ p H', H p = none → Same H H' → PoolAt H' p → Q (.ref p) H'
theorem spTake_len {vs : List V} {H : Hp} {Q : VK} {E : XK} (h : spTake vs H Q E) : vs.length = 2 := by
  obtain ⟨p, m, rfl, _⟩ := h
  rfl
theorem spPool_len {K : PySem.W.Frag} {vs : List V} {H : Hp} {Q : VK} {E : XK} (h : spPool K vs H Q E) : vs.length = 2 := by
  obtain ⟨p, m, k, rfl, _⟩ := h
  rfl
/-! ### what a written expression gives, as data: only new things are made -/
def EvD (K : PySem.W.Frag) (te : TE) (σ : L2.St) (d : PyData) : Prop := ∀ (H : Hp) (Q : VK), (∀ v H', Same H H' → Dd K H' v d → Q v H') → te σ H Q
def EvDA (K : PySem.W.Frag) (ta : TA) (σ : L2.St) (ds : List PyData) : Prop := ∀ (H : Hp) (Q : List V → Hp → Prop), (∀ vs H', Same H H' → DdAll K H' vs ds → Q vs H') → ta σ H Q
section
variable {K : PySem.W.Frag} {σ : L2.St} {te : TE} {ta : TA} {d : PyData} {ds : List PyData}
theorem ed_int {i : Int} : EvD K (tC (.int i)) σ (.int i) := fun H Q q => q _ H (Same.refl H) (.int i)
theorem ed_str {i : Str} : EvD K (tC (.str i)) σ (.str i) := fun H Q q => q _ H (Same.refl H) (.str i)
theorem ed_bl {i : Bool} : EvD K (tC (.bl i)) σ (.bool i) := fun H Q q => q _ H (Same.refl H) (.bl i)
theorem ed_non : EvD K (tC .non) σ .none := fun H Q q => q _ H (Same.refl H) .non
theorem ed_nil : EvDA K tNil σ [] := fun H Q q => q _ H (Same.refl H) .nil
theorem ed_cons (h : EvD K te σ d) (t : EvDA K ta σ ds) : EvDA K (tCons te ta) σ (d :: ds) := fun H Q q =>
  h H _ fun v H1 s1 dv => t H1 _ fun vs H2 s2 dvs => q _ H2 (s1.trans s2) (.cons (Dd.same s2 d v dv) dvs)
theorem ed_tup (h : EvDA K ta σ ds) (hl : ds.length ≤ 100000) : EvD K (tTup ta) σ (.tuple ds) := fun H Q q =>
  h H _ fun vs H1 s1 dvs => ⟨sz_of (by rw [dvs.length]; exact hl), fun p hp => q _ _ (s1.trans (Same.new hp)) (.tup upd_same (DdAll.same (Same.new hp) ds vs dvs))⟩
theorem ed_lst (h : EvDA K ta σ ds) (hl : ds.length ≤ 100000) : EvD K (tLst ta) σ (.list ds) := fun H Q q =>
  h H _ fun vs H1 s1 dvs => ⟨sz_of (by rw [dvs.length]; exact hl), fun p hp => q _ _ (s1.trans (Same.new hp)) (.lst upd_same (DdAll.same (Same.new hp) ds vs dvs))⟩
theorem ed_dct : EvD K tDNewK σ (.dict []) := fun H Q q => fun p hp => q _ _ (Same.new hp) (.dct upd_same)
theorem ed_neg {i : Int} : EvD K (tUn (rU fun i => .int (-i)) (tC (.int i))) σ (.int (-i)) := fun H Q q => ⟨i, rfl, q _ H (Same.refl H) (.int _)⟩
end
theorem DdAll.append {K : PySem.W.Frag} {H : Hp} : ∀ {vs ws : List V} {ds es : List PyData}, DdAll K H vs ds → DdAll K H ws es → DdAll K H (vs ++ ws) (ds ++ es)
  | _, _, _, _, .nil, b => b
  | _, _, _, _, .cons h t, b => .cons h (DdAll.append t b)
theorem DdAll.mem {K : PySem.W.Frag} {H : Hp} : ∀ {vs : List V} {ds : List PyData} {v : V}, DdAll K H vs ds → okAll ds → v ∈ vs → ∃ d, Dd K H v d ∧ okD d
  | _, _, _, .nil, _, h => by cases h
  | _, _, v, .cons h t, o, m => by
    rcases List.mem_cons.mp m with e | m
    · subst e
      exact ⟨_, h, o.1⟩
    · exact DdAll.mem t o.2 m
/-- a value that needs no heap -/
def Scal (v : V) : Prop := ∃ d, okD d ∧ ∀ K H, Dd K H v d
theorem scal_int (i : Int) : Scal (.int i) := ⟨.int i, trivial, fun _ _ => .int i⟩
theorem scal_bl (i : Bool) : Scal (.bl i) := ⟨.bool i, trivial, fun _ _ => .bl i⟩
theorem scal_non : Scal .non := ⟨.none, trivial, fun _ _ => .non⟩
theorem scal_str (x : Str) (h : x.length ≤ 100000) : Scal (.str x) := ⟨.str x, h, fun _ _ => .str x⟩
theorem PoolAt.ne' {p a : Addr} {H : Hp} (h : PoolAt H p) (e : H a = none) : a ≠ p := by
  obtain ⟨x, y, h, _⟩ := h
  exact (ne_of_none h e).symm
/-- a made list, a made tuple: the heap behind is a letter -/
theorem a_lst {xs : List V} {H : Hp} {Q : VK} (hl : xs.length ≤ 100000) (q : ∀ p H2, H p = none → Same H H2 → H2 p = some (.lst xs) → Q (.ref p) H2) : AllocL xs H Q :=
  ⟨sz_of hl, fun p hp => q p _ hp (Same.new hp) upd_same⟩
theorem a_tup {xs : List V} {H : Hp} {Q : VK} (hl : xs.length ≤ 100000) (q : ∀ p H2, H p = none → Same H H2 → H2 p = some (.tup xs) → Q (.ref p) H2) : AllocT xs H Q :=
  ⟨sz_of hl, fun p hp => q p _ hp (Same.new hp) upd_same⟩
/-- texts of at most n signs -/
def textB (n : Nat) : V → Bool
  | .str x => decide (x.length ≤ n)
  | _ => false
theorem textB_all {n : Nat} {xs : List V} {v : V} (h : xs.all (textB n) = true) (m : v ∈ xs) : ∃ x : Str, v = .str x ∧ x.length ≤ n := by
  have q := List.all_eq_true.mp h v m
  cases v with
  | str x => exact ⟨x, rfl, of_decide_eq_true q⟩
  | _ => cases q
def scalB : V → Bool
  | .non => true
  | .bl _ => true
  | .int _ => true
  | .str x => decide (x.length ≤ 100000)
  | _ => false
theorem scal_of {v : V} (h : scalB v = true) : Scal v := by
  cases v with
  | non => exact scal_non
  | bl b => exact scal_bl b
  | int i => exact scal_int i
  | str x => exact scal_str x (of_decide_eq_true h)
  | _ => cases h
theorem scal_all {xs : List V} {v : V} (h : xs.all scalB = true) (m : v ∈ xs) : Scal v := scal_of (List.all_eq_true.mp h v m)
/-- an item at a drawn place -/
theorem at_drawn {xs : List V} {r : Int} (h0 : 0 ≤ r) (h1 : r < (xs.length : Nat)) : ∃ v, atI xs r = some v ∧ v ∈ xs := by
  obtain ⟨n, rfl⟩ := Int.eq_ofNat_of_zero_le h0
  have hn : n < xs.length := by omega
  exact ⟨xs[n], atI_nat (by simp [hn]), List.getElem_mem hn⟩
theorem r_pow15 {H : Hp} {Q : VK} (q : Q (.int 1000000000000000) H) : rI CPow (fun i j => .int (i ^ j.toNat)) (.int 10) (.int 15) H Q := by
  refine r_I (C := CPow) (⟨by decide, by decide, by decide⟩ : CPow 10 15) ?_
  have e : ((10 : Int) ^ (15 : Int).toNat) = 1000000000000000 := by decide +kernel
  rw [e]
  exact q
theorem r_pow18 {H : Hp} {Q : VK} (q : Q (.int 1000000000000000000) H) : rI CPow (fun i j => .int (i ^ j.toNat)) (.int 10) (.int 18) H Q := by
  refine r_I (C := CPow) (⟨by decide, by decide, by decide⟩ : CPow 10 18) ?_
  have e : ((10 : Int) ^ (18 : Int).toNat) = 1000000000000000000 := by decide +kernel
  rw [e]
  exact q
theorem r_pow6 {H : Hp} {Q : VK} (q : Q (.int 1000000) H) : rI CPow (fun i j => .int (i ^ j.toNat)) (.int 10) (.int 6) H Q := by
  refine r_I (C := CPow) (⟨by decide, by decide, by decide⟩ : CPow 10 6) ?_
  have e : ((10 : Int) ^ (6 : Int).toNat) = 1000000 := by decide +kernel
  rw [e]
  exact q
theorem isEmpty_filter (l : List Nat) (g : Nat → Bool) (f : Nat → V) : ((l.filter fun c => !g c).map f).isEmpty = l.all g := by
  induction l with
  | nil => rfl
  | cons a r ih =>
    rw [List.filter_cons, List.all_cons]
    cases h : g a with
    | true => simpa [h] using ih
    | false => simp
end Tk

set_option Elab.async false
set_option linter.all false
set_option maxRecDepth 100000
set_option maxHeartbeats 4000000
namespace Tk
open PySem PySem.Spec PyProof.Rows L2
/-- a comprehension over a range whose element draws -/
theorem lc_drawn {n s : Nat} {p : Addr} {te : TE} {σ : L2.St} {H1 : Hp} {Qd : VK} (hp : PoolAt H1 p) (hn : n ≤ 100000) (Pv : V → Prop)
    (he : ∀ (i : Nat) (H2 : Hp) (R : VK), i < n → PoolAt H2 p → Drawn p H1 H2 → (∀ v H3, Pv v → Drawn p H2 H3 → R v H3) → te (σ.set s (some (.int (0 + (i : Int))))) H2 R)
    (hd : ∀ (D : Addr) (H' : Hp) (ys : List V), H1 D = none → Drawn p H1 H' → ys.length = n → (∀ y ∈ ys, Pv y) → H' D = some (.lst ys) → Qd (.ref D) H') :
    LcG (Itr 0 n) (gName s) tYes te [s] σ H1 Qd := by
  intro D hD
  have nD : D ≠ p := by
    obtain ⟨a, b, e, _⟩ := hp
    exact (ne_of_none e hD).symm
  refine lc_range (Qd := fun H' => Qd (.ref D) H') (lo := 0) (n := n) (fun i H' => Drawn p H1 H' ∧ ∃ ys : List V, ys.length = i ∧ (∀ y ∈ ys, Pv y) ∧ H' D = some (.lst ys)) ⟨Drawn.of hp (Same.new hD), [], rfl, (fun _ h => by cases h), upd_same⟩ ?_ (fun H' ⟨d, ys, e1, e2, e3⟩ => hd D H' ys hD d e1 e2 e3)
  rintro i H2 hi ⟨d2, ys, e1, e2, e3⟩
  show wipe ((wipe σ [s]).set s (some (V.int (0 + (i : Int))))) [s] = wipe σ [s] ∧ _
  refine ⟨wipe_set σ s _, ?_⟩
  simp only [tYes, reduceIte, wipe_slot]
  refine he i H2 _ hi d2.pool d2 fun v H3 hv d3 => ?_
  have e4 := d3.kept _ _ e3 nD
  refine ⟨ys, e4, sz_lt (by omega), ?_⟩
  have d5 : Drawn p H1 H3 := d2.trans d3
  refine ⟨⟨fun b o h n => by rw [upd_ne (ne_of_none h hD)]; exact d5.kept b o h n, ?_⟩, ys ++ [v], by simp [e1], fun y hy => ?_, upd_same⟩
  · obtain ⟨a, b, e, r⟩ := d5.pool
    exact ⟨a, b, by rw [upd_ne nD.symm]; exact e, r⟩
  · rcases List.mem_append.mp hy with h | h
    · exact e2 y h
    · rw [List.mem_singleton.mp h]; exact hv
theorem strs_of {n : Nat} : ∀ {ys : List V}, (∀ y ∈ ys, ∃ x : Str, y = .str x ∧ x.length ≤ n) → ∃ zs : List Str, ys = zs.map V.str ∧ ∀ z ∈ zs, z.length ≤ n
  | [], _ => ⟨[], rfl, fun _ h => by cases h⟩
  | y :: ys, h => by
    obtain ⟨x, rfl, hx⟩ := h y List.mem_cons_self
    obtain ⟨zs, rfl, hz⟩ := strs_of (ys := ys) fun z hz => h z (List.mem_cons_of_mem _ hz)
    exact ⟨x :: zs, rfl, fun z hz' => by
      rcases List.mem_cons.mp hz' with rfl | h
      · exact hx
      · exact hz z h⟩
theorem sum_le {n : Nat} : ∀ {zs : List Str}, (∀ z ∈ zs, z.length ≤ n) → (zs.map (·.length)).sum ≤ zs.length * n
  | [], _ => by simp
  | z :: zs, h => by
    have h1 := h z List.mem_cons_self
    have h2 := sum_le (zs := zs) fun y hy => h y (List.mem_cons_of_mem _ hy)
    rw [List.map_cons, List.sum_cons, List.length_cons, Nat.succ_mul]
    omega
theorem join_len (sep : Str) (zs : List Str) : (Txt.join sep zs).length = (zs.map (·.length)).sum + (zs.length - 1) * sep.length := size_glued sep zs
def rJoin (K : PySem.W.Frag) : V → List V → Hp → VK → Prop := fun x xs H Q => ∃ a p, ∃ ys : List Str, x = V.str a ∧ xs = [V.ref p] ∧ (SqL K H p (ys.map V.str) ∨ SqT K H p (ys.map V.str)) ∧ (ys.map (·.length)).sum + ys.length * a.length ≤ 16777216 ∧ Q (.str (Txt.join a ys)) H
theorem pe_joinK {X : Cx} {o e : Expr} {to te : TE} {apos pos : Pos} (ho : PE X o to) (he : PE X e te) (hs : starEach [e] X.env = [(false, eval e X.env)] := by rfl) (hbase : attributeBase o "join" X.env (eval o X.env) = eval o X.env := by rfl) (hline : (apos.endLine == pos.line) = true := by rfl) :
    PE X (.Call (.Attribute o "join" apos) [e] [] pos) (tM1 (rJoin X.K) to te) := pe_join ho he hs hbase hline
theorem r_m1 {r : V → List V → Hp → VK → Prop} {to te : TE} {σ : L2.St} {H : Hp} {Q : VK} (h : to σ H fun x H1 => (∃ a, x = .str a) ∧ te σ H1 fun y H2 => r x [y] H2 Q) : tM1 r to te σ H Q := h
theorem r_join {K : PySem.W.Frag} {p : Addr} {zs : List Str} {sep : Str} {H : Hp} {Q : VK} (h : H p = some (.lst (zs.map V.str))) (hz : (zs.map (·.length)).sum + zs.length * sep.length ≤ 16777216) (q : Q (.str (Txt.join sep zs)) H) : rJoin K (.str sep) [.ref p] H Q :=
  ⟨sep, p, zs, rfl, rfl, .inl (SqL.of h), hz, q⟩
/-! ### the rules with the written part said by its letter -/
section
variable {X : Cx} {K : PySem.W.Frag}
theorem k_ix (e : X.K = K := by rfl) : IxR X (rIx K) := by subst e; exact ix_seq
theorem k_add (e : X.K = K := by rfl) : OpR X (binaryOp .Add) (GAdd K) := by subst e; exact o_add
theorem k_eq (hu : X.A.units + 64 < cLine) (e : X.K = K := by rfl) : OpR X (compareOp .Eq) (GEq K) := by subst e; exact o_eq hu
theorem k_ne (hu : X.A.units + 64 < cLine) (e : X.K = K := by rfl) : OpR X (compareOp .NotEq) (GNe K) := by subst e; exact o_ne hu
theorem k_isi (e : X.K = K := by rfl) : CallR X (.builtin "isinstance") (rIsi K) := by subst e; exact call_isi
theorem k_len (e : X.K = K := by rfl) : CallR X (.builtin "len") (rLen K) := by subst e; exact c_len
theorem k_all (hc : X.calm = true) (e : X.K = K := by rfl) : CallR X (.builtin "all") (rAll K) := by subst e; exact cr_all hc
theorem k_any (hc : X.calm = true) (e : X.K = K := by rfl) : CallR X (.builtin "any") (rAny K) := by subst e; exact cr_any hc
theorem k_listOf (e : X.K = K := by rfl) : CallR X (.type "list") (rListOf K) := by subst e; exact c_listOf
def GSlice (K : PySem.W.Frag) : V → Option Int → Option Int → Hp → VK → Prop := fun x lo hi H Q => rSlL K x lo hi H Q ∨ (rSlS x lo hi H Q ∨ rSlA K x lo hi H Q)
theorem k_slice (e : X.K = K := by rfl) : SlR X (GSlice K) := by subst e; exact o_slice
theorem r_sl {r : V → Option Int → Option Int → Hp → VK → Prop} {te : TE} {tl th : TO} {σ : L2.St} {H : Hp} {Q : VK} (h : te σ H fun x H1 => tl σ H1 fun lo H2 => th σ H2 fun hi H3 => r x lo hi H3 Q) : tSl r te tl th σ H Q := h
theorem r_un {r : V → Hp → VK → Prop} {te : TE} {σ : L2.St} {H : Hp} {Q : VK} (h : te σ H fun x H1 => r x H1 Q) : tUn r te σ H Q := h
theorem r_U {g : Int → V} {i : Int} {H : Hp} {Q : VK} (q : Q (g i) H) : rU g (.int i) H Q := ⟨i, rfl, q⟩
theorem g_listOfT {p : Addr} {xs : List V} {H : Hp} {Q : VK} (h : H p = some (.tup xs)) (q : ∀ l H2, H l = none → Same H H2 → H2 l = some (.lst xs) → Q (.ref l) H2) : rListOf K [.ref p] H Q := r_listOfT h fun l hl => q l _ hl (Same.new hl) upd_same
theorem r_noPart {σ : L2.St} {H : Hp} {R : Option Int → Hp → Prop} (h : R none H) : tNoPart σ H R := h
theorem r_part {te : TE} {σ : L2.St} {H : Hp} {R : Option Int → Hp → Prop} (h : te σ H fun x H1 => ∃ i, x = .int i ∧ R (some i) H1) : tPart te σ H R := h
theorem r_inti {i : Int} {P : Int → Prop} (q : P i) : ∃ j, V.int i = V.int j ∧ P j := ⟨i, rfl, q⟩
theorem g_slS {x : Str} {lo hi : Option Int} {H : Hp} {Q : VK} (hx : x.length ≤ 100000) (q : Q (.str (cutS x lo hi)) H) : GSlice K (.str x) lo hi H Q := .inr (.inl ⟨x, rfl, sz_of hx, q⟩)
theorem g_slT {a : Addr} {xs : List V} {n : Nat} {lo hi : Option Int} {H : Hp} {Q : VK} (h : H a = some (.tup xs)) (hn : xs.length = n) (hw : ¬ (HT.sIx n 0 lo = 0 ∧ HT.sIx n n hi = n)) (q : ∀ p H2, H p = none → Same H H2 → H2 p = some (.tup (cutV xs lo hi)) → Q (.ref p) H2) : GSlice K (.ref a) lo hi H Q := by
  subst hn
  exact .inr (.inr ⟨a, xs, rfl, SqT.of h, fun w => absurd w hw, fun _ p hp => q p _ hp (Same.new hp) upd_same⟩)
theorem cutS_len (z : Str) (lo hi : Option Int) : (cutS z lo hi).length ≤ z.length := by
  unfold cutS
  show (List.toArray _).size ≤ z.cps.size
  rw [List.size_toArray, List.length_take, List.length_drop, Array.length_toList]
  omega
theorem k_list {tg l : Expr} {tl : TE} (hl : PE X l tl) (e : X.K = K := by rfl) : PI X tg l (iList K tl) := by subst e; exact pi_list hl
theorem k_tup {tg l : Expr} {tl : TE} (hl : PE X l tl) (e : X.K = K := by rfl) : PI X tg l (iTup K tl) := by subst e; exact pi_tup hl
theorem k_gtup {es : List Expr} {k : Nat} {pos : Pos} {t : TGs} {n : Nat} (hc : X.calm = true) (h : PGs X es t) (e : X.K = K := by rfl) (hn : (assignEach es X.env).length = n := by rfl) (hst : (assignEach es X.env).findIdx? (·.1) = none := by rfl) : PG X (.Tuple es k pos) (gTup K n t) := by subst e; exact pg_tup hc h hn hst
theorem k_joinK {o e' : Expr} {to te : TE} {apos pos : Pos} (ho : PE X o to) (he : PE X e' te) (e : X.K = K := by rfl) (hs : starEach [e'] X.env = [(false, eval e' X.env)] := by rfl) (hbase : attributeBase o "join" X.env (eval o X.env) = eval o X.env := by rfl) (hline : (apos.endLine == pos.line) = true := by rfl) :
    PE X (.Call (.Attribute o "join" apos) [e'] [] pos) (tM1 (rJoin K) to te) := by subst e; exact pe_joinK ho he hs hbase hline
end
def spDraw (Pv : V → Prop) : Sp := fun vs H Q _ => ∃ (p : Addr), vs = [.ref p] ∧ PoolAt H p ∧ ∀ v H', Pv v → Drawn p H H' → Q v H'
theorem spDraw_len {Pv : V → Prop} {vs : List V} {H : Hp} {Q : VK} {E : XK} (h : spDraw Pv vs H Q E) : vs.length = 1 := by
  obtain ⟨p, rfl, _⟩ := h
  rfl
theorem r_draw {Pv : V → Prop} {p : Addr} {H : Hp} {Q : VK} {E : XK} (h : PoolAt H p) (q : ∀ v H', Pv v → Drawn p H H' → Q v H') : spDraw Pv ([.ref p] ++ []) H Q E := ⟨p, rfl, h, q⟩
/-- a text of at most n signs -/
def TextV (n : Nat) (v : V) : Prop := ∃ x : Str, v = .str x ∧ x.length ≤ n
theorem turns_of (m l : Nat) (hm : 1 ≤ m) : ∃ n : Nat, (if (if (m : Int) < (l : Int) then (m : Int) else (l : Int)) > 1 then (if (m : Int) < (l : Int) then (m : Int) else (l : Int)) else 1) = (n : Int) ∧ n ≤ m := by
  by_cases h : (m : Int) < (l : Int)
  · rw [if_pos h]
    by_cases h2 : (m : Int) > 1
    · exact ⟨m, if_pos h2, Nat.le_refl _⟩
    · exact ⟨1, if_neg h2, hm⟩
  · rw [if_neg h]
    by_cases h2 : (l : Int) > 1
    · exact ⟨l, if_pos h2, by omega⟩
    · exact ⟨1, if_neg h2, hm⟩
theorem r_pool {K : PySem.W.Frag} {s : Addr} {ns : List Int} {k : Int} {H : Hp} {Q : VK} {E : XK} (h : SqL K H s (ns.map V.int)) (hl : ns.length ≤ 63) (h0 : 0 ≤ k) (h1 : k < 64) (q : ∀ p H', H p = none → Same H H' → PoolAt H' p → Q (.ref p) H') : spPool K ([.ref s, .int k] ++ []) H Q E :=
  ⟨s, ns, k, rfl, h, hl, h0, h1, q⟩
/-- the law's own promise -/
def spLaw (K : PySem.W.Frag) : Sp := fun vs H Q _ => ∃ (a : Addr) (ns : List Int), vs = [.ref a] ∧ SqL K H a (ns.map V.int) ∧ ns.length ≤ 63 ∧ ∀ H', Q (.bl true) H'
theorem spLaw_len {K : PySem.W.Frag} {vs : List V} {H : Hp} {Q : VK} {E : XK} (h : spLaw K vs H Q E) : vs.length = 1 := by
  obtain ⟨a, ns, rfl, _⟩ := h
  rfl
theorem ev_use {K : PySem.W.Frag} {te : TE} {σ : L2.St} {d : PyData} {H : Hp} {Q : VK} (h : EvD K te σ d) (q : ∀ v H', Same H H' → Dd K H' v d → Q v H') : te σ H Q := h H Q q
theorem g_cat {K : PySem.W.Frag} {v w : V} {ds es : List PyData} {H : Hp} {Q : VK} (h1 : Dd K H v (.list ds)) (h2 : Dd K H w (.list es)) (hl : ds.length + es.length ≤ 100000) (q : ∀ v' H2, Same H H2 → Dd K H2 v' (.list (ds ++ es)) → Q v' H2) : GAdd K v w H Q := by
  cases h1 with
  | lst e1 a1 =>
    cases h2 with
    | lst e2 a2 =>
      exact .inr (.inr (.inl ⟨_, _, _, _, rfl, rfl, e1, e2, sz_of (by rw [a1.length, a2.length]; exact hl), fun p hp => q _ _ (Same.new hp) (.lst upd_same (DdAll.same (Same.new hp) _ _ (a1.append a2)))⟩))
/-- a comprehension over a list of data whose tests all fail -/
theorem lc_none {K : PySem.W.Frag} {T : Addr} {xs : List V} {ds : List PyData} {s : Nat} {tt : TT} {te : TE} {σ : L2.St} {H : Hp} {Q : VK} (e : H T = some (.lst xs)) (al : DdAll K H xs ds) (ok : okAll ds) (hl : ds.length ≤ 100000)
    (ht : ∀ v d, Dd K H v d → okD d → ∀ (H2 : Hp) (R : Bool → Hp → Prop), Same H H2 → (∀ H3, Same H2 H3 → R false H3) → tt (σ.set s (some v)) H2 R)
    (hd : ∀ (D : Addr) (H' : Hp), H D = none → Same H H' → H' D = some (.lst []) → Q (.ref D) H') : LcG (Itl K T) (gName s) tt te [s] σ H Q := by
  refine lc_pure walk_list (fun H' s' => SqL.of (s' _ _ e)) (by rw [al.length]; exact hl) (fun _ => false) (fun v => v) ?_ (fun _ _ h => nomatch h) ?_
  · intro v hv H2 R s2 q
    obtain ⟨d, hd, od⟩ := al.mem ok hv
    exact ht v d hd od H2 R s2 q
  · intro D H' h0 s' e'
    refine hd D H' h0 s' ?_
    rw [e']
    have z : xs.filter (fun _ => false) = [] := List.filter_eq_nil_iff.mpr (fun _ _ h => nomatch h)
    rw [z]
    rfl
/-- a loop over a list of data that only makes new things -/
theorem for_data {K : PySem.W.Frag} {T : Addr} {xs : List V} {g : TG} {tb : TS} {D : Ends} {σ : L2.St} {H : Hp} (e : H T = some (.lst xs)) (Sl : L2.St → Prop) (h0 : Sl σ)
    (hs : ∀ v ∈ xs, ∀ (σ : L2.St) (H2 : Hp), Sl σ → Same H H2 → g v σ H2 fun σ2 H3 => tb { D with nx := fun σ' H' => Sl σ' ∧ Same H H', ct := fun σ' H' => Sl σ' ∧ Same H H', bk := D.nx } σ2 H3) (hd : ∀ σ H', Sl σ → Same H H' → D.nx σ H') :
    ForG (Itl K T) g tb D σ H := by
  refine for_it walk_list (fun _ σ H' => Sl σ ∧ Same H H') ⟨h0, Same.refl H⟩ (fun i σ H' _ p => SqL.of (p.2 _ _ e)) ?_ (fun σ H' p => hd σ H' p.1 p.2)
  rintro i x σ H2 H2' hi ⟨p1, p2⟩ ⟨rfl, hx⟩
  exact hs x (List.mem_of_getElem? hx) σ _ p1 p2
end Tk

set_option Elab.async false
set_option linter.all false
set_option maxRecDepth 100000
set_option maxHeartbeats 4000000
namespace K01
open PySem PySem.Spec PyProof.Rows L2 Tk
local macro_rules | `(tactic| walk_at "rd1") => `(tactic| first
  | with_reducible refine r_seq ?_
  | ((with_reducible refine r_var (v := ?vv) ?hrv ?_); (case hrv => rfl))
  | with_reducible refine r_c ?_
  | with_reducible refine r_op ?_
  | ((with_reducible refine r_ixL (xs := ?xx) (v := ?vv) ?hh ?he ?_); (case hh => first | assumption | exact upd_same); (case he => rfl))
  | with_reducible refine r_asg ?_
  | with_reducible refine r_sub ?_
  | ((with_reducible refine r_gTup (xs := ?xx) ?hh ?he ?_); (case hh => assumption); (case he => rfl))
  | with_reducible refine r_gCons ?_
  | with_reducible refine r_gNil ?_
  | ((with_reducible refine r_setL (xs := ?xx) (j := ?vv) ?hh ?he ?_); (case hh => first | assumption | exact upd_same); (case he => rfl))
  | with_reducible refine r_pow15 ?_
  | with_reducible refine r_pow18 ?_
  | with_reducible refine r_repr ?_
  | with_reducible refine iteT ?_
  | with_reducible refine iteF ?_
  | with_reducible refine r_cons ?_
  | with_reducible refine r_nil ?_
  | with_reducible refine r_call ?_
  | with_reducible refine r_cb ?_
  | with_reducible refine r_ret ?_
  | with_reducible refine r_gName ?_
  | with_reducible refine r_next ?_
  | with_reducible refine r_ifS ?_
  | with_reducible refine r_un ?_
  | with_reducible refine r_U ?_
  | with_reducible refine r_max2 ?_
  | with_reducible refine r_min2 ?_
  | with_reducible refine r_sl ?_
  | with_reducible refine r_noPart ?_
  | with_reducible refine r_part ?_
  | with_reducible refine r_inti ?_
  | with_reducible refine r_lc ?_
  | with_reducible refine r_for ?_
  | with_reducible refine r_rng1 ?_
  | with_reducible refine r_iList ?_
  | with_reducible refine r_iTup ?_
  | with_reducible refine r_iStr ?_
  | with_reducible refine r_strx ?_
  | ((with_reducible refine r_j ?hh ?hi ?_); (case hh => omega); (case hi => omega))
  | with_reducible refine r_m1 ?_
  | with_reducible refine r_test ?_
  | with_reducible refine r_B ?_
  | with_reducible refine r_not ?_
  | with_reducible refine r_and ?_
  | with_reducible refine r_or ?_
  | with_reducible refine r_andV ?_
  | with_reducible refine r_orV ?_
  | with_reducible refine r_notV ?_
  | with_reducible refine r_if ?_
  | with_reducible refine r_chain ?_
  | with_reducible refine r_lst ?_
  | with_reducible refine r_tup ?_
  | with_reducible refine r_k ?_
  | ((with_reducible refine r_isiS (d := ?dd) ?hh ?_); (case hh => assumption))
  | ((with_reducible refine r_isiT (d := ?dd) ?hh ?_); (case hh => assumption))
  | ((with_reducible refine r_isiI (d := ?dd) ?hh ?_); (case hh => assumption))
  | ((with_reducible refine r_isiB (d := ?dd) ?hh ?_); (case hh => assumption))
  | ((with_reducible refine r_lenS ?hh ?_); (case hh => assumption))
  | ((with_reducible refine r_lenT (xs := ?dd) ?hh ?_); (case hh => assumption))
  | ((with_reducible refine r_ixT (xs := ?xx) (v := ?vv) ?hh ?he ?_); (case hh => assumption); (case he => rfl))
  | with_reducible refine r_isN ?_
  | with_reducible refine r_I0 ?_
  | with_reducible refine g_addI ?_
  | ((with_reducible refine r_mod ?hh ?_); (case hh => first | decide | omega))
  | ((with_reducible refine r_div ?hh ?hi ?_); (case hh => first | decide | omega); (case hi => first | decide | omega))
  | ((with_reducible refine g_mulB ?hh ?hi ?_); (case hh => omega); (case hi => omega))
  | with_reducible refine g_ltI ?_
  | with_reducible refine g_leI ?_
  | with_reducible refine g_gtI ?_
  | with_reducible refine g_geI ?_
  | with_reducible refine g_eqI ?_
  | with_reducible refine g_neI ?_
  | with_reducible refine g_eqS ?_
  | with_reducible refine g_neS ?_
  | with_reducible refine g_leS ?_
  | with_reducible refine g_ltS ?_)
local macro_rules | `(tactic| walk_at "rd") => `(tactic| repeat (walk_at "rd1"))
local macro_rules | `(tactic| walk_at "ed") => `(tactic| repeat first
  | exact ed_int
  | exact ed_str
  | exact ed_bl
  | exact ed_non
  | exact ed_nil
  | exact ed_dct
  | exact ed_neg
  | with_reducible apply ed_cons
  | with_reducible apply ed_tup
  | with_reducible apply ed_lst
  | exact Nat.le_of_ble_eq_true rfl)
def top (i : Nat) : Stmt := PySem.Challenge.pw_tombkeeper_k01_words_values_entries.main.body.getD i (.Pass ⟨0, 0, 0, 0⟩)
structure Txt (mg : Str → Option Value) (t1 t2 t3 : Tok) : Prop where
  z_len : mg "len" = none
  z_all : mg "all" = none
  z_isinstance : mg "isinstance" = none
  z_str : mg "str" = none
  z_tuple : mg "tuple" = none
  z_int : mg "int" = none
  z_bool : mg "bool" = none
  z_repr : mg "repr" = none
  z_list : mg "list" = none
  z_range : mg "range" = none
  z_max : mg "max" = none
  z_min : mg "min" = none
  g_LONGEST_WORD : mg "LONGEST_WORD" = some (.int 8 t1)
  g_LONGEST_VALUE : mg "LONGEST_VALUE" = some (.int 40 t2)
  g_GREATEST_NUMBER : mg "GREATEST_NUMBER" = some (.int 1000000000000000 t3)
section
variable {t1 t2 t3 : Tok} {P : Program} {w : World} {K : PySem.W.Frag} {mg : Str → Option Value} {base : Heap}
abbrev s_L_take : Stmt := top 11
abbrev n_L_take : List Str := ["_law_pool_here", "_law_many", "_law_found"]
abbrev p_L_take : List Str := ["_law_pool_here", "_law_many"]
theorem sc_L_take : FnScope n_L_take p_L_take (defScope s_L_take) := ⟨rfl, rfl, rfl, by decide +kernel, rfl, by decide +kernel, by decide +kernel⟩
theorem ok_L_take (T : Txt mg t1 t2 t3) {f : Addr} {fd : FuncData} (F : Fun K "_law_take" "_law_take" s_L_take f fd) : FnOk P w K mg base CX0 1 f fd p_L_take spTake := by
  refine F.ok sc_L_take (fun vs H Q E h => spTake_len h) (fun cdv A outer s H vs Q E hr h => ?_)
  obtain ⟨p, m, rfl, ⟨a, b, hp, ha, hb, hb2⟩, hm, hm2, k⟩ := h
  have hu := hr.units
  have dr : ∀ {o : HO}, PoolAt (upd H p o) p → Drawn p H (upd H p o) := fun h => ⟨fun c u e n => by rw [upd_ne n]; exact e, h⟩
  refine ⟨_, (pss_cons (ps_if (pt_cmpR o_gt (pe_ix k_ix (pv 0) pe_int (fun _ _ => rfl)) pe_int (nomark _)) (pss_cons (ps_set (i := 2) sc_L_take.nd rfl (by first | exact Or.inl rfl | exact Or.inr rfl) (pe_op op_mod (pe_ix k_ix (pv 0) pe_int (fun _ _ => rfl)) (pv 1)))
      (pss_cons (ps_asg (pe_op o_fdiv (pe_ix k_ix (pv 0) pe_int (fun _ _ => rfl)) (pv 1)) (pg_sub (pv 0) pe_int set_list))
      (pss_one (ps_ret (pv 2))))) pss_nil)
      (pss_cons (ps_asg (pe_op op_mod (pe_op k_add (pe_op o_mul (pe_ix k_ix (pv 0) pe_int (fun _ _ => rfl)) pe_int) pe_int) pe_int) (pg_sub (pv 0) pe_int set_list))
      (pss_one (ps_ret (pe_op op_mod (pe_op o_fdiv (pe_op op_mod (pe_op o_mul (pe_ix k_ix (pv 0) pe_int (fun _ _ => rfl)) (pe_ix k_ix (pv 0) pe_int (fun _ _ => rfl))) pe_int) pe_int) (pv 1)))))), ?_⟩
  walk_at "rd"
  refine r_dec (fun c => ?_) (fun c => ?_)
  · walk_at "rd"
    exact k _ _ (Int.emod_nonneg _ (by omega)) (Int.emod_lt_of_pos _ hm) (dr (pool_mk (Int.ediv_nonneg ha (Int.le_of_lt hm)) hb hb2))
  · walk_at "rd"
    exact k _ _ (Int.emod_nonneg _ (by omega)) (Int.emod_lt_of_pos _ hm) (dr (pool_mk ha (Int.emod_nonneg _ (by decide)) (Int.emod_lt_of_pos _ (by decide))))
abbrev s_L_pool : Stmt := top 10
abbrev n_L_pool : List Str := ["_law_script", "_law_k", "_law_cell", "_law_seed"]
abbrev p_L_pool : List Str := ["_law_script", "_law_k"]
theorem sc_L_pool : FnScope n_L_pool p_L_pool (defScope s_L_pool) := ⟨rfl, rfl, rfl, by decide +kernel, rfl, by decide +kernel, by decide +kernel⟩
theorem ok_L_pool (T : Txt mg t1 t2 t3) {f : Addr} {fd : FuncData} (F : Fun K "_law_pool" "_law_pool" s_L_pool f fd) : FnOk P w K mg base CX0 1 f fd p_L_pool (spPool K) := by
  refine F.ok sc_L_pool (fun vs H Q E h => spPool_len h) (fun cdv A outer s H vs Q E hr h => ?_)
  obtain ⟨sc, ns, i, rfl, hS, hl, h0, h1, k⟩ := h
  have hu := hr.units
  refine ⟨_, (pss_cons (ps_set (i := 2) sc_L_pool.nd rfl (by first | exact Or.inl rfl | exact Or.inr rfl) pe_int)
      (pss_cons (ps_if (pt_cmpR o_lt (pv 1) (pe_callB k_len (by rfl) T.z_len (by decide +kernel) (pa_cons (pv 0) pa_nil)) (nomark _)) (pss_one (ps_set (i := 2) sc_L_pool.nd rfl (by first | exact Or.inl rfl | exact Or.inr rfl) (pe_ix k_ix (pv 0) (pv 1) (fun _ _ => rfl)))) pss_nil)
      (pss_cons (ps_set (i := 3) sc_L_pool.nd rfl (by first | exact Or.inl rfl | exact Or.inr rfl) (pe_op op_mod (pe_op o_mul (pe_op k_add (pe_op k_add (pe_op op_mod (pv 2) pe_int) (pe_op o_mul (pe_op o_mul pe_int (pv 1)) (pv 1))) pe_int) pe_int) pe_int))
      (pss_cons (ps_if (pt_cmpR o_lt (pv 2) (pe_op op_pow pe_int pe_int) (nomark _)) (pss_one (ps_set (i := 2) sc_L_pool.nd rfl (by first | exact Or.inl rfl | exact Or.inr rfl) pe_int)) pss_nil)
      (pss_one (ps_ret (pe_lst (pa_cons (pv 2) (pa_cons (pe_op k_add (pe_op op_mod (pe_op o_mul (pv 3) (pv 3)) pe_int) pe_int) pa_nil))))))))), ?_⟩
  have fin : ∀ c : Int, (tSeq (tAsg (tOp (rI (fun x j => 0 < j) fun i j => V.int (i % j)) (tOp GMul (tOp (GAdd K) (tOp (GAdd K) (tOp (rI (fun x j => 0 < j) fun i j => V.int (i % j)) (tVar 2) (tC (V.int 2147483629))) (tOp GMul (tOp GMul (tC (V.int 7919)) (tVar 1)) (tVar 1))) (tC (V.int 13))) (tC (V.int 48271))) (tC (V.int 2147483647))) (gName 3)) (tSeq (tIfS (tTest (tOp GLt (tVar 2) (tOp (rI CPow fun i j => V.int (i ^ j.toNat)) (tC (V.int 10)) (tC (V.int 18))))) (tAsg (tC (V.int 0)) (gName 2)) tNext) (tRet (tLst (tCons (tVar 2) (tCons (tOp (GAdd K) (tOp (rI (fun x j => 0 < j) fun i j => V.int (i % j)) (tOp GMul (tVar 3) (tVar 3)) (tC (V.int 2147483587))) (tC (V.int 1))) tNil)))))) { nx := fun x H' => Q V.non H', rt := Q } [some (.ref sc), some (.int i), some (.int c), none] H := by
    intro c
    have e1 := Int.emod_nonneg c (show (2147483629 : Int) ≠ 0 by decide)
    have e2 := Int.emod_lt_of_pos c (show (0 : Int) < 2147483629 by decide)
    have e3 : 0 ≤ 7919 * i * i := Int.mul_nonneg (Int.mul_nonneg (by decide) h0) h0
    have e4 : 7919 * i * i ≤ 7919 * i * 64 := Int.mul_le_mul_of_nonneg_left (by omega) (Int.mul_nonneg (by decide) h0)
    walk_at "rd"
    generalize hx : (c % 2147483629 + 7919 * i * i + 13) * 48271 % 2147483647 = x
    have x1 : 0 ≤ x := by rw [← hx]; exact Int.emod_nonneg _ (by decide)
    have x2 : x < 2147483647 := by rw [← hx]; exact Int.emod_lt_of_pos _ (by decide)
    have y1 := Int.emod_nonneg (x * x) (show (2147483587 : Int) ≠ 0 by decide)
    have y2 := Int.emod_lt_of_pos (x * x) (show (0 : Int) < 2147483587 by decide)
    refine r_dec (fun c1 => ?_) (fun c1 => ?_)
    · walk_at "rd"
      exact ⟨by show 2 ≤ sizeLine; decide, fun p hp => k p _ hp (Same.new hp) (pool_mk (by decide) (by omega) (by omega))⟩
    · walk_at "rd"
      exact ⟨by show 2 ≤ sizeLine; decide, fun p hp => k p _ hp (Same.new hp) (pool_mk (by omega) (by omega) (by omega))⟩
  walk_at "rd"
  refine r_lenQ hS ?_
  walk_at "rd"
  refine r_dec (fun c1 => ?_) (fun c1 => ?_)
  · rw [List.length_map] at c1
    walk_at "rd"
    obtain ⟨j, rfl⟩ := Int.eq_ofNat_of_zero_le h0
    have hj : j < ns.length := by omega
    refine r_ixQ (v := .int ns[j]) hS (atI_nat (by simp [hj])) ?_
    exact fin _
  · exact fin _
abbrev s_is_word : Stmt := top 4
abbrev n_is_word : List Str := ["thing", "sign"]
abbrev p_is_word : List Str := ["thing"]
theorem sc_is_word : FnScope n_is_word p_is_word (defScope s_is_word) := ⟨rfl, rfl, rfl, by decide +kernel, rfl, by decide +kernel, by decide +kernel⟩
theorem ok_is_word (T : Txt mg t1 t2 t3) {f : Addr} {fd : FuncData} (F : Fun K "is_word" "is_word" s_is_word f fd) : FnOk P w K mg base CX0 1 f fd p_is_word (spD K wordD) := by
  refine F.ok sc_is_word (fun vs H Q E h => spD_len h) (fun cdv A outer s H vs Q E hr h => ?_)
  obtain ⟨v, d, rfl, hd, ho, k⟩ := h
  refine ⟨_, (pss_cons (ps_if (PW.pt (pw_or (pt_not (pt_val (pe_callB k_isi (by rfl) T.z_isinstance (by decide +kernel) (pa_cons (pv 0) (pa_cons (pe_bltn (v := .ty "str") rfl T.z_str (by decide +kernel) rfl) pa_nil))))) (pw_or1 (pt_not (pt_chain o_le o_le pe_int (pe_callB k_len (by rfl) T.z_len (by decide +kernel) (pa_cons (pv 0) pa_nil)) (pe_glob (v := V.int (8)) rfl T.g_LONGEST_WORD ⟨_, rfl⟩)))))) (pss_one (ps_ret pe_bl)) pss_nil)
      (pss_one (ps_ret (pe_callB (k_all rfl) (by rfl) T.z_all (by decide +kernel) (pa_cons (pe_lc (own := [("sign", 1)]) rfl sc_is_word.nd (pi_str (pv 0)) (blkOk_by (own := [("sign", 1)]) (N := n_is_word) (sc := defScope s_is_word) (by decide +kernel)) (fun _ _ _ _ _ => (pg_name (i := 1) sc_is_word.nd rfl (by first | exact Or.inl rfl | exact Or.inr rfl))) (fun _ _ _ _ _ => pts_nil) (fun _ _ _ _ _ => (pe_chain o_le o_le pe_str (pv 1) pe_str))) pa_nil))))), ?_⟩
  walk_at "rd"
  rcases str_or d with ⟨x, rfl⟩ | hn
  · cases hd
    rw [isStr]
    refine iteF ?_
    have hx : x.length ≤ 100000 := ho
    walk_at "rd"
    refine r_dec (fun c1 => ?_) (fun c1 => ?_)
    · walk_at "rd"
      refine r_decN (fun c2 => ?_) (fun c2 => ?_)
      · walk_at "rd"
        have q := k H (Same.refl H)
        have e : wordD (.str x) = false := by simp [wordD, wordS, c2]
        rw [e] at q
        exact q
      · walk_at "rd"
        refine r_lcStr hx (fun _ => true) (fun v => .bl (lowB (codeV v))) (fun c _ H2 R s2 q => q H2 (Same.refl H2)) (fun c _ _ H2 R s2 q => ?_) (fun Dl H2 hD s2 e => ?_)
        · exact r_between rfl cps_a cps_z (q H2 (Same.refl H2))
        · refine r_all (bs := x.cps.toList.map lowB) (by rw [e, filt_true, List.map_map]; rfl) ?_
          have q := k H2 s2
          have e1 : wordD (.str x) = x.cps.toList.all lowB := by simp [wordD, wordS, c1, c2]
          rw [e1] at q
          rw [all_signs]
          exact q
    · walk_at "rd"
      have q := k H (Same.refl H)
      have e : wordD (.str x) = false := by simp [wordD, wordS, c1]
      rw [e] at q
      exact q
  · rw [isNotStr hn]
    refine iteT ?_
    walk_at "rd"
    have q := k H (Same.refl H)
    rw [wordD_no hn] at q
    exact q
abbrev s_is_value : Stmt := top 5
abbrev n_is_value : List Str := ["thing", "sign"]
abbrev p_is_value : List Str := ["thing"]
theorem sc_is_value : FnScope n_is_value p_is_value (defScope s_is_value) := ⟨rfl, rfl, rfl, by decide +kernel, rfl, by decide +kernel, by decide +kernel⟩
theorem ok_is_value (T : Txt mg t1 t2 t3) {f : Addr} {fd : FuncData} (F : Fun K "is_value" "is_value" s_is_value f fd) : FnOk P w K mg base CX0 1 f fd p_is_value (spD K valueD) := by
  refine F.ok sc_is_value (fun vs H Q E h => spD_len h) (fun cdv A outer s H vs Q E hr h => ?_)
  obtain ⟨v, d, rfl, hd, ho, k⟩ := h
  refine ⟨_, (pss_cons (ps_if (PW.pt (pw_or (pt_not (pt_val (pe_callB k_isi (by rfl) T.z_isinstance (by decide +kernel) (pa_cons (pv 0) (pa_cons (pe_bltn (v := .ty "str") rfl T.z_str (by decide +kernel) rfl) pa_nil))))) (pw_or1 (pt_cmpR o_gt (pe_callB k_len (by rfl) T.z_len (by decide +kernel) (pa_cons (pv 0) pa_nil)) (pe_glob (v := V.int (40)) rfl T.g_LONGEST_VALUE ⟨_, rfl⟩) (nomark _))))) (pss_one (ps_ret pe_bl)) pss_nil)
      (pss_one (ps_ret (pe_callB (k_all rfl) (by rfl) T.z_all (by decide +kernel) (pa_cons (pe_lc (own := [("sign", 1)]) rfl sc_is_value.nd (pi_str (pv 0)) (blkOk_by (own := [("sign", 1)]) (N := n_is_value) (sc := defScope s_is_value) (by decide +kernel)) (fun _ _ _ _ _ => (pg_name (i := 1) sc_is_value.nd rfl (by first | exact Or.inl rfl | exact Or.inr rfl))) (fun _ _ _ _ _ => pts_nil) (fun _ _ _ _ _ => (pe_chain o_le o_le pe_str (pv 1) pe_str))) pa_nil))))), ?_⟩
  walk_at "rd"
  rcases str_or d with ⟨x, rfl⟩ | hn
  · cases hd
    rw [isStr]
    refine iteF ?_
    have hx : x.length ≤ 100000 := ho
    walk_at "rd"
    refine r_dec (fun c1 => ?_) (fun c1 => ?_)
    · walk_at "rd"
      have q := k H (Same.refl H)
      have e : valueD (.str x) = false := by simp [valueD, valueS, c1]
      rw [e] at q
      exact q
    · walk_at "rd"
      refine r_lcStr hx (fun _ => true) (fun v => .bl (shownB (codeV v))) (fun c _ H2 R s2 q => q H2 (Same.refl H2)) (fun c _ _ H2 R s2 q => ?_) (fun Dl H2 hD s2 e => ?_)
      · exact r_between rfl cps_sp cps_til (q H2 (Same.refl H2))
      · refine r_all (bs := x.cps.toList.map shownB) (by rw [e, filt_true, List.map_map]; rfl) ?_
        have q := k H2 s2
        have e1 : valueD (.str x) = x.cps.toList.all shownB := by simp [valueD, valueS, c1]
        rw [e1] at q
        rw [all_signs]
        exact q
  · rw [isNotStr hn]
    refine iteT ?_
    walk_at "rd"
    have q := k H (Same.refl H)
    rw [valueD_no hn] at q
    exact q
abbrev s_is_number : Stmt := top 6
abbrev n_is_number : List Str := ["thing"]
abbrev p_is_number : List Str := ["thing"]
theorem sc_is_number : FnScope n_is_number p_is_number (defScope s_is_number) := ⟨rfl, rfl, rfl, by decide +kernel, rfl, by decide +kernel, by decide +kernel⟩
theorem ok_is_number (T : Txt mg t1 t2 t3) {f : Addr} {fd : FuncData} (F : Fun K "is_number" "is_number" s_is_number f fd) : FnOk P w K mg base CX0 1 f fd p_is_number (spD K numD) := by
  refine F.ok sc_is_number (fun vs H Q E h => spD_len h) (fun cdv A outer s H vs Q E hr h => ?_)
  obtain ⟨v, d, rfl, hd, ho, k⟩ := h
  refine ⟨_, (pss_cons (ps_if (PW.pt (pw_or (pt_not (pt_val (pe_callB k_isi (by rfl) T.z_isinstance (by decide +kernel) (pa_cons (pv 0) (pa_cons (pe_bltn (v := .ty "int") rfl T.z_int (by decide +kernel) rfl) pa_nil))))) (pw_or1 (pt_val (pe_callB k_isi (by rfl) T.z_isinstance (by decide +kernel) (pa_cons (pv 0) (pa_cons (pe_bltn (v := .ty "bool") rfl T.z_bool (by decide +kernel) rfl) pa_nil))))))) (pss_one (ps_ret pe_bl)) pss_nil)
      (pss_one (ps_ret (pe_chain o_le o_le pe_int (pv 0) (pe_glob (v := V.int (1000000000000000)) rfl T.g_GREATEST_NUMBER ⟨_, rfl⟩))))), ?_⟩
  have q := k H (Same.refl H)
  walk_at "rd"
  have hd2 := hd
  rcases isInt_or d with ⟨h1, h2, i, rfl⟩ | ⟨h1, h2, b, rfl⟩ | ⟨h1, h2⟩
  · rw [h1]
    cases hd
    refine iteF ?_
    walk_at "rd"
    rw [h2]
    refine iteF ?_
    walk_at "rd"
    refine r_dec (fun c1 => ?_) (fun c1 => ?_)
    · walk_at "rd"
      simpa [numD, c1] using q
    · simpa [numD, c1] using q
  · rw [h1]
    cases hd
    refine iteF ?_
    walk_at "rd"
    rw [h2]
    refine iteT ?_
    walk_at "rd"
    exact q
  · rw [h1]
    refine iteT ?_
    walk_at "rd"
    rw [h2] at q
    exact q
abbrev s_is_stamp : Stmt := top 7
abbrev n_is_stamp : List Str := ["thing"]
abbrev p_is_stamp : List Str := ["thing"]
theorem sc_is_stamp : FnScope n_is_stamp p_is_stamp (defScope s_is_stamp) := ⟨rfl, rfl, rfl, by decide +kernel, rfl, by decide +kernel, by decide +kernel⟩
theorem ok_is_stamp (T : Txt mg t1 t2 t3) {f : Addr} {fd : FuncData} (F : Fun K "is_stamp" "is_stamp" s_is_stamp f fd) (K_is_number : Cal P w K mg base CX0 1 "is_number" p_is_number (spD K numD)) (K_is_word : Cal P w K mg base CX0 1 "is_word" p_is_word (spD K wordD)) :
    FnOk P w K mg base CX0 2 f fd p_is_stamp (spD K stampD) := by
  refine F.ok sc_is_stamp (fun vs H Q E h => spD_len h) (fun cdv A outer s H vs Q E hr h => ?_)
  obtain ⟨v, d, rfl, hd, ho, k⟩ := h
  have hu := hr.units
  refine ⟨_, (pss_cons (ps_if (PW.pt (pw_or (pt_not (pt_val (pe_callB k_isi (by rfl) T.z_isinstance (by decide +kernel) (pa_cons (pv 0) (pa_cons (pe_bltn (v := .ty "tuple") rfl T.z_tuple (by decide +kernel) rfl) pa_nil))))) (pw_or1 (pt_cmpR (k_ne hu) (pe_callB k_len (by rfl) T.z_len (by decide +kernel) (pa_cons (pv 0) pa_nil)) pe_int (nomark _))))) (pss_one (ps_ret pe_bl)) pss_nil)
      (pss_one (ps_ret (pe_and (pe_cal K_is_number (hr.mono (by decide)) pass0 (pa_cons (pe_ix k_ix (pv 0) pe_int (fun _ _ => rfl)) pa_nil)) (pe_one (pe_cal K_is_word (hr.mono (by decide)) pass0 (pa_cons (pe_ix k_ix (pv 0) pe_int (fun _ _ => rfl)) pa_nil))))))), ?_⟩
  walk_at "rd"
  have q := k H (Same.refl H)
  rcases tup_or hd with ⟨a, xs, ds, rfl, rfl, ha, hds, e⟩ | ⟨e, hn⟩
  · rw [e]
    refine iteF ?_
    walk_at "rd"
    refine r_decN (fun c1 => ?_) (fun c1 => ?_)
    · walk_at "rd"
      rw [stampD_len (fun z => c1 (by rw [hds.length, z]; rfl))] at q
      exact q
    · obtain ⟨v0, v1, d0, d1, rfl, rfl, h0, h1⟩ := all_two hds (by omega)
      obtain ⟨_, o0, o1, _⟩ := ho
      walk_at "rd"
      refine r_spD h0 o0 fun H2 s2 => ?_
      walk_at "rd"
      have ha2 := s2 _ _ ha
      refine r_bool (fun c2 => ?_) (fun c2 => ?_)
      · walk_at "rd"
        refine r_spD (h1.same' s2) o1 fun H3 s3 => ?_
        have q := k H3 (s2.trans s3)
        simpa [stampD, c2] using q
      · have q := k H2 s2
        simpa [stampD, c2] using q
  · rw [e]
    refine iteT ?_
    walk_at "rd"
    rw [stampD_no hn] at q
    exact q
abbrev s_is_entry : Stmt := top 8
abbrev n_is_entry : List Str := ["thing", "key", "stamp", "value"]
abbrev p_is_entry : List Str := ["thing"]
theorem sc_is_entry : FnScope n_is_entry p_is_entry (defScope s_is_entry) := ⟨rfl, rfl, rfl, by decide +kernel, rfl, by decide +kernel, by decide +kernel⟩
theorem ok_is_entry (T : Txt mg t1 t2 t3) {f : Addr} {fd : FuncData} (F : Fun K "is_entry" "is_entry" s_is_entry f fd) (K_is_word : Cal P w K mg base CX0 2 "is_word" p_is_word (spD K wordD)) (K_is_stamp : Cal P w K mg base CX0 2 "is_stamp" p_is_stamp (spD K stampD))
    (K_is_value : Cal P w K mg base CX0 2 "is_value" p_is_value (spD K valueD)) : FnOk P w K mg base CX0 3 f fd p_is_entry (spD K entryD) := by
  refine F.ok sc_is_entry (fun vs H Q E h => spD_len h) (fun cdv A outer s H vs Q E hr h => ?_)
  obtain ⟨v, d, rfl, hd, ho, k⟩ := h
  have hu := hr.units
  refine ⟨_, (pss_cons (ps_if (PW.pt (pw_or (pt_not (pt_val (pe_callB k_isi (by rfl) T.z_isinstance (by decide +kernel) (pa_cons (pv 0) (pa_cons (pe_bltn (v := .ty "tuple") rfl T.z_tuple (by decide +kernel) rfl) pa_nil))))) (pw_or1 (pt_cmpR (k_ne hu) (pe_callB k_len (by rfl) T.z_len (by decide +kernel) (pa_cons (pv 0) pa_nil)) pe_int (nomark _))))) (pss_one (ps_ret pe_bl)) pss_nil)
      (pss_cons (ps_asg (pv 0) (k_gtup rfl (pgs_cons (pg_name (i := 1) sc_is_entry.nd rfl (by first | exact Or.inl rfl | exact Or.inr rfl)) (pgs_cons (pg_name (i := 2) sc_is_entry.nd rfl (by first | exact Or.inl rfl | exact Or.inr rfl)) (pgs_cons (pg_name (i := 3) sc_is_entry.nd rfl (by first | exact Or.inl rfl | exact Or.inr rfl)) pgs_nil)))))
      (pss_one (ps_ret (pe_and (pe_cal K_is_word (hr.mono (by decide)) pass0 (pa_cons (pv 1) pa_nil)) (pe_and (pe_cal K_is_stamp (hr.mono (by decide)) pass0 (pa_cons (pv 2) pa_nil)) (pe_one (pe_or (pe_cmpR o_isN (pv 3) pe_non (nomark _)) (pe_one (pe_cal K_is_value (hr.mono (by decide)) pass0 (pa_cons (pv 3) pa_nil))))))))))), ?_⟩
  walk_at "rd"
  have q := k H (Same.refl H)
  rcases tup_or hd with ⟨a, xs, ds, rfl, rfl, ha, hds, e⟩ | ⟨e, hn⟩
  · rw [e]
    refine iteF ?_
    walk_at "rd"
    refine r_decN (fun c1 => ?_) (fun c1 => ?_)
    · walk_at "rd"
      rw [entryD_len (fun z => c1 (by rw [hds.length, z]; rfl))] at q
      exact q
    · obtain ⟨v0, v1, v2, d0, d1, d2, rfl, rfl, h0, h1, h2⟩ := all_three hds (by omega)
      obtain ⟨_, o0, o1, o2, _⟩ := ho
      walk_at "rd"
      refine r_spD h0 o0 fun H2 s2 => ?_
      walk_at "rd"
      refine r_bool (fun c2 => ?_) (fun c2 => ?_)
      · walk_at "rd"
        refine r_spD (h1.same' s2) o1 fun H3 s3 => ?_
        walk_at "rd"
        refine r_bool (fun c3 => ?_) (fun c3 => ?_)
        · walk_at "rd"
          rw [noneD_iff h2]
          refine r_bool (fun c4 => ?_) (fun c4 => ?_)
          · have q := k H3 (s2.trans s3)
            simpa [entryD, c2, c3, c4] using q
          · walk_at "rd"
            refine r_spD (h2.same' (s2.trans s3)) o2 fun H4 s4 => ?_
            have q := k H4 ((s2.trans s3).trans s4)
            simpa [entryD, c2, c3, c4] using q
        · have q := k H3 (s2.trans s3)
          simpa [entryD, c2, c3] using q
      · have q := k H2 s2
        simpa [entryD, c2] using q
  · rw [e]
    refine iteT ?_
    walk_at "rd"
    rw [entryD_no hn] at q
    exact q
abbrev s_L_is_word : Stmt := top 14
abbrev n_L_is_word : List Str := ["_law_thing", "_law_sign"]
abbrev p_L_is_word : List Str := ["_law_thing"]
theorem sc_L_is_word : FnScope n_L_is_word p_L_is_word (defScope s_L_is_word) := ⟨rfl, rfl, rfl, by decide +kernel, rfl, by decide +kernel, by decide +kernel⟩
theorem ok_L_is_word (T : Txt mg t1 t2 t3) {f : Addr} {fd : FuncData} (F : Fun K "_law_is_word" "_law_is_word" s_L_is_word f fd) : FnOk P w K mg base CX0 1 f fd p_L_is_word (spD K wordD) := by
  refine F.ok sc_L_is_word (fun vs H Q E h => spD_len h) (fun cdv A outer s H vs Q E hr h => ?_)
  obtain ⟨v, d, rfl, hd, ho, k⟩ := h
  have hu := hr.units
  refine ⟨_, (pss_cons (ps_if (pt_not (pt_val (pe_callB k_isi (by rfl) T.z_isinstance (by decide +kernel) (pa_cons (pv 0) (pa_cons (pe_bltn (v := .ty "str") rfl T.z_str (by decide +kernel) rfl) pa_nil))))) (pss_one (ps_ret pe_bl)) pss_nil)
      (pss_one (ps_ret (pe_and (pe_chain o_lt o_lt pe_int (pe_callB k_len (by rfl) T.z_len (by decide +kernel) (pa_cons (pv 0) pa_nil)) pe_int) (pe_one (pe_cmpR (k_eq hu) (pe_lc (own := [("_law_sign", 1)]) rfl sc_L_is_word.nd (pi_str (pv 0)) (blkOk_by (own := [("_law_sign", 1)]) (N := n_L_is_word) (sc := defScope s_L_is_word) (by decide +kernel)) (fun _ _ _ _ _ => (pg_name (i := 1) sc_L_is_word.nd rfl (by first | exact Or.inl rfl | exact Or.inr rfl))) (fun _ _ _ _ _ => (pts_one (pt_not (pt_chain o_le o_le pe_str (pv 1) pe_str)))) (fun _ _ _ _ _ => (pv 1))) (pe_lst pa_nil) (nomark _))))))), ?_⟩
  walk_at "rd"
  rcases str_or d with ⟨x, rfl⟩ | hn
  · cases hd
    rw [isStr]
    refine iteF ?_
    have hx : x.length ≤ 100000 := ho
    have q := k H (Same.refl H)
    walk_at "rd"
    refine r_dec (fun c1 => ?_) (fun c1 => ?_)
    · walk_at "rd"
      refine r_dec (fun c2 => ?_) (fun c2 => ?_)
      · walk_at "rd"
        refine r_lcStr hx (fun c => !lowB c) (fun v => v) (fun c _ H2 R s2 q => ?_) (fun c _ _ H2 R s2 q => ⟨_, rfl, q H2 (Same.refl H2)⟩) (fun Dl H2 hD s2 e => ?_)
        · exact r_not (r_test (r_between rfl cps_a cps_z ⟨_, rfl, q H2 (Same.refl H2)⟩))
        · walk_at "rd"
          refine ⟨by show 0 ≤ sizeLine; decide, fun p hp => ?_⟩
          refine r_eqNil (by rw [upd_ne (ne_of_none e hp)]; exact e) upd_same ?_
          rw [isEmpty_filter]
          have q := k (upd H2 p (.lst [])) (s2.trans (Same.new hp))
          have e1 : wordD (.str x) = x.cps.toList.all lowB := by
            have c3 : (1 : Int) ≤ x.length := by omega
            have c4 : (x.length : Int) ≤ 8 := by omega
            simp [wordD, wordS, c3, c4]
          rw [e1] at q
          exact q
      · have e1 : wordD (.str x) = false := by
          have c4 : ¬ (x.length : Int) ≤ 8 := by omega
          simp [wordD, wordS, c4]
        rw [e1] at q
        exact q
    · have e1 : wordD (.str x) = false := by
        have c3 : ¬ (1 : Int) ≤ x.length := by omega
        simp [wordD, wordS, c3]
      rw [e1] at q
      walk_at "rd"
      exact q
  · rw [isNotStr hn]
    refine iteT ?_
    walk_at "rd"
    have q := k H (Same.refl H)
    rw [wordD_no hn] at q
    exact q
abbrev s_L_is_value : Stmt := top 15
abbrev n_L_is_value : List Str := ["_law_thing", "_law_sign"]
abbrev p_L_is_value : List Str := ["_law_thing"]
theorem sc_L_is_value : FnScope n_L_is_value p_L_is_value (defScope s_L_is_value) := ⟨rfl, rfl, rfl, by decide +kernel, rfl, by decide +kernel, by decide +kernel⟩
theorem ok_L_is_value (T : Txt mg t1 t2 t3) {f : Addr} {fd : FuncData} (F : Fun K "_law_is_value" "_law_is_value" s_L_is_value f fd) : FnOk P w K mg base CX0 1 f fd p_L_is_value (spD K valueD) := by
  refine F.ok sc_L_is_value (fun vs H Q E h => spD_len h) (fun cdv A outer s H vs Q E hr h => ?_)
  obtain ⟨v, d, rfl, hd, ho, k⟩ := h
  have hu := hr.units
  refine ⟨_, (pss_one (ps_ret (pe_and (pe_callB k_isi (by rfl) T.z_isinstance (by decide +kernel) (pa_cons (pv 0) (pa_cons (pe_bltn (v := .ty "str") rfl T.z_str (by decide +kernel) rfl) pa_nil))) (pe_and (pe_cmpR o_lt (pe_callB k_len (by rfl) T.z_len (by decide +kernel) (pa_cons (pv 0) pa_nil)) pe_int (nomark _)) (pe_one (pe_cmpR (k_eq hu) (pe_lc (own := [("_law_sign", 1)]) rfl sc_L_is_value.nd (pi_str (pv 0)) (blkOk_by (own := [("_law_sign", 1)]) (N := n_L_is_value) (sc := defScope s_L_is_value) (by decide +kernel)) (fun _ _ _ _ _ => (pg_name (i := 1) sc_L_is_value.nd rfl (by first | exact Or.inl rfl | exact Or.inr rfl))) (fun _ _ _ _ _ => (pts_one (pt_not (pt_chain o_le o_le pe_str (pv 1) pe_str)))) (fun _ _ _ _ _ => (pv 1))) (pe_lst pa_nil) (nomark _))))))), ?_⟩
  walk_at "rd"
  have q := k H (Same.refl H)
  rcases str_or d with ⟨x, rfl⟩ | hn
  · cases hd
    rw [isStr]
    refine iteT ?_
    have hx : x.length ≤ 100000 := ho
    walk_at "rd"
    refine r_dec (fun c1 => ?_) (fun c1 => ?_)
    · walk_at "rd"
      refine r_lcStr hx (fun c => !shownB c) (fun v => v) (fun c _ H2 R s2 q => ?_) (fun c _ _ H2 R s2 q => ⟨_, rfl, q H2 (Same.refl H2)⟩) (fun Dl H2 hD s2 e => ?_)
      · exact r_not (r_test (r_between rfl cps_sp cps_til ⟨_, rfl, q H2 (Same.refl H2)⟩))
      · walk_at "rd"
        refine ⟨by show 0 ≤ sizeLine; decide, fun p hp => ?_⟩
        refine r_eqNil (by rw [upd_ne (ne_of_none e hp)]; exact e) upd_same ?_
        rw [isEmpty_filter]
        have q := k (upd H2 p (.lst [])) (s2.trans (Same.new hp))
        have e1 : valueD (.str x) = x.cps.toList.all shownB := by
          have c3 : ¬ (40 : Int) < x.length := by omega
          simp [valueD, valueS, c3]
        rw [e1] at q
        exact q
    · have e1 : valueD (.str x) = false := by
        have c3 : (40 : Int) < x.length := by omega
        simp [valueD, valueS, c3]
      rw [e1] at q
      exact q
  · rw [isNotStr hn]
    refine iteF ?_
    rw [valueD_no hn] at q
    exact q
abbrev s_L_is_stamp : Stmt := top 16
abbrev n_L_is_stamp : List Str := ["_law_thing"]
abbrev p_L_is_stamp : List Str := ["_law_thing"]
theorem sc_L_is_stamp : FnScope n_L_is_stamp p_L_is_stamp (defScope s_L_is_stamp) := ⟨rfl, rfl, rfl, by decide +kernel, rfl, by decide +kernel, by decide +kernel⟩
theorem ok_L_is_stamp (T : Txt mg t1 t2 t3) {f : Addr} {fd : FuncData} (F : Fun K "_law_is_stamp" "_law_is_stamp" s_L_is_stamp f fd) (K_L_is_word : Cal P w K mg base CX0 1 "_law_is_word" p_L_is_word (spD K wordD)) :
    FnOk P w K mg base CX0 2 f fd p_L_is_stamp (spD K stampD) := by
  refine F.ok sc_L_is_stamp (fun vs H Q E h => spD_len h) (fun cdv A outer s H vs Q E hr h => ?_)
  obtain ⟨v, d, rfl, hd, ho, k⟩ := h
  have hu := hr.units
  refine ⟨_, (pss_cons (ps_if (PW.pt (pw_or (pt_not (pt_val (pe_callB k_isi (by rfl) T.z_isinstance (by decide +kernel) (pa_cons (pv 0) (pa_cons (pe_bltn (v := .ty "tuple") rfl T.z_tuple (by decide +kernel) rfl) pa_nil))))) (pw_or (pt_cmpR (k_ne hu) (pe_callB k_len (by rfl) T.z_len (by decide +kernel) (pa_cons (pv 0) pa_nil)) pe_int (nomark _)) (pw_or1 (pt_not (pt_val (pe_cal K_L_is_word (hr.mono (by decide)) pass0 (pa_cons (pe_ix k_ix (pv 0) pe_int (fun _ _ => rfl)) pa_nil)))))))) (pss_one (ps_ret pe_bl)) pss_nil)
      (pss_one (ps_ret (pe_and (pe_callB k_isi (by rfl) T.z_isinstance (by decide +kernel) (pa_cons (pe_ix k_ix (pv 0) pe_int (fun _ _ => rfl)) (pa_cons (pe_bltn (v := .ty "int") rfl T.z_int (by decide +kernel) rfl) pa_nil))) (pe_and (pe_not (pe_callB k_isi (by rfl) T.z_isinstance (by decide +kernel) (pa_cons (pe_ix k_ix (pv 0) pe_int (fun _ _ => rfl)) (pa_cons (pe_bltn (v := .ty "bool") rfl T.z_bool (by decide +kernel) rfl) pa_nil)))) (pe_one (pe_chain o_lt o_lt pe_int (pe_ix k_ix (pv 0) pe_int (fun _ _ => rfl)) (pe_op k_add (pe_op op_pow pe_int pe_int) pe_int)))))))), ?_⟩
  walk_at "rd"
  have q := k H (Same.refl H)
  rcases tup_or hd with ⟨a, xs, ds, rfl, rfl, ha, hds, e⟩ | ⟨e, hn⟩
  · rw [e]
    refine iteF ?_
    walk_at "rd"
    refine r_decN (fun c1 => ?_) (fun c1 => ?_)
    · walk_at "rd"
      rw [stampD_len (fun z => c1 (by rw [hds.length, z]; rfl))] at q
      exact q
    · obtain ⟨v0, v1, d0, d1, rfl, rfl, h0, h1⟩ := all_two hds (by omega)
      obtain ⟨_, o0, o1, _⟩ := ho
      walk_at "rd"
      refine r_spD h1 o1 fun H2 s2 => ?_
      have ha2 := s2 _ _ ha
      have h02 := h0.same' s2
      have q := k H2 s2
      walk_at "rd"
      refine r_boolN (fun c2 => ?_) (fun c2 => ?_)
      · walk_at "rd"
        simpa [stampD, c2] using q
      · walk_at "rd"
        have h03 := h02
        rcases isInt_or d0 with ⟨g1, g2, i, rfl⟩ | ⟨g1, g2, b, rfl⟩ | ⟨g1, g2⟩
        · rw [g1]
          refine iteT ?_
          walk_at "rd"
          rw [g2]
          refine iteT ?_
          cases h02
          walk_at "rd"
          refine r_dec (fun c3 => ?_) (fun c3 => ?_)
          · walk_at "rd"
            have c4 : (1 : Int) ≤ i := by omega
            have c5 : decide (i < 1000000000000000 + 1) = decide (i ≤ 1000000000000000) := by
              by_cases z : i ≤ 1000000000000000
              · rw [decide_eq_true z, decide_eq_true (by omega)]
              · rw [decide_eq_false z, decide_eq_false (by omega)]
            rw [c5]
            simpa [stampD, numD, c2, c4] using q
          · walk_at "rd"
            have c4 : ¬ (1 : Int) ≤ i := by omega
            simpa [stampD, numD, c2, c4] using q
        · rw [g1]
          refine iteT ?_
          walk_at "rd"
          rw [g2]
          refine iteF ?_
          simpa [stampD, numD, c2] using q
        · rw [g1]
          refine iteF ?_
          simpa [stampD, g2] using q
  · rw [e]
    refine iteT ?_
    walk_at "rd"
    rw [stampD_no hn] at q
    exact q
abbrev s_L_is_entry : Stmt := top 17
abbrev n_L_is_entry : List Str := ["_law_thing"]
abbrev p_L_is_entry : List Str := ["_law_thing"]
theorem sc_L_is_entry : FnScope n_L_is_entry p_L_is_entry (defScope s_L_is_entry) := ⟨rfl, rfl, rfl, by decide +kernel, rfl, by decide +kernel, by decide +kernel⟩
theorem ok_L_is_entry (T : Txt mg t1 t2 t3) {f : Addr} {fd : FuncData} (F : Fun K "_law_is_entry" "_law_is_entry" s_L_is_entry f fd) (K_L_is_word : Cal P w K mg base CX0 2 "_law_is_word" p_L_is_word (spD K wordD)) (K_L_is_stamp : Cal P w K mg base CX0 2 "_law_is_stamp" p_L_is_stamp (spD K stampD))
    (K_L_is_value : Cal P w K mg base CX0 2 "_law_is_value" p_L_is_value (spD K valueD)) : FnOk P w K mg base CX0 3 f fd p_L_is_entry (spD K entryD) := by
  refine F.ok sc_L_is_entry (fun vs H Q E h => spD_len h) (fun cdv A outer s H vs Q E hr h => ?_)
  obtain ⟨v, d, rfl, hd, ho, k⟩ := h
  have hu := hr.units
  refine ⟨_, (pss_cons (ps_if (PW.pt (pw_or (pt_not (pt_val (pe_callB k_isi (by rfl) T.z_isinstance (by decide +kernel) (pa_cons (pv 0) (pa_cons (pe_bltn (v := .ty "tuple") rfl T.z_tuple (by decide +kernel) rfl) pa_nil))))) (pw_or (pt_cmpR (k_ne hu) (pe_callB k_len (by rfl) T.z_len (by decide +kernel) (pa_cons (pv 0) pa_nil)) pe_int (nomark _)) (pw_or (pt_not (pt_val (pe_cal K_L_is_word (hr.mono (by decide)) pass0 (pa_cons (pe_ix k_ix (pv 0) pe_int (fun _ _ => rfl)) pa_nil)))) (pw_or1 (pt_not (pt_val (pe_cal K_L_is_stamp (hr.mono (by decide)) pass0 (pa_cons (pe_ix k_ix (pv 0) pe_int (fun _ _ => rfl)) pa_nil))))))))) (pss_one (ps_ret pe_bl)) pss_nil)
      (pss_one (ps_ret (pe_or (pe_cmpR o_isN (pe_ix k_ix (pv 0) pe_int (fun _ _ => rfl)) pe_non (nomark _)) (pe_one (pe_cal K_L_is_value (hr.mono (by decide)) pass0 (pa_cons (pe_ix k_ix (pv 0) pe_int (fun _ _ => rfl)) pa_nil))))))), ?_⟩
  walk_at "rd"
  have q := k H (Same.refl H)
  rcases tup_or hd with ⟨a, xs, ds, rfl, rfl, ha, hds, e⟩ | ⟨e, hn⟩
  · rw [e]
    refine iteF ?_
    walk_at "rd"
    refine r_decN (fun c1 => ?_) (fun c1 => ?_)
    · walk_at "rd"
      rw [entryD_len (fun z => c1 (by rw [hds.length, z]; rfl))] at q
      exact q
    · obtain ⟨v0, v1, v2, d0, d1, d2, rfl, rfl, h0, h1, h2⟩ := all_three hds (by omega)
      obtain ⟨_, o0, o1, o2, _⟩ := ho
      walk_at "rd"
      refine r_spD h0 o0 fun H2 s2 => ?_
      have ha2 := s2 _ _ ha
      walk_at "rd"
      refine r_boolN (fun c2 => ?_) (fun c2 => ?_)
      · walk_at "rd"
        have q := k H2 s2
        simpa [entryD, c2] using q
      · walk_at "rd"
        refine r_spD (h1.same' s2) o1 fun H3 s3 => ?_
        have ha3 := s3 _ _ ha2
        walk_at "rd"
        refine r_boolN (fun c3 => ?_) (fun c3 => ?_)
        · walk_at "rd"
          have q := k H3 (s2.trans s3)
          simpa [entryD, c2, c3] using q
        · walk_at "rd"
          rw [noneD_iff h2]
          refine r_bool (fun c4 => ?_) (fun c4 => ?_)
          · have q := k H3 (s2.trans s3)
            simpa [entryD, c2, c3, c4] using q
          · walk_at "rd"
            refine r_spD (h2.same' (s2.trans s3)) o2 fun H4 s4 => ?_
            have q := k H4 ((s2.trans s3).trans s4)
            simpa [entryD, c2, c3, c4] using q
  · rw [e]
    refine iteT ?_
    walk_at "rd"
    rw [entryD_no hn] at q
    exact q
abbrev s_L_right : Stmt := top 18
abbrev n_L_right : List Str := ["_law_thing"]
abbrev p_L_right : List Str := ["_law_thing"]
theorem sc_L_right : FnScope n_L_right p_L_right (defScope s_L_right) := ⟨rfl, rfl, rfl, by decide +kernel, rfl, by decide +kernel, by decide +kernel⟩
theorem ok_L_right (T : Txt mg t1 t2 t3) {f : Addr} {fd : FuncData} (F : Fun K "_law_right" "_law_right" s_L_right f fd) (K_is_word : Cal P w K mg base CX0 3 "is_word" p_is_word (spD K wordD)) (K_L_is_word : Cal P w K mg base CX0 3 "_law_is_word" p_L_is_word (spD K wordD))
    (K_is_value : Cal P w K mg base CX0 3 "is_value" p_is_value (spD K valueD)) (K_L_is_value : Cal P w K mg base CX0 3 "_law_is_value" p_L_is_value (spD K valueD))
    (K_is_stamp : Cal P w K mg base CX0 3 "is_stamp" p_is_stamp (spD K stampD)) (K_L_is_stamp : Cal P w K mg base CX0 3 "_law_is_stamp" p_L_is_stamp (spD K stampD))
    (K_is_entry : Cal P w K mg base CX0 3 "is_entry" p_is_entry (spD K entryD)) (K_L_is_entry : Cal P w K mg base CX0 3 "_law_is_entry" p_L_is_entry (spD K entryD)) : FnOk P w K mg base CX0 4 f fd p_L_right (spD K fun _ => true) := by
  refine F.ok sc_L_right (fun vs H Q E h => spD_len h) (fun cdv A outer s H vs Q E hr h => ?_)
  obtain ⟨v, d, rfl, hd, ho, k⟩ := h
  have hu := hr.units
  refine ⟨_, (pss_cons (ps_if (PW.pt (pw_or (pt_cmpR (k_ne hu) (pe_callB c_repr (by rfl) T.z_repr (by decide +kernel) (pa_cons (pe_cal K_is_word (hr.mono (by decide)) pass0 (pa_cons (pv 0) pa_nil)) pa_nil)) (pe_callB c_repr (by rfl) T.z_repr (by decide +kernel) (pa_cons (pe_cal K_L_is_word (hr.mono (by decide)) pass0 (pa_cons (pv 0) pa_nil)) pa_nil)) (nomark _)) (pw_or1 (pt_cmpR (k_ne hu) (pe_callB c_repr (by rfl) T.z_repr (by decide +kernel) (pa_cons (pe_cal K_is_value (hr.mono (by decide)) pass0 (pa_cons (pv 0) pa_nil)) pa_nil)) (pe_callB c_repr (by rfl) T.z_repr (by decide +kernel) (pa_cons (pe_cal K_L_is_value (hr.mono (by decide)) pass0 (pa_cons (pv 0) pa_nil)) pa_nil)) (nomark _))))) (pss_one (ps_ret pe_bl)) pss_nil)
      (pss_one (ps_ret (pe_and (pe_cmpR (k_eq hu) (pe_callB c_repr (by rfl) T.z_repr (by decide +kernel) (pa_cons (pe_cal K_is_stamp (hr.mono (by decide)) pass0 (pa_cons (pv 0) pa_nil)) pa_nil)) (pe_callB c_repr (by rfl) T.z_repr (by decide +kernel) (pa_cons (pe_cal K_L_is_stamp (hr.mono (by decide)) pass0 (pa_cons (pv 0) pa_nil)) pa_nil)) (nomark _)) (pe_one (pe_cmpR (k_eq hu) (pe_callB c_repr (by rfl) T.z_repr (by decide +kernel) (pa_cons (pe_cal K_is_entry (hr.mono (by decide)) pass0 (pa_cons (pv 0) pa_nil)) pa_nil)) (pe_callB c_repr (by rfl) T.z_repr (by decide +kernel) (pa_cons (pe_cal K_L_is_entry (hr.mono (by decide)) pass0 (pa_cons (pv 0) pa_nil)) pa_nil)) (nomark _))))))), ?_⟩
  walk_at "rd"
  refine r_spD hd ho fun H1 s1 => ?_
  walk_at "rd"
  refine r_spD (hd.same' s1) ho fun H2 s2 => ?_
  walk_at "rd"
  refine r_decN (fun c => absurd rfl c) (fun _ => ?_)
  walk_at "rd"
  have z2 := s1.trans s2
  refine r_spD (hd.same' z2) ho fun H3 s3 => ?_
  walk_at "rd"
  have z3 := z2.trans s3
  refine r_spD (hd.same' z3) ho fun H4 s4 => ?_
  walk_at "rd"
  refine r_decN (fun c => absurd rfl c) (fun _ => ?_)
  walk_at "rd"
  have z4 := z3.trans s4
  refine r_spD (hd.same' z4) ho fun H5 s5 => ?_
  walk_at "rd"
  have z5 := z4.trans s5
  refine r_spD (hd.same' z5) ho fun H6 s6 => ?_
  walk_at "rd"
  refine r_dec (fun _ => ?_) (fun c => absurd rfl c)
  walk_at "rd"
  have z6 := z5.trans s6
  refine r_spD (hd.same' z6) ho fun H7 s7 => ?_
  walk_at "rd"
  have z7 := z6.trans s7
  refine r_spD (hd.same' z7) ho fun H8 s8 => ?_
  walk_at "rd"
  rw [decide_eq_true rfl]
  exact k H8 (z7.trans s8)
end
end K01

set_option Elab.async false
set_option linter.all false
set_option maxRecDepth 100000
set_option maxHeartbeats 4000000
namespace K01
open PySem PySem.Spec PyProof.Rows L2 Tk
local macro_rules | `(tactic| walk_at "rd1") => `(tactic| first
  | with_reducible refine r_seq ?_
  | ((with_reducible refine r_var (v := ?vv) ?hrv ?_); (case hrv => rfl))
  | with_reducible refine r_c ?_
  | with_reducible refine r_op ?_
  | ((with_reducible refine r_ixL (xs := ?xx) (v := ?vv) ?hh ?he ?_); (case hh => first | assumption | exact upd_same); (case he => rfl))
  | with_reducible refine r_asg ?_
  | with_reducible refine r_sub ?_
  | ((with_reducible refine r_gTup (xs := ?xx) ?hh ?he ?_); (case hh => assumption); (case he => rfl))
  | with_reducible refine r_gCons ?_
  | with_reducible refine r_gNil ?_
  | ((with_reducible refine r_setL (xs := ?xx) (j := ?vv) ?hh ?he ?_); (case hh => first | assumption | exact upd_same); (case he => rfl))
  | with_reducible refine r_pow15 ?_
  | with_reducible refine r_pow18 ?_
  | with_reducible refine r_repr ?_
  | with_reducible refine iteT ?_
  | with_reducible refine iteF ?_
  | with_reducible refine r_cons ?_
  | with_reducible refine r_nil ?_
  | with_reducible refine r_call ?_
  | with_reducible refine r_cb ?_
  | with_reducible refine r_ret ?_
  | with_reducible refine r_gName ?_
  | with_reducible refine r_next ?_
  | with_reducible refine r_ifS ?_
  | with_reducible refine r_un ?_
  | with_reducible refine r_U ?_
  | with_reducible refine r_max2 ?_
  | with_reducible refine r_min2 ?_
  | with_reducible refine r_sl ?_
  | with_reducible refine r_noPart ?_
  | with_reducible refine r_part ?_
  | with_reducible refine r_inti ?_
  | with_reducible refine r_lc ?_
  | with_reducible refine r_for ?_
  | with_reducible refine r_rng1 ?_
  | with_reducible refine r_iList ?_
  | with_reducible refine r_iTup ?_
  | with_reducible refine r_iStr ?_
  | with_reducible refine r_strx ?_
  | ((with_reducible refine r_j ?hh ?hi ?_); (case hh => omega); (case hi => omega))
  | with_reducible refine r_m1 ?_
  | with_reducible refine r_test ?_
  | with_reducible refine r_B ?_
  | with_reducible refine r_not ?_
  | with_reducible refine r_and ?_
  | with_reducible refine r_or ?_
  | with_reducible refine r_andV ?_
  | with_reducible refine r_orV ?_
  | with_reducible refine r_notV ?_
  | with_reducible refine r_if ?_
  | with_reducible refine r_chain ?_
  | with_reducible refine r_lst ?_
  | with_reducible refine r_tup ?_
  | with_reducible refine r_k ?_
  | ((with_reducible refine r_isiS (d := ?dd) ?hh ?_); (case hh => assumption))
  | ((with_reducible refine r_isiT (d := ?dd) ?hh ?_); (case hh => assumption))
  | ((with_reducible refine r_isiI (d := ?dd) ?hh ?_); (case hh => assumption))
  | ((with_reducible refine r_isiB (d := ?dd) ?hh ?_); (case hh => assumption))
  | ((with_reducible refine r_lenS ?hh ?_); (case hh => assumption))
  | ((with_reducible refine r_lenT (xs := ?dd) ?hh ?_); (case hh => assumption))
  | ((with_reducible refine r_ixT (xs := ?xx) (v := ?vv) ?hh ?he ?_); (case hh => assumption); (case he => rfl))
  | with_reducible refine r_isN ?_
  | with_reducible refine r_I0 ?_
  | with_reducible refine g_addI ?_
  | ((with_reducible refine r_mod ?hh ?_); (case hh => first | decide | omega))
  | ((with_reducible refine r_div ?hh ?hi ?_); (case hh => first | decide | omega); (case hi => first | decide | omega))
  | ((with_reducible refine g_mulB ?hh ?hi ?_); (case hh => omega); (case hi => omega))
  | with_reducible refine g_ltI ?_
  | with_reducible refine g_leI ?_
  | with_reducible refine g_gtI ?_
  | with_reducible refine g_geI ?_
  | with_reducible refine g_eqI ?_
  | with_reducible refine g_neI ?_
  | with_reducible refine g_eqS ?_
  | with_reducible refine g_neS ?_
  | with_reducible refine g_leS ?_
  | with_reducible refine g_ltS ?_)
local macro_rules | `(tactic| walk_at "rd") => `(tactic| repeat (walk_at "rd1"))
local macro_rules | `(tactic| walk_at "ed") => `(tactic| repeat first
  | exact ed_int
  | exact ed_str
  | exact ed_bl
  | exact ed_non
  | exact ed_nil
  | exact ed_dct
  | exact ed_neg
  | with_reducible apply ed_cons
  | with_reducible apply ed_tup
  | with_reducible apply ed_lst
  | exact Nat.le_of_ble_eq_true rfl)

section
variable {t1 t2 t3 : Tok} {P : Program} {w : World} {K : PySem.W.Frag} {mg : Str → Option Value} {base : Heap}
abbrev s_L_word : Stmt := top 12
abbrev n_L_word : List Str := ["_law_pool_here", "_law_turn"]
abbrev p_L_word : List Str := ["_law_pool_here"]
theorem sc_L_word : FnScope n_L_word p_L_word (defScope s_L_word) := ⟨rfl, rfl, rfl, by decide +kernel, rfl, by decide +kernel, by decide +kernel⟩
theorem ok_L_word (T : Txt mg t1 t2 t3) {f : Addr} {fd : FuncData} (F : Fun K "_law_word" "_law_word" s_L_word f fd) (K_L_take : Cal P w K mg base CX0 1 "_law_take" p_L_take spTake) : FnOk P w K mg base CX0 2 f fd p_L_word (spDraw (TextV 100)) := by
  refine F.ok sc_L_word (fun vs H Q E h => spDraw_len h) (fun cdv A outer s H vs Q E hr h => ?_)
  obtain ⟨p, rfl, hp, k⟩ := h
  have hu := hr.units
  refine ⟨_, (pss_one (ps_ret (k_joinK pe_str (pe_lc (own := [("_law_turn", 1)]) rfl sc_L_word.nd (pi_range1 rfl T.z_range (pa_cons (pe_cal K_L_take (hr.mono (by decide)) pass0 (pa_cons (pv 0) (pa_cons pe_int pa_nil))) pa_nil)) (blkOk_by (own := [("_law_turn", 1)]) (N := n_L_word) (sc := defScope s_L_word) (by decide +kernel)) (fun _ _ _ _ _ => (pg_name (i := 1) sc_L_word.nd rfl (by first | exact Or.inl rfl | exact Or.inr rfl))) (fun _ _ _ _ _ => pts_nil) (fun _ _ _ _ _ => (pe_ix k_ix (pe_lst (pa_cons pe_str (pa_cons pe_str (pa_cons pe_str (pa_cons pe_str (pa_cons pe_str (pa_cons pe_str (pa_cons pe_str (pa_cons pe_str pa_nil))))))))) (pe_cal K_L_take (hr.mono (by decide)) pass0 (pa_cons (pv 0) (pa_cons (pe_ix k_ix (pe_lst (pa_cons pe_int (pa_cons pe_int pa_nil))) (pe_op o_fdiv (pv 1) pe_int) (fun _ _ => rfl)) pa_nil))) (fun _ _ => rfl))))))), ?_⟩
  walk_at "rd"
  refine ⟨⟨_, rfl⟩, ?_⟩
  walk_at "rd"
  refine r_take hp (by decide) (by decide) fun r H1 r0 r1 d1 => ?_
  walk_at "rd"
  refine lc_drawn (n := r.toNat) d1.pool (by omega) (TextV 1) (fun i H2 R hi p2 d2 q => ?_) (fun D H2 ys hD d2 hl hy e => ?_)
  · walk_at "rd"
    refine a_lst (by decide) fun L H3 hL sL eL => ?_
    have nL := p2.ne' hL
    walk_at "rd"
    refine a_lst (by decide) fun L2 H4 hL2 sL2 eL2 => ?_
    walk_at "rd"
    obtain ⟨m, hm, mm⟩ := at_drawn (xs := [V.int 3, V.int 8]) (r := (0 + (i : Int)) / 7) (by omega) (by show _ < ((2 : Nat) : Int); omega)
    refine r_ixL eL2 hm ?_
    obtain ⟨m', rfl, m0, m8⟩ : ∃ m' : Int, m = .int m' ∧ 0 < m' ∧ m' ≤ 8 := by
      rcases List.mem_cons.mp mm with e | e
      · exact ⟨3, e, by decide, by decide⟩
      · exact ⟨8, List.mem_singleton.mp e, by decide, by decide⟩
    have p4 := (p2.same sL).same sL2
    walk_at "rd"
    refine r_take p4 m0 (by omega) fun r' H5 r0' r1' d5 => ?_
    obtain ⟨v, hv, mv⟩ := at_drawn (xs := [V.str "a", V.str "b", V.str "z", V.str "A", V.str "1", V.str " ", V.str "-", V.str "q"]) r0' (by show _ < ((8 : Nat) : Int); omega)
    refine r_ixL (d5.kept _ _ (sL2 _ _ eL) nL) hv ?_
    exact q v H5 (textB_all (by decide +kernel) mv) (((Drawn.of p2 sL).same sL2).trans d5)
  · obtain ⟨zs, rfl, hz⟩ := strs_of hy
    rw [List.length_map] at hl
    have hs := sum_le hz
    refine r_join e ?_ ?_
    · show _ + zs.length * 0 ≤ _
      omega
    · refine k _ _ ⟨_, rfl, ?_⟩ (d1.trans d2)
      rw [join_len]
      show _ + _ * 0 ≤ _
      omega
abbrev s_L_text : Stmt := top 13
abbrev n_L_text : List Str := ["_law_pool_here", "_law_long"]
abbrev p_L_text : List Str := ["_law_pool_here"]
theorem sc_L_text : FnScope n_L_text p_L_text (defScope s_L_text) := ⟨rfl, rfl, rfl, by decide +kernel, rfl, by decide +kernel, by decide +kernel⟩
theorem ok_L_text (T : Txt mg t1 t2 t3) {f : Addr} {fd : FuncData} (F : Fun K "_law_text" "_law_text" s_L_text f fd) (K_L_take : Cal P w K mg base CX0 1 "_law_take" p_L_take spTake) : FnOk P w K mg base CX0 2 f fd p_L_text (spDraw (TextV 100)) := by
  refine F.ok sc_L_text (fun vs H Q E h => spDraw_len h) (fun cdv A outer s H vs Q E hr h => ?_)
  obtain ⟨p, rfl, hp, k⟩ := h
  have hu := hr.units
  refine ⟨_, (pss_cons (ps_set (i := 1) sc_L_text.nd rfl (by first | exact Or.inl rfl | exact Or.inr rfl) (pe_ix k_ix (pe_lst (pa_cons pe_str (pa_cons (pe_op o_mul pe_str pe_int) (pa_cons (pe_op o_mul pe_str pe_int) (pa_cons (pe_op o_mul pe_str pe_int) pa_nil))))) (pe_cal K_L_take (hr.mono (by decide)) pass0 (pa_cons (pv 0) (pa_cons pe_int pa_nil))) (fun _ _ => rfl)))
      (pss_one (ps_ret (pe_ix k_ix (pe_lst (pa_cons (pv 1) (pa_cons (pe_op k_add pe_str (pe_slice k_slice (pv 1) po_none (po_some pe_int))) (pa_cons pe_str (pa_cons pe_str (pa_cons pe_str (pa_cons (pe_slice k_slice (pv 1) po_none (po_some pe_int)) pa_nil))))))) (pe_cal K_L_take (hr.mono (by decide)) pass0 (pa_cons (pv 0) (pa_cons pe_int pa_nil))) (fun _ _ => rfl))))), ?_⟩
  walk_at "rd"
  refine g_mulS ⟨by decide, fun _ _ => by decide, fun _ _ => by decide⟩ ?_
  walk_at "rd"
  refine g_mulS ⟨by decide, fun _ _ => by decide, fun _ _ => by decide⟩ ?_
  walk_at "rd"
  refine g_mulS ⟨by decide, fun _ _ => by decide, fun _ _ => by decide⟩ ?_
  walk_at "rd"
  refine a_lst (by decide) fun L H1 hL sL eL => ?_
  walk_at "rd"
  have p1 := hp.same sL
  refine r_take p1 (by decide) (by decide) fun r H2 r0 r1 d2 => ?_
  obtain ⟨v, hv, mv⟩ := at_drawn (xs := [V.str (Str.ofString ""), V.str (Txt.mul (Str.ofString "x") 39), V.str (Txt.mul (Str.ofString "~") 40), V.str (Txt.mul (Str.ofString "x") 41)]) r0 (by show _ < ((4 : Nat) : Int); omega)
  obtain ⟨x, rfl, hx⟩ := textB_all (n := 41) (by decide +kernel) mv
  refine r_ixL (d2.kept _ _ eL (hp.ne' hL)) hv ?_
  walk_at "rd"
  refine g_slS (by omega) ?_
  have l1 := cutS_len x none (some 9)
  have l2 := cutS_len x none (some 3)
  have l3 : (Str.ofString " ").length = 1 := by decide +kernel
  walk_at "rd"
  refine g_addS (by rw [l3]; exact sz_of (by omega)) ?_
  walk_at "rd"
  refine g_slS (by omega) ?_
  walk_at "rd"
  refine a_lst (by simp) fun L2 H3 hL2 sL2 eL2 => ?_
  walk_at "rd"
  refine r_take (d2.pool.same sL2) (by decide) (by decide) fun r' H4 r0' r1' d4 => ?_
  have hb : [V.str x, V.str (Str.ofString " " ++ cutS x none (some 9)), V.str (Str.ofString "a\"\\"), V.str (Str.ofString "a\tb"), V.str (Str.ofString "a\nb"), V.str (cutS x none (some 3))].all (textB 100) = true := by
    simp only [List.all_cons, List.all_nil, textB, Bool.and_true, Bool.and_eq_true, decide_eq_true_eq]
    refine ⟨by omega, ?_, by decide +kernel, by decide +kernel, by decide +kernel, by omega⟩
    rw [strLen_append, l3]
    omega
  obtain ⟨v', hv', mv'⟩ := at_drawn (xs := [V.str x, V.str (Str.ofString " " ++ cutS x none (some 9)), V.str (Str.ofString "a\"\\"), V.str (Str.ofString "a\tb"), V.str (Str.ofString "a\nb"), V.str (cutS x none (some 3))]) r0' (by show _ < ((6 : Nat) : Int); omega)
  refine r_ixL (d4.kept _ _ eL2 (d2.pool.ne' hL2)) hv' ?_
  exact k _ _ (textB_all hb mv') ((((Drawn.of hp sL).trans d2).same sL2).trans d4)
end
end K01

set_option Elab.async false
set_option linter.all false
set_option maxRecDepth 100000
set_option maxHeartbeats 4000000
namespace K01
open PySem PySem.Spec PyProof.Rows L2 Tk
local macro_rules | `(tactic| walk_at "rd1") => `(tactic| first
  | with_reducible refine r_seq ?_
  | ((with_reducible refine r_var (v := ?vv) ?hrv ?_); (case hrv => rfl))
  | with_reducible refine r_c ?_
  | with_reducible refine r_op ?_
  | ((with_reducible refine r_ixL (xs := ?xx) (v := ?vv) ?hh ?he ?_); (case hh => first | assumption | exact upd_same); (case he => rfl))
  | with_reducible refine r_asg ?_
  | with_reducible refine r_sub ?_
  | ((with_reducible refine r_gTup (xs := ?xx) ?hh ?he ?_); (case hh => assumption); (case he => rfl))
  | with_reducible refine r_gCons ?_
  | with_reducible refine r_gNil ?_
  | ((with_reducible refine r_setL (xs := ?xx) (j := ?vv) ?hh ?he ?_); (case hh => first | assumption | exact upd_same); (case he => rfl))
  | with_reducible refine r_pow15 ?_
  | with_reducible refine r_pow18 ?_
  | with_reducible refine r_repr ?_
  | with_reducible refine iteT ?_
  | with_reducible refine iteF ?_
  | with_reducible refine r_cons ?_
  | with_reducible refine r_nil ?_
  | with_reducible refine r_call ?_
  | with_reducible refine r_cb ?_
  | with_reducible refine r_ret ?_
  | with_reducible refine r_gName ?_
  | with_reducible refine r_next ?_
  | with_reducible refine r_ifS ?_
  | with_reducible refine r_un ?_
  | with_reducible refine r_U ?_
  | with_reducible refine r_max2 ?_
  | with_reducible refine r_min2 ?_
  | with_reducible refine r_sl ?_
  | with_reducible refine r_noPart ?_
  | with_reducible refine r_part ?_
  | with_reducible refine r_inti ?_
  | with_reducible refine r_lc ?_
  | with_reducible refine r_for ?_
  | with_reducible refine r_rng1 ?_
  | with_reducible refine r_iList ?_
  | with_reducible refine r_iTup ?_
  | with_reducible refine r_iStr ?_
  | with_reducible refine r_strx ?_
  | ((with_reducible refine r_j ?hh ?hi ?_); (case hh => omega); (case hi => omega))
  | with_reducible refine r_m1 ?_
  | with_reducible refine r_test ?_
  | with_reducible refine r_B ?_
  | with_reducible refine r_not ?_
  | with_reducible refine r_and ?_
  | with_reducible refine r_or ?_
  | with_reducible refine r_andV ?_
  | with_reducible refine r_orV ?_
  | with_reducible refine r_notV ?_
  | with_reducible refine r_if ?_
  | with_reducible refine r_chain ?_
  | with_reducible refine r_lst ?_
  | with_reducible refine r_tup ?_
  | with_reducible refine r_k ?_
  | ((with_reducible refine r_isiS (d := ?dd) ?hh ?_); (case hh => assumption))
  | ((with_reducible refine r_isiT (d := ?dd) ?hh ?_); (case hh => assumption))
  | ((with_reducible refine r_isiI (d := ?dd) ?hh ?_); (case hh => assumption))
  | ((with_reducible refine r_isiB (d := ?dd) ?hh ?_); (case hh => assumption))
  | ((with_reducible refine r_lenS ?hh ?_); (case hh => assumption))
  | ((with_reducible refine r_lenT (xs := ?dd) ?hh ?_); (case hh => assumption))
  | ((with_reducible refine r_ixT (xs := ?xx) (v := ?vv) ?hh ?he ?_); (case hh => assumption); (case he => rfl))
  | with_reducible refine r_isN ?_
  | with_reducible refine r_I0 ?_
  | with_reducible refine g_addI ?_
  | ((with_reducible refine r_mod ?hh ?_); (case hh => first | decide | omega))
  | ((with_reducible refine r_div ?hh ?hi ?_); (case hh => first | decide | omega); (case hi => first | decide | omega))
  | ((with_reducible refine g_mulB ?hh ?hi ?_); (case hh => omega); (case hi => omega))
  | with_reducible refine g_ltI ?_
  | with_reducible refine g_leI ?_
  | with_reducible refine g_gtI ?_
  | with_reducible refine g_geI ?_
  | with_reducible refine g_eqI ?_
  | with_reducible refine g_neI ?_
  | with_reducible refine g_eqS ?_
  | with_reducible refine g_neS ?_
  | with_reducible refine g_leS ?_
  | with_reducible refine g_ltS ?_)
local macro_rules | `(tactic| walk_at "rd") => `(tactic| repeat (walk_at "rd1"))
local macro_rules | `(tactic| walk_at "ed") => `(tactic| repeat first
  | exact ed_int
  | exact ed_str
  | exact ed_bl
  | exact ed_non
  | exact ed_nil
  | exact ed_dct
  | exact ed_neg
  | with_reducible apply ed_cons
  | with_reducible apply ed_tup
  | with_reducible apply ed_lst
  | exact Nat.le_of_ble_eq_true rfl)

section
variable {t1 t2 t3 : Tok} {P : Program} {w : World} {K : PySem.W.Frag} {mg : Str → Option Value} {base : Heap}
abbrev s_law : Stmt := top 19
abbrev n_law : List Str := ["_law_script", "_law_k", "_law_pool_here", "_law_turn", "_law_number", "_law_stamp", "_law_entry", "_law_thing", "_law_some"]
abbrev p_law : List Str := ["_law_script"]
theorem sc_law : FnScope n_law p_law (defScope s_law) := ⟨rfl, rfl, rfl, by decide +kernel, rfl, by decide +kernel, by decide +kernel⟩
theorem ok_law (T : Txt mg t1 t2 t3) {f : Addr} {fd : FuncData} (F : Fun K "law" "law" s_law f fd) (K_L_pool : Cal P w K mg base CX0 4 "_law_pool" p_L_pool (spPool K)) (K_L_take : Cal P w K mg base CX0 4 "_law_take" p_L_take spTake)
    (K_L_word : Cal P w K mg base CX0 4 "_law_word" p_L_word (spDraw (TextV 100))) (K_L_text : Cal P w K mg base CX0 4 "_law_text" p_L_text (spDraw (TextV 100))) (K_L_right : Cal P w K mg base CX0 4 "_law_right" p_L_right (spD K fun _ => true)) :
    FnOk P w K mg base CX0 5 f fd p_law (spLaw K) := by
  refine F.ok sc_law (fun vs H Q E h => spLaw_len h) (fun cdv A outer s H vs Q E hr h => ?_)
  obtain ⟨a, ns, rfl, hS, hl, k⟩ := h
  have hu := hr.units
  refine ⟨_, (pss_cons (ps_for PassesOwn.never rfl (pi_range1 rfl T.z_range (pa_cons (pe_callB (c_max2 rfl) (by rfl) T.z_max (by decide +kernel) (pa_cons pe_int (pa_cons (pe_callB (c_min2 rfl) (by rfl) T.z_min (by decide +kernel) (pa_cons (pe_callB k_len (by rfl) T.z_len (by decide +kernel) (pa_cons (pv 0) pa_nil)) (pa_cons pe_int pa_nil))) pa_nil))) pa_nil)) (pg_name (i := 1) sc_law.nd rfl (by first | exact Or.inl rfl | exact Or.inr rfl))
      (pss_cons (ps_set (i := 2) sc_law.nd rfl (by first | exact Or.inl rfl | exact Or.inr rfl) (pe_cal K_L_pool (hr.mono (by decide)) pass0 (pa_cons (pv 0) (pa_cons (pv 1) pa_nil))))
      (pss_one (ps_for PassesOwn.never rfl (pi_range1 rfl T.z_range (pa_cons pe_int pa_nil)) (pg_name (i := 3) sc_law.nd rfl (by first | exact Or.inl rfl | exact Or.inr rfl))
      (pss_cons (ps_set (i := 4) sc_law.nd rfl (by first | exact Or.inl rfl | exact Or.inr rfl) (pe_ix k_ix (pe_lst (pa_cons (pe_cal K_L_take (hr.mono (by decide)) pass0 (pa_cons (pv 2) (pa_cons pe_int pa_nil))) (pa_cons (pe_op k_add (pe_op op_sub (pe_op op_pow pe_int pe_int) pe_int) (pe_cal K_L_take (hr.mono (by decide)) pass0 (pa_cons (pv 2) (pa_cons pe_int pa_nil)))) (pa_cons pe_bl (pa_cons pe_str (pa_cons (pe_un un_neg pe_int) pa_nil)))))) (pe_cal K_L_take (hr.mono (by decide)) pass0 (pa_cons (pv 2) (pa_cons pe_int pa_nil))) (fun _ _ => rfl)))
      (pss_cons (ps_set (i := 5) sc_law.nd rfl (by first | exact Or.inl rfl | exact Or.inr rfl) (pe_tup (pa_cons (pv 4) (pa_cons (pe_cal K_L_word (hr.mono (by decide)) pass0 (pa_cons (pv 2) pa_nil)) pa_nil))))
      (pss_cons (ps_set (i := 6) sc_law.nd rfl (by first | exact Or.inl rfl | exact Or.inr rfl) (pe_tup (pa_cons (pe_cal K_L_word (hr.mono (by decide)) pass0 (pa_cons (pv 2) pa_nil)) (pa_cons (pv 5) (pa_cons (pe_ix k_ix (pe_lst (pa_cons pe_non (pa_cons (pe_cal K_L_text (hr.mono (by decide)) pass0 (pa_cons (pv 2) pa_nil)) (pa_cons pe_int pa_nil)))) (pe_cal K_L_take (hr.mono (by decide)) pass0 (pa_cons (pv 2) (pa_cons pe_int pa_nil))) (fun _ _ => rfl)) pa_nil)))))
      (pss_one (ps_for PassesOwn.never rfl (k_list (pe_lst (pa_cons (pe_cal K_L_word (hr.mono (by decide)) pass0 (pa_cons (pv 2) pa_nil)) (pa_cons (pe_cal K_L_text (hr.mono (by decide)) pass0 (pa_cons (pv 2) pa_nil)) (pa_cons (pv 5) (pa_cons (pv 6) (pa_cons (pe_callTy k_listOf (by rfl) T.z_list (by decide +kernel) (pa_cons (pv 6) pa_nil)) (pa_cons (pe_slice k_slice (pv 6) po_none (po_some pe_int)) (pa_cons (pe_tup (pa_cons pe_int (pa_cons pe_str pa_nil))) pa_nil))))))))) (pg_name (i := 7) sc_law.nd rfl (by first | exact Or.inl rfl | exact Or.inr rfl))
      (pss_one (ps_if (pt_not (pt_val (pe_cal K_L_right (hr.mono (by decide)) pass0 (pa_cons (pv 7) pa_nil)))) (pss_one (ps_ret pe_bl)) pss_nil)))))))))))
      (pss_cons (ps_set (i := 8) sc_law.nd rfl (by first | exact Or.inl rfl | exact Or.inr rfl) (pe_lst (pa_cons pe_non (pa_cons pe_bl (pa_cons pe_int (pa_cons pe_int (pa_cons pe_str (pa_cons pe_str (pa_cons (pe_tup pa_nil) (pa_cons (pe_lst pa_nil) (pa_cons pe_dnewK (pa_cons (pe_tup (pa_cons pe_str pa_nil)) (pa_cons (pe_tup (pa_cons pe_str (pa_cons (pe_tup (pa_cons pe_int (pa_cons pe_str pa_nil))) (pa_cons pe_non pa_nil)))) (pa_cons (pe_tup (pa_cons pe_str (pa_cons (pe_tup (pa_cons pe_int (pa_cons pe_str pa_nil))) (pa_cons pe_str pa_nil)))) (pa_cons (pe_tup (pa_cons pe_int (pa_cons pe_str pa_nil))) pa_nil)))))))))))))))
      (pss_cons (ps_set (i := 8) sc_law.nd rfl (by first | exact Or.inl rfl | exact Or.inr rfl) (pe_op k_add (pv 8) (pe_lst (pa_cons (pe_tup (pa_cons pe_int (pa_cons pe_str (pa_cons pe_int pa_nil)))) (pa_cons (pe_tup (pa_cons pe_str (pa_cons (pe_tup (pa_cons pe_int (pa_cons pe_str pa_nil))) (pa_cons pe_non (pa_cons pe_int pa_nil))))) (pa_cons (pe_tup (pa_cons pe_str (pa_cons (pe_lst (pa_cons pe_int (pa_cons pe_str pa_nil))) (pa_cons pe_non pa_nil)))) (pa_cons (pe_lst (pa_cons pe_str (pa_cons (pe_tup (pa_cons pe_int (pa_cons pe_str pa_nil))) (pa_cons pe_non pa_nil)))) (pa_cons (pe_tup (pa_cons pe_str (pa_cons pe_non (pa_cons pe_str pa_nil)))) pa_nil))))))))
      (pss_cons (ps_set (i := 8) sc_law.nd rfl (by first | exact Or.inl rfl | exact Or.inr rfl) (pe_op k_add (pv 8) (pe_lst (pa_cons (pe_tup (pa_cons pe_str (pa_cons (pe_tup (pa_cons pe_int (pa_cons pe_str pa_nil))) (pa_cons pe_str pa_nil)))) (pa_cons (pe_tup (pa_cons pe_str (pa_cons (pe_tup (pa_cons pe_int (pa_cons pe_str pa_nil))) (pa_cons pe_str pa_nil)))) (pa_cons (pe_tup (pa_cons pe_str (pa_cons (pe_tup (pa_cons pe_int (pa_cons pe_str pa_nil))) (pa_cons pe_str pa_nil)))) (pa_cons (pe_tup (pa_cons pe_str (pa_cons (pe_tup (pa_cons pe_bl (pa_cons pe_str pa_nil))) (pa_cons pe_str pa_nil)))) (pa_cons (pe_tup (pa_cons pe_int (pa_cons pe_non pa_nil))) pa_nil))))))))
      (pss_one (ps_ret (pe_cmpR (k_eq hu) (pe_lc (own := [("_law_thing", 7)]) rfl sc_law.nd (k_list (pv 8)) (blkOk_by (own := [("_law_thing", 7)]) (N := n_law) (sc := defScope s_law) (by decide +kernel)) (fun _ _ _ _ _ => (pg_name (i := 7) sc_law.nd rfl (by first | exact Or.inl rfl | exact Or.inr rfl))) (fun _ _ _ _ _ => (pts_one (pt_not (pt_val (pe_cal K_L_right (hr.mono (by decide)) pass0 (pa_cons (pv 7) pa_nil)))))) (fun _ _ _ _ _ => (pv 7))) (pe_lst pa_nil) (nomark _)))))))), ?_⟩
  walk_at "rd"
  refine r_lenQ hS ?_
  walk_at "rd"
  rw [List.length_map]
  obtain ⟨n, en, hn⟩ := turns_of 8 ns.length (by decide)
  rw [show (8 : Int) = ((8 : Nat) : Int) from rfl, en]
  walk_at "rd"
  refine for_range (lo := 0) (n := (n : Int).toNat) (fun i σ H1 => ∃ o1 o2 o3 o4 o5 o6 o7 o8, σ = [some (.ref a), o1, o2, o3, o4, o5, o6, o7, o8] ∧ Same H H1) ⟨_, _, _, _, _, _, _, _, rfl, Same.refl H⟩ ?_ ?_
  · rintro i σ H1 hi ⟨o1, o2, o3, o4, o5, o6, o7, o8, rfl, s1⟩
    walk_at "rd"
    refine r_pool (s1.seq hS) hl (by omega) (by omega) fun p H2 hp s2 p2 => ?_
    have hp' : H p = none := by
      cases z : H p with
      | none => rfl
      | some o => rw [s1 _ _ z] at hp; cases hp
    walk_at "rd"
    refine for_range (lo := 0) (n := (8 : Int).toNat) (fun j σ H3 => ∃ o3 o4 o5 o6 o7 o8, σ = [some (.ref a), some (.int (0 + (i : Int))), some (.ref p), o3, o4, o5, o6, o7, o8] ∧ Same H H3 ∧ PoolAt H3 p) ⟨_, _, _, _, _, _, rfl, s1.trans s2, p2⟩ ?_ ?_
    · rintro j σ H3 hj ⟨o3, o4, o5, o6, o7, o8, rfl, s3, p3⟩
      walk_at "rd"
      refine r_take p3 (by decide) (by decide) fun n1 H4 a1 b1 d4 => ?_
      walk_at "rd"
      refine r_take d4.pool (by decide) (by decide) fun n2 H5 a2 b2 d5 => ?_
      walk_at "rd"
      refine a_lst (by simp) fun L1 H6 hL1 s6 e6 => ?_
      walk_at "rd"
      have p6 := d5.pool.same s6
      refine r_take p6 (by decide) (by decide) fun n3 H7 a3 b3 d7 => ?_
      obtain ⟨v1, hv1, mv1⟩ := at_drawn (xs := [V.int n1, V.int (1000000000000000 - 1 + n2), V.bl true, V.str "1", V.int (-1)]) a3 (by show _ < ((5 : Nat) : Int); omega)
      obtain ⟨g1, og1, hg1⟩ := scal_all (by rfl) mv1
      refine r_ixL (d7.kept _ _ e6 (d5.pool.ne' hL1)) hv1 ?_
      walk_at "rd"
      refine r_draw d7.pool fun w1 H8 hw1 d8 => ?_
      obtain ⟨x1, rfl, hx1⟩ := hw1
      walk_at "rd"
      refine a_tup (by simp) fun S H9 hS9 s9 eS => ?_
      walk_at "rd"
      have p9 := d8.pool.same s9
      refine r_draw p9 fun w2 H10 hw2 d10 => ?_
      obtain ⟨x2, rfl, hx2⟩ := hw2
      walk_at "rd"
      refine r_draw d10.pool fun w3 H11 hw3 d11 => ?_
      obtain ⟨x3, rfl, hx3⟩ := hw3
      walk_at "rd"
      refine a_lst (by simp) fun L2 H12 hL2 s12 e12 => ?_
      walk_at "rd"
      have p12 := d11.pool.same s12
      refine r_take p12 (by decide) (by decide) fun n4 H13 a4 b4 d13 => ?_
      obtain ⟨v2, hv2, mv2⟩ := at_drawn (xs := [V.non, V.str x3, V.int 5]) a4 (by show _ < ((3 : Nat) : Int); omega)
      obtain ⟨g2, og2, hg2⟩ := scal_all (by simp [scalB]; omega) mv2
      refine r_ixL (d13.kept _ _ e12 (d11.pool.ne' hL2)) hv2 ?_
      walk_at "rd"
      refine a_tup (by simp) fun E' H14 hE14 s14 eE => ?_
      walk_at "rd"
      have p14 := d13.pool.same s14
      refine r_draw p14 fun w4 H15 hw4 d15 => ?_
      obtain ⟨x4, rfl, hx4⟩ := hw4
      walk_at "rd"
      refine r_draw d15.pool fun w5 H16 hw5 d16 => ?_
      obtain ⟨x5, rfl, hx5⟩ := hw5
      walk_at "rd"
      have d1416 := d15.trans d16
      have eE16 := d1416.tup p14 eE
      refine g_listOfT eE16 fun L3 H17 hL3 s17 e17 => ?_
      walk_at "rd"
      refine g_slT (s17 _ _ eE16) (n := 3) rfl (by decide) fun L4 H18 hL4 s18 e18 => ?_
      walk_at "rd"
      refine a_tup (by simp) fun L5 H19 hL5 s19 e19 => ?_
      walk_at "rd"
      refine a_lst (by simp) fun L6 H20 hL6 s20 e20 => ?_
      have c9 : Drawn p H9 H20 := ((((((((((Drawn.refl p9).trans d10).trans d11).same s12).trans d13).same s14).trans d1416).same s17).same s18).same s19).same s20
      have f1 : Dd K H20 (.ref S) (.tuple [g1, .str x1]) := .tup (c9.tup p9 eS) (.cons (hg1 K H20) (.cons (.str x1) .nil))
      have al : DdAll K H20 [V.str x2, V.ref S, v2] [.str x2, .tuple [g1, .str x1], g2] := .cons (.str x2) (.cons f1 (.cons (hg2 K H20) .nil))
      have f2 : Dd K H20 (.ref E') (.tuple [.str x2, .tuple [g1, .str x1], g2]) := .tup (s20 _ _ (s19 _ _ (s18 _ _ (s17 _ _ eE16)))) al
      have f3 : Dd K H20 (.ref L3) (.list [.str x2, .tuple [g1, .str x1], g2]) := .lst (s20 _ _ (s19 _ _ (s18 _ _ e17))) al
      have f4 : Dd K H20 (.ref L4) (.tuple [.str x2, .tuple [g1, .str x1]]) := .tup (s20 _ _ (s19 _ _ e18)) (.cons (.str x2) (.cons f1 .nil))
      have f5 : Dd K H20 (.ref L5) (.tuple [.int 1, .str "ann"]) := .tup (s20 _ _ e19) (.cons (.int 1) (.cons (.str _) .nil))
      have o1 : okD (.tuple [g1, .str x1]) := ⟨by simp, og1, by show _ ≤ _; omega, trivial⟩
      have oa : okAll [.str x2, .tuple [g1, .str x1], g2] := ⟨by show _ ≤ _; omega, o1, og2, trivial⟩
      have fa : DdAll K H20 [V.str x4, V.str x5, V.ref S, V.ref E', V.ref L3, V.ref L4, V.ref L5] [.str x4, .str x5, .tuple [g1, .str x1], .tuple [.str x2, .tuple [g1, .str x1], g2], .list [.str x2, .tuple [g1, .str x1], g2], .tuple [.str x2, .tuple [g1, .str x1]], .tuple [.int 1, .str "ann"]] :=
        .cons (.str x4) (.cons (.str x5) (.cons f1 (.cons f2 (.cons f3 (.cons f4 (.cons f5 .nil))))))
      have fo : okAll [.str x4, .str x5, .tuple [g1, .str x1], .tuple [.str x2, .tuple [g1, .str x1], g2], .list [.str x2, .tuple [g1, .str x1], g2], .tuple [.str x2, .tuple [g1, .str x1]], .tuple [.int 1, .str "ann"]] :=
        ⟨by show _ ≤ _; omega, by show _ ≤ _; omega, o1, ⟨by simp, oa⟩, ⟨by simp, oa⟩, ⟨by simp, oa.1, o1, trivial⟩, ⟨by simp, trivial, by show (Str.ofString "ann").length ≤ 100000; decide, trivial⟩, trivial⟩
      have p20 : PoolAt H20 p := c9.pool
      have s320 : Same H H20 := (((((((Drawn.refl p3).trans d4).trans d5).same s6).trans d7).trans d8).same s9).trans c9 |>.back s3 hp'
      refine ⟨_, rfl, ⟨_, SqL.of e20⟩, ?_⟩
      refine for_data e20 (fun σ => ∃ o7 o8, σ = [some (.ref a), some (.int (0 + (i : Int))), some (.ref p), some (.int (0 + (j : Int))), some v1, some (.ref S), some (.ref E'), o7, o8]) ⟨_, _, rfl⟩ ?_ ?_
      · rintro v hv σ H21 ⟨o7, o8, rfl⟩ s21
        obtain ⟨d, hd, od⟩ := fa.mem fo hv
        walk_at "rd"
        refine r_spD (hd.same' s21) od fun H22 s22 => ?_
        walk_at "rd"
        exact ⟨⟨_, _, rfl⟩, s21.trans s22⟩
      · rintro σ H21 ⟨o7, o8, rfl⟩ s21
        exact ⟨_, _, _, _, _, _, rfl, s320.trans s21, p20.same s21⟩
    · rintro σ H3 ⟨o3, o4, o5, o6, o7, o8, rfl, s3, p3⟩
      exact ⟨_, _, _, _, _, _, _, _, rfl, s3⟩
  · rintro σ H1 ⟨o1, o2, o3, o4, o5, o6, o7, o8, rfl, s1⟩
    walk_at "rd1"
    walk_at "rd1"
    refine ev_use (K := K) (d := (.list [.none, .bool true, .int (0), .int (5), .str (Str.ofString ""), .str (Str.ofString "ann"), .tuple [], .list [], .dict [], .tuple [.str (Str.ofString "k")], .tuple [.str (Str.ofString "k"), .tuple [.int (1), .str (Str.ofString "ann")], .none], .tuple [.str (Str.ofString "k"), .tuple [.int (1), .str (Str.ofString "ann")], .str (Str.ofString "x")], .tuple [.int (1), .str (Str.ofString "ann")]] : PyData)) (by walk_at "ed") fun v1 H2 s2 d2 => ?_
    walk_at "rd1"
    walk_at "rd1"
    walk_at "rd1"
    walk_at "rd1"
    walk_at "rd1"
    refine ev_use (K := K) (d := (.list [.tuple [.int (1), .str (Str.ofString "ann"), .int (2)], .tuple [.str (Str.ofString "k"), .tuple [.int (1), .str (Str.ofString "ann")], .none, .int (0)], .tuple [.str (Str.ofString "k"), .list [.int (1), .str (Str.ofString "ann")], .none], .list [.str (Str.ofString "k"), .tuple [.int (1), .str (Str.ofString "ann")], .none], .tuple [.str (Str.ofString "k"), .none, .str (Str.ofString "x")]] : PyData)) (by walk_at "ed") fun v2 H3 s3 d3 => ?_
    refine g_cat (d2.same' s3) d3 (by simp) fun v3 H4 s4 d4 => ?_
    walk_at "rd1"
    walk_at "rd1"
    walk_at "rd1"
    walk_at "rd1"
    walk_at "rd1"
    refine ev_use (K := K) (d := (.list [.tuple [.str (Str.ofString "K"), .tuple [.int (1), .str (Str.ofString "ann")], .str (Str.ofString "x")], .tuple [.str (Str.ofString "k"), .tuple [.int (1), .str (Str.ofString "Ann")], .str (Str.ofString "x")], .tuple [.str (Str.ofString "k"), .tuple [.int (0), .str (Str.ofString "ann")], .str (Str.ofString "x")], .tuple [.str (Str.ofString "k"), .tuple [.bool true, .str (Str.ofString "ann")], .str (Str.ofString "x")], .tuple [.int (1), .none]] : PyData)) (by walk_at "ed") fun v5 H5 s5 d5 => ?_
    refine g_cat (d4.same' s5) d5 (by simp) fun v6 H6 s6 d6 => ?_
    walk_at "rd"
    cases d6 with
    | lst e6 a6 =>
      refine ⟨_, rfl, ⟨_, SqL.of e6⟩, ?_⟩
      refine lc_none e6 a6 ?_ (by simp) (fun v d hd od H7 R s7 q => ?_) (fun D H7 hD s7 e7 => ?_)
      · simp only [List.cons_append, List.nil_append, okAll, okD, and_true, true_and]
        decide +kernel
      · walk_at "rd"
        exact r_spD (hd.same' s7) od fun H8 s8 => ⟨_, rfl, q H8 s8⟩
      · walk_at "rd"
        refine a_lst (by simp) fun L8 H8 hL8 s8 e8 => ?_
        walk_at "rd"
        exact r_eqNil (s8 _ _ e7) e8 (k _)
end
end K01

set_option Elab.async false
set_option linter.all false
set_option maxRecDepth 100000
set_option maxHeartbeats 4000000
namespace K01
open PySem PySem.Spec PyProof.Rows L2 Tk
theorem all_mk {l : PySem.W.OpenLaw} {w : World} {K : PySem.W.Frag} {h : Heap} {mg : Str → Option Value} {fa : Addr} {t1 t2 t3 : Tok} (X : K.In h) (G : h.Ns mainGlobals mg) (hfa : mg "law" = some (.ref fa))
    {od0 an0 : Option Addr} {sl0 : Array (Option Value)} {oc0 kV0 dc0 pm0 cd0 ct0 : Value} {f0 : Addr}
    {od1 an1 : Option Addr} {sl1 : Array (Option Value)} {oc1 kV1 dc1 pm1 cd1 ct1 : Value} {f1 : Addr}
    {od2 an2 : Option Addr} {sl2 : Array (Option Value)} {oc2 kV2 dc2 pm2 cd2 ct2 : Value} {f2 : Addr}
    {od3 an3 : Option Addr} {sl3 : Array (Option Value)} {oc3 kV3 dc3 pm3 cd3 ct3 : Value} {f3 : Addr}
    {od4 an4 : Option Addr} {sl4 : Array (Option Value)} {oc4 kV4 dc4 pm4 cd4 ct4 : Value} {f4 : Addr}
    {od5 an5 : Option Addr} {sl5 : Array (Option Value)} {oc5 kV5 dc5 pm5 cd5 ct5 : Value} {f5 : Addr}
    {od6 an6 : Option Addr} {sl6 : Array (Option Value)} {oc6 kV6 dc6 pm6 cd6 ct6 : Value} {f6 : Addr}
    {od7 an7 : Option Addr} {sl7 : Array (Option Value)} {oc7 kV7 dc7 pm7 cd7 ct7 : Value} {f7 : Addr}
    {od8 an8 : Option Addr} {sl8 : Array (Option Value)} {oc8 kV8 dc8 pm8 cd8 ct8 : Value} {f8 : Addr}
    {od9 an9 : Option Addr} {sl9 : Array (Option Value)} {oc9 kV9 dc9 pm9 cd9 ct9 : Value} {f9 : Addr}
    {od10 an10 : Option Addr} {sl10 : Array (Option Value)} {oc10 kV10 dc10 pm10 cd10 ct10 : Value} {f10 : Addr}
    {od11 an11 : Option Addr} {sl11 : Array (Option Value)} {oc11 kV11 dc11 pm11 cd11 ct11 : Value} {f11 : Addr}
    {od12 an12 : Option Addr} {sl12 : Array (Option Value)} {oc12 kV12 dc12 pm12 cd12 ct12 : Value} {f12 : Addr}
    {od13 an13 : Option Addr} {sl13 : Array (Option Value)} {oc13 kV13 dc13 pm13 cd13 ct13 : Value} {f13 : Addr}
    {od14 an14 : Option Addr} {sl14 : Array (Option Value)} {oc14 kV14 dc14 pm14 cd14 ct14 : Value} {f14 : Addr}
    (a0 : PySem.W.nsIn K mainGlobals "_law_pool" = some (some (.ref f0))) (l0 : K.lookup f0 = some ⟨oc0, od0, .func (PySem.W.fnOf "_law_pool" "_law_pool" (defArgs s_L_pool) (defBody s_L_pool) (defScope s_L_pool) .none kV0 dc0 pm0 an0 cd0 ct0), sl0⟩) (c0 : PySem.W.codeIn K cd0 "_law_pool" = true) (k0 : PySem.W.keepIn K (.ref f0) = true)
    (a1 : PySem.W.nsIn K mainGlobals "_law_take" = some (some (.ref f1))) (l1 : K.lookup f1 = some ⟨oc1, od1, .func (PySem.W.fnOf "_law_take" "_law_take" (defArgs s_L_take) (defBody s_L_take) (defScope s_L_take) .none kV1 dc1 pm1 an1 cd1 ct1), sl1⟩) (c1 : PySem.W.codeIn K cd1 "_law_take" = true) (k1 : PySem.W.keepIn K (.ref f1) = true)
    (a2 : PySem.W.nsIn K mainGlobals "_law_word" = some (some (.ref f2))) (l2 : K.lookup f2 = some ⟨oc2, od2, .func (PySem.W.fnOf "_law_word" "_law_word" (defArgs s_L_word) (defBody s_L_word) (defScope s_L_word) .none kV2 dc2 pm2 an2 cd2 ct2), sl2⟩) (c2 : PySem.W.codeIn K cd2 "_law_word" = true) (k2 : PySem.W.keepIn K (.ref f2) = true)
    (a3 : PySem.W.nsIn K mainGlobals "_law_text" = some (some (.ref f3))) (l3 : K.lookup f3 = some ⟨oc3, od3, .func (PySem.W.fnOf "_law_text" "_law_text" (defArgs s_L_text) (defBody s_L_text) (defScope s_L_text) .none kV3 dc3 pm3 an3 cd3 ct3), sl3⟩) (c3 : PySem.W.codeIn K cd3 "_law_text" = true) (k3 : PySem.W.keepIn K (.ref f3) = true)
    (a4 : PySem.W.nsIn K mainGlobals "is_word" = some (some (.ref f4))) (l4 : K.lookup f4 = some ⟨oc4, od4, .func (PySem.W.fnOf "is_word" "is_word" (defArgs s_is_word) (defBody s_is_word) (defScope s_is_word) .none kV4 dc4 pm4 an4 cd4 ct4), sl4⟩) (c4 : PySem.W.codeIn K cd4 "is_word" = true) (k4 : PySem.W.keepIn K (.ref f4) = true)
    (a5 : PySem.W.nsIn K mainGlobals "_law_is_word" = some (some (.ref f5))) (l5 : K.lookup f5 = some ⟨oc5, od5, .func (PySem.W.fnOf "_law_is_word" "_law_is_word" (defArgs s_L_is_word) (defBody s_L_is_word) (defScope s_L_is_word) .none kV5 dc5 pm5 an5 cd5 ct5), sl5⟩) (c5 : PySem.W.codeIn K cd5 "_law_is_word" = true) (k5 : PySem.W.keepIn K (.ref f5) = true)
    (a6 : PySem.W.nsIn K mainGlobals "is_value" = some (some (.ref f6))) (l6 : K.lookup f6 = some ⟨oc6, od6, .func (PySem.W.fnOf "is_value" "is_value" (defArgs s_is_value) (defBody s_is_value) (defScope s_is_value) .none kV6 dc6 pm6 an6 cd6 ct6), sl6⟩) (c6 : PySem.W.codeIn K cd6 "is_value" = true) (k6 : PySem.W.keepIn K (.ref f6) = true)
    (a7 : PySem.W.nsIn K mainGlobals "_law_is_value" = some (some (.ref f7))) (l7 : K.lookup f7 = some ⟨oc7, od7, .func (PySem.W.fnOf "_law_is_value" "_law_is_value" (defArgs s_L_is_value) (defBody s_L_is_value) (defScope s_L_is_value) .none kV7 dc7 pm7 an7 cd7 ct7), sl7⟩) (c7 : PySem.W.codeIn K cd7 "_law_is_value" = true) (k7 : PySem.W.keepIn K (.ref f7) = true)
    (a8 : PySem.W.nsIn K mainGlobals "is_number" = some (some (.ref f8))) (l8 : K.lookup f8 = some ⟨oc8, od8, .func (PySem.W.fnOf "is_number" "is_number" (defArgs s_is_number) (defBody s_is_number) (defScope s_is_number) .none kV8 dc8 pm8 an8 cd8 ct8), sl8⟩) (c8 : PySem.W.codeIn K cd8 "is_number" = true) (k8 : PySem.W.keepIn K (.ref f8) = true)
    (a9 : PySem.W.nsIn K mainGlobals "is_stamp" = some (some (.ref f9))) (l9 : K.lookup f9 = some ⟨oc9, od9, .func (PySem.W.fnOf "is_stamp" "is_stamp" (defArgs s_is_stamp) (defBody s_is_stamp) (defScope s_is_stamp) .none kV9 dc9 pm9 an9 cd9 ct9), sl9⟩) (c9 : PySem.W.codeIn K cd9 "is_stamp" = true) (k9 : PySem.W.keepIn K (.ref f9) = true)
    (a10 : PySem.W.nsIn K mainGlobals "_law_is_stamp" = some (some (.ref f10))) (l10 : K.lookup f10 = some ⟨oc10, od10, .func (PySem.W.fnOf "_law_is_stamp" "_law_is_stamp" (defArgs s_L_is_stamp) (defBody s_L_is_stamp) (defScope s_L_is_stamp) .none kV10 dc10 pm10 an10 cd10 ct10), sl10⟩) (c10 : PySem.W.codeIn K cd10 "_law_is_stamp" = true) (k10 : PySem.W.keepIn K (.ref f10) = true)
    (a11 : PySem.W.nsIn K mainGlobals "is_entry" = some (some (.ref f11))) (l11 : K.lookup f11 = some ⟨oc11, od11, .func (PySem.W.fnOf "is_entry" "is_entry" (defArgs s_is_entry) (defBody s_is_entry) (defScope s_is_entry) .none kV11 dc11 pm11 an11 cd11 ct11), sl11⟩) (c11 : PySem.W.codeIn K cd11 "is_entry" = true) (k11 : PySem.W.keepIn K (.ref f11) = true)
    (a12 : PySem.W.nsIn K mainGlobals "_law_is_entry" = some (some (.ref f12))) (l12 : K.lookup f12 = some ⟨oc12, od12, .func (PySem.W.fnOf "_law_is_entry" "_law_is_entry" (defArgs s_L_is_entry) (defBody s_L_is_entry) (defScope s_L_is_entry) .none kV12 dc12 pm12 an12 cd12 ct12), sl12⟩) (c12 : PySem.W.codeIn K cd12 "_law_is_entry" = true) (k12 : PySem.W.keepIn K (.ref f12) = true)
    (a13 : PySem.W.nsIn K mainGlobals "_law_right" = some (some (.ref f13))) (l13 : K.lookup f13 = some ⟨oc13, od13, .func (PySem.W.fnOf "_law_right" "_law_right" (defArgs s_L_right) (defBody s_L_right) (defScope s_L_right) .none kV13 dc13 pm13 an13 cd13 ct13), sl13⟩) (c13 : PySem.W.codeIn K cd13 "_law_right" = true) (k13 : PySem.W.keepIn K (.ref f13) = true)
    (a14 : PySem.W.nsIn K mainGlobals "law" = some (some (.ref f14))) (l14 : K.lookup f14 = some ⟨oc14, od14, .func (PySem.W.fnOf "law" "law" (defArgs s_law) (defBody s_law) (defScope s_law) .none kV14 dc14 pm14 an14 cd14 ct14), sl14⟩) (c14 : PySem.W.codeIn K cd14 "law" = true) (k14 : PySem.W.keepIn K (.ref f14) = true)
    (z_len : PySem.W.nsIn K mainGlobals "len" = some none)
    (z_all : PySem.W.nsIn K mainGlobals "all" = some none)
    (z_isinstance : PySem.W.nsIn K mainGlobals "isinstance" = some none)
    (z_str : PySem.W.nsIn K mainGlobals "str" = some none)
    (z_tuple : PySem.W.nsIn K mainGlobals "tuple" = some none)
    (z_int : PySem.W.nsIn K mainGlobals "int" = some none)
    (z_bool : PySem.W.nsIn K mainGlobals "bool" = some none)
    (z_repr : PySem.W.nsIn K mainGlobals "repr" = some none)
    (z_list : PySem.W.nsIn K mainGlobals "list" = some none)
    (z_range : PySem.W.nsIn K mainGlobals "range" = some none)
    (z_max : PySem.W.nsIn K mainGlobals "max" = some none)
    (z_min : PySem.W.nsIn K mainGlobals "min" = some none)
    (g_LONGEST_WORD : PySem.W.nsIn K mainGlobals "LONGEST_WORD" = some (some (.int 8 t1)))
    (g_LONGEST_VALUE : PySem.W.nsIn K mainGlobals "LONGEST_VALUE" = some (some (.int 40 t2)))
    (g_GREATEST_NUMBER : PySem.W.nsIn K mainGlobals "GREATEST_NUMBER" = some (some (.int 1000000000000000 t3))) :
    ∃ fd : FuncData, (∀ (s : Shared) (v : Value), BindsTo s fd ⟨[v], []⟩ [("_law_script", v)]) ∧ ∀ base : Heap, K.In base → base.Ns mainGlobals mg → FnOk l.prog w K mg base CX0 5 fa fd ["_law_script"] (spLaw K) := by
  have e := hfa.symm.trans (PySem.W.mg_of X G a14)
  cases e
  have T : Txt mg t1 t2 t3 := ⟨PySem.W.mg_none_of X G z_len, PySem.W.mg_none_of X G z_all, PySem.W.mg_none_of X G z_isinstance, PySem.W.mg_none_of X G z_str, PySem.W.mg_none_of X G z_tuple, PySem.W.mg_none_of X G z_int, PySem.W.mg_none_of X G z_bool, PySem.W.mg_none_of X G z_repr, PySem.W.mg_none_of X G z_list, PySem.W.mg_none_of X G z_range, PySem.W.mg_none_of X G z_max, PySem.W.mg_none_of X G z_min, PySem.W.mg_of X G g_LONGEST_WORD, PySem.W.mg_of X G g_LONGEST_VALUE, PySem.W.mg_of X G g_GREATEST_NUMBER⟩
  have F_L_pool := fun_mk (st := s_L_pool) l0 c0 k0
  have b_L_pool := F_L_pool.binds (ps := p_L_pool) fun _ _ _ _ _ _ us hl => match us, hl with | [_, _], _ => rfl
  have F_L_take := fun_mk (st := s_L_take) l1 c1 k1
  have b_L_take := F_L_take.binds (ps := p_L_take) fun _ _ _ _ _ _ us hl => match us, hl with | [_, _], _ => rfl
  have F_L_word := fun_mk (st := s_L_word) l2 c2 k2
  have b_L_word := F_L_word.binds (ps := p_L_word) fun _ _ _ _ _ _ us hl => match us, hl with | [_], _ => rfl
  have F_L_text := fun_mk (st := s_L_text) l3 c3 k3
  have b_L_text := F_L_text.binds (ps := p_L_text) fun _ _ _ _ _ _ us hl => match us, hl with | [_], _ => rfl
  have F_is_word := fun_mk (st := s_is_word) l4 c4 k4
  have b_is_word := F_is_word.binds (ps := p_is_word) fun _ _ _ _ _ _ us hl => match us, hl with | [_], _ => rfl
  have F_L_is_word := fun_mk (st := s_L_is_word) l5 c5 k5
  have b_L_is_word := F_L_is_word.binds (ps := p_L_is_word) fun _ _ _ _ _ _ us hl => match us, hl with | [_], _ => rfl
  have F_is_value := fun_mk (st := s_is_value) l6 c6 k6
  have b_is_value := F_is_value.binds (ps := p_is_value) fun _ _ _ _ _ _ us hl => match us, hl with | [_], _ => rfl
  have F_L_is_value := fun_mk (st := s_L_is_value) l7 c7 k7
  have b_L_is_value := F_L_is_value.binds (ps := p_L_is_value) fun _ _ _ _ _ _ us hl => match us, hl with | [_], _ => rfl
  have F_is_number := fun_mk (st := s_is_number) l8 c8 k8
  have b_is_number := F_is_number.binds (ps := p_is_number) fun _ _ _ _ _ _ us hl => match us, hl with | [_], _ => rfl
  have F_is_stamp := fun_mk (st := s_is_stamp) l9 c9 k9
  have b_is_stamp := F_is_stamp.binds (ps := p_is_stamp) fun _ _ _ _ _ _ us hl => match us, hl with | [_], _ => rfl
  have F_L_is_stamp := fun_mk (st := s_L_is_stamp) l10 c10 k10
  have b_L_is_stamp := F_L_is_stamp.binds (ps := p_L_is_stamp) fun _ _ _ _ _ _ us hl => match us, hl with | [_], _ => rfl
  have F_is_entry := fun_mk (st := s_is_entry) l11 c11 k11
  have b_is_entry := F_is_entry.binds (ps := p_is_entry) fun _ _ _ _ _ _ us hl => match us, hl with | [_], _ => rfl
  have F_L_is_entry := fun_mk (st := s_L_is_entry) l12 c12 k12
  have b_L_is_entry := F_L_is_entry.binds (ps := p_L_is_entry) fun _ _ _ _ _ _ us hl => match us, hl with | [_], _ => rfl
  have F_L_right := fun_mk (st := s_L_right) l13 c13 k13
  have b_L_right := F_L_right.binds (ps := p_L_right) fun _ _ _ _ _ _ us hl => match us, hl with | [_], _ => rfl
  have F_law := fun_mk (st := s_law) l14 c14 k14
  have b_law := F_law.binds (ps := p_law) fun _ _ _ _ _ _ us hl => match us, hl with | [_], _ => rfl
  refine ⟨PySem.W.fnOf "law" "law" (defArgs s_law) (defBody s_law) (defScope s_law) .none kV14 dc14 pm14 an14 cd14 ct14, fun s v => .of_eq rfl, fun base _ _ => ?_⟩
  have K_L_pool := Cal.of (PySem.W.mg_of X G a0) k0 b_L_pool (ok_L_pool (P := l.prog) (w := w) (base := base) T F_L_pool )
  have K_L_take := Cal.of (PySem.W.mg_of X G a1) k1 b_L_take (ok_L_take (P := l.prog) (w := w) (base := base) T F_L_take )
  have K_L_word := Cal.of (PySem.W.mg_of X G a2) k2 b_L_word (ok_L_word (P := l.prog) (w := w) (base := base) T F_L_word (K_L_take := K_L_take.mono (by decide)))
  have K_L_text := Cal.of (PySem.W.mg_of X G a3) k3 b_L_text (ok_L_text (P := l.prog) (w := w) (base := base) T F_L_text (K_L_take := K_L_take.mono (by decide)))
  have K_is_word := Cal.of (PySem.W.mg_of X G a4) k4 b_is_word (ok_is_word (P := l.prog) (w := w) (base := base) T F_is_word )
  have K_L_is_word := Cal.of (PySem.W.mg_of X G a5) k5 b_L_is_word (ok_L_is_word (P := l.prog) (w := w) (base := base) T F_L_is_word )
  have K_is_value := Cal.of (PySem.W.mg_of X G a6) k6 b_is_value (ok_is_value (P := l.prog) (w := w) (base := base) T F_is_value )
  have K_L_is_value := Cal.of (PySem.W.mg_of X G a7) k7 b_L_is_value (ok_L_is_value (P := l.prog) (w := w) (base := base) T F_L_is_value )
  have K_is_number := Cal.of (PySem.W.mg_of X G a8) k8 b_is_number (ok_is_number (P := l.prog) (w := w) (base := base) T F_is_number )
  have K_is_stamp := Cal.of (PySem.W.mg_of X G a9) k9 b_is_stamp (ok_is_stamp (P := l.prog) (w := w) (base := base) T F_is_stamp (K_is_number := K_is_number.mono (by decide)) (K_is_word := K_is_word.mono (by decide)))
  have K_L_is_stamp := Cal.of (PySem.W.mg_of X G a10) k10 b_L_is_stamp (ok_L_is_stamp (P := l.prog) (w := w) (base := base) T F_L_is_stamp (K_L_is_word := K_L_is_word.mono (by decide)))
  have K_is_entry := Cal.of (PySem.W.mg_of X G a11) k11 b_is_entry (ok_is_entry (P := l.prog) (w := w) (base := base) T F_is_entry (K_is_word := K_is_word.mono (by decide)) (K_is_stamp := K_is_stamp.mono (by decide)) (K_is_value := K_is_value.mono (by decide)))
  have K_L_is_entry := Cal.of (PySem.W.mg_of X G a12) k12 b_L_is_entry (ok_L_is_entry (P := l.prog) (w := w) (base := base) T F_L_is_entry (K_L_is_value := K_L_is_value.mono (by decide)) (K_L_is_word := K_L_is_word.mono (by decide)) (K_L_is_stamp := K_L_is_stamp.mono (by decide)))
  have K_L_right := Cal.of (PySem.W.mg_of X G a13) k13 b_L_right (ok_L_right (P := l.prog) (w := w) (base := base) T F_L_right (K_is_word := K_is_word.mono (by decide)) (K_L_is_word := K_L_is_word.mono (by decide)) (K_is_value := K_is_value.mono (by decide)) (K_L_is_value := K_L_is_value.mono (by decide)) (K_is_stamp := K_is_stamp.mono (by decide)) (K_L_is_stamp := K_L_is_stamp.mono (by decide)) (K_is_entry := K_is_entry.mono (by decide)) (K_L_is_entry := K_L_is_entry.mono (by decide)))
  exact ok_law T F_law (K_L_pool := K_L_pool.mono (by decide)) (K_L_take := K_L_take.mono (by decide)) (K_L_word := K_L_word.mono (by decide)) (K_L_text := K_L_text.mono (by decide)) (K_L_right := K_L_right.mono (by decide))
theorem walk {l : PySem.W.OpenLaw} {q : Program} {loose : List Str} {XP : (Str → Option Value) → Heap → Prop} {YP : World → Heap → Prop} {d : DefRec} {K : Params → PySem.W.Frag} (hn : l.most = some 63) (hdf : d.params.defaults = [])
    (hY : ∀ (w : World) (h : Heap), YP w h → (K w.params).In h)
    (F : ∀ (w : World) (mg : Str → Option Value) (fa : Addr) (h : Heap), (K w.params).In h → h.Ns mainGlobals mg → mg d.name = some (.ref fa) →
      ∃ fd : FuncData, (∀ (s : Shared) (u : Value), BindsTo s fd ⟨[u], []⟩ [("_law_script", u)]) ∧ ∀ base : Heap, (K w.params).In base → base.Ns mainGlobals mg → FnOk l.prog w (K w.params) mg base CX0 5 fa fd ["_law_script"] (spLaw (K w.params))) :
    PySem.W.WalkO q loose XP YP l.row.toRowW d [] (fun f vs => PySem.call f vs) :=
  L2.walk_of (n := 63) (k := 5) (x := "_law_script") (CX := fun _ => CX0) (sp := fun w => spLaw (K w.params)) hn (by decide) hdf ⟨rfl, by decide, by decide⟩ hY F (fun _ _ a ns hl _ hS => ⟨a, ns, rfl, hS, hl, fun _ => rfl⟩) fun _ _ _ _ _ z => z
end K01
open PySem PySem.W PyProof.Rows
set_option maxRecDepth 100000 in
set_option maxHeartbeats 0 in
theorem PySem.Challenge.cw_tombkeeper_k01_words_values_entries_holds : PySem.Challenge.rw_tombkeeper_k01_words_values_entries.Holds := by
  w_on; o_law; k_head; (case hw => w_witness2)
  k_fill
  refine K01.walk (l := PySem.Challenge.rw_tombkeeper_k01_words_values_entries) rfl rfl (fun w h Y => PySem.W.kIn_of Y) ?F
  case F =>
    intro w mg fa h KX G hmg
    refine' K01.all_mk KX G hmg ?a0 ?l0 ?c0 ?k0 ?a1 ?l1 ?c1 ?k1 ?a2 ?l2 ?c2 ?k2 ?a3 ?l3 ?c3 ?k3 ?a4 ?l4 ?c4 ?k4 ?a5 ?l5 ?c5 ?k5 ?a6 ?l6 ?c6 ?k6 ?a7 ?l7 ?c7 ?k7 ?a8 ?l8 ?c8 ?k8 ?a9 ?l9 ?c9 ?k9 ?a10 ?l10 ?c10 ?k10 ?a11 ?l11 ?c11 ?k11 ?a12 ?l12 ?c12 ?k12 ?a13 ?l13 ?c13 ?k13 ?a14 ?l14 ?c14 ?k14 ?z_len ?z_all ?z_isinstance ?z_str ?z_tuple ?z_int ?z_bool ?z_repr ?z_list ?z_range ?z_max ?z_min ?g_LONGEST_WORD ?g_LONGEST_VALUE ?g_GREATEST_NUMBER
    (case a0 => k_is)
    (case l0 => k_is)
    (case c0 => k_is)
    (case k0 => k_is)
    (case a1 => k_is)
    (case l1 => k_is)
    (case c1 => k_is)
    (case k1 => k_is)
    (case a2 => k_is)
    (case l2 => k_is)
    (case c2 => k_is)
    (case k2 => k_is)
    (case a3 => k_is)
    (case l3 => k_is)
    (case c3 => k_is)
    (case k3 => k_is)
    (case a4 => k_is)
    (case l4 => k_is)
    (case c4 => k_is)
    (case k4 => k_is)
    (case a5 => k_is)
    (case l5 => k_is)
    (case c5 => k_is)
    (case k5 => k_is)
    (case a6 => k_is)
    (case l6 => k_is)
    (case c6 => k_is)
    (case k6 => k_is)
    (case a7 => k_is)
    (case l7 => k_is)
    (case c7 => k_is)
    (case k7 => k_is)
    (case a8 => k_is)
    (case l8 => k_is)
    (case c8 => k_is)
    (case k8 => k_is)
    (case a9 => k_is)
    (case l9 => k_is)
    (case c9 => k_is)
    (case k9 => k_is)
    (case a10 => k_is)
    (case l10 => k_is)
    (case c10 => k_is)
    (case k10 => k_is)
    (case a11 => k_is)
    (case l11 => k_is)
    (case c11 => k_is)
    (case k11 => k_is)
    (case a12 => k_is)
    (case l12 => k_is)
    (case c12 => k_is)
    (case k12 => k_is)
    (case a13 => k_is)
    (case l13 => k_is)
    (case c13 => k_is)
    (case k13 => k_is)
    (case a14 => k_is)
    (case l14 => k_is)
    (case c14 => k_is)
    (case k14 => k_is)
    (case z_len => k_is)
    (case z_all => k_is)
    (case z_isinstance => k_is)
    (case z_str => k_is)
    (case z_tuple => k_is)
    (case z_int => k_is)
    (case z_bool => k_is)
    (case z_repr => k_is)
    (case z_list => k_is)
    (case z_range => k_is)
    (case z_max => k_is)
    (case z_min => k_is)
    (case g_LONGEST_WORD => k_is)
    (case g_LONGEST_VALUE => k_is)
    (case g_GREATEST_NUMBER => k_is)
